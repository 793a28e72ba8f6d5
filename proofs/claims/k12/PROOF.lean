import PyProof.Rows.All
import OpenK.AllK
import Wide.All
import Wide.FinOn
import Lean
import PyProof.EqAt
import PyProof.EqKinds
import PyProof.TupleCall
import PyProof.CompFree
import PyProof.StrWalks
import PyProof.ReprRoads
import PyProof.ReprLen
import PyProof.ToksMono
import KE.IntTextLaws
import PyProof.NeKinds
import PyProof.CallFns
import PyProof.CompUse
import KE.KDictOf
import PyProof.AttrMissHeap
import PyProof.Walks
import PySem.Challenge.RW_grassnake_k12_calls
set_option Elab.async false
set_option linter.all false
set_option maxRecDepth 100000
set_option maxHeartbeats 4000000
namespace GS
open PySem
noncomputable section
abbrev p9 := PySem.Challenge.pw_grassnake_k12_calls
abbrev r9 := PySem.Challenge.rw_grassnake_k12_calls
noncomputable def tp9 (i : Nat) : Stmt := p9.main.body.getD i (.Pass ⟨0,0,0,0⟩)
def iC (i : Nat) : Stmt → Stmt
  | .ClassDef _ _ _ body _ _ _ _ _ _ _ => body.getD i (.Pass ⟨0,0,0,0⟩)
  | _ => .Pass ⟨0,0,0,0⟩
def fA (s : Stmt) : Arguments := match s with
  | .FunctionDef _ a _ _ _ _ _ _ _ _ => a
  | _ => { posonlyargs := [],args := [],vararg := none,kwonlyargs := [],kw_defaults := [],kwarg := none,defaults := [] }
def fB (s : Stmt) : List Stmt := match s with
  | .FunctionDef _ _ b _ _ _ _ _ _ _ => b
  | _ => []
def fS (s : Stmt) : Scope := match s with
  | .FunctionDef _ _ _ _ _ _ c _ _ _ => c
  | _ => { kind := .function,names := [],isGenerator := false,isCoroutine := false }
def eO (P : Params) (k : Str) (t : Nat) (v : Value) : DictEntry := ⟨PyData.keyHash P k,.str k t,v⟩
def eR (P : Params) (k : Str) (t a : Nat) : DictEntry := eO P k t (.ref a)
def dO (es : List DictEntry) (n : Nat) : Obj := ⟨.type "dict",none,.dict es.toArray n,#[]⟩
def tO (vs : List Value) : Obj := ⟨.type "tuple",none,.seq vs.toArray 0,#[]⟩
def fO (m : Str) (t : Nat) (st : Stmt) (n q : Str) (c : Nat) : Obj := ⟨.type "function",none,.func (PySem.W.fnOf n q (fA st) (fB st) (fS st) .none .none .none (.str m t) none (.ref c) .none),#[]⟩
def fD (m : Str) (t : Nat) (st : Stmt) (n q : Str) (c d : Nat) : Obj := ⟨.type "function",none,.func (PySem.W.fnOf n q (fA st) (fB st) (fS st) (.ref d) .none .none (.str m t) none (.ref c) .none),#[]⟩
noncomputable def cO (a : Nat) (v : Bool) (n q : Str) (t l k u : Nat) : Obj := ⟨.type "code",none,.fields #[.str n t,.str q (t + 1),.str "/claim/cut.py" (t + 2),.int l 0,.int k 0,.int 0 0,.int 0 0,.int 3 0,.ref (if v then a - 5 else a - 3),.bool true,.int 181 0,.ref (if v then a - 4 else a - 2),.none,if v then .ref (a - 3) else .none,if v then .ref (a - 2) else .none,.ref (a - 1),.int u 0,.int l 0,.str "/claim/cut.py" (u + 1)],#[]⟩
noncomputable def kO (n : Str) (bs mro : List Value) (ns : Nat) (sub : List Value) (sl : Array (Option Value)) : Obj := ⟨.type "type",none,.cls { name := n,bases := bs,mro := mro,ns := ns,qualname := n,subclasses := sub },sl⟩
abbrev oT (a : Nat) (n : Str) := cO a true n n
abbrev oF (a : Nat) (n : Str) := cO a false n n
abbrev fm1 := fO "grassnake.store" 187
abbrev fn1 (i : Nat) (n : Str) := fm1 (tp9 i) n n
abbrev fm2 := fO "grassnake.fields" 651
abbrev fn2 (i : Nat) (n : Str) := fm2 (tp9 i) n n
abbrev fm3 := fO "grassnake.calls" 746
abbrev fn3 (i : Nat) (n : Str) := fm3 (tp9 i) n n
abbrev fm4 := fO "grassnake.orders" 937
abbrev fn4 (i : Nat) (n : Str) := fm4 (tp9 i) n n
abbrev fm5 := fO "law_grassnake_k12_calls" 989
abbrev fn5 (i : Nat) (n : Str) := fm5 (tp9 i) n n
abbrev fm6 := fO "grassnake.faults" 640
abbrev fn6 (i : Nat) (n : Str) := fm6 (tp9 i) n n
noncomputable def rO (n q : Str) (st : Stmt) : Obj := ⟨.none,none,.func { PySem.W.fnOf n q (fA st) (fB st) (fS st) .none .none .none .none none .none .none with globals := 0 },#[]⟩
noncomputable abbrev rN (i : Nat) (n : Str) := rO n n (tp9 i)
def nO (vs : List Value) : Obj := ⟨.none,none,.fields vs.toArray,#[]⟩
def gO (c : String) (vs : List Value) : Obj := ⟨.type c,none,.fields vs.toArray,#[]⟩
def qO (sl : List (Option Value)) : Obj := { cls := .type "frame",slots := sl.toArray }
def nT (xs : List (Nat × Nat × Nat)) : Obj := nO (xs.flatMap fun t => [.int t.1 0,.int t.2.1 0,.ref t.2.2])
def t12 : List (Nat × Nat × Nat) := [(6,0,48),(15,0,69),(19,0,90),(24,0,111),(31,0,132),(36,0,153),(44,0,174),(49,0,195),(60,0,214),(63,0,221),(65,0,228),(67,0,235),(69,0,242),(72,0,249),(74,0,256),(77,0,263),(79,0,270),(81,0,275),(84,0,282),(86,0,289),(88,0,296),(90,0,303),(92,0,310),(94,0,317),(98,0,324),(102,0,331),(108,0,338),(113,0,345),(115,0,352),(118,0,359),(130,0,366),(132,0,373),(138,0,380),(140,0,387),(150,0,394),(158,0,411),(164,0,418),(175,0,425),(178,0,432),(181,0,439),(183,0,446),(185,0,453),(187,0,460),(191,0,467),(194,0,474),(203,0,481),(208,0,488),(216,0,495),(235,0,502),(244,0,509),(249,0,516),(260,0,523),(262,0,528),(264,0,533),(270,0,538),(273,0,543),(284,0,548),(294,0,555),(297,0,562),(301,0,569),(308,0,574),(317,0,581),(320,0,586),(326,0,591),(343,0,596),(355,0,603),(360,0,610),(363,0,615),(384,0,622),(386,0,627),(411,0,634),(420,0,639),(449,0,644),(460,0,649)]
def o11 (P : Params) : Obj := tO []
def oR (P : Params) : List Obj := gO "code" [(.str "<module>" 182),(.str "<module>" 183),(.str "/claim/cut.py" 184),(.int 1 0),(.int 0 0),(.int 0 0),(.int 0 0),(.int 0 0),(.ref 11),(.bool false),(.int 181 0),(.ref 12),.none,.none,.none,.none,(.int 185 0),(.int 1 0),(.str "/claim/cut.py" 186)]::qO [some (.ref 13),some (.ref 3),some (.ref 3),none,some (.str "__main__" 164),none,some (.ref 0)]::tO [(.str "none" 189)]::tO [(.str "say" 191),(.str "take" 192),(.str "isa" 193),(.str "elder" 194),(.str "count" 195),(.str "go" 196),(.str "throw" 197),(.str "shut" 198)]::tO []::tO [(.str "Thing" 200),(.ref 17)]::tO [(.str "Thing" 202)]::tO [(.str "Fault" 201),(.ref 19)]::tO [(.str "Fault" 204),(.str "Thing" 205)]::tO [(.str "NameFault" 203),(.ref 21)]::tO [(.str "Fault" 207),(.str "Thing" 208)]::tO [(.str "KindFault" 206),(.ref 23)]::tO [(.str "Fault" 210),(.str "Thing" 211)]::tO [(.str "NoughtFault" 209),(.ref 25)]::tO [(.str "Fault" 213),(.str "Thing" 214)]::tO [(.str "GreatFault" 212),(.ref 27)]::tO [(.str "Fault" 216),(.str "Thing" 217)]::tO [(.str "FieldFault" 215),(.ref 29)]::tO [(.str "Fault" 219),(.str "Thing" 220)]::tO [(.str "OrderFault" 218),(.ref 31)]::tO [(.str "Fault" 222),(.str "Thing" 223)]::tO [(.str "EndFault" 221),(.ref 33)]::tO [(.str "Fault" 225),(.str "Thing" 226)]::tO [(.str "ShutFault" 224),(.ref 35)]::tO [(.str "Fault" 228),(.str "Thing" 229)]::tO [(.str "DeepFault" 227),(.ref 37)]::tO [(.str "NameFault" 231),(.str "Fault" 232),(.str "Thing" 233)]::tO [(.str "UnboundFault" 230),(.ref 39)]::tO [(.ref 18),(.ref 20),(.ref 22),(.ref 24),(.ref 26),(.ref 28),(.ref 30),(.ref 32),(.ref 34),(.ref 36),(.ref 38),(.ref 40)]::tO [(.str "word" 235),(.str "cause" 236),(.str "context" 237)]::tO []::gO "builtin_function_or_method" [(.builtin "type.__prepare__"),(.type "type")]::dO [eO P "__module__" 246 (.str "grassnake.store" 187),eO P "__qualname__" 248 (.str "Function" 247),eO P "__firstlineno__" 250 (.int 6 249),eR P "__init__" 263 56,eR P "__static_attributes__" 270 57] 5::tO []::nO [(.int 8 0),(.int 4 0),(.ref 55)]::gO "code" [(.str "Function" 241),(.str "Function" 242),(.str "/claim/cut.py" 243),(.int 6 0),(.int 0 0),(.int 0 0),(.int 0 0),(.int 0 0),(.ref 46),(.bool false),(.int 181 0),(.ref 47),.none,.none,.none,.none,(.int 244 0),(.int 6 0),(.str "/claim/cut.py" 245)]::qO [some (.ref 48),some (.ref 3),some (.ref 45),none,some (.str "grassnake.store" 187),none,some (.ref 0)]::tO []::nO []::tO [(.str "self" 254),(.str "name" 255),(.str "params" 256),(.str "defaults" 257),(.str "code" 258),(.str "around" 259),(.str "gives" 260)]::tO []::rO "__init__" "Function.__init__" (iC 0 (tp9 5))::cO 55 true "__init__" "Function.__init__" 251 8 7 261::fm1 (iC 0 (tp9 5)) "__init__" "Function.__init__" 55::tO [(.str "around" 264),(.str "code" 265),(.str "defaults" 266),(.str "gives" 267),(.str "name" 268),(.str "params" 269)]::dO [eO P "__module__" 246 (.str "grassnake.store" 187),eO P "__firstlineno__" 250 (.int 6 249),eR P "__init__" 263 56,eR P "__static_attributes__" 270 57,eR P "__dict__" 272 60,eR P "__weakref__" 274 61,eO P "__doc__" 275 .none] 4::kO "Function" [(.type "object")] [(.ref 59),(.type "object")] 58 [] #[none,none,some (.str "Function" 239),some (.str "Function" 247),some (.builtin "object.__new__"),some (.bool true)]::gO "getset_descriptor" [(.str "__dict__" 271),(.ref 59),(.builtin "function.__dict__"),(.builtin "function.__dict__#set")]::gO "getset_descriptor" [(.str "__weakref__" 273),(.ref 59),(.builtin "ExceptionGroup.__weakref__"),.none]::gO "super" [(.ref 59),(.ref 59),(.ref 59)]::gO "builtin_function_or_method" [(.builtin "object.__init_subclass__"),(.ref 59)]::tO []::gO "builtin_function_or_method" [(.builtin "type.__prepare__"),(.type "type")]::dO [eO P "__module__" 285 (.str "grassnake.store" 187),eO P "__qualname__" 287 (.str "Given" 286),eO P "__firstlineno__" 289 (.int 15 288),eR P "__init__" 297 77,eR P "__static_attributes__" 299 78] 5::tO []::nO [(.int 17 0),(.int 4 0),(.ref 76)]::gO "code" [(.str "Given" 280),(.str "Given" 281),(.str "/claim/cut.py" 282),(.int 15 0),(.int 0 0),(.int 0 0),(.int 0 0),(.int 0 0),(.ref 67),(.bool false),(.int 181 0),(.ref 68),.none,.none,.none,.none,(.int 283 0),(.int 15 0),(.str "/claim/cut.py" 284)]::qO [some (.ref 69),some (.ref 3),some (.ref 66),none,some (.str "grassnake.store" 187),none,some (.ref 0)]::tO []::nO []::tO [(.str "self" 293),(.str "name" 294)]::tO []::rO "__init__" "Given.__init__" (iC 0 (tp9 6))::cO 76 true "__init__" "Given.__init__" 290 17 2 295::fm1 (iC 0 (tp9 6)) "__init__" "Given.__init__" 76::tO [(.str "name" 298)]::dO [eO P "__module__" 285 (.str "grassnake.store" 187),eO P "__firstlineno__" 289 (.int 15 288),eR P "__init__" 297 77,eR P "__static_attributes__" 299 78,eR P "__dict__" 301 81,eR P "__weakref__" 303 82,eO P "__doc__" 304 .none] 4::kO "Given" [(.type "object")] [(.ref 80),(.type "object")] 79 [] #[none,none,some (.str "Given" 278),some (.str "Given" 286),some (.builtin "object.__new__"),some (.bool true)]::gO "getset_descriptor" [(.str "__dict__" 300),(.ref 80),(.builtin "function.__dict__"),(.builtin "function.__dict__#set")]::gO "getset_descriptor" [(.str "__weakref__" 302),(.ref 80),(.builtin "ExceptionGroup.__weakref__"),.none]::gO "super" [(.ref 80),(.ref 80),(.ref 80)]::gO "builtin_function_or_method" [(.builtin "object.__init_subclass__"),(.ref 80)]::tO []::gO "builtin_function_or_method" [(.builtin "type.__prepare__"),(.type "type")]::dO [eO P "__module__" 314 (.str "grassnake.store" 187),eO P "__qualname__" 316 (.str "Method" 315),eO P "__firstlineno__" 318 (.int 19 317),eR P "__init__" 327 98,eR P "__static_attributes__" 330 99] 5::tO []::nO [(.int 21 0),(.int 4 0),(.ref 97)]::gO "code" [(.str "Method" 309),(.str "Method" 310),(.str "/claim/cut.py" 311),(.int 19 0),(.int 0 0),(.int 0 0),(.int 0 0),(.int 0 0),(.ref 88),(.bool false),(.int 181 0),(.ref 89),.none,.none,.none,.none,(.int 312 0),(.int 19 0),(.str "/claim/cut.py" 313)]::qO [some (.ref 90),some (.ref 3),some (.ref 87),none,some (.str "grassnake.store" 187),none,some (.ref 0)]::tO []::nO []::tO [(.str "self" 322),(.str "target" 323),(.str "owner" 324)]::tO []::rO "__init__" "Method.__init__" (iC 0 (tp9 7))::cO 97 true "__init__" "Method.__init__" 319 21 3 325::fm1 (iC 0 (tp9 7)) "__init__" "Method.__init__" 97::tO [(.str "owner" 328),(.str "target" 329)]::dO [eO P "__module__" 314 (.str "grassnake.store" 187),eO P "__firstlineno__" 318 (.int 19 317),eR P "__init__" 327 98,eR P "__static_attributes__" 330 99,eR P "__dict__" 332 102,eR P "__weakref__" 334 103,eO P "__doc__" 335 .none] 4::kO "Method" [(.type "object")] [(.ref 101),(.type "object")] 100 [] #[none,none,some (.str "Method" 307),some (.str "Method" 315),some (.builtin "object.__new__"),some (.bool true)]::gO "getset_descriptor" [(.str "__dict__" 331),(.ref 101),(.builtin "function.__dict__"),(.builtin "function.__dict__#set")]::gO "getset_descriptor" [(.str "__weakref__" 333),(.ref 101),(.builtin "ExceptionGroup.__weakref__"),.none]::gO "super" [(.ref 101),(.ref 101),(.ref 101)]::gO "builtin_function_or_method" [(.builtin "object.__init_subclass__"),(.ref 101)]::tO []::gO "builtin_function_or_method" [(.builtin "type.__prepare__"),(.type "type")]::dO [eO P "__module__" 345 (.str "grassnake.store" 187),eO P "__qualname__" 347 (.str "Kind" 346),eO P "__firstlineno__" 349 (.int 24 348),eR P "__init__" 360 119,eR P "__static_attributes__" 365 120] 5::tO []::nO [(.int 26 0),(.int 4 0),(.ref 118)]::gO "code" [(.str "Kind" 340),(.str "Kind" 341),(.str "/claim/cut.py" 342),(.int 24 0),(.int 0 0),(.int 0 0),(.int 0 0),(.int 0 0),(.ref 109),(.bool false),(.int 181 0),(.ref 110),.none,.none,.none,.none,(.int 343 0),(.int 24 0),(.str "/claim/cut.py" 344)]::qO [some (.ref 111),some (.ref 3),some (.ref 108),none,some (.str "grassnake.store" 187),none,some (.ref 0)]::tO []::nO []::tO [(.str "self" 353),(.str "name" 354),(.str "order" 355),(.str "fields" 356),(.str "is_given" 357)]::tO []::rO "__init__" "Kind.__init__" (iC 0 (tp9 8))::cO 118 true "__init__" "Kind.__init__" 350 26 5 358::fm1 (iC 0 (tp9 8)) "__init__" "Kind.__init__" 118::tO [(.str "fields" 361),(.str "is_given" 362),(.str "name" 363),(.str "order" 364)]::dO [eO P "__module__" 345 (.str "grassnake.store" 187),eO P "__firstlineno__" 349 (.int 24 348),eR P "__init__" 360 119,eR P "__static_attributes__" 365 120,eR P "__dict__" 367 123,eR P "__weakref__" 369 124,eO P "__doc__" 370 .none] 4::kO "Kind" [(.type "object")] [(.ref 122),(.type "object")] 121 [] #[none,none,some (.str "Kind" 338),some (.str "Kind" 346),some (.builtin "object.__new__"),some (.bool true)]::gO "getset_descriptor" [(.str "__dict__" 366),(.ref 122),(.builtin "function.__dict__"),(.builtin "function.__dict__#set")]::gO "getset_descriptor" [(.str "__weakref__" 368),(.ref 122),(.builtin "ExceptionGroup.__weakref__"),.none]::gO "super" [(.ref 122),(.ref 122),(.ref 122)]::gO "builtin_function_or_method" [(.builtin "object.__init_subclass__"),(.ref 122)]::tO []::gO "builtin_function_or_method" [(.builtin "type.__prepare__"),(.type "type")]::dO [eO P "__module__" 380 (.str "grassnake.store" 187),eO P "__qualname__" 382 (.str "Object" 381),eO P "__firstlineno__" 384 (.int 31 383),eR P "__init__" 393 140,eR P "__static_attributes__" 396 141] 5::tO []::nO [(.int 33 0),(.int 4 0),(.ref 139)]::gO "code" [(.str "Object" 375),(.str "Object" 376),(.str "/claim/cut.py" 377),(.int 31 0),(.int 0 0),(.int 0 0),(.int 0 0),(.int 0 0),(.ref 130),(.bool false),(.int 181 0),(.ref 131),.none,.none,.none,.none,(.int 378 0),(.int 31 0),(.str "/claim/cut.py" 379)]::qO [some (.ref 132),some (.ref 3),some (.ref 129),none,some (.str "grassnake.store" 187),none,some (.ref 0)]::tO []::nO []::tO [(.str "self" 388),(.str "kind" 389),(.str "fields" 390)]::tO []::rO "__init__" "Object.__init__" (iC 0 (tp9 9))::cO 139 true "__init__" "Object.__init__" 385 33 3 391::fm1 (iC 0 (tp9 9)) "__init__" "Object.__init__" 139::tO [(.str "fields" 394),(.str "kind" 395)]::dO [eO P "__module__" 380 (.str "grassnake.store" 187),eO P "__firstlineno__" 384 (.int 31 383),eR P "__init__" 393 140,eR P "__static_attributes__" 396 141,eR P "__dict__" 398 144,eR P "__weakref__" 400 145,eO P "__doc__" 401 .none] 4::kO "Object" [(.type "object")] [(.ref 143),(.type "object")] 142 [] #[none,none,some (.str "Object" 373),some (.str "Object" 381),some (.builtin "object.__new__"),some (.bool true)]::gO "getset_descriptor" [(.str "__dict__" 397),(.ref 143),(.builtin "function.__dict__"),(.builtin "function.__dict__#set")]::gO "getset_descriptor" [(.str "__weakref__" 399),(.ref 143),(.builtin "ExceptionGroup.__weakref__"),.none]::gO "super" [(.ref 143),(.ref 143),(.ref 143)]::gO "builtin_function_or_method" [(.builtin "object.__init_subclass__"),(.ref 143)]::tO []::gO "builtin_function_or_method" [(.builtin "type.__prepare__"),(.type "type")]::dO [eO P "__module__" 411 (.str "grassnake.store" 187),eO P "__qualname__" 413 (.str "Giver" 412),eO P "__firstlineno__" 415 (.int 36 414),eR P "__init__" 425 161,eR P "__static_attributes__" 431 162] 5::tO []::nO [(.int 38 0),(.int 4 0),(.ref 160)]::gO "code" [(.str "Giver" 406),(.str "Giver" 407),(.str "/claim/cut.py" 408),(.int 36 0),(.int 0 0),(.int 0 0),(.int 0 0),(.int 0 0),(.ref 151),(.bool false),(.int 181 0),(.ref 152),.none,.none,.none,.none,(.int 409 0),(.int 36 0),(.str "/claim/cut.py" 410)]::qO [some (.ref 153),some (.ref 3),some (.ref 150),none,some (.str "grassnake.store" 187),none,some (.ref 0)]::tO []::nO []::tO [(.str "self" 419),(.str "name" 420),(.str "frame" 421),(.str "many" 422)]::tO []::rO "__init__" "Giver.__init__" (iC 0 (tp9 10))::cO 160 true "__init__" "Giver.__init__" 416 38 4 423::fm1 (iC 0 (tp9 10)) "__init__" "Giver.__init__" 160::tO [(.str "frame" 426),(.str "handed" 427),(.str "many" 428),(.str "name" 429),(.str "state" 430)]::dO [eO P "__module__" 411 (.str "grassnake.store" 187),eO P "__firstlineno__" 415 (.int 36 414),eR P "__init__" 425 161,eR P "__static_attributes__" 431 162,eR P "__dict__" 433 165,eR P "__weakref__" 435 166,eO P "__doc__" 436 .none] 4::kO "Giver" [(.type "object")] [(.ref 164),(.type "object")] 163 [] #[none,none,some (.str "Giver" 404),some (.str "Giver" 412),some (.builtin "object.__new__"),some (.bool true)]::gO "getset_descriptor" [(.str "__dict__" 432),(.ref 164),(.builtin "function.__dict__"),(.builtin "function.__dict__#set")]::gO "getset_descriptor" [(.str "__weakref__" 434),(.ref 164),(.builtin "ExceptionGroup.__weakref__"),.none]::gO "super" [(.ref 164),(.ref 164),(.ref 164)]::gO "builtin_function_or_method" [(.builtin "object.__init_subclass__"),(.ref 164)]::tO []::gO "builtin_function_or_method" [(.builtin "type.__prepare__"),(.type "type")]::dO [eO P "__module__" 446 (.str "grassnake.store" 187),eO P "__qualname__" 448 (.str "View" 447),eO P "__firstlineno__" 450 (.int 44 449),eR P "__init__" 459 182,eR P "__static_attributes__" 462 183] 5::tO []::nO [(.int 46 0),(.int 4 0),(.ref 181)]::gO "code" [(.str "View" 441),(.str "View" 442),(.str "/claim/cut.py" 443),(.int 44 0),(.int 0 0),(.int 0 0),(.int 0 0),(.int 0 0),(.ref 172),(.bool false),(.int 181 0),(.ref 173),.none,.none,.none,.none,(.int 444 0),(.int 44 0),(.str "/claim/cut.py" 445)]::qO [some (.ref 174),some (.ref 3),some (.ref 171),none,some (.str "grassnake.store" 187),none,some (.ref 0)]::tO []::nO []::tO [(.str "self" 454),(.str "kind" 455),(.str "owner" 456)]::tO []::rO "__init__" "View.__init__" (iC 0 (tp9 11))::cO 181 true "__init__" "View.__init__" 451 46 3 457::fm1 (iC 0 (tp9 11)) "__init__" "View.__init__" 181::tO [(.str "kind" 460),(.str "owner" 461)]::dO [eO P "__module__" 446 (.str "grassnake.store" 187),eO P "__firstlineno__" 450 (.int 44 449),eR P "__init__" 459 182,eR P "__static_attributes__" 462 183,eR P "__dict__" 464 186,eR P "__weakref__" 466 187,eO P "__doc__" 467 .none] 4::kO "View" [(.type "object")] [(.ref 185),(.type "object")] 184 [] #[none,none,some (.str "View" 439),some (.str "View" 447),some (.builtin "object.__new__"),some (.bool true)]::gO "getset_descriptor" [(.str "__dict__" 463),(.ref 185),(.builtin "function.__dict__"),(.builtin "function.__dict__#set")]::gO "getset_descriptor" [(.str "__weakref__" 465),(.ref 185),(.builtin "ExceptionGroup.__weakref__"),.none]::gO "super" [(.ref 185),(.ref 185),(.ref 185)]::gO "builtin_function_or_method" [(.builtin "object.__init_subclass__"),(.ref 185)]::tO []::gO "builtin_function_or_method" [(.builtin "type.__prepare__"),(.type "type")]::dO [eO P "__module__" 477 (.str "grassnake.store" 187),eO P "__qualname__" 479 (.str "World" 478),eO P "__firstlineno__" 481 (.int 49 480),eR P "__init__" 487 201,eR P "__static_attributes__" 492 202] 5::tO []::nO [(.int 51 0),(.int 4 0),(.ref 200)]::gO "code" [(.str "World" 472),(.str "World" 473),(.str "/claim/cut.py" 474),(.int 49 0),(.int 0 0),(.int 0 0),(.int 0 0),(.int 0 0),(.ref 193),(.bool false),(.int 181 0),(.ref 194),.none,.none,.none,.none,(.int 475 0),(.int 49 0),(.str "/claim/cut.py" 476)]::qO [some (.ref 195),some (.ref 3),some (.ref 192),none,some (.str "grassnake.store" 187),none,some (.ref 0)]::tO []::nO []::rO "__init__" "World.__init__" (iC 0 (tp9 12))::cO 200 false "__init__" "World.__init__" 482 51 2 485::fm1 (iC 0 (tp9 12)) "__init__" "World.__init__" 200::tO [(.str "given" 488),(.str "left" 489),(.str "lines" 490),(.str "things" 491)]::dO [eO P "__module__" 477 (.str "grassnake.store" 187),eO P "__firstlineno__" 481 (.int 49 480),eR P "__init__" 487 201,eR P "__static_attributes__" 492 202,eR P "__dict__" 494 205,eR P "__weakref__" 496 206,eO P "__doc__" 497 .none] 4::kO "World" [(.type "object")] [(.ref 204),(.type "object")] 203 [] #[none,none,some (.str "World" 470),some (.str "World" 478),some (.builtin "object.__new__"),some (.bool true)]::gO "getset_descriptor" [(.str "__dict__" 493),(.ref 204),(.builtin "function.__dict__"),(.builtin "function.__dict__#set")]::gO "getset_descriptor" [(.str "__weakref__" 495),(.ref 204),(.builtin "ExceptionGroup.__weakref__"),.none]::gO "super" [(.ref 204),(.ref 204),(.ref 204)]::gO "builtin_function_or_method" [(.builtin "object.__init_subclass__"),(.ref 204)]::tO []::nO []::tO [(.str "world" 503),(.str "thing" 504)]::tO []::rN 13 "added"::oT 214 "added" 500 60 2 505::fn1 13 "added" 214::tO []::nO []::tO [(.str "world" 511),(.str "a" 512)]::tO []::rN 14 "thing_of"::oT 221 "thing_of" 508 63 2 513::fn1 14 "thing_of" 221::tO []::nO []::tO [(.str "world" 519),(.str "name" 520)]::tO []::rN 15 "known"::oT 228 "known" 516 65 2 521::fn1 15 "known" 228::tO []::nO []::tO [(.str "world" 527),(.str "name" 528),(.str "params" 529),(.str "defaults" 530),(.str "code" 531),(.str "around" 532),(.str "gives" 533)]::tO []::rN 16 "function"::oT 235 "function" 524 67 7 534::fn1 16 "function" 235::tO []::nO []::tO [(.str "world" 540),(.str "a" 541),(.str "thing" 542)]::tO []::rN 17 "function_of"::oT 242 "function_of" 537 69 2 543::fn1 17 "function_of" 242::tO []::nO []::tO [(.str "world" 549),(.str "target" 550),(.str "owner" 551)]::tO []::rN 18 "new_method"::oT 249 "new_method" 546 72 3 552::fn1 18 "new_method" 249::tO []::nO []::tO [(.str "world" 558),(.str "name" 559),(.str "behind" 560),(.str "fields" 561),(.str "is_given" 562),(.str "own" 563)]::tO []::rN 19 "new_class"::oT 256 "new_class" 555 74 5 564::fn1 19 "new_class" 256::tO []::nO []::tO [(.str "world" 570),(.str "a" 571)]::tO []::rN 20 "is_class"::oT 263 "is_class" 567 77 2 572::fn1 20 "is_class" 263::tO []::nO []::tO [(.str "world" 578),(.str "a" 579)]::tO []::rN 21 "is_fault_class"::oT 270 "is_fault_class" 575 79 2 580::fn1 21 "is_fault_class" 270::tO []::nO []::rN 22 "new_object"::oF 275 "new_object" 583 81 2 586::fn1 22 "new_object" 275::tO []::nO []::tO [(.str "world" 592),(.str "kind" 593),(.str "owner" 594)]::tO []::rN 23 "new_view"::oT 282 "new_view" 589 84 3 595::fn1 23 "new_view" 282::tO []::nO []::tO [(.str "world" 601),(.str "many" 602)]::tO []::rN 24 "new_count"::oT 289 "new_count" 598 86 2 603::fn1 24 "new_count" 289::tO []::nO []::tO [(.str "world" 609),(.str "a" 610)]::tO []::rN 25 "is_giver"::oT 296 "is_giver" 606 88 2 611::fn1 25 "is_giver" 296::tO []::nO []::tO [(.str "world" 617),(.str "g" 618)]::tO []::rN 26 "frame_of"::oT 303 "frame_of" 614 90 2 619::fn1 26 "frame_of" 303::tO []::nO []::tO [(.str "world" 625),(.str "g" 626)]::tO []::rN 27 "state_of"::oT 310 "state_of" 622 92 2 627::fn1 27 "state_of" 310::tO []::nO []::tO [(.str "world" 633),(.str "g" 634),(.str "state" 635),(.str "thing" 636)]::tO []::rN 28 "set_state"::oT 317 "set_state" 630 94 3 637::fn1 28 "set_state" 317::tO []::nO []::tO [(.str "world" 645),(.str "a" 646),(.str "thing" 647)]::tO []::rN 30 "is_fault"::oT 324 "is_fault" 642 98 2 648::fn6 30 "is_fault" 324::tO []::nO []::tO [(.str "world" 656),(.str "classes" 657),(.str "name" 658),(.str "one" 659),(.str "fields" 660)]::tO []::rN 32 "found_in"::oT 331 "found_in" 653 102 3 661::fn2 32 "found_in" 331::tO []::nO []::tO [(.str "world" 667),(.str "owner" 668),(.str "classes" 669),(.str "name" 670),(.str "found" 671)]::tO []::rN 33 "found_by_way"::oT 338 "found_by_way" 664 108 4 672::fn2 33 "found_by_way" 338::tO []::nO []::tO [(.str "world" 678),(.str "owner" 679)]::tO []::rN 34 "order_of_owner"::oT 345 "order_of_owner" 675 113 2 680::fn2 34 "order_of_owner" 345::tO []::nO []::tO [(.str "world" 686),(.str "view" 687),(.str "name" 688),(.str "order" 689)]::tO []::rN 35 "found_of_view"::oT 352 "found_of_view" 683 115 3 690::fn2 35 "found_of_view" 352::tO []::nO []::tO [(.str "world" 696),(.str "a" 697),(.str "name" 698),(.str "thing" 699),(.str "found" 700)]::tO []::rN 36 "field_of"::oT 359 "field_of" 693 118 3 701::fn2 36 "field_of" 359::tO []::nO []::tO [(.str "thing" 707)]::tO []::rN 37 "can_be_put"::oT 366 "can_be_put" 704 130 1 708::fn2 37 "can_be_put" 366::tO []::nO []::tO [(.str "world" 714),(.str "a" 715),(.str "name" 716),(.str "v" 717),(.str "thing" 718)]::tO []::rN 38 "put_field"::oT 373 "put_field" 711 132 4 719::fn2 38 "put_field" 373::tO []::nO []::tO [(.str "word" 725),(.str "name" 726)]::tO []::rN 39 "named"::oT 380 "named" 722 138 2 727::fn2 39 "named" 380::tO []::nO []::tO [(.str "world" 733),(.str "thing" 734)]::tO []::rN 40 "text_of_thing"::oT 387 "text_of_thing" 730 140 2 735::fn2 40 "text_of_thing" 387::tO []::nO []::tO [(.str "world" 741),(.str "a" 742)]::tO []::rN 41 "text_of"::oT 394 "text_of" 738 150 2 743::fn2 41 "text_of" 394::tO [(.str "fault" 750),(.str "KindFault" 751)]::dO [eR P "say" 753 398,eR P "take" 756 399,eR P "isa" 759 400,eR P "elder" 762 401,eR P "count" 765 402,eR P "go" 768 403,eR P "throw" 771 404,eR P "shut" 774 405] 8::tO [(.int 1 754),(.int 1 755)]::tO [(.int 0 757),(.int 0 758)]::tO [(.int 2 760),(.int 2 761)]::tO [(.int 2 763),(.int 2 764)]::tO [(.int 1 766),(.int 1 767)]::tO [(.int 1 769),(.int 2 770)]::tO [(.int 2 772),(.int 2 773)]::tO [(.int 1 775),(.int 1 776)]::tO []::nO []::tO [(.str "world" 789),(.str "f" 790),(.str "values" 791),(.str "target" 792),(.str "lacking" 793)]::tO []::rN 46 "entered"::oT 411 "entered" 786 158 3 794::fn3 46 "entered" 411::tO []::nO []::tO [(.str "world" 800),(.str "kind" 801),(.str "values" 802),(.str "made" 803),(.str "start" 804),(.str "is_method" 805)]::tO []::rN 47 "object_of"::oT 418 "object_of" 797 164 3 806::fn3 47 "object_of" 418::tO []::nO []::tO [(.str "world" 812),(.str "x" 813)]::tO []::rN 48 "said"::oT 425 "said" 809 175 2 814::fn3 48 "said" 425::tO []::nO []::tO [(.str "world" 820),(.str "n" 821)]::tO []::rN 49 "taken_input"::oT 432 "taken_input" 817 178 1 822::fn3 49 "taken_input" 432::tO []::nO []::tO [(.str "world" 828),(.str "x" 829),(.str "kind" 830)]::tO []::rN 50 "is_under"::oT 439 "is_under" 825 181 3 831::fn3 50 "is_under" 439::tO []::nO []::tO [(.str "world" 837),(.str "x" 838),(.str "kind" 839)]::tO []::rN 51 "told_isa"::oT 446 "told_isa" 834 183 3 840::fn3 51 "told_isa" 446::tO []::nO []::tO [(.str "world" 846),(.str "kind" 847),(.str "x" 848)]::tO []::rN 52 "viewed"::oT 453 "viewed" 843 185 3 849::fn3 52 "viewed" 453::tO []::nO []::tO [(.str "world" 855),(.str "n" 856)]::tO []::rN 53 "counted"::oT 460 "counted" 852 187 2 857::fn3 53 "counted" 460::tO []::nO []::tO [(.str "world" 863),(.str "g" 864),(.str "state" 865)]::tO []::rN 54 "state_to_go"::oT 467 "state_to_go" 860 191 2 866::fn3 54 "state_to_go" 467::tO []::nO []::tO [(.str "world" 872),(.str "g" 873),(.str "v" 874),(.str "state" 875)]::tO []::rN 55 "gone_on"::oT 474 "gone_on" 869 194 3 876::fn3 55 "gone_on" 474::tO []::nO []::tO [(.str "world" 882),(.str "g" 883),(.str "fault" 884),(.str "state" 885)]::tO []::rN 56 "thrown"::oT 481 "thrown" 879 203 3 886::fn3 56 "thrown" 481::tO []::nO []::tO [(.str "world" 892),(.str "g" 893),(.str "state" 894)]::tO []::rN 57 "shut_down"::oT 488 "shut_down" 889 208 2 895::fn3 57 "shut_down" 488::tO []::nO []::tO [(.str "world" 901),(.str "name" 902),(.str "values" 903),(.str "bounds" 904)]::tO []::rN 58 "called_given"::oT 495 "called_given" 898 216 3 905::fn3 58 "called_given" 495::tO []::nO []::tO [(.str "world" 911),(.str "a" 912),(.str "values" 913),(.str "thing" 914)]::tO []::rN 59 "called"::oT 502 "called" 908 235 3 915::fn3 59 "called" 502::tO []::nO []::tO [(.str "world" 921),(.str "g" 922),(.str "state" 923)]::tO []::rN 60 "asked"::oT 509 "asked" 918 244 2 924::fn3 60 "asked" 509::tO []::nO []::tO [(.str "world" 930),(.str "g" 931),(.str "count" 932),(.str "n" 933)]::tO []::rN 61 "counted_on"::oT 516 "counted_on" 927 249 2 934::fn3 61 "counted_on" 516::tO []::nO []::tO [(.str "one" 944),(.str "other" 945)]::tO []::rN 64 "is_same"::oT 523 "is_same" 941 260 2 946::fn4 64 "is_same" 523::tO []::nO []::rN 65 "is_behind_head"::oF 528 "is_behind_head" 949 262 2 952::fn4 65 "is_behind_head" 528::tO []::nO []::rN 66 "place_of_free"::oF 533 "place_of_free" 955 264 1 958::fn4 66 "place_of_free" 533::tO []::nO []::rN 67 "without_head"::oF 538 "without_head" 961 270 2 964::fn4 67 "without_head" 538::tO []::nO []::rN 68 "merged"::oF 543 "merged" 967 273 1 970::fn4 68 "merged" 543::tO []::nO []::rN 69 "order_of"::oF 548 "order_of" 973 284 2 976::fn4 69 "order_of" 548::tO []::nO []::tO [(.str "world" 982),(.str "name" 983),(.str "order" 984),(.str "fields" 985)]::tO []::rN 70 "class_of"::oT 555 "class_of" 979 294 4 986::fn4 70 "class_of" 555::tO []::nO []::tO [(.str "_law_script" 994),(.str "_law_k" 995)]::tO []::rN 72 "_law_cell_at"::oT 562 "_law_cell_at" 991 297 2 996::fn5 72 "_law_cell_at" 562::tO []::nO []::tO [(.str "_law_cells" 1002),(.str "_law_spot" 1003),(.str "_law_k" 1004),(.str "_law_base" 1005)]::tO []::rN 73 "_law_cell"::oT 569 "_law_cell" 999 301 2 1006::fn5 73 "_law_cell" 569::tO []::nO []::rN 74 "_law_names"::oF 574 "_law_names" 1009 308 1 1012::fn5 74 "_law_names" 574::tO []::nO []::tO [(.str "_law_n" 1018),(.str "_law_some" 1019)]::tO []::rN 75 "_law_plain"::oT 581 "_law_plain" 1015 317 1 1020::fn5 75 "_law_plain" 581::tO []::nO []::rN 76 "_law_function"::oF 586 "_law_function" 1023 320 4 1026::fn5 76 "_law_function" 586::tO []::nO []::rN 77 "_law_class"::oF 591 "_law_class" 1029 326 4 1032::fn5 77 "_law_class" 591::tO []::nO []::rN 78 "_law_object"::oF 596 "_law_object" 1035 343 3 1038::fn5 78 "_law_object" 596::tO []::nO []::tO [(.str "_law_one" 1044),(.str "_law_values" 1045),(.str "_law_lacking" 1046)]::tO []::rN 79 "_law_filled"::oT 603 "_law_filled" 1041 355 2 1047::fn5 79 "_law_filled" 603::tO []::nO []::tO [(.str "_law_found" 1053),(.str "_law_one" 1054),(.str "_law_values" 1055),(.str "_law_due" 1056)]::tO []::rN 80 "_law_entered"::oT 610 "_law_entered" 1050 360 3 1057::fn5 80 "_law_entered" 610::tO []::nO []::rN 81 "_law_begun"::oF 615 "_law_begun" 1060 363 5 1063::fn5 81 "_law_begun" 615::tO []::nO []::tO [(.str "_law_world" 1069),(.str "_law_a" 1070)]::tO []::rN 82 "_law_text"::oT 622 "_law_text" 1066 384 2 1071::fn5 82 "_law_text" 622::tO []::nO []::rN 83 "_law_given"::oF 627 "_law_given" 1074 386 5 1077::fn5 83 "_law_given" 627::tO []::nO []::tO [(.str "_law_world" 1083),(.str "_law_g" 1084),(.str "_law_end" 1085),(.str "_law_k" 1086)]::tO []::rN 84 "_law_counted"::oT 634 "_law_counted" 1080 411 3 1087::fn5 84 "_law_counted" 634::tO []::nO []::rN 85 "_law_called_right"::oF 639 "_law_called_right" 1090 420 4 1093::fn5 85 "_law_called_right" 639::tO []::nO []::rN 86 "_law_all_taken"::oF 644 "_law_all_taken" 1096 449 4 1099::fn5 86 "_law_all_taken" 644::tO []::nO []::rN 87 "law"::oF 649 "law" 1102 460 1 1105::fn5 87 "law" 649::[]
def oAll (P : Params) (g : Obj) (m : Nat) : List Obj := W.boot_o_0 P :: W.boot_o_1 P :: W.boot_o_2 P :: g :: W.boot_o_4 P :: W.boot_o_5 P :: W.boot_o_6 P :: W.boot_o_7 P :: W.boot_o_8 P :: W.boot_o_9 P :: W.boot_o_10 P :: o11 P :: nT (t12.take m) :: oR P
def ev : List Obj → List Obj
  | [] => []
  | [x] => [x]
  | x :: _ :: r => x :: ev r
def bt : Nat → List Obj → W.BT
  | 0,_ => .nil
  | _,[] => .nil
  | f + 1,x :: r => .node x (bt f (ev r)) (bt f (ev r.tail))
def l0 (P : Params) : List Obj := (oAll P (W.boot_o_3 P) 0).take 15
def l1 (P : Params) : List Obj := (oAll P (dO [eO P "__name__" 165 (.str "grassnake.store" 187),eO P "__doc__" 166 .none,eO P "__package__" 167 .none,eO P "__loader__" 168 (.builtin "__main__.__loader__#opaque"),eO P "__spec__" 169 .none,eR P "__annotations__" 170 6,eR P "__builtins__" 171 4,eO P "__file__" 173 (.str "/claim/cut.py" 172),eO P "__cached__" 174 .none,eR P "NONE" 190 15,eR P "GIVEN_FUNCTIONS" 199 16,eR P "GIVEN_CLASSES" 234 41,eR P "FAULT_FIELDS" 238 42,eR P "Function" 277 59,eR P "Given" 306 80,eR P "Method" 337 101,eR P "Kind" 372 122,eR P "Object" 403 143,eR P "Giver" 438 164,eR P "View" 469 185,eR P "World" 499 204,eR P "added" 507 215,eR P "thing_of" 515 222,eR P "known" 523 229,eR P "function" 536 236,eR P "function_of" 545 243] 26) 13).take 244
def l2 (P : Params) : List Obj := (oAll P (dO [eO P "__name__" 165 (.str "grassnake.calls" 746),eO P "__doc__" 166 .none,eO P "__package__" 167 .none,eO P "__loader__" 168 (.builtin "__main__.__loader__#opaque"),eO P "__spec__" 169 .none,eR P "__annotations__" 170 6,eR P "__builtins__" 171 4,eO P "__file__" 173 (.str "/claim/cut.py" 172),eO P "__cached__" 174 .none,eR P "NONE" 190 15,eR P "GIVEN_FUNCTIONS" 199 16,eR P "GIVEN_CLASSES" 234 41,eR P "FAULT_FIELDS" 238 42,eR P "Function" 277 59,eR P "Given" 306 80,eR P "Method" 337 101,eR P "Kind" 372 122,eR P "Object" 403 143,eR P "Giver" 438 164,eR P "View" 469 185,eR P "World" 499 204,eR P "added" 507 215,eR P "thing_of" 515 222,eR P "known" 523 229,eR P "function" 536 236,eR P "function_of" 545 243,eR P "new_method" 554 250,eR P "new_class" 566 257,eR P "is_class" 574 264,eR P "is_fault_class" 582 271,eR P "new_object" 588 276,eR P "new_view" 597 283,eR P "new_count" 605 290,eR P "is_giver" 613 297,eR P "frame_of" 621 304,eR P "state_of" 629 311,eR P "set_state" 639 318,eR P "is_fault" 650 325,eR P "found_in" 663 332,eR P "found_by_way" 674 339,eR P "order_of_owner" 682 346,eR P "found_of_view" 692 353,eR P "field_of" 703 360,eR P "can_be_put" 710 367,eR P "put_field" 721 374,eR P "named" 729 381,eR P "text_of_thing" 737 388,eR P "text_of" 745 395,eO P "MOST_COUNT" 749 (.int 10000 748),eR P "KIND_FAULT" 752 396] 50) 35).take 397
def l3 (P : Params) : List Obj := (oAll P (dO [eO P "__name__" 165 (.str "grassnake.calls" 746),eO P "__doc__" 166 .none,eO P "__package__" 167 .none,eO P "__loader__" 168 (.builtin "__main__.__loader__#opaque"),eO P "__spec__" 169 .none,eR P "__annotations__" 170 6,eR P "__builtins__" 171 4,eO P "__file__" 173 (.str "/claim/cut.py" 172),eO P "__cached__" 174 .none,eR P "NONE" 190 15,eR P "GIVEN_FUNCTIONS" 199 16,eR P "GIVEN_CLASSES" 234 41,eR P "FAULT_FIELDS" 238 42,eR P "Function" 277 59,eR P "Given" 306 80,eR P "Method" 337 101,eR P "Kind" 372 122,eR P "Object" 403 143,eR P "Giver" 438 164,eR P "View" 469 185,eR P "World" 499 204,eR P "added" 507 215,eR P "thing_of" 515 222,eR P "known" 523 229,eR P "function" 536 236,eR P "function_of" 545 243,eR P "new_method" 554 250,eR P "new_class" 566 257,eR P "is_class" 574 264,eR P "is_fault_class" 582 271,eR P "new_object" 588 276,eR P "new_view" 597 283,eR P "new_count" 605 290,eR P "is_giver" 613 297,eR P "frame_of" 621 304,eR P "state_of" 629 311,eR P "set_state" 639 318,eR P "is_fault" 650 325,eR P "found_in" 663 332,eR P "found_by_way" 674 339,eR P "order_of_owner" 682 346,eR P "found_of_view" 692 353,eR P "field_of" 703 360,eR P "can_be_put" 710 367,eR P "put_field" 721 374,eR P "named" 729 381,eR P "text_of_thing" 737 388,eR P "text_of" 745 395,eO P "MOST_COUNT" 749 (.int 10000 748),eR P "KIND_FAULT" 752 396,eR P "VALUES_OF_GIVEN" 785 397,eR P "entered" 796 412,eR P "object_of" 808 419,eR P "said" 816 426,eR P "taken_input" 824 433,eR P "is_under" 833 440,eR P "told_isa" 842 447,eR P "viewed" 851 454] 58) 42).take 455
def l4 (P : Params) : List Obj := (oAll P (dO [eO P "__name__" 165 (.str "law_grassnake_k12_calls" 989),eO P "__doc__" 166 .none,eO P "__package__" 167 .none,eO P "__loader__" 168 (.builtin "__main__.__loader__#opaque"),eO P "__spec__" 169 .none,eR P "__annotations__" 170 6,eR P "__builtins__" 171 4,eO P "__file__" 173 (.str "/claim/cut.py" 172),eO P "__cached__" 174 .none,eR P "NONE" 190 15,eR P "GIVEN_FUNCTIONS" 199 16,eR P "GIVEN_CLASSES" 234 41,eR P "FAULT_FIELDS" 238 42,eR P "Function" 277 59,eR P "Given" 306 80,eR P "Method" 337 101,eR P "Kind" 372 122,eR P "Object" 403 143,eR P "Giver" 438 164,eR P "View" 469 185,eR P "World" 499 204,eR P "added" 507 215,eR P "thing_of" 515 222,eR P "known" 523 229,eR P "function" 536 236,eR P "function_of" 545 243,eR P "new_method" 554 250,eR P "new_class" 566 257,eR P "is_class" 574 264,eR P "is_fault_class" 582 271,eR P "new_object" 588 276,eR P "new_view" 597 283,eR P "new_count" 605 290,eR P "is_giver" 613 297,eR P "frame_of" 621 304,eR P "state_of" 629 311,eR P "set_state" 639 318,eR P "is_fault" 650 325,eR P "found_in" 663 332,eR P "found_by_way" 674 339,eR P "order_of_owner" 682 346,eR P "found_of_view" 692 353,eR P "field_of" 703 360,eR P "can_be_put" 710 367,eR P "put_field" 721 374,eR P "named" 729 381,eR P "text_of_thing" 737 388,eR P "text_of" 745 395,eO P "MOST_COUNT" 749 (.int 10000 748),eR P "KIND_FAULT" 752 396,eR P "VALUES_OF_GIVEN" 785 397,eR P "entered" 796 412,eR P "object_of" 808 419,eR P "said" 816 426,eR P "taken_input" 824 433,eR P "is_under" 833 440,eR P "told_isa" 842 447,eR P "viewed" 851 454,eR P "counted" 859 461,eR P "state_to_go" 868 468,eR P "gone_on" 878 475,eR P "thrown" 888 482,eR P "shut_down" 897 489,eR P "called_given" 907 496,eR P "called" 917 503,eR P "asked" 926 510,eR P "counted_on" 936 517,eO P "MOST_CLASSES" 940 (.int 40 939),eR P "is_same" 948 524,eR P "is_behind_head" 954 529,eR P "place_of_free" 960 534,eR P "without_head" 966 539,eR P "merged" 972 544,eR P "order_of" 978 549,eR P "class_of" 988 556,eR P "_law_cell_at" 998 563,eR P "_law_cell" 1008 570,eR P "_law_names" 1014 575,eR P "_law_plain" 1022 582,eR P "_law_function" 1028 587,eR P "_law_class" 1034 592,eR P "_law_object" 1040 597,eR P "_law_filled" 1049 604,eR P "_law_entered" 1059 611,eR P "_law_begun" 1065 616,eR P "_law_text" 1073 623,eR P "_law_given" 1079 628,eR P "_law_counted" 1089 635,eR P "_law_called_right" 1095 640,eR P "_law_all_taken" 1101 645,eR P "law" 1107 650] 91) 74).take 651
noncomputable abbrev pr9 : Program := r9.row.prog
noncomputable def env9 : Env := { scope := pr9.main.scope,locals := mainNs,globals := mainNs,cells := [],code := .ref 13,frame := some 14 }
noncomputable abbrev b9 : List Stmt := W.behindTheImports pr9
noncomputable abbrev c9 : Code := .body b9 env9
abbrev z9 : Pos := ⟨0,0,0,0⟩
noncomputable abbrev tf9 : List Frame := [W.topFrame z9]
noncomputable def st9 (l : List Obj) (n t : Nat) (os : OsState) : W.SharedT := ⟨bt 12 l,n,{},#[],{},t,os⟩
noncomputable def lA : List Stmt := p9.main.body.take 18
noncomputable def lB : List Stmt := (p9.main.body.drop 18).take 27
noncomputable def lC : List Stmt := (p9.main.body.drop 45).take 8
noncomputable def lD : List Stmt := p9.main.body.drop 53
def K9h (P : Params) : W.Frag := (nat_lit 2,⟨.none,none,.dict #[] 0,#[]⟩)::(nat_lit 3,dO [eO P "__name__" 165 (.str "law_grassnake_k12_calls" 989),eO P "__doc__" 166 .none,eO P "__package__" 167 .none,eO P "__loader__" 168 (.builtin "__main__.__loader__#opaque"),eO P "__spec__" 169 .none,eR P "__annotations__" 170 6,eR P "__builtins__" 171 4,eO P "__file__" 173 (.str "/claim/cut.py" 172),eO P "__cached__" 174 .none,eR P "NONE" 190 15,eR P "GIVEN_FUNCTIONS" 199 16,eR P "GIVEN_CLASSES" 234 41,eR P "FAULT_FIELDS" 238 42,eR P "Function" 277 59,eR P "Given" 306 80,eR P "Method" 337 101,eR P "Kind" 372 122,eR P "Object" 403 143,eR P "Giver" 438 164,eR P "View" 469 185,eR P "World" 499 204,eR P "added" 507 215,eR P "thing_of" 515 222,eR P "known" 523 229,eR P "function" 536 236,eR P "function_of" 545 243,eR P "new_method" 554 250,eR P "new_class" 566 257,eR P "is_class" 574 264,eR P "is_fault_class" 582 271,eR P "new_object" 588 276,eR P "new_view" 597 283,eR P "new_count" 605 290,eR P "is_giver" 613 297,eR P "frame_of" 621 304,eR P "state_of" 629 311,eR P "set_state" 639 318,eR P "is_fault" 650 325,eR P "found_in" 663 332,eR P "found_by_way" 674 339,eR P "order_of_owner" 682 346,eR P "found_of_view" 692 353,eR P "field_of" 703 360,eR P "can_be_put" 710 367,eR P "put_field" 721 374,eR P "named" 729 381,eR P "text_of_thing" 737 388,eR P "text_of" 745 395,eO P "MOST_COUNT" 749 (.int 10000 748),eR P "KIND_FAULT" 752 396,eR P "VALUES_OF_GIVEN" 785 397,eR P "entered" 796 412,eR P "object_of" 808 419,eR P "said" 816 426,eR P "taken_input" 824 433,eR P "is_under" 833 440,eR P "told_isa" 842 447,eR P "viewed" 851 454,eR P "counted" 859 461,eR P "state_to_go" 868 468,eR P "gone_on" 878 475,eR P "thrown" 888 482,eR P "shut_down" 897 489,eR P "called_given" 907 496,eR P "called" 917 503,eR P "asked" 926 510,eR P "counted_on" 936 517,eO P "MOST_CLASSES" 940 (.int 40 939),eR P "is_same" 948 524,eR P "is_behind_head" 954 529,eR P "place_of_free" 960 534,eR P "without_head" 966 539,eR P "merged" 972 544,eR P "order_of" 978 549,eR P "class_of" 988 556,eR P "_law_cell_at" 998 563,eR P "_law_cell" 1008 570,eR P "_law_names" 1014 575,eR P "_law_plain" 1022 582,eR P "_law_function" 1028 587,eR P "_law_class" 1034 592,eR P "_law_object" 1040 597,eR P "_law_filled" 1049 604,eR P "_law_entered" 1059 611,eR P "_law_begun" 1065 616,eR P "_law_text" 1073 623,eR P "_law_given" 1079 628,eR P "_law_counted" 1089 635,eR P "_law_called_right" 1095 640,eR P "_law_all_taken" 1101 645,eR P "law" 1107 650] 91)::(nat_lit 15,tO [(.str "none" 189)])::(nat_lit 16,tO [(.str "say" 191),(.str "take" 192),(.str "isa" 193),(.str "elder" 194),(.str "count" 195),(.str "go" 196),(.str "throw" 197),(.str "shut" 198)])::(nat_lit 17,tO [])::(nat_lit 18,tO [(.str "Thing" 200),(.ref 17)])::(nat_lit 19,tO [(.str "Thing" 202)])::(nat_lit 20,tO [(.str "Fault" 201),(.ref 19)])::(nat_lit 21,tO [(.str "Fault" 204),(.str "Thing" 205)])::(nat_lit 22,tO [(.str "NameFault" 203),(.ref 21)])::(nat_lit 23,tO [(.str "Fault" 207),(.str "Thing" 208)])::(nat_lit 24,tO [(.str "KindFault" 206),(.ref 23)])::(nat_lit 25,tO [(.str "Fault" 210),(.str "Thing" 211)])::(nat_lit 26,tO [(.str "NoughtFault" 209),(.ref 25)])::(nat_lit 27,tO [(.str "Fault" 213),(.str "Thing" 214)])::(nat_lit 28,tO [(.str "GreatFault" 212),(.ref 27)])::(nat_lit 29,tO [(.str "Fault" 216),(.str "Thing" 217)])::(nat_lit 30,tO [(.str "FieldFault" 215),(.ref 29)])::(nat_lit 31,tO [(.str "Fault" 219),(.str "Thing" 220)])::(nat_lit 32,tO [(.str "OrderFault" 218),(.ref 31)])::(nat_lit 33,tO [(.str "Fault" 222),(.str "Thing" 223)])::(nat_lit 34,tO [(.str "EndFault" 221),(.ref 33)])::(nat_lit 35,tO [(.str "Fault" 225),(.str "Thing" 226)])::(nat_lit 36,tO [(.str "ShutFault" 224),(.ref 35)])::(nat_lit 37,tO [(.str "Fault" 228),(.str "Thing" 229)])::(nat_lit 38,tO [(.str "DeepFault" 227),(.ref 37)])::(nat_lit 39,tO [(.str "NameFault" 231),(.str "Fault" 232),(.str "Thing" 233)])::(nat_lit 40,tO [(.str "UnboundFault" 230),(.ref 39)])::(nat_lit 41,tO [(.ref 18),(.ref 20),(.ref 22),(.ref 24),(.ref 26),(.ref 28),(.ref 30),(.ref 32),(.ref 34),(.ref 36),(.ref 38),(.ref 40)])::(nat_lit 42,tO [(.str "word" 235),(.str "cause" 236),(.str "context" 237)])::(nat_lit 55,cO 55 true "__init__" "Function.__init__" 251 8 7 261)::(nat_lit 56,fm1 (iC 0 (tp9 5)) "__init__" "Function.__init__" 55)::(nat_lit 58,dO [eO P "__module__" 246 (.str "grassnake.store" 187),eO P "__firstlineno__" 250 (.int 6 249),eR P "__init__" 263 56,eR P "__static_attributes__" 270 57,eR P "__dict__" 272 60,eR P "__weakref__" 274 61,eO P "__doc__" 275 .none] 4)::(nat_lit 59,kO "Function" [(.type "object")] [(.ref 59),(.type "object")] 58 [] #[none,none,some (.str "Function" 239),some (.str "Function" 247),some (.builtin "object.__new__"),some (.bool true)])::(nat_lit 76,cO 76 true "__init__" "Given.__init__" 290 17 2 295)::(nat_lit 77,fm1 (iC 0 (tp9 6)) "__init__" "Given.__init__" 76)::(nat_lit 79,dO [eO P "__module__" 285 (.str "grassnake.store" 187),eO P "__firstlineno__" 289 (.int 15 288),eR P "__init__" 297 77,eR P "__static_attributes__" 299 78,eR P "__dict__" 301 81,eR P "__weakref__" 303 82,eO P "__doc__" 304 .none] 4)::(nat_lit 80,kO "Given" [(.type "object")] [(.ref 80),(.type "object")] 79 [] #[none,none,some (.str "Given" 278),some (.str "Given" 286),some (.builtin "object.__new__"),some (.bool true)])::(nat_lit 97,cO 97 true "__init__" "Method.__init__" 319 21 3 325)::(nat_lit 98,fm1 (iC 0 (tp9 7)) "__init__" "Method.__init__" 97)::(nat_lit 100,dO [eO P "__module__" 314 (.str "grassnake.store" 187),eO P "__firstlineno__" 318 (.int 19 317),eR P "__init__" 327 98,eR P "__static_attributes__" 330 99,eR P "__dict__" 332 102,eR P "__weakref__" 334 103,eO P "__doc__" 335 .none] 4)::(nat_lit 101,kO "Method" [(.type "object")] [(.ref 101),(.type "object")] 100 [] #[none,none,some (.str "Method" 307),some (.str "Method" 315),some (.builtin "object.__new__"),some (.bool true)])::(nat_lit 118,cO 118 true "__init__" "Kind.__init__" 350 26 5 358)::(nat_lit 119,fm1 (iC 0 (tp9 8)) "__init__" "Kind.__init__" 118)::(nat_lit 121,dO [eO P "__module__" 345 (.str "grassnake.store" 187),eO P "__firstlineno__" 349 (.int 24 348),eR P "__init__" 360 119,eR P "__static_attributes__" 365 120,eR P "__dict__" 367 123,eR P "__weakref__" 369 124,eO P "__doc__" 370 .none] 4)::(nat_lit 122,kO "Kind" [(.type "object")] [(.ref 122),(.type "object")] 121 [] #[none,none,some (.str "Kind" 338),some (.str "Kind" 346),some (.builtin "object.__new__"),some (.bool true)])::(nat_lit 139,cO 139 true "__init__" "Object.__init__" 385 33 3 391)::(nat_lit 140,fm1 (iC 0 (tp9 9)) "__init__" "Object.__init__" 139)::(nat_lit 142,dO [eO P "__module__" 380 (.str "grassnake.store" 187),eO P "__firstlineno__" 384 (.int 31 383),eR P "__init__" 393 140,eR P "__static_attributes__" 396 141,eR P "__dict__" 398 144,eR P "__weakref__" 400 145,eO P "__doc__" 401 .none] 4)::(nat_lit 143,kO "Object" [(.type "object")] [(.ref 143),(.type "object")] 142 [] #[none,none,some (.str "Object" 373),some (.str "Object" 381),some (.builtin "object.__new__"),some (.bool true)])::(nat_lit 160,cO 160 true "__init__" "Giver.__init__" 416 38 4 423)::(nat_lit 161,fm1 (iC 0 (tp9 10)) "__init__" "Giver.__init__" 160)::(nat_lit 163,dO [eO P "__module__" 411 (.str "grassnake.store" 187),eO P "__firstlineno__" 415 (.int 36 414),eR P "__init__" 425 161,eR P "__static_attributes__" 431 162,eR P "__dict__" 433 165,eR P "__weakref__" 435 166,eO P "__doc__" 436 .none] 4)::(nat_lit 164,kO "Giver" [(.type "object")] [(.ref 164),(.type "object")] 163 [] #[none,none,some (.str "Giver" 404),some (.str "Giver" 412),some (.builtin "object.__new__"),some (.bool true)])::(nat_lit 181,cO 181 true "__init__" "View.__init__" 451 46 3 457)::(nat_lit 182,fm1 (iC 0 (tp9 11)) "__init__" "View.__init__" 181)::(nat_lit 184,dO [eO P "__module__" 446 (.str "grassnake.store" 187),eO P "__firstlineno__" 450 (.int 44 449),eR P "__init__" 459 182,eR P "__static_attributes__" 462 183,eR P "__dict__" 464 186,eR P "__weakref__" 466 187,eO P "__doc__" 467 .none] 4)::(nat_lit 185,kO "View" [(.type "object")] [(.ref 185),(.type "object")] 184 [] #[none,none,some (.str "View" 439),some (.str "View" 447),some (.builtin "object.__new__"),some (.bool true)])::(nat_lit 200,cO 200 false "__init__" "World.__init__" 482 51 2 485)::(nat_lit 201,fm1 (iC 0 (tp9 12)) "__init__" "World.__init__" 200)::(nat_lit 203,dO [eO P "__module__" 477 (.str "grassnake.store" 187),eO P "__firstlineno__" 481 (.int 49 480),eR P "__init__" 487 201,eR P "__static_attributes__" 492 202,eR P "__dict__" 494 205,eR P "__weakref__" 496 206,eO P "__doc__" 497 .none] 4)::(nat_lit 204,kO "World" [(.type "object")] [(.ref 204),(.type "object")] 203 [] #[none,none,some (.str "World" 470),some (.str "World" 478),some (.builtin "object.__new__"),some (.bool true)])::(nat_lit 214,oT 214 "added" 500 60 2 505)::(nat_lit 215,fn1 13 "added" 214)::(nat_lit 221,oT 221 "thing_of" 508 63 2 513)::(nat_lit 222,fn1 14 "thing_of" 221)::(nat_lit 228,oT 228 "known" 516 65 2 521)::(nat_lit 229,fn1 15 "known" 228)::(nat_lit 235,oT 235 "function" 524 67 7 534)::(nat_lit 236,fn1 16 "function" 235)::(nat_lit 242,oT 242 "function_of" 537 69 2 543)::(nat_lit 243,fn1 17 "function_of" 242)::(nat_lit 249,oT 249 "new_method" 546 72 3 552)::(nat_lit 250,fn1 18 "new_method" 249)::(nat_lit 256,oT 256 "new_class" 555 74 5 564)::(nat_lit 257,fn1 19 "new_class" 256)::(nat_lit 263,oT 263 "is_class" 567 77 2 572)::(nat_lit 264,fn1 20 "is_class" 263)::(nat_lit 270,oT 270 "is_fault_class" 575 79 2 580)::(nat_lit 271,fn1 21 "is_fault_class" 270)::(nat_lit 275,oF 275 "new_object" 583 81 2 586)::(nat_lit 276,fn1 22 "new_object" 275)::(nat_lit 282,oT 282 "new_view" 589 84 3 595)::(nat_lit 283,fn1 23 "new_view" 282)::(nat_lit 289,oT 289 "new_count" 598 86 2 603)::(nat_lit 290,fn1 24 "new_count" 289)::(nat_lit 296,oT 296 "is_giver" 606 88 2 611)::(nat_lit 297,fn1 25 "is_giver" 296)::(nat_lit 310,oT 310 "state_of" 622 92 2 627)::(nat_lit 311,fn1 27 "state_of" 310)::(nat_lit 317,oT 317 "set_state" 630 94 3 637)::(nat_lit 318,fn1 28 "set_state" 317)::(nat_lit 331,oT 331 "found_in" 653 102 3 661)::(nat_lit 332,fn2 32 "found_in" 331)::(nat_lit 338,oT 338 "found_by_way" 664 108 4 672)::(nat_lit 339,fn2 33 "found_by_way" 338)::(nat_lit 345,oT 345 "order_of_owner" 675 113 2 680)::(nat_lit 346,fn2 34 "order_of_owner" 345)::(nat_lit 359,oT 359 "field_of" 693 118 3 701)::(nat_lit 360,fn2 36 "field_of" 359)::(nat_lit 366,oT 366 "can_be_put" 704 130 1 708)::(nat_lit 367,fn2 37 "can_be_put" 366)::(nat_lit 373,oT 373 "put_field" 711 132 4 719)::(nat_lit 374,fn2 38 "put_field" 373)::(nat_lit 380,oT 380 "named" 722 138 2 727)::(nat_lit 381,fn2 39 "named" 380)::(nat_lit 387,oT 387 "text_of_thing" 730 140 2 735)::(nat_lit 388,fn2 40 "text_of_thing" 387)::(nat_lit 394,oT 394 "text_of" 738 150 2 743)::(nat_lit 395,fn2 41 "text_of" 394)::(nat_lit 396,tO [(.str "fault" 750),(.str "KindFault" 751)])::(nat_lit 397,dO [eR P "say" 753 398,eR P "take" 756 399,eR P "isa" 759 400,eR P "elder" 762 401,eR P "count" 765 402,eR P "go" 768 403,eR P "throw" 771 404,eR P "shut" 774 405] 8)::(nat_lit 398,tO [(.int 1 754),(.int 1 755)])::(nat_lit 399,tO [(.int 0 757),(.int 0 758)])::(nat_lit 400,tO [(.int 2 760),(.int 2 761)])::(nat_lit 401,tO [(.int 2 763),(.int 2 764)])::(nat_lit 402,tO [(.int 1 766),(.int 1 767)])::(nat_lit 403,tO [(.int 1 769),(.int 2 770)])::(nat_lit 404,tO [(.int 2 772),(.int 2 773)])::(nat_lit 405,tO [(.int 1 775),(.int 1 776)])::(nat_lit 411,oT 411 "entered" 786 158 3 794)::(nat_lit 412,fn3 46 "entered" 411)::(nat_lit 418,oT 418 "object_of" 797 164 3 806)::(nat_lit 419,fn3 47 "object_of" 418)::(nat_lit 425,oT 425 "said" 809 175 2 814)::(nat_lit 426,fn3 48 "said" 425)::(nat_lit 432,oT 432 "taken_input" 817 178 1 822)::(nat_lit 433,fn3 49 "taken_input" 432)::(nat_lit 439,oT 439 "is_under" 825 181 3 831)::(nat_lit 440,fn3 50 "is_under" 439)::(nat_lit 446,oT 446 "told_isa" 834 183 3 840)::(nat_lit 447,fn3 51 "told_isa" 446)::(nat_lit 453,oT 453 "viewed" 843 185 3 849)::(nat_lit 454,fn3 52 "viewed" 453)::(nat_lit 460,oT 460 "counted" 852 187 2 857)::(nat_lit 461,fn3 53 "counted" 460)::(nat_lit 467,oT 467 "state_to_go" 860 191 2 866)::(nat_lit 468,fn3 54 "state_to_go" 467)::(nat_lit 495,oT 495 "called_given" 898 216 3 905)::(nat_lit 496,fn3 58 "called_given" 495)::(nat_lit 502,oT 502 "called" 908 235 3 915)::(nat_lit 503,fn3 59 "called" 502)::(nat_lit 509,oT 509 "asked" 918 244 2 924)::(nat_lit 510,fn3 60 "asked" 509)::(nat_lit 516,oT 516 "counted_on" 927 249 2 934)::(nat_lit 517,fn3 61 "counted_on" 516)::(nat_lit 523,oT 523 "is_same" 941 260 2 946)::(nat_lit 524,fn4 64 "is_same" 523)::(nat_lit 528,oF 528 "is_behind_head" 949 262 2 952)::(nat_lit 529,fn4 65 "is_behind_head" 528)::(nat_lit 533,oF 533 "place_of_free" 955 264 1 958)::(nat_lit 534,fn4 66 "place_of_free" 533)::(nat_lit 538,oF 538 "without_head" 961 270 2 964)::(nat_lit 539,fn4 67 "without_head" 538)::(nat_lit 543,oF 543 "merged" 967 273 1 970)::(nat_lit 544,fn4 68 "merged" 543)::(nat_lit 548,oF 548 "order_of" 973 284 2 976)::(nat_lit 549,fn4 69 "order_of" 548)::(nat_lit 555,oT 555 "class_of" 979 294 4 986)::(nat_lit 556,fn4 70 "class_of" 555)::(nat_lit 562,oT 562 "_law_cell_at" 991 297 2 996)::(nat_lit 563,fn5 72 "_law_cell_at" 562)::(nat_lit 569,oT 569 "_law_cell" 999 301 2 1006)::(nat_lit 570,fn5 73 "_law_cell" 569)::(nat_lit 574,oF 574 "_law_names" 1009 308 1 1012)::(nat_lit 575,fn5 74 "_law_names" 574)::(nat_lit 581,oT 581 "_law_plain" 1015 317 1 1020)::(nat_lit 582,fn5 75 "_law_plain" 581)::(nat_lit 586,oF 586 "_law_function" 1023 320 4 1026)::(nat_lit 587,fn5 76 "_law_function" 586)::(nat_lit 591,oF 591 "_law_class" 1029 326 4 1032)::(nat_lit 592,fn5 77 "_law_class" 591)::(nat_lit 596,oF 596 "_law_object" 1035 343 3 1038)::(nat_lit 597,fn5 78 "_law_object" 596)::(nat_lit 603,oT 603 "_law_filled" 1041 355 2 1047)::(nat_lit 604,fn5 79 "_law_filled" 603)::(nat_lit 610,oT 610 "_law_entered" 1050 360 3 1057)::(nat_lit 611,fn5 80 "_law_entered" 610)::(nat_lit 615,oF 615 "_law_begun" 1060 363 5 1063)::(nat_lit 616,fn5 81 "_law_begun" 615)::(nat_lit 622,oT 622 "_law_text" 1066 384 2 1071)::(nat_lit 623,fn5 82 "_law_text" 622)::(nat_lit 627,oF 627 "_law_given" 1074 386 5 1077)::(nat_lit 628,fn5 83 "_law_given" 627)::(nat_lit 634,oT 634 "_law_counted" 1080 411 3 1087)::(nat_lit 635,fn5 84 "_law_counted" 634)::(nat_lit 639,oF 639 "_law_called_right" 1090 420 4 1093)::(nat_lit 640,fn5 85 "_law_called_right" 639)::(nat_lit 644,oF 644 "_law_all_taken" 1096 449 4 1099)::(nat_lit 645,fn5 86 "_law_all_taken" 644)::(nat_lit 649,oF 649 "law" 1102 460 1 1105)::(nat_lit 650,fn5 87 "law" 649)::[]
noncomputable def asK9h : List Nat := [2,3,15,16,17,18,19,20,21,22,23,24,25,26,27,28,29,30,31,32,33,34,35,36,37,38,39,40,41,42,55,56,58,59,76,77,79,80,97,98,100,101,118,119,121,122,139,140,142,143,160,161,163,164,181,182,184,185,200,201,203,204,214,215,221,222,228,229,235,236,242,243,249,250,256,257,263,264,270,271,275,276,282,283,289,290,296,297,310,311,317,318,331,332,338,339,345,346,359,360,366,367,373,374,380,381,387,388,394,395,396,397,398,399,400,401,402,403,404,405,411,412,418,419,425,426,432,433,439,440,446,447,453,454,460,461,467,468,495,496,502,503,509,510,516,517,523,524,528,529,533,534,538,539,543,544,548,549,555,556,562,563,569,570,574,575,581,582,586,587,591,592,596,597,603,604,610,611,615,616,622,623,627,628,634,635,639,640,644,645,649,650]
abbrev lo9 : List Str := ["VALUES_OF_GIVEN"]
theorem eK9h (P : Params) : asK9h = (K9h P).map (·.1) := by kernel_rfl
noncomputable def q9 : Program := { p9 with main := { p9.main with body := [1,2,3,4,5,6,7,8,9,10,11,12,13,14,15,16,17,18,19,20,21,22,23,24,25,26,27,28,30,32,33,34,35,36,37,38,39,40,41,43,44,45,46,47,48,49,50,51,52,53,54,55,56,57,58,59,60,61,63,64,65,66,67,68,69,70,72,73,74,75,76,77,78,79,80,81,82,83,84,85,86,87].filterMap fun i => p9.main.body[i]? } }
theorem said9 : r9.wellSaid = true := by decide +kernel
end
end GS
set_option Elab.async false
set_option linter.all false
set_option maxRecDepth 100000
set_option maxHeartbeats 4000000
namespace GS
open PySem
theorem pre9 (w : World) (os : OsState) : W.topGo treeTable pr9 w 11 (some (.ref 6)) 12 ⟨W.boot_heap w.params, #[], W.boot_drawn, W.boot_toks, os⟩ (W.topStub pr9) = some (⟨⟨(l0 w.params).toArray, {}⟩, #[], {}, 187, os⟩, ⟨denote treeTable c9, c9, z9, tf9⟩) := by kernel_rfl
theorem blk9 (w : World) (os : OsState) : W.segRun treeTable pr9 w 11 (some (.ref 6)) 1 1 ⟨⟨(l0 w.params).toArray, {}⟩, #[], {}, 187, os⟩ (W.blockOf b9 env9 c9 z9 tf9) = some (.next, (st9 (l0 w.params) 15 187 os).abs, c9, z9) := by kernel_rfl
theorem pA9 (w : World) (os : OsState) : W.segRunT treeTable pr9 w 11 (some (.ref 6)) 1 2110 (st9 (l0 w.params) 15 187 os) (W.piecesOf lA env9 c9 z9 tf9) = some (.next, st9 (l1 w.params) 244 546 os, c9, ⟨69, 0, 71, 92⟩) := by kernel_rfl
theorem pB9 (w : World) (os : OsState) : W.segRunT treeTable pr9 w 11 (some (.ref 6)) 1 728 (st9 (l1 w.params) 244 546 os) (W.piecesOf lB env9 c9 ⟨69, 0, 71, 92⟩ tf9) = some (.next, st9 (l2 w.params) 397 753 os, c9, ⟨156, 0, 156, 10⟩) := by kernel_rfl
def qC (os : OsState) (w : World) : Prop := W.segRunT treeTable pr9 w 11 (some (.ref 6)) 1 375 (st9 (l2 w.params) 397 753 os) (W.piecesOf lC env9 c9 ⟨156, 0, 156, 10⟩ tf9) = some (.next, st9 (l3 w.params) 455 852 os, c9, ⟨185, 0, 186, 90⟩)
theorem pCf (os : OsState) (w : World) : qC os (w.withFollow "special-get-raises" false) := by unfold qC; kernel_rfl
theorem pCt (os : OsState) (w : World) : qC os (w.withFollow "special-get-raises" true) := by unfold qC; kernel_rfl
theorem pD9 (w : World) (os : OsState) : W.segRunT treeTable pr9 w 11 (some (.ref 6)) 1 956 (st9 (l3 w.params) 455 852 os) (W.piecesOf lD env9 c9 ⟨185, 0, 186, 90⟩ tf9) = some (.next, st9 (l4 w.params) 651 1108 os, c9, ⟨460, 0, 495, 137⟩) := by kernel_rfl
theorem fin9 (w : World) (os : OsState) : W.topRun treeTable pr9 w 11 (some (.ref 6)) 2 (st9 (l4 w.params) 651 1108 os).abs ⟨W.doneF .next, c9, ⟨460, 0, 495, 137⟩, tf9⟩ = some ⟨⟨(l4 w.params).toArray, {}⟩, #[], {}, 1108, os⟩ := by kernel_rfl
theorem eb9 : b9 = lA ++ (lB ++ (lC ++ (lD ++ []))) := by kernel_rfl
theorem run9 (w : World) (os : OsState) : W.topRun treeTable pr9 w 11 (some (.ref 6)) (12 + (1 + (2110 + (728 + (375 + (956 + 2)))))) ⟨W.boot_heap w.params, #[], W.boot_drawn, W.boot_toks, os⟩ (W.topStub pr9) = some ⟨⟨(l4 w.params).toArray, {}⟩, #[], {}, 1108, os⟩ := by
  refine W.go_top (pre9 w os) (W.piece_block (blk9 w os) ?_)
  have e : W.restOf b9 env9 c9 z9 tf9 = W.restOf (lA ++ (lB ++ (lC ++ (lD ++ [])))) env9 c9 z9 tf9 := congrArg (fun l => W.restOf l env9 c9 z9 tf9) eb9
  rw [e]
  exact W.piece_app (W.segRun_of (pA9 w os)) (W.piece_app (W.segRun_of (pB9 w os)) (W.piece_app (W.segRun_of (W.byRow2 "special-get-raises" (pCf os) (pCt os) w)) (W.piece_app (W.segRun_of (pD9 w os)) (W.piece_nil (fin9 w os)))))
theorem left9 : W.LeftO pr9 q9 lo9 (fun s => W.xlAt q9 [] s && W.recOk (W.RowW.records (W.OpenRow.toRowW (W.OpenLaw.row r9))) s) (W.Hook.obs (W.kHook K9h asK9h eK9h)) (W.Hook.val (W.kHook K9h asK9h eK9h)) 8436 :=
  W.LeftO.of_pieces (M := 12 + (1 + (2110 + (728 + (375 + (956 + 2)))))) (H₀ := fun P => W.boot_heap P) (H₁ := fun P => ⟨(l4 P).toArray, {}⟩) (W.boot_open (by kernel_rfl) rfl (fun s => by rfl)) (fun w => by kernel_rfl) run9 rfl (fun w => by kernel_rfl)
end GS
abbrev Fg06:=PySem.W.Frag
abbrev IH:=@List.mem_cons_of_mem
abbrev II:=@List.mem_cons_self
abbrev IJ:=@List.length_append
abbrev IK:=@decide_eq_false
abbrev IL:=@decide_eq_true
abbrev IM:=@List.getElem?_eq_getElem
abbrev IP:=@List.getD_eq_getElem?_getD
abbrev IQ:=@List.getElem?_set_ne
abbrev IT:=@List.getElem?_set_self
abbrev IU:=@List.length_map
abbrev IV:=@Nat.le_trans
abbrev IW:=@Nat.le_refl
abbrev IX:=@List.mem_of_getElem?
abbrev IY:=@if_neg
abbrev IZ:=@if_pos
abbrev I0:=@List.getElem?_map
abbrev Ja:=@PySem.wpAny_bind
abbrev Jb:=@PySem.wpAny_pure
abbrev Jc:=@PySem.Heap.get?_push_of_some
abbrev Jd:=@Bool.false_ne_true
abbrev Je:=@PySem.mem_of_lookup
abbrev Jf:=@List.length_cons
abbrev Jg:=@List.mem_append_left
abbrev Jh:=@List.mem_append_right
abbrev Ji:=@PySem.PassesOwn.never
abbrev Jj:=@List.getElem?_append_right
abbrev Jk:=@List.length_set
abbrev Jl:=@of_decide_eq_true
abbrev Jm:=@List.mem_append
abbrev Jn:=@List.getElem?_eq_some_iff
abbrev Jo:=@PySem.F.plainAttrs_list
abbrev Jp:=@PySem.F.slot_list_append
abbrev Jq:=@PySem.F.type_list_append
abbrev Jr:=@Nat.zero_le
abbrev Js:=@List.append_nil
abbrev Jt:=@List.map_append
abbrev Ju:=@Nat.lt_of_lt_of_le
abbrev Jv:=@List.mem_cons
abbrev Jw:=@PySem.Heap.lt_size
abbrev Jx:=@Nat.ne_of_lt
abbrev Jy:=@List.length_singleton
abbrev Jz:=@Nat.lt_succ_self
abbrev JA:=@PySem.Heap.get?_push_size
abbrev JB:=@List.getElem?_append_left
abbrev JC:=@List.mem_filter
abbrev JD:=@List.mem_map
abbrev JE:=@PySem.wpAny_mono
abbrev JF:=@List.filter_eq_self
abbrev JG:=@List.getElem_of_mem
abbrev JH:=@of_decide_eq_false
abbrev W3:=@Ne.symm
abbrev W4:=@List.size_toArray
abbrev W5:=@List.map_cons
abbrev W6:=@List.length_take
abbrev W7:=@List.mem_singleton
abbrev W8:=@List.length_eq_zero_iff
abbrev W9:=@Nat.lt_irrefl
abbrev Xa:=@List.length_eq_one_iff
abbrev Xb:=@Bool.and_eq_true
abbrev Xc:=@absurd
abbrev Xd:=@congrArg
set_option Elab.async false
set_option linter.all false
namespace GS
section
variable {α:Type} [DecidableEq α]
def d5 (c:α):List α->List α
 | []=>[]
 | x::xs=>if x=c then xs else x::xs
def cK (c:α) (rs:List (List α)):Bool:=rs.any fun r=>decide (c∈r.tail)
def fW (rs:List (List α)):List α:=(rs.filterMap List.head?).filter fun c=>!cK c rs
def fZ (rs:List (List α)) (f:List (List α)->Option (List α)):Option (List α):=
 if rs.all List.isEmpty=true then some [] else match fW rs with
  | []=>none
  | c::_=>(f (rs.map (d5 c))).map (c::·)
def qE:Nat->List (List α)->Option (List α)
 | 0,rs=>if rs.all List.isEmpty=true then some [] else none
 | n+1,rs=>fZ rs (qE n)
def oO (rs:List (List α)):Nat:=(rs.map List.length).foldr (·+·) 0
def mg (rs:List (List α)):Option (List α):=qE (oO rs) rs
theorem fF (r:List α) (rs:List (List α)):oO (r::rs)=r.length+oO rs:=rfl
theorem pC (c:α):∀r:List α,(d5 c r).length<=r.length
 | []=>IW _
 | x::xs=>by
  rw[d5];split
  ·exact Nat.le_succ _
  ·exact IW _
theorem xQ {c:α}{r:List α}(h:r.head?=some c):(d5 c r).length < r.length:=by
 cases r with
 | nil=>cases h
 | cons x xs=>simp at h;subst h;simp[d5]
theorem ny (c:α):∀rs:List (List α),oO (rs.map (d5 c))<=oO rs
 | []=>IW _
 | r::rs=>by
  have h1:=ny c rs;have h2:=pC c r;rw[W5,fF,fF];omega
theorem tj {c:α}{r:List α}{rs:List (List α)}:c∈(r::rs).filterMap List.head?↔r.head?=some c\/c∈rs.filterMap List.head?:=by
 simp only[List.mem_filterMap,List.mem_cons];constructor
 ·rintro⟨a,rfl | ha,e⟩
  ·exact .inl e
  ·exact .inr ⟨a,ha,e⟩
 ·rintro(e | ⟨a,ha,e⟩)
  ·exact⟨r,.inl rfl,e⟩
  ·exact⟨a,.inr ha,e⟩
theorem i5 (c:α):∀{rs:List (List α)},c∈rs.filterMap List.head?->oO (rs.map (d5 c)) < oO rs
 | [],h=>by simp at h
 | r::rs,h=>by
  have h1:=ny c rs;have h2:=pC c r;rw[W5,fF,fF];cases tj.mp h with
  | inl hc=>have:=xQ hc;omega
  | inr hc=>have:=i5 c hc;omega
theorem kY:∀{rs:List (List α)},oO rs=0->rs.all List.isEmpty=true
 | [],_=>rfl
 | r::rs,h=>by
  rw[fF] at h;have h1:=kY (rs:=rs) (by omega);have h2:r=[]:=W8.mp (by omega);rw[List.all_cons,h1,h2];rfl
theorem xX:∀(n m:Nat) (rs:List (List α)),oO rs<=n->oO rs<=m->qE n rs=qE m rs:=by
 intro n
 induction n with
 | zero=>
  intro m rs h1 h2;have he:=kY (rs:=rs) (by omega);cases m with
  | zero=>rfl
  | succ m=>rw[qE,qE,fZ,IZ he,IZ he]
 | succ n ih=>
  intro m rs h1 h2;cases m with
  | zero=>
   have he:=kY (rs:=rs) (by omega);rw[qE,qE,fZ,IZ he,IZ he]
  | succ m=>
   rw[qE,qE,fZ,fZ];cases hf:fW rs with
   | nil=>rfl
   | cons c cs=>
    have hc:c∈fW rs:=by rw[hf];exact II
    have hl:=i5 c (JC.mp hc).1;dsimp only;rw[ih m _ (by omega) (by omega)]
theorem qa (rs:List (List α)):mg rs=fZ rs mg:=by
 unfold mg;cases ht:oO rs with
 | zero=>
  have he:=kY ht;rw[qE,fZ,IZ he,IZ he]
 | succ n=>
  rw[qE,fZ,fZ];cases hf:fW rs with
  | nil=>rfl
  | cons c cs=>
   have hc:c∈fW rs:=by rw[hf];exact II
   have hl:=i5 c (JC.mp hc).1;dsimp only;rw[xX n (oO (rs.map (d5 c))) _ (by omega) (IW _)]
theorem uC {rs:List (List α)}(h:rs.all List.isEmpty=true):mg rs=some []:=by rw[qa,fZ,IZ h]
theorem xU {rs:List (List α)}(h:¬rs.all List.isEmpty=true) (hf:fW rs=[]):mg rs=none:=by rw[qa,fZ,IY h,hf]
theorem qb {rs:List (List α)}{c:α}{cs:List α}(hf:fW rs=c::cs):mg rs=(mg (rs.map (d5 c))).map (c::·):=by
 have hc:c∈fW rs:=by rw[hf];exact II
 have hh:=(JC.mp hc).1;have h:¬rs.all List.isEmpty=true:=fun z=>by
  rw[List.mem_filterMap] at hh;obtain⟨r,hr,e⟩:=hh;have:=List.all_eq_true.mp z r hr;rw[List.isEmpty_iff.mp this] at e;cases e
 rw[qa,fZ,IY h,hf]
def mw (rs:List (List α)):List (List α):=rs.filter fun r=>!r.isEmpty
theorem eK (rs:List (List α)):mw ([]::rs)=mw rs:=rfl
theorem gY (x:α) (xs rs):mw ((x::xs)::rs)=(x::xs)::mw rs:=rfl
theorem ma:∀rs:List (List α),(mw rs).filterMap List.head?=rs.filterMap List.head?
 | []=>rfl
 | []::rs=>by rw[eK,ma rs];rfl
 | (x::xs)::rs=>by rw[gY,List.filterMap_cons,List.filterMap_cons,ma rs]
theorem kh (c:α):∀rs:List (List α),cK c (mw rs)=cK c rs
 | []=>rfl
 | []::rs=>by rw[eK,kh c rs];rfl
 | (x::xs)::rs=>by
  have h:=kh c rs;unfold cK at h ⊢;rw[gY,List.any_cons,List.any_cons,h]
theorem xT (rs:List (List α)):fW (mw rs)=fW rs:=by
 unfold fW;rw[ma];refine congrFun (Xd List.filter (funext fun c=>?_)) _;rw[kh]
theorem jN:∀rs:List (List α),oO (mw rs)=oO rs
 | []=>rfl
 | []::rs=>by rw[eK,jN rs,fF];simp
 | (x::xs)::rs=>by rw[gY,fF,fF,jN rs]
theorem uB (rs:List (List α)):(mw rs).all List.isEmpty=rs.all List.isEmpty:=by
 induction rs with
 | nil=>rfl
 | cons r rs ih=>cases r with
  | nil=>rw[eK,ih];rfl
  | cons x xs=>rw[gY,List.all_cons,List.all_cons];rfl
theorem pY (c:α):∀rs:List (List α),mw ((mw rs).map (d5 c))=mw (rs.map (d5 c))
 | []=>rfl
 | []::rs=>by rw[eK,pY c rs];rfl
 | (x::xs)::rs=>by
  have h:=pY c rs;rw[gY,W5,W5];cases e:d5 c (x::xs) with
  | nil=>rw[eK,eK,h]
  | cons y ys=>rw[gY,gY,h]
theorem qc:∀(n:Nat) (rs:List (List α)),qE n (mw rs)=qE n rs
 | 0,rs=>by rw[qE,qE,uB]
 | n+1,rs=>by
  rw[qE,qE,fZ,fZ,uB,xT];split
  ·rfl
  ·split
   ·rfl
   ·rw[<-qc n,pY,qc n]
theorem xW (rs:List (List α)):mg (mw rs)=mg rs:=by unfold mg;rw[jN,qc]
def jy (rs:List (List α)) (i:Nat):Bool:=match rs[i]? with
 | some (c::_)=>!cK c (rs.take i++rs.drop (i+1))
 | _=>false
theorem oh {c:α}{rs:List (List α)}{i:Nat}{r:List α}(h:rs[i]?=some r):cK c rs=(decide (c∈r.tail)||cK c (rs.take i++rs.drop (i+1))):=by
 obtain⟨hi,e⟩:=Jn.mp h;have:rs=rs.take i++r::rs.drop (i+1):=by
  rw[<-e,<-List.drop_eq_getElem_cons hi,List.take_append_drop]
 conv=>lhs;rw[this]
 unfold cK;rw[List.any_append,List.any_append,List.any_cons];cases decide (c∈r.tail)<;>cases (List.take i rs).any (fun r=>decide (c∈r.tail))<;>rfl
theorem l9 {rs:List (List α)}{i:Nat}{c:α}{cs:List α}(h:rs[i]?=some (c::cs)) (hn:(c::cs).Nodup):jy rs i=!cK c rs:=by
 rw[oh h,jy,h];have:decide (c∈(c::cs).tail)=false:=IK (List.nodup_cons.mp hn).1;rw[this];rfl
theorem vT {rs:List (List α)}(hn:∀r∈rs,r≠[]/\r.Nodup) (h:∀i,i < rs.length->jy rs i=false):fW rs=[]:=by
 unfold fW;rw[List.filter_eq_nil_iff];intro c hc;rw[List.mem_filterMap] at hc;obtain⟨r,hr,e⟩:=hc;obtain⟨i,hi,ei⟩:=JG hr;cases r with
 | nil=>cases e
 | cons x xs=>
  cases e;have h1:=l9 (Jn.mpr ⟨hi,ei⟩) (hn _ hr).2;rw[h i hi] at h1;rw[<-h1];decide
theorem tw {rs:List (List α)}{i:Nat}{c:α}{cs:List α}(hn:∀r∈rs,r≠[]/\r.Nodup) (hi:rs[i]?=some (c::cs)) (ho:jy rs i=true) (h:∀j,j < i->jy rs j=false):∃more,fW rs=c::more:=by
 obtain⟨hl,e⟩:=Jn.mp hi;have hs:rs=rs.take i++(c::cs)::rs.drop (i+1):=by
  rw[<-e,<-List.drop_eq_getElem_cons hl,List.take_append_drop]
 have hc:cK c rs=false:=by
  have:=l9 hi (hn _ (IX hi)).2;rw[ho] at this;revert this;cases cK c rs<;>simp
 have ht:((rs.take i).filterMap List.head?).filter (fun c=>!cK c rs)=[]:=by
  rw[List.filter_eq_nil_iff];intro d hd;rw[List.mem_filterMap] at hd;obtain⟨r,hr,er⟩:=hd;obtain⟨j,hj,ej⟩:=JG hr;rw[W6] at hj;have L8:rs[j]?=some r:=by
   rw[Jn];exact⟨by omega,by rw[<-ej,List.getElem_take]⟩
  cases r with
  | nil=>cases er
  | cons x xs=>
   cases er;have h1:=l9 L8 (hn _ (IX L8)).2;rw[h j (by omega)] at h1;rw[<-h1];decide
 unfold fW;generalize hp:(fun c=>!cK c rs)=p at ht ⊢;refine⟨((rs.drop (i+1)).filterMap List.head?).filter p,?_⟩;have hpc:p c=true:=by rw[<-hp];show(!cK c rs)=true;rw[hc];rfl
 conv=>lhs;rw[hs]
 rw[List.filterMap_append,List.filter_append,ht,List.nil_append,List.filterMap_cons];show List.filter p (c::_)=_;rw[List.filter_cons_of_pos hpc]
theorem pB (c:α):∀r:List α,(d5 c r).Sublist r
 | []=>List.Sublist.refl _
 | x::xs=>by
  rw[d5];split
  ·exact List.sublist_cons_self ..
  ·exact List.Sublist.refl _
theorem rf {c:α}{r:List α}(h:r.Nodup):(d5 c r).Nodup:=h.sublist (pB c r)
end
section
variable {α β:Type} [DecidableEq α] [DecidableEq β]
end
end GS
set_option maxRecDepth 100000
namespace L2
open PySem PySem.Spec PyProof.Rows
abbrev Key:=Sum Int Str
def pH:Key->Value->Bool
 | .inl k,v=>Value.isInt k v
 | .inr x,v=>Value.isStrOf x v
def Ii (w:World):Key->Int
 | .inl k=>hashInt k
 | .inr x=>hashStr w x
theorem dJ:∀{k v},pH k v=true->(∃i t,k=Sum.inl i/\v=Value.int i t)\/(∃x t,k=Sum.inr x/\v=Value.str x t)
 | .inl i,v,h=>by
  obtain⟨t,e⟩:=Value.isInt_shape (k:=i) (v:=v) h;exact .inl ⟨i,t,rfl,e⟩
 | .inr x,v,h=>by
  obtain⟨t,e⟩:=Value.isStrOf_shape (x:=x) (v:=v) h;exact .inr ⟨x,t,rfl,e⟩
theorem vL (i t):pH (.inl i) (.int i t)=true:=by simp[pH,Value.isInt]
theorem vJ (x t):pH (.inr x) (.str x t)=true:=by simp[pH,Value.isStrOf]
theorem Dn (a b):decide ((Sum.inl a:Key)=Sum.inl b)=(a == b):=by
 by_cases e:a=b
 ·subst e;simp
 ·have h:¬(Sum.inl a:Key)=Sum.inl b:=fun q=>e (Sum.inl.inj q);rw[IK h];exact(beq_eq_false_iff_ne.mpr e).symm
theorem Dk (a b):decide ((Sum.inr a:Key)=Sum.inr b)=decide (a=b):=by
 by_cases e:a=b
 ·subst e;simp
 ·have h:¬(Sum.inr a:Key)=Sum.inr b:=fun q=>e (Sum.inr.inj q);rw[IK h,IK e]
theorem Dm (a b):decide ((Sum.inl a:Key)=Sum.inr b)=false:=IK (fun q=>nomatch q)
theorem Dl (a b):decide ((Sum.inr a:Key)=Sum.inl b)=false:=IK (fun q=>nomatch q)
def cC (prog:Program) (w:World):PySem.KeyKind prog w Key where
 is:=pH
 hash:=Ii w
 inj:=fun v a b ha hb=>by
  rcases dJ ha with ⟨i,t,rfl,rfl⟩ | ⟨x,t,rfl,rfl⟩
  ·rcases dJ hb with ⟨j,u,rfl,e⟩ | ⟨y,u,rfl,e⟩
   ·injection e with e1 _;rw[e1]
   ·exact nomatch e
  ·rcases dJ hb with ⟨j,u,rfl,e⟩ | ⟨y,u,rfl,e⟩
   ·exact nomatch e
   ·injection e with e1 _;rw[e1]
 byValue:=fun k v h=>by
  rcases dJ h with ⟨i,t,rfl,rfl⟩ | ⟨x,t,rfl,rfl⟩<;>rfl
 pyHash:=fun hv h=>by
  rcases dJ hv with ⟨i,t,rfl,rfl⟩ | ⟨x,t,rfl,rfl⟩
  ·exact wpAny_pyHash_int h
  ·exact wpAny_pyHash_str h
 eqBool:=fun hu hv h=>by
  rcases dJ hu with ⟨i,t,rfl,rfl⟩ | ⟨x,t,rfl,rfl⟩
  ·rcases dJ hv with ⟨j,u,rfl,rfl⟩ | ⟨y,u,rfl,rfl⟩
   ·rw[Dn] at h;exact wpAny_eqBool_int h
   ·rw[Dm] at h;exact SeqAt.EqAt.int_str i t y u _ _ _ _ h
  ·rcases dJ hv with ⟨j,u,rfl,rfl⟩ | ⟨y,u,rfl,rfl⟩
   ·rw[Dl] at h;exact SeqAt.EqAt.str_int x t j u _ _ _ _ h
   ·rw[Dk] at h;exact wpAny_eqBool_str h
 «strs»:=fun k x t v h=>by
  rcases dJ h with ⟨i,u,rfl,e⟩ | ⟨y,u,rfl,e⟩
  ·exact nomatch e
  ·injection e with e1 _;subst e1;cases v<;>rfl
theorem rp (prog w i t):(cC prog w).is (.inl i) (.int i t)=true:=vL i t
theorem rn (prog w x t):(cC prog w).is (.inr x) (.str x t)=true:=vJ x t
end L2
namespace L2
open PySem PySem.Spec PyProof.Rows
inductive V where
 | bj | bl (b:Bool) | int (i:Int) | str (x:Str) | wj (b:Array UInt8) | GR (b:UInt64) | ref (a:Addr) | ty (n:String)
 deriving DecidableEq
def RelV:V->Value->Prop
 | .bj,u=>u=Value.none
 | .bl b,u=>u=Value.bool b
 | .int i,u=>∃t,u=Value.int i t
 | .str x,u=>∃t,u=Value.str x t
 | .wj b,u=>∃t,u=Value.bytes b t
 | .GR b,u=>∃t,u=Value.float b t
 | .ref a,u=>u=Value.ref a
 | .ty n,u=>u=Value.type n
abbrev WY:List V->List Value->Prop:=Paired RelV
theorem WY.length {xs us}(r:WY xs us):xs.length=us.length:=Paired.length r
theorem WY.get:∀{xs:List V}{us:List Value}{i:Nat}{x:V},WY xs us->xs[i]?=some x->∃u,us[i]?=some u/\RelV x u
 | _,_,_,_,.nil,e=>by simp at e
 | _,_,0,_,.cons r _,e=>by simp at e;subst e;exact⟨_,rfl,r⟩
 | _,_,i+1,x,.cons _ t,e=>by
  obtain⟨u,h1,h2⟩:=WY.get (i:=i) (x:=x) t (by simpa using e);exact⟨u,by simpa using h1,h2⟩
theorem WY.set {x u}(r:RelV x u):∀{xs us} i,WY xs us->WY (xs.set i x) (us.set i u)
 | _,_,_,.nil=>.nil
 | _,_,0,.cons _ t=>.cons r t
 | _,_,i+1,.cons q t=>.cons q (WY.set r i t)
theorem WY.append:∀{xs ys us ws},WY xs us->WY ys ws->WY (xs++ys) (us++ws)
 | _,_,_,_,.nil,s=>s
 | _,_,_,_,.cons r t,s=>.cons r (WY.append t s)
theorem WY.take:∀{xs us} n,WY xs us->WY (xs.take n) (us.take n)
 | _,_,0,_=>.nil
 | _,_,_+1,.nil=>.nil
 | _,_,n+1,.cons r t=>.cons r (WY.take n t)
theorem WY.drop:∀{xs us} n,WY xs us->WY (xs.drop n) (us.drop n)
 | _,_,0,r=>r
 | _,_,_+1,.nil=>.nil
 | _,_,n+1,.cons _ t=>WY.drop n t
def kH:Option V->Option Value->Prop
 | some v,some u=>RelV v u
 | none,none=>True
 | _,_=>False
def KV {κ:Type}:List (κ×V)->List (κ×Value)->Prop:=Paired fun(p:κ×V) (q:κ×Value)=>p.1=q.1/\RelV p.2 q.2
def kV:Key->V
 | .inl i=>.int i
 | .inr x=>.str x
inductive HO where
 | lst (xs:List V)
 | tup (xs:List V)
 | dK (WI:List (Key×V)) | dT (WI:List (List Key×V))
 | set (S:Int->Bool) (n:Nat)
 | ins (C dx:Addr) (fs:List (Str×V))
 | own (x:Addr)
 | xd (fs:List (Str×V))
 | met (f x:Addr)
 | HB (lo hi:Int)
 | mB (o:Obj) (u:HO)
 | AZ (ps:Array Value)
 | ext (φ:Heap->Prop)
abbrev Hp:=Addr->Option HO
def WX (H:Hp) (a:Addr) (o:HO):Hp:=fun b=>if b=a then some o else H b
theorem ao {H a o}:WX H a o a=some o:=by unfold WX;rw[IZ rfl]
theorem aB {H a b o}(h:b≠a):WX H a o b=H b:=by unfold WX;rw[IY h]
theorem FQ {H:Hp}{a b:Addr}{o u:HO}(h:H a=some o) (h':H b=some u) (d:o≠u):a≠b:=by
 intro e;subst e;rw[h] at h';exact d (Option.some.inj h')
theorem cU {H:Hp}{a b:Addr}{o:HO}(h:H a=some o) (h':H b=none):a≠b:=by
 intro e;subst e;rw[h] at h';cases h'
section
variable (P:Program) (w:World)
def eG (H:Hp) (h:Heap) (a:Addr):HO->Prop
 | .lst xs=>xs.length<=sizeLine/\∃WJ n,WY xs WJ/\h.get? a=some { cls:=.type "list",data:=.seq WJ.toArray n }
 | .tup xs=>xs.length<=sizeLine/\∃WJ:List Value,WY xs WJ/\IsTup h a WJ.toArray
 | .dK WI=>WI.length<=sizeLine/\(a == sysModules)=false/\∃vs,KV WI vs/\h.DictOf (cC P w) a vs
 | .dT WI=>WI.length<=sizeLine/\(a == sysModules)=false/\∃xs:List (List Key×Addr×Value),
   Paired (fun p q=>p.1=q.1/\H q.2.1=some (.tup (p.1.map kV))/\RelV p.2 q.2.2) WI xs/\
   ∃o es ep,h.get? a=some o/\o.ExactDict/\o.data=.dict es ep/\es.toList=xs.map (entryOfKey (tupleKind (cC P w)))/\(xs.map (·.1)).Nodup
 | .set S n=>h.SetOf (intKind P w) a S n
 | .ins C dx fs=>H dx=some (.own a)/\fs.length<=1000/\dx≠a/\h.get? a=some (PySem.W.instObj C dx)/\
   ∃mA,h.Ns1 dx mA/\(∀f,kH (fs.lookup f) (mA f))/\PySem.Within mA (fs.map (·.1))
 | .own _=>∃o,h.get? a=some o
 | .xd fs=>∃mA,h.Ns1 a mA/\∀f,kH (fs.lookup f) (mA f)
 | .HB lo hi=>∃t u v,h.get? a=some { cls:=.type "range",data:=.fields #[.int lo t,.int hi u,.int 1 v] }
 | .mB o u=>h.get? a=some o/\eG H h a u
 | .AZ ps=>h.get? a=some { cls:=.none,data:=.fields ps }
 | .met f x=>h.get? a=some (PySem.W.methodObj (.ref f) (.ref x))
 | .ext φ=>φ h/\(∃o,h.get? a=some o)/\∀h1 h2:Heap,φ h1->(∀o,h1.get? a=some o->h2.get? a=some o)->φ h2
def kP (H:Hp) (h:Heap):Prop:=∀a o,H a=some o->eG P w H h a o
end
section
variable {P:Program}{w:World}{H H':Hp}{h h':Heap}{a:Addr}{o:HO}
theorem eG.lt (x:eG P w H h a o):a < h.objs.size:=by
 cases o with
 | lst xs=>obtain⟨_,_,_,_,e⟩:=x;exact Jw e
 | tup xs=>obtain⟨_,_,_,p⟩:=x;exact p.lt
 | dK WI=>obtain⟨_,_,_,_,o,_,_,e,_⟩:=x;exact Jw e
 | dT WI=>obtain⟨_,_,_,_,o,_,_,e,_⟩:=x;exact Jw e
 | set S n=>obtain⟨o,_,_,_,e,_⟩:=x;exact Jw e
 | ins C dx fs=>obtain⟨_,_,_,e,_⟩:=x;exact Jw e
 | own y=>obtain⟨_,e⟩:=x;exact Jw e
 | xd fs=>obtain⟨_,⟨_,_,_,e,_⟩,_⟩:=x;exact Jw e
 | HB lo hi=>obtain⟨_,_,_,e⟩:=x;exact Jw e
 | mB ob u=>obtain⟨e,_⟩:=x;exact Jw e
 | AZ ps=>exact Jw (show h.get? a=some _ from x)
 | met f y=>exact Jw (show h.get? a=some _ from x)
 | ext φ=>obtain⟨_,⟨_,e⟩,_⟩:=x;exact Jw e
theorem Paired.Dh {α β:Type}{F G:α->β->Prop}:∀{l₁:List α}{l₂:List β},Paired F l₁ l₂->(∀a b,F a b->G a b)->Paired G l₁ l₂
 | _,_,.nil,_=>.nil
 | _,_,.cons r t,f=>.cons (f _ _ r) (Paired.Dh t f)
theorem eG.sD (x:eG P w H h a o) (k:∀b u,(b=a\/H b=some (.own a))->h.get? b=some u->h'.get? b=some u)
  (ho:∀b,H b=some (.own a)->H' b=some (.own a)) (ht:∀b xs,H b=some (.tup xs)->H' b=some (.tup xs)):eG P w H' h' a o:=by
 induction o with
 | lst xs=>obtain⟨z,WJ,n,r,e⟩:=x;exact⟨z,WJ,n,r,k _ _ (.inl rfl) e⟩
 | tup xs=>obtain⟨z,WJ,r,ob,e,c⟩:=x;exact⟨z,WJ,r,ob,k _ _ (.inl rfl) e,c⟩
 | dK WI=>obtain⟨z,y,vs,r,ob,es,ep,e,c⟩:=x;exact⟨z,y,vs,r,ob,es,ep,k _ _ (.inl rfl) e,c⟩
 | dT WI=>
  obtain⟨z,y,xs,r,ob,es,ep,e,c⟩:=x;exact⟨z,y,xs,Paired.Dh r fun p q z=>⟨z.1,ht _ _ z.2.1,z.2.2⟩,ob,es,ep,k _ _ (.inl rfl) e,c⟩
 | set S n=>obtain⟨ob,es,ep,t,e,c⟩:=x;exact⟨ob,es,ep,t,k _ _ (.inl rfl) e,c⟩
 | ins C dx fs=>
  obtain⟨d,z,ne,e,mA,⟨od,es,ep,e2,c⟩,r⟩:=x;exact⟨ho _ d,z,ne,k _ _ (.inl rfl) e,mA,⟨od,es,ep,k _ _ (.inr d) e2,c⟩,r⟩
 | own y=>obtain⟨ob,e⟩:=x;exact⟨ob,k _ _ (.inl rfl) e⟩
 | xd fs=>obtain⟨mA,⟨od,es,ep,e,c⟩,r⟩:=x;exact⟨mA,⟨od,es,ep,k _ _ (.inl rfl) e,c⟩,r⟩
 | HB lo hi=>obtain⟨t,u,v,e⟩:=x;exact⟨t,u,v,k _ _ (.inl rfl) e⟩
 | mB ob u ih=>obtain⟨e,q⟩:=x;exact⟨k _ _ (.inl rfl) e,ih q⟩
 | AZ ps=>
  have e:h.get? a=some { cls:=.none,data:=.fields ps }:=x;show h'.get? a=some { cls:=.none,data:=.fields ps };exact k a _ (.inl rfl) e
 | met f y=>
  have e:h.get? a=some (PySem.W.methodObj (.ref f) (.ref y)):=x;show h'.get? a=some (PySem.W.methodObj (.ref f) (.ref y));exact k a _ (.inl rfl) e
 | ext φ=>obtain⟨p,⟨o,e⟩,st⟩:=x;exact⟨st _ _ p fun o q=>k _ _ (.inl rfl) q,⟨o,k _ _ (.inl rfl) e⟩,st⟩
theorem kP.lt (x:kP P w H h) (e:H a=some o):a < h.objs.size:=(x a o e).lt
theorem kP.fresh (x:kP P w H h) (e:h.objs.size<=a):H a=none:=by
 cases q:H a with
 | none=>rfl
 | some u=>exact Xc (Ju (x.lt q) e) (W9 _)
theorem kP.kept (x:kP P w H h) (k:∀b u,h.get? b=some u->h'.get? b=some u):kP P w H h':=fun a o e=>
 (x a o e).sD (fun b u _ q=>k b u q) (fun _ q=>q) fun _ _ q=>q
theorem kP.laid (x:kP P w H h) (k:∀b u,h.get? b=some u->h'.get? b=some u) (hp:h.objs.size<=a) (new:eG P w (WX H a o) h' a o):kP P w (WX H a o) h':=fun b u e=>by
 have hn:=x.fresh hp;by_cases hb:b=a
 ·subst hb;rw[ao] at e;cases e;exact new
 ·rw[aB hb] at e;exact(x b u e).sD (fun c v _ q=>k c v q) (fun c q=>by rw[aB (cU q hn)];exact q) fun c xs q=>by rw[aB (cU q hn)];exact q
end
def Rd (H:Hp) (a:Addr) (u:HO):Prop:=H a=some u\/∃o,H a=some (.mB o u)
theorem Rd.ok {P w H h a u}(r:Rd H a u) (x:kP P w H h):eG P w H h a u:=by
 rcases r with r | ⟨o,r⟩
 ·exact x a u r
 ·obtain⟨_,q⟩:=x a _ r;exact q
def Gw:Option HO->Prop
 | some (.lst _)=>True
 | some (.dK _)=>True
 | some (.dT _)=>True
 | some (.set _ _)=>True
 | some (.ins _ _ _)=>True
 | some (.ext _)=>True
 | _=>False
section
variable {P:Program}{w:World}{H:Hp}{h h':Heap}{x e:Addr}{o':HO}
theorem kP.write (ok:kP P w H h) (mu:Gw (H x)) (he:e=x\/H e=some (.own x)) (k:∀b u,b≠e->h.get? b=some u->h'.get? b=some u) (Pb:∃u,h'.get? e=some u)
  (new:eG P w (WX H x o') h' x o'):kP P w (WX H x o') h':=fun b u q=>by
 have nown:∀c y,H c=some (.own y)->c≠x:=fun c y r z=>by subst z;rw[r] at mu;exact mu
 have ntup:∀c xs,H c=some (.tup xs)->c≠x:=fun c xs r z=>by subst z;rw[r] at mu;exact mu
 by_cases hb:b=x
 ·subst hb;rw[ao] at q;cases q;exact new
 ·rw[aB hb] at q;by_cases OG:b=e
  ·have q':H b=some (.own x):=by
    rcases he with z | z
    ·exact Xc (OG.trans z) hb
    ·rw[OG];exact z
   rw[q] at q';cases q';obtain⟨v,hv⟩:=Pb;exact⟨v,by rw[OG];exact hv⟩
  ·refine(ok b u q).sD (fun c v hc r=>k c v ?_ r) (fun c r=>by rw[aB (nown c b r)];exact r) fun c xs r=>by rw[aB (ntup c xs r)];exact r
   rcases hc with rfl | hc
   ·exact OG
   ·rintro rfl;rcases he with z | z
    ·exact nown c b hc z
    ·rw[hc] at z;cases z;exact hb rfl
end
structure Un (fs ex:List Addr) (H H':Hp) (h h':Heap):Prop where
 keep:∀b o,h.get? b=some o->H b=none->b∉fs->b∉ex->h'.get? b=some o
 slot:∀b o,h.get? b=some o->H b=none->b∈fs->b∉ex->∃sl,h'.get? b=some { o with slots:=sl }
 free:∀b o,h.get? b=some o->H b=none->b∉ex->H' b=none
 there:∀b o,h.get? b=some o->b∉ex->∃o',h'.get? b=some o'
 oN:∀b xs,H b=some (.tup xs)->H' b=some (.tup xs)
 oj:∀b o u,H b=some (.mB o u)->H' b=some (.mB o u)
 oP:∀b ps,H b=some (.AZ ps)->∃more,H' b=some (.AZ (ps++more))
section
variable {fs JM ex ex':List Addr}{H H1 H2:Hp}{h h1 h2 h':Heap}{a x e:Addr}{o:HO}
theorem Un.any (u:Un fs ex H H1 h h1) {b ob}(q:h.get? b=some ob) (n:H b=none) (hx:b∉ex):∃sl,h1.get? b=some { ob with slots:=sl }:=by
 by_cases hb:b∈fs
 ·exact u.slot b ob q n hb hx
 ·exact⟨ob.slots,u.keep b ob q n hb hx⟩
theorem Un.kept (k:∀b u,h.get? b=some u->h'.get? b=some u):Un fs ex H H h h':=
 ⟨fun b ob q _ _ _=>k b ob q,fun b ob q _ _ _=>⟨ob.slots,k b ob q⟩,fun _ _ _ n _=>n,fun b ob q _=>⟨ob,k b ob q⟩,fun _ _ q=>q,fun _ _ _ q=>q,fun _ ps q=>⟨#[],by rw[q];simp⟩⟩
theorem Un.refl:Un fs ex H H h h:=Un.kept fun _ _ q=>q
theorem Un.laid (k:∀b u,h.get? b=some u->h'.get? b=some u) (hp:h.objs.size<=a) (hn:H a=none):Un fs ex H (WX H a o) h h' where
 keep:=fun b u q _ _ _=>k b u q
 slot:=fun b u q _ _ _=>⟨u.slots,k b u q⟩
 free:=fun b u q n _=>by rw[aB (Jx (Ju (Jw q) hp))];exact n
 there:=fun b u q _=>⟨u,k b u q⟩
 oN:=fun b xs q=>by rw[aB (cU q hn)];exact q
 oj:=fun b u xs q=>by rw[aB (cU q hn)];exact q
 oP:=fun b ps q=>⟨#[],by rw[aB (cU q hn),q];simp⟩
theorem Un.write (mu:Gw (H x)) (he:e=x\/H e=some (.own x)) (k:∀b u,b≠e->h.get? b=some u->h'.get? b=some u) (Pb:∃u,h'.get? e=some u):Un fs ex H (WX H x o) h h':=by
 have hx:∀b,H b=none->b≠x:=fun b n z=>by subst z;rw[n] at mu;exact mu
 have hb:∀b,H b=none->b≠e:=fun b n z=>by
  subst z;rcases he with r | r
  ·exact hx b n r
  ·rw[n] at r;cases r
 have hm:∀b u,H b=some u->¬Gw (some u)->b≠x:=fun b u q nm z=>by subst z;rw[q] at mu;exact nm mu
 refine⟨fun b u q n _ _=>k b u (hb b n) q,fun b u q n _ _=>⟨u.slots,k b u (hb b n) q⟩,fun b u q n _=>by rw[aB (hx b n)];exact n,fun b u q _=>?_,
  fun b xs q=>by rw[aB (hm b _ q fun z=>z)];exact q,fun b u xs q=>by rw[aB (hm b _ q fun z=>z)];exact q,fun b ps q=>⟨#[],by rw[aB (hm b _ q fun z=>z),q];simp⟩⟩
 by_cases OG:b=e
 ·subst OG;exact Pb
 ·exact⟨u,k b u OG q⟩
end
def GD (h:Heap) (H:Hp):List Addr:=(List.range h.objs.size).filter fun a=>(H a).isSome
def qk (h:Heap) (H:Hp):Heap:=PySem.W.hideAll h (GD h H)
theorem vP (h H):(qk h H).objs.size=h.objs.size:=PySem.W.hideAll_size _ _
theorem yh {h H b o}(e:h.get? b=some o) (n:H b=none):(qk h H).get? b=some o:=
 PySem.W.hideAll_get _ e fun hm=>by
  have q:(H b).isSome=true:=(JC.mp hm).2;rw[n] at q;simp at q
theorem zG {h H b o}(e:(qk h H).get? b=some o):h.get? b=some o/\H b=none:=by
 have e':h.get? b=some o:=PySem.W.of_hideAll (GD h H) e;refine⟨e',?_⟩;cases q:H b with
 | none=>rfl
 | some x=>
  have hm:b∈GD h H:=JC.mpr ⟨List.mem_range.mpr (Jw e'),by simp[q]⟩;have z:(qk h H).get? b=none:=PySem.W.hideAll_none (GD h H) hm;rw[z] at e;cases e
end L2
namespace L2
open PySem PySem.Spec PyProof.Rows
structure Mod (K:Fg06) (mg:Str->Option Value) (base:Heap):Prop where
 GP:K.In base
 glob:base.Ns mainGlobals mg
 blt:∃mb,base.Ns builtinsNs mb/\∀x:Str,x≠"__name__"->mb x=bootBuiltins x
 nolimit:base.NoLimit
structure Cx where
 prog:Program
 w:World
 K:Fg06
 mg:Str->Option Value
 base:Heap
 A:Around
 N:List Str
 s₀:Shared
 H₀:Hp
 env:Env
 outer:List Env
 stack:List Env
 ex:List Addr
 fn:Str->Bool
 calm:Bool
 pn:List (Addr×Obj)
 xe:Value->Shared->Prop
def yq (l:List Env):List Addr:=l.filterMap (·.frame)
abbrev Cx.fs (X:Cx):List Addr:=yq X.outer
def GU (sc:Scope) (x:Str):Prop:=sc.names.lookup x=some .local\/sc.names.lookup x=some .cell\/sc.names.lookup x=some .free
def Loc (sc:Scope) (x:Str):Prop:=sc.names.lookup x=some .local\/sc.names.lookup x=some .cell
def Look (env:Env) (h:Heap) (m:Str->Option Value) (x:Str) (u:Value):Prop:=
 (env.kindOf x=some .local/\m x=some u)\/((env.kindOf x=some .cell\/env.kindOf x=some .free)/\∃c,env.cells.lookup x=some c/\h.IsCell c (some u))
structure Cx.Ok (X:Cx):Prop where
 mod:Mod X.K X.mg X.base
 kind:X.env.scope.kind=.function
 glob:X.env.globals=mainGlobals
 blt:X.env.builtins=builtinsNs
 above:X.s₀.heap.objs.size<=X.env.locals
 inj:∀x y c,X.env.cells.lookup x=some c->X.env.cells.lookup y=some c->x=y
 has:∀x,(X.env.kindOf x=some .cell\/X.env.kindOf x=some .free)->∃c,X.env.cells.lookup x=some c
 Gi:∀x c,X.fn x=true->X.env.cells.lookup x=some c->X.s₀.heap.objs.size<=c
 hd:X.calm=true->X.A.handled=none
 frames:X.A.frames=some X.stack
 GI:X.stack=X.outer\/(X.stack=X.env::X.outer/\X.env.frame=some X.env.locals)
 exf:∀b∈X.ex,b≠X.env.locals/\∀x c,X.env.cells.lookup x=some c->c≠b
 bs:∀b o,X.base.get? b=some o->X.s₀.heap.get? b=some o/\X.H₀ b=none
 zW:X.base.objs.size<=X.s₀.heap.objs.size
 xS:∀b o,X.base.get? b=some o->b∉X.ex
 zT:∀b∈X.ex,b∉X.fs
 mI:X.s₀.heap.FunFrames X.base X.outer
 Dt:∀b∈X.fs,X.H₀ b=none
structure Inv (X:Cx) (WG:List (Addr×Obj)) (σ:List (Option V)) (H:Hp) (s:Shared):Prop where
 ok:X.Ok
 os:s.os=X.s₀.os
 bare:AllBare s.gens
 base:Un X.fs X.ex X.H₀ H X.s₀.heap s.heap
 loc:∃m,s.heap.Ns X.env.locals m/\∀(i:Nat) (x:Str) (v:V),X.N[i]?=some x->σ[i]?=some (some v)->GU X.env.scope x->∃u,RelV v u/\Look X.env s.heap m x u
 cell:∀x c,X.env.cells.lookup x=some c->∃v,s.heap.IsCell c v
 free:H X.env.locals=none
 j8:∀x c,X.env.cells.lookup x=some c->H c=none
 pin:∀p∈X.pn++WG,s.heap.get? p.1=some p.2/\H p.1=none/\p.1≠X.env.locals/\p.1∉X.fs/\∀v,p.2.data≠.cell v
 cP:kP X.prog X.w H s.heap
 len:σ.length=X.N.length
section
variable {X:Cx}{WG:List (Addr×Obj)}{σ:List (Option V)}{H H':Hp}{s:Shared}{h':Heap}
theorem Cx.Ok.HY (ok:X.Ok) {b o}(e:X.base.get? b=some o):b∉X.fs:=fun hb=>by
 have:=(ok.mI.mem hb).1;rw[e] at this;cases this
theorem Inv.bs (I:Inv X WG σ H s):∀b o,X.base.get? b=some o->s.heap.get? b=some o/\H b=none:=fun b o e=>
 ⟨I.base.keep b o (I.ok.bs b o e).1 (I.ok.bs b o e).2 (I.ok.HY e) (I.ok.xS b o e),I.base.free b o (I.ok.bs b o e).1 (I.ok.bs b o e).2 (I.ok.xS b o e)⟩
theorem Inv.bk (I:Inv X WG σ H s):∀b o,X.base.get? b=some o->s.heap.get? b=some o:=fun b o e=>(I.bs b o e).1
theorem Inv.mod (I:Inv X WG σ H s):Mod X.K X.mg X.base:=I.ok.mod
theorem Inv.sU (I:Inv X WG σ H s):X.K.In s.heap:=I.ok.mod.GP.keeps I.bk
theorem Inv.lt (I:Inv X WG σ H s):X.env.locals < s.heap.objs.size:=let ⟨_,hn,_⟩:=I.loc;hn.lt
theorem Inv.sz (I:Inv X WG σ H s):X.s₀.heap.objs.size<=s.heap.objs.size:=IV I.ok.above (Nat.le_of_lt I.lt)
theorem Inv.HX (I:Inv X WG σ H s){a:Addr}(h:s.heap.objs.size<=a):a∉X.fs:=fun hb=>by
 obtain⟨_,o,ho,_⟩:=I.ok.mI.mem hb;exact Xc (Ju (Jw ho) (IV I.sz h)) (W9 _)
theorem Inv.DA (I:Inv X WG σ H s):∀x c,X.env.cells.lookup x=some c->c≠X.env.locals:=fun x c e z=>by
 obtain⟨v,o,ho,hd⟩:=I.cell x c e;obtain⟨m,⟨o',es,ep,Ko,Mu,_⟩,_⟩:=I.loc;rw[z,Ko] at ho;cases ho;rw[Mu] at hd;cases hd
theorem Inv.mI (I:Inv X WG σ H s):s.heap.FunFrames X.base X.outer:=by
 have all:∀(l:List Env),(∀b∈yq l,b∈X.fs)->X.s₀.heap.FunFrames X.base l->s.heap.FunFrames X.base l:=by
  intro l
  induction l with
  | nil=>intro _ _;trivial
  | cons env r ih=>
   intro hs hl;obtain⟨hk,⟨L,o,hf,hn,ho,hd⟩,hr⟩:=hl;have hL:L∈X.fs:=hs L (by unfold yq;rw[List.filterMap_cons,hf];exact II);obtain⟨sl,e⟩:=I.base.slot L o ho (I.ok.Dt L hL) hL fun z=>I.ok.zT L z hL;exact⟨hk,⟨L,_,hf,hn,e,hd⟩,ih (fun b hb=>hs b (by unfold yq;rw[List.filterMap_cons,hf];exact IH _ hb)) hr⟩
 exact all X.outer (fun _ hb=>hb) I.ok.mI
theorem Inv.stack (I:Inv X WG σ H s):s.heap.FunFrames X.base X.stack:=by
 rcases I.ok.GI with e | ⟨e,hf⟩
 ·rw[e];exact I.mI
 ·rw[e];obtain⟨m,hn,_⟩:=I.loc;refine .cons (by rw[I.ok.kind];decide) hf hn ?_ I.mI;exact Heap.get?_none_of_le (IV I.ok.zW I.ok.above)
theorem Inv.nI (I:Inv X WG σ H s):∀b∈yq X.stack,b∈X.env.locals::X.fs:=fun b hb=>by
 rcases I.ok.GI with e | ⟨e,hf⟩
 ·rw[e] at hb;exact IH _ hb
 ·rw[e] at hb;unfold yq at hb;rw[List.filterMap_cons,hf] at hb;exact hb
theorem Inv.uc (I:Inv X WG σ H s):∀b∈yq X.stack,H b=none:=fun b hb=>by
 rcases Jv.mp (I.nI b hb) with e | hb
 ·rw[e];exact I.free
 ·obtain⟨_,o,ho,_⟩:=I.ok.mI.mem hb;exact I.base.free b o ho (I.ok.Dt b hb) fun z=>I.ok.zT b z hb
theorem Inv.step {g':Array GenState}{t':Nat}{d':Drawn}{ch:List Addr}(I:Inv X WG σ H s)
  (ML:∀b∈ch,(b∈X.ex\/X.s₀.heap.objs.size<=b)/\b≠X.env.locals/\(∀x c,X.env.cells.lookup x=some c->c≠b)/\∀p∈X.pn++WG,p.1≠b)
  (keep:∀b o,b≠X.env.locals->b∉X.fs->b∉ch->s.heap.get? b=some o->H b=none->h'.get? b=some o)
  (slot:∀b o,b≠X.env.locals->b∈X.fs->b∉ch->s.heap.get? b=some o->H b=none->∃sl,h'.get? b=some { o with slots:=sl }) (free:∀b o,b∉ch->s.heap.get? b=some o->H b=none->H' b=none)
  (there:∀b o,b∉ch->s.heap.get? b=some o->∃o',h'.get? b=some o')
  (oN:∀b xs,H b=some (.tup xs)->H' b=some (.tup xs)) (oj:∀b o u,H b=some (.mB o u)->H' b=some (.mB o u)) (oP:∀b ps,H b=some (.AZ ps)->∃more,H' b=some (.AZ (ps++more)))
  (ns:∀m,s.heap.Ns X.env.locals m->h'.Ns X.env.locals m) (cP:kP X.prog X.w H' h') (hg:AllBare g'):
  Inv X WG σ H' { s with heap:=h',gens:=g',drawn:=d',toks:=t' }:=by
 have neL:∀b o,X.s₀.heap.get? b=some o->b≠X.env.locals:=fun b o e=>Jx (Ju (Jw e) I.ok.above);have neC:∀b o,X.s₀.heap.get? b=some o->b∉X.ex->b∉ch:=fun b o e hx hb=>by
  rcases(ML b hb).1 with z | z
  ·exact hx z
  ·exact Xc (Ju (Jw e) z) (W9 _)
 have cellK:∀x c,X.env.cells.lookup x=some c->∀v,s.heap.IsCell c v->h'.IsCell c v:=fun x c e v ⟨o,ho,hd⟩=>by
  have nch:c∉ch:=fun z=>(ML c z).2.2.1 x c e rfl;by_cases hc:c∈X.fs
  ·obtain⟨sl,q⟩:=slot c o (I.DA x c e) hc nch ho (I.j8 x c e);exact⟨_,q,hd⟩
  ·exact⟨o,keep c o (I.DA x c e) hc nch ho (I.j8 x c e),hd⟩
 refine⟨I.ok,I.os,hg,⟨fun b o e n hb hx=>?_,fun b o e n hb hx=>?_,fun b o e n hx=>?_,fun b o e hx=>?_,fun b xs e=>oN b xs (I.base.oN b xs e),fun b o xs e=>oj b o xs (I.base.oj b o xs e),fun b ps e=>?_⟩,?_,fun x c e=>?_,?_,fun x c e=>?_,fun p hp=>?_,cP,I.len⟩
 ·exact keep b o (neL b o e) hb (neC b o e hx) (I.base.keep b o e n hb hx) (I.base.free b o e n hx)
 ·obtain⟨sl,e1⟩:=I.base.slot b o e n hb hx;obtain⟨sl',e2⟩:=slot b _ (neL b o e) hb (neC b o e hx) e1 (I.base.free b o e n hx);exact⟨sl',e2⟩
 ·obtain⟨o',e1⟩:=I.base.there b o e hx;exact free b o' (neC b o e hx) e1 (I.base.free b o e n hx)
 ·obtain⟨o',e1⟩:=I.base.there b o e hx;exact there b o' (neC b o e hx) e1
 ·obtain⟨m1,e1⟩:=I.base.oP b ps e;obtain⟨m2,e2⟩:=oP b _ e1;exact⟨m1++m2,by rw[e2,Array.append_assoc]⟩
 ·obtain⟨m,hn,hl⟩:=I.loc;refine⟨m,ns m hn,fun i x v e1 e2 e3=>?_⟩;obtain⟨u,r,l⟩:=hl i x v e1 e2 e3;refine⟨u,r,?_⟩;rcases l with l | ⟨k,c,e,z⟩
  ·exact .inl l
  ·exact .inr ⟨k,c,e,cellK x c e _ z⟩
 ·obtain⟨v,z⟩:=I.cell x c e;exact⟨v,cellK x c e v z⟩
 ·obtain⟨m,⟨o,_,_,ho,_⟩,_⟩:=I.loc;exact free _ o (fun z=>(ML _ z).2.1 rfl) ho I.free
 ·obtain⟨v,o,ho,hd⟩:=I.cell x c e;exact free c o (fun z=>(ML c z).2.2.1 x c e rfl) ho (I.j8 x c e)
 ·obtain⟨e,n,ne,nf,d⟩:=I.pin p hp;have nch:p.1∉ch:=fun z=>(ML p.1 z).2.2.2 p hp rfl;exact⟨keep p.1 p.2 ne nf nch e n,free p.1 p.2 nch e n,ne,nf,d⟩
theorem Inv.un {t':Nat}(I:Inv X WG σ H s) (u:Un X.fs [] H H' s.heap h') (cP:kP X.prog X.w H' h'):Inv X WG σ H' { s with heap:=h',toks:=t' }:=by
 obtain⟨m,⟨o,es,ep,ho,r⟩,_⟩:=id I.loc;obtain⟨sl,hL⟩:=u.any ho I.free (by simp);exact I.step (g':=s.gens) (d':=s.drawn) (ch:=[]) (fun _ z=>nomatch z) (fun b o _ hb _ e n=>u.keep b o e n hb (by simp)) (fun b o _ hb _ e n=>u.slot b o e n hb (by simp)) (fun b o _ e n=>u.free b o e n (by simp)) (fun b o _ e=>u.there b o e (by simp)) u.oN u.oj u.oP (fun m' hm=>by
  obtain⟨o',TR,TU,Ko,r'⟩:=hm;rw[ho] at Ko;cases Ko;exact⟨_,TR,TU,hL,r'⟩) cP I.bare
theorem Inv.call {g':Array GenState}{t':Nat}{d':Drawn}{ch:List Addr}(I:Inv X WG σ H s) (u:Un (yq X.stack) ch H H' s.heap h') (cP:kP X.prog X.w H' h') (hg:AllBare g')
  (ML:∀b∈ch,(b∈X.ex\/X.s₀.heap.objs.size<=b)/\b≠X.env.locals/\(∀x c,X.env.cells.lookup x=some c->c≠b)/\∀p∈X.pn++WG,p.1≠b):
  Inv X WG σ H' { s with heap:=h',gens:=g',drawn:=d',toks:=t' }:=by
 obtain⟨m,⟨o,es,ep,ho,r⟩,_⟩:=id I.loc;obtain⟨sl,hL⟩:=u.any ho I.free fun z=>(ML _ z).2.1 rfl;exact I.step (ch:=ch) ML (fun b o hL hb hc e n=>u.keep b o e n (fun z=>(Jv.mp (I.nI b z)).elim hL hb) hc) (fun b o _ _ hc e n=>u.any e n hc) (fun b o hc e n=>u.free b o e n hc) (fun b o hc e=>u.there b o e hc) u.oN u.oj u.oP (fun m' hm=>by
  obtain⟨o',TR,TU,Ko,r'⟩:=hm;rw[ho] at Ko;cases Ko;exact⟨_,TR,TU,hL,r'⟩) cP hg
theorem Inv.turned {t':Nat}{it:Addr}(I:Inv X WG σ H s) (k:∀b o,b≠it->s.heap.get? b=some o->h'.get? b=some o) (hn:H it=none) (hL:it≠X.env.locals)
  (h1:it∈X.ex\/X.s₀.heap.objs.size<=it) (h2:∀x c,X.env.cells.lookup x=some c->c≠it) (h3:∀p∈X.pn++WG,p.1≠it):Inv X WG σ H { s with heap:=h',toks:=t' }:=by
 have nit:∀b u,H b=some u->b≠it:=fun b u e z=>by rw[z,hn] at e;cases e
 refine I.step (g':=s.gens) (d':=s.drawn) (ch:=[it]) (fun b hb=>?_) (fun b o _ _ hc e _=>k b o (fun z=>hc (by simp[z])) e) (fun b o _ _ hc e _=>⟨o.slots,k b o (fun z=>hc (by simp[z])) e⟩) (fun _ _ _ _ n=>n)
  (fun b o hc e=>⟨o,k b o (fun z=>hc (by simp[z])) e⟩) (fun _ _ e=>e) (fun _ _ _ e=>e) (fun b ps e=>⟨#[],by rw[e];simp⟩) (fun m hm=>?_) (fun b u e=>?_) I.bare
 ·have e:b=it:=by simpa using hb
  subst e;exact⟨h1,hL,h2,h3⟩
 ·obtain⟨o,es,ep,ho,r⟩:=hm;exact⟨o,es,ep,k _ o (W3 hL) ho,r⟩
 ·refine(I.cP b u e).sD (fun c v hc q=>k c v ?_ q) (fun _ q=>q) fun _ _ q=>q;rcases hc with z | z
  ·rw[z];exact nit b u e
  ·exact nit c _ z
theorem Inv.tok (I:Inv X WG σ H s) (t:Nat):Inv X WG σ H { s with toks:=t }:=I.un (h':=s.heap) (t':=t) Un.refl I.cP
theorem Inv.kept {t':Nat}(I:Inv X WG σ H s) (k:∀b u,s.heap.get? b=some u->h'.get? b=some u):Inv X WG σ H { s with heap:=h',toks:=t' }:=I.un (Un.kept k) (I.cP.kept k)
theorem Inv.laid {a:Addr}{o:HO}{t':Nat}(I:Inv X WG σ H s) (k:∀b u,s.heap.get? b=some u->h'.get? b=some u) (hp:s.heap.objs.size<=a) (new:eG X.prog X.w (WX H a o) h' a o):
  Inv X WG σ (WX H a o) { s with heap:=h',toks:=t' }:=I.un (Un.laid k hp (I.cP.fresh hp)) (I.cP.laid k hp new)
theorem Inv.write {x e:Addr}{o:HO}{t':Nat}(I:Inv X WG σ H s) (mu:Gw (H x)) (he:e=x\/H e=some (.own x)) (k:∀b u,b≠e->s.heap.get? b=some u->h'.get? b=some u) (Pb:∃u,h'.get? e=some u)
  (new:eG X.prog X.w (WX H x o) h' x o):Inv X WG σ (WX H x o) { s with heap:=h',toks:=t' }:=I.un (Un.write mu he k Pb) (I.cP.write mu he k Pb new)
theorem Inv.uq {Nn:List (Addr×Obj)}(I:Inv X WG σ H s) (h:∀p∈Nn,s.heap.get? p.1=some p.2/\H p.1=none/\p.1≠X.env.locals/\p.1∉X.fs/\∀v,p.2.data≠.cell v):Inv X Nn σ H s:=
 ⟨I.ok,I.os,I.bare,I.base,I.loc,I.cell,I.free,I.j8,fun p hp=>(Jm.mp hp).elim (fun z=>I.pin p (Jg _ z)) (h p),I.cP,I.len⟩
theorem rh {N:List Str}(hN:N.Nodup){i j:Nat}{x:Str}(a:N[i]?=some x) (b:N[j]?=some x):i=j:=by
 obtain⟨h1,e1⟩:=Jn.mp a;obtain⟨h2,e2⟩:=Jn.mp b;exact(List.getElem_inj hN).mp (e1.trans e2.symm)
theorem pk {M:Model}{A:Around}{E:Value->Shared->Prop}{i:Nat}{x:Str}{v:V}{u:Value}{Q:Unit->Shared->Prop}(I:Inv X WG σ H s) (hN:X.N.Nodup) (hi:X.N[i]?=some x) (hx:Loc X.env.scope x) (r:RelV v u)
  (h:∀s',Inv X WG (σ.set i (some v)) H s'->(∃a,Heap.SameBut a s.heap s'.heap/\(a=X.env.locals\/X.env.cells.lookup x=some a))->Q () s') (hf:X.fn x=true\/X.env.scope.names.lookup x=some .local:=by first | exact .inl rfl | exact .inr rfl | assumption):wpAny M A (storeName X.env x u) Q E s:=by
 obtain⟨m,hn,hl⟩:=id I.loc;have hcls:(X.env.scope.kind == .class||(X.env.scope.kind == .module&&X.env.locals != X.env.globals))=false:=by rw[I.ok.kind];rfl
 have hiσ:i < σ.length:=by rw[I.len];exact(Jn.mp hi).1
 have DA:=I.DA;have tracked:∀{a:Addr}{h':Heap},(∃o,s.heap.get? a=some o/\H a=none)->Heap.SameBut a s.heap h'->kP X.prog X.w H h':=fun {a h'} ha hs b ob e=>by
  obtain⟨_,_,NB⟩:=ha;refine(I.cP b ob e).sD (fun c w' hc q=>(hs.2 c ?_).trans q) (fun _ q=>q) fun _ _ q=>q;rintro rfl;rcases hc with rfl | hc
  ·rw[NB] at e;cases e
  ·rw[NB] at hc;cases hc
 rcases hx with hk | hk
 ·refine wpAny_storeName_local hk hn (fun h' hn' hs=>?_) hcls;obtain⟨oL,_,_,hoL,_⟩:=id hn;refine h _ ⟨I.ok,I.os,I.bare,⟨fun b o e n hb hx=>?_,fun b o e n hb hx=>?_,I.base.free,fun b o e hx=>?_,I.base.oN,I.base.oj,I.base.oP⟩,⟨_,hn',fun j y v' e1 e2 e3=>?_⟩,fun y c e=>?_,I.free,I.j8,fun p hp=>?_,tracked ⟨oL,hoL,I.free⟩ hs,by simpa using I.len⟩ ⟨_,hs,.inl rfl⟩
  ·exact(hs.2 b (Jx (Ju (Jw e) I.ok.above))).trans (I.base.keep b o e n hb hx)
  ·obtain⟨sl,e1⟩:=I.base.slot b o e n hb hx;exact⟨sl,(hs.2 b (Jx (Ju (Jw e) I.ok.above))).trans e1⟩
  ·obtain⟨o',e1⟩:=I.base.there b o e hx;exact⟨o',(hs.2 b (Jx (Ju (Jw e) I.ok.above))).trans e1⟩
  ·by_cases hj:j=i
   ·subst hj;rw[hi] at e1;cases e1;rw[IT hiσ] at e2;cases e2;exact⟨u,r,.inl ⟨hk,by simp⟩⟩
   ·rw[IQ (W3 hj)] at e2;obtain⟨u',r',q⟩:=hl j y v' e1 e2 e3;refine⟨u',r',?_⟩;rcases q with ⟨k,e⟩ | ⟨k,c,e,z⟩
    ·refine .inl ⟨k,?_⟩;have:y≠x:=fun e=>hj (rh hN e1 (e▸hi));simp[this,e]
    ·exact .inr ⟨k,c,e,z.sameBut hs (DA y c e)⟩
  ·obtain⟨w',z⟩:=I.cell y c e;exact⟨w',z.sameBut hs (DA y c e)⟩
  ·obtain⟨e,n,ne,nf,d⟩:=I.pin p hp;exact⟨(hs.2 p.1 ne).trans e,n,ne,nf,d⟩
 ·have Oz:X.fn x=true:=by
   rcases hf with z | z
   ·exact z
   ·rw[z] at hk;cases hk
  obtain⟨c,hc⟩:=I.ok.has x (.inl hk);obtain⟨w',z⟩:=I.cell x c hc;refine wpAny_storeName_cell I.ok.kind hk hc z (fun h' QG hs=>?_);obtain⟨oc,Nb,hocd⟩:=id z;refine h { s with heap:=h' } ⟨I.ok,I.os,I.bare,⟨fun b o e n hb hx=>?_,fun b o e n hb hx=>?_,I.base.free,fun b o e hx=>?_,I.base.oN,I.base.oj,I.base.oP⟩,⟨m,hn.sameBut hs (W3 (DA x c hc)),fun j y v' e1 e2 e3=>?_⟩,fun y c' e=>?_,I.free,I.j8,fun p hp=>?_,tracked ⟨oc,Nb,I.j8 x c hc⟩ hs,by simpa using I.len⟩ ⟨c,hs,.inr hc⟩
  ·exact(hs.2 b (Jx (Ju (Jw e) (I.ok.Gi x c Oz hc)))).trans (I.base.keep b o e n hb hx)
  ·obtain⟨sl,e1⟩:=I.base.slot b o e n hb hx;exact⟨sl,(hs.2 b (Jx (Ju (Jw e) (I.ok.Gi x c Oz hc)))).trans e1⟩
  ·obtain⟨o',e1⟩:=I.base.there b o e hx;exact⟨o',(hs.2 b (Jx (Ju (Jw e) (I.ok.Gi x c Oz hc)))).trans e1⟩
  ·by_cases hj:j=i
   ·subst hj;rw[hi] at e1;cases e1;rw[IT hiσ] at e2;cases e2;exact⟨u,r,.inr ⟨.inl hk,c,hc,QG⟩⟩
   ·rw[IQ (W3 hj)] at e2;obtain⟨u',r',q⟩:=hl j y v' e1 e2 e3;refine⟨u',r',?_⟩;rcases q with q | ⟨k,c',e,z'⟩
    ·exact .inl q
    ·refine .inr ⟨k,c',e,z'.sameBut hs ?_⟩;rintro rfl;exact hj (rh hN e1 (I.ok.inj _ _ _ e hc▸hi))
  ·by_cases VC:c'=c
   ·subst VC;exact⟨_,QG⟩
   ·obtain⟨w2,z2⟩:=I.cell y c' e;exact⟨w2,z2.sameBut hs VC⟩
  ·obtain⟨e,n,ne,nf,d⟩:=I.pin p hp;refine⟨(hs.2 p.1 ?_).trans e,n,ne,nf,d⟩;intro q;rw[q,Nb] at e;have q':oc=p.2:=Option.some.inj e;exact d w' (by rw[<-q'];exact hocd)
theorem qQ {M A E i x v u Q}(I:Inv X WG σ H s) (hN:X.N.Nodup) (hi:X.N[i]?=some x) (hx:Loc X.env.scope x) (r:RelV v u)
  (h:∀s',Inv X WG (σ.set i (some v)) H s'->Q () s') (hf:X.fn x=true\/X.env.scope.names.lookup x=some .local:=by first | exact .inl rfl | exact .inr rfl | assumption):wpAny M A (storeName X.env x u) Q E s:=
 pk I hN hi hx r (fun s' I' _=>h s' I') hf
theorem Inv.yG {s' ch}(I:Inv X WG σ H s) (ho:s'.os=s.os) (u:Un (yq X.stack) ch H H' s.heap s'.heap) (cP:kP X.prog X.w H' s'.heap) (hg:AllBare s'.gens)
  (ML:∀b∈ch,(b∈X.ex\/X.s₀.heap.objs.size<=b)/\b≠X.env.locals/\(∀x c,X.env.cells.lookup x=some c->c≠b)/\∀p∈X.pn++WG,p.1≠b):Inv X WG σ H' s':=by
 obtain⟨h',g',d',t',o'⟩:=s';have e:o'=s.os:=ho;subst e;exact I.call (g':=g') (t':=t') (d':=d') u cP hg ML
end
abbrev XK:=Value->Option Addr->Hp->Prop
abbrev St:=List (Option V)
abbrev VK:=V->Hp->Prop
abbrev TE:=St->Hp->VK->Prop
abbrev TT:=St->Hp->(Bool->Hp->Prop)->Prop
abbrev TA:=St->Hp->(List V->Hp->Prop)->Prop
structure W0 where
 nx:St->Hp->Prop
 rt:VK
 bk:St->Hp->Prop:=fun _ _=>False
 ct:St->Hp->Prop:=fun _ _=>False
abbrev TS:=W0->St->Hp->Prop
def EP (X:Cx) (WG:List (Addr×Obj)) (σ:St) (Q:VK) (u:Value) (s':Shared):Prop:=∃v H',Inv X WG σ H' s'/\RelV v u/\Q v H'
def TP (X:Cx) (WG:List (Addr×Obj)) (σ:St) (Q:Bool->Hp->Prop) (b:Bool) (s':Shared):Prop:=∃H',Inv X WG σ H' s'/\Q b H'
def AP (X:Cx) (WG:List (Addr×Obj)) (σ:St) (Q:List V->Hp->Prop) (us:List Value) (s':Shared):Prop:=∃vs H',Inv X WG σ H' s'/\WY vs us/\Q vs H'
def SP (X:Cx) (WG:List (Addr×Obj)) (D:W0) (f:Flow) (s':Shared):Prop:=
 match f with
 | .next=>∃σ' H',Inv X WG σ' H' s'/\D.nx σ' H'
 | .brk=>∃σ' H',Inv X WG σ' H' s'/\D.bk σ' H'
 | .cont=>∃σ' H',Inv X WG σ' H' s'/\D.ct σ' H'
 | .ret u=>∃v σ' H',Inv X WG σ' H' s'/\RelV v u/\D.rt v H'
def PE (X:Cx) (e:Expr) (t:TE):Prop:=
 ∀WG s σ H Q,Inv X WG σ H s->t σ H Q->wpAny (model X.prog X.w) X.A (eval e X.env) (EP X WG σ Q) X.xe s
def PT (X:Cx) (e:Expr) (t:TT):Prop:=
 ∀WG s σ H Q,Inv X WG σ H s->t σ H Q->wpAny (model X.prog X.w) X.A (isTrue e X.env (eval e X.env)) (TP X WG σ Q) X.xe s
def PW (X:Cx) (e:Expr) (t:TT):Prop:=
 ∀(whole:Sem Value) WG s σ H Q,Inv X WG σ H s->t σ H Q->wpAny (model X.prog X.w) X.A (isTrue e X.env whole) (TP X WG σ Q) X.xe s
theorem PW.pt {X e t}(h:PW X e t):PT X e t:=h _
def PA (X:Cx) (es:List Expr) (t:TA):Prop:=
 ∀(pos:Pos) WG s σ H Q,Inv X WG σ H s->t σ H Q->wpAny (model X.prog X.w) X.A (spliced (backTo pos (starEach es X.env))) (AP X WG σ Q) X.xe s
def PS (X:Cx) (st:Stmt) (t:TS):Prop:=
 ∀WG s σ H D,Inv X WG σ H s->t D σ H->wpAny (model X.prog X.w) X.A (exec st X.env) (SP X WG D) X.xe s
def sf (X:Cx) (st:List Stmt) (t:TS):Prop:=
 ∀WG s σ H D,Inv X WG σ H s->t D σ H->wpAny (model X.prog X.w) X.A (execs st X.env) (SP X WG D) X.xe s
theorem dh {α:Type}{t:Sem α}{Q Q':α->Shared->Prop}{M:Model}{A:Around}{E:Value->Shared->Prop}{s:Shared}(h:wpAny M A t Q E s) (hQ:∀a s,Q a s->Q' a s):wpAny M A t Q' E s:=JE h hQ fun _ _ x=>x
end L2
namespace L2
open PySem PySem.Spec PyProof.Rows
section
variable {X:Cx}
theorem bin {a b:Expr}{ta tb:TE}(ha:PE X a ta) (hb:PE X b tb){WG:List (Addr×Obj)}{s:Shared}{σ:St}{H:Hp}{R:V->V->Hp->Prop}(I:Inv X WG σ H s) (h:ta σ H fun x H1=>tb σ H1 fun y H2=>R x y H2)
  {α:Type}{Q:α->Shared->Prop}{f:Value->Value->Sem α}
  (hf:∀v u s2 x y H2,Inv X WG σ H2 s2->RelV x v->RelV y u->R x y H2->wpAny (model X.prog X.w) X.A (f v u) Q X.xe s2):
  wpAny (model X.prog X.w) X.A (eval a X.env) (fun v s₁=>wpAny (model X.prog X.w) X.A (eval b X.env) (fun u s₂=>wpAny (model X.prog X.w) X.A (f v u) Q X.xe s₂) X.xe s₁) X.xe s:=by
 refine dh (ha WG s σ H _ I h) fun v s1 ⟨x,H1,I1,r1,q1⟩=>?_;refine dh (hb WG s1 σ H1 _ I1 q1) fun u s2 ⟨y,H2,I2,r2,q2⟩=>?_;exact hf v u s2 x y H2 I2 r1 r2 q2
def vh (i:Nat):TE:=fun σ H Q=>∃v,σ[i]?=some (some v)/\Q v H
def tC (v:V):TE:=fun _ H Q=>Q v H
theorem BE {i x pos}(hN:X.N[i]?=some x) (hv:GU X.env.scope x) (hd:(x == ("__debug__":Str))=false:=by decide) (LJ:(x == ("__classdict__":Str))=false:=by decide):PE X (.Name x pos) (vh i):=by
 intro WG s σ H Q I h;obtain⟨v,e,h⟩:=h;obtain⟨m,hn,hl⟩:=I.loc;obtain⟨u,r,l⟩:=hl i x v hN e hv;have fin:EP X WG σ Q u s:=⟨v,H,I,r,h⟩;rcases l with ⟨hk,hm⟩ | ⟨hk,c,hc,NC⟩
 ·exact wpAny_Name (wpAny_loadName_local I.ok.kind hk hn hm fin) hd
 ·rcases hk with hk | hk
  ·exact wpAny_Name (wpAny_loadName_cell I.ok.kind hk hc NC fin) hd
  ·exact wpAny_Name (wpAny_loadName_free I.ok.kind hk hc NC fin LJ) hd
theorem ah {i j pos}:PE X (.Constant (.int i) j pos) (tC (.int i)):=fun _ _ _ H _ I h=>wpAny_Constant_int ⟨.int i,H,I.tok _,⟨_,rfl⟩,h⟩
theorem jd {b j pos}:PE X (.Constant (.bool b) j pos) (tC (.bl b)):=fun _ _ _ H _ I h=>Constant_bool ⟨.bl b,H,I,rfl,h⟩
theorem bV {j pos}:PE X (.Constant .none j pos) (tC .bj):=fun _ _ _ H _ I h=>Constant_none ⟨.bj,H,I,rfl,h⟩
theorem ak {x j pos}:PE X (.Constant (.str x) j pos) (tC (.str x)):=fun _ _ _ H _ I h=>Calls.Constant_str ⟨.str x,H,I.tok _,⟨_,rfl⟩,h⟩
def Gl (X:Cx) (x:Str):Prop:=X.env.kindOf x=some .globalImplicit
theorem qd {E WG s σ H x u pos Q}(I:Inv X WG σ H s) (hg:Gl X x) (hm:X.mg x=some u) (h:Q u s)
  (hd:(x == ("__debug__":Str))=false:=by decide):wpAny (model X.prog X.w) X.A (eval (.Name x pos) X.env) Q E s:=
 Calls.Name_function_global I.ok.kind hg (Calls.loadGlobal_global (by rw[I.ok.glob];exact I.mod.glob.keeps I.bk) hm h) hd
theorem kj {E WG s σ H x u pos Q}(I:Inv X WG σ H s) (hg:Gl X x) (hm:X.mg x=none) (hv:bootBuiltins x=some u) (h:Q u s)
  (hn:x≠"__name__":=by decide) (hd:(x == ("__debug__":Str))=false:=by decide):wpAny (model X.prog X.w) X.A (eval (.Name x pos) X.env) Q E s:=by
 obtain⟨mb,h1,h2⟩:=I.mod.blt;exact Calls.Name_function_global I.ok.kind hg (Calls.loadGlobal_builtin (by rw[I.ok.glob];exact I.mod.glob.keeps I.bk) hm (by rw[I.ok.blt];exact h1.keeps I.bk) ((h2 x hn).trans hv) h) hd
theorem bz {x v u pos}(hg:Gl X x) (hm:X.mg x=some u) (r:RelV v u) (hd:(x == ("__debug__":Str))=false:=by decide):PE X (.Name x pos) (tC v):=
 fun _ _ _ H _ I h=>qd I hg hm ⟨v,H,I,r,h⟩ hd
theorem fY {x v u pos}(hg:Gl X x) (hm:X.mg x=none) (hv:bootBuiltins x=some u) (r:RelV v u) (hn:x≠"__name__":=by decide) (hd:(x == ("__debug__":Str))=false:=by decide):PE X (.Name x pos) (tC v):=
 fun _ _ _ H _ I h=>kj I hg hm hv ⟨v,H,I,r,h⟩ hn hd
variable {a b:Expr}{ta tb:TE}{pos:Pos}
def PC (X:Cx) (op:CmpOp) (a b:Expr) (t:TE):Prop:=
 ∀WG s σ H Q,Inv X WG σ H s->t σ H Q->
  wpAny (model X.prog X.w) X.A (eval a X.env) (fun v s₁=>wpAny (model X.prog X.w) X.A (eval b X.env) (fun u s₂=>wpAny (model X.prog X.w) X.A (compareOp op v u) (EP X WG σ Q) X.xe s₂) X.xe s₁) X.xe s
def tB (t:TE):TT:=fun σ H Q=>t σ H fun x H1=>∃c,x=.bl c/\Q c H1
theorem BC {op:CmpOp}{t:TE}(h:PC X op a b t) (h1:behindInMarks op b=false:=by first | exact nobehind _ (by decide) (by decide) | rfl):PT X (.Compare a [op] [b] pos) (tB t):=by
 intro WG s σ H Q I hw;refine wpAny_isTrue_Compare1 (dh (h WG s σ H _ I hw) fun v s1 h1=>dh h1 fun u s2 h2=>dh h2 fun c s3 ⟨x,H1,I1,r1,q1⟩=>?_) h1;obtain⟨d,rfl,q⟩:=q1;cases r1;exact wpAny_truthy_bool ⟨H1,I1,q⟩
theorem bT {e:Expr}{t:TE}(h:PE X e t) (he:∀whole,isTrue e X.env whole=(do let v <-whole;standAt e.pos;holding [v] (truthy v)):=by intro _;rfl):PT X e (tB t):=by
 intro WG s σ H Q I hw;refine isTrue_plain (dh (h WG s σ H _ I hw) fun v s1 ⟨x,H1,I1,r1,q1⟩=>?_) (he _);obtain⟨d,rfl,q⟩:=q1;cases r1;exact wpAny_truthy_bool ⟨H1,I1,q⟩
variable {tA tB':TT}{rest:List Expr}
def Ep (t u:TT):TT:=fun σ H Q=>t σ H fun c H1=>if c=true then u σ H1 Q else Q false H1
def Ef (t u:TT):TT:=fun σ H Q=>t σ H fun c H1=>if c=true then Q true H1 else u σ H1 Q
def Eg (t:TT):TT:=fun σ H Q=>t σ H fun c H1=>Q (!c) H1
theorem cv (ha:PT X a tA):PW X (.BoolOp .And [a] pos) tA:=by
 intro wh WG s σ H Q I h;refine isTrue_and (dh (ha WG s σ H Q I h) fun c s1 e=>?_);cases c with
 | true=>exact isTrue_and_nil e
 | false=>exact e
theorem cY (ha:PT X a tA):PW X (.BoolOp .Or [a] pos) tA:=by
 intro wh WG s σ H Q I h;refine isTrue_or (dh (ha WG s σ H Q I h) fun c s1 e=>?_);cases c with
 | false=>exact isTrue_or_nil e
 | true=>exact e
theorem cS (ha:PT X a tA) (hb:PW X (.BoolOp .And (b::rest) pos) tB'):PW X (.BoolOp .And (a::b::rest) pos) (Ep tA tB'):=by
 intro wh WG s σ H Q I h;refine isTrue_and (dh (ha WG s σ H _ I h) fun c s1 ⟨H1,I1,q1⟩=>?_);cases c with
 | true=>exact hb wh WG s1 σ H1 Q I1 q1
 | false=>exact⟨H1,I1,q1⟩
theorem eY (ha:PT X a tA) (hb:PW X (.BoolOp .Or (b::rest) pos) tB'):PW X (.BoolOp .Or (a::b::rest) pos) (Ef tA tB'):=by
 intro wh WG s σ H Q I h;refine isTrue_or (dh (ha WG s σ H _ I h) fun c s1 ⟨H1,I1,q1⟩=>?_);cases c with
 | true=>exact⟨H1,I1,q1⟩
 | false=>exact hb wh WG s1 σ H1 Q I1 q1
theorem fb (ha:PT X a tA):PT X (.UnaryOp .Not a pos) (Eg tA):=by
 intro WG s σ H Q I h;exact isTrue_not (ha WG s σ H (fun c H1=>Q (!c) H1) I h)
def Ai (ta tb:TE):TE:=fun σ H Q=>ta σ H fun x H1=>∃c,x=.bl c/\if c=true then tb σ H1 Q else Q (.bl false) H1
def Ee (ta tb:TE):TE:=fun σ H Q=>ta σ H fun x H1=>∃c,x=.bl c/\if c=true then Q (.bl true) H1 else tb σ H1 Q
theorem cZ {op}{t:TE}(h:PE X a t):PE X (.BoolOp op [a] pos) t:=fun WG s σ H Q I hw=>BoolOp_one (h WG s σ H Q I hw)
theorem cT (ha:PE X a ta) (hb:PE X (.BoolOp .And (b::rest) pos) tb):PE X (.BoolOp .And (a::b::rest) pos) (Ai ta tb):=by
 intro WG s σ H Q I h;refine BoolOp_and (dh (ha WG s σ H _ I h) fun v s1 ⟨x,H1,I1,r1,q1⟩=>?_);obtain⟨c,rfl,q1⟩:=q1;cases r1;refine wpAny_truthy_bool ?_;cases c with
 | true=>exact hb WG s1 σ H1 Q I1 q1
 | false=>exact⟨.bl false,H1,I1,rfl,q1⟩
theorem jv (ha:PE X a ta) (hb:PE X (.BoolOp .Or (b::rest) pos) tb):PE X (.BoolOp .Or (a::b::rest) pos) (Ee ta tb):=by
 intro WG s σ H Q I h;refine BoolOp_or (dh (ha WG s σ H _ I h) fun v s1 ⟨x,H1,I1,r1,q1⟩=>?_);obtain⟨c,rfl,q1⟩:=q1;cases r1;refine wpAny_truthy_bool ?_;cases c with
 | false=>exact hb WG s1 σ H1 Q I1 q1
 | true=>exact⟨.bl true,H1,I1,rfl,q1⟩
def tIf (t:TT) (ta tb:TE):TE:=fun σ H Q=>t σ H fun c H1=>if c=true then ta σ H1 Q else tb σ H1 Q
theorem bx {c:Expr}(hc:PT X c tA) (ha:PE X a ta) (hb:PE X b tb):PE X (.IfExp c a b pos) (tIf tA ta tb):=by
 intro WG s σ H Q I h;refine wpAny_IfExp (dh (hc WG s σ H _ I h) fun d s1 ⟨H1,I1,q1⟩=>?_);cases d with
 | true=>exact ha WG s1 σ H1 Q I1 q1
 | false=>exact hb WG s1 σ H1 Q I1 q1
end
end L2
namespace L2
open PySem PySem.Spec PyProof.Rows
def bf (K:Fg06) (H:Hp) (a:Addr) (xs:List V):Prop:=
 Rd H a (.lst xs)\/
  ∃o WJ n,K.lookup a=some o/\o.cls=.type "list"/\o.dict=none/\o.data=.seq WJ n/\WJ.size<=sizeLine/\WY xs WJ.toList
def fh (K:Fg06) (H:Hp) (a:Addr) (xs:List V):Prop:=
 Rd H a (.tup xs)\/
  ∃o WJ n,K.lookup a=some o/\o.cls=.type "tuple"/\o.data=.seq WJ n/\WJ.size<=sizeLine/\WY xs WJ.toList
def Iw:Value->Option V
 | .none=>some .bj
 | .bool b=>some (.bl b)
 | .int i _=>some (.int i)
 | .str x _=>some (.str x)
 | .bytes b _=>some (.wj b)
 | .float b _=>some (.GR b)
 | .ref a=>some (.ref a)
 | .type n=>some (.ty n)
 | _=>none
theorem RelV.abs {x u}(r:RelV x u):Iw u=some x:=by
 cases x with
 | bj=>cases r;rfl
 | bl _=>cases r;rfl
 | int _=>obtain⟨t,rfl⟩:=r;rfl
 | str _=>obtain⟨t,rfl⟩:=r;rfl
 | wj _=>obtain⟨t,rfl⟩:=r;rfl
 | GR _=>obtain⟨t,rfl⟩:=r;rfl
 | ref _=>cases r;rfl
 | ty _=>cases r;rfl
theorem RelV.inj {x y u}(r:RelV x u) (q:RelV y u):x=y:=Option.some.inj (r.abs.symm.trans q.abs)
theorem WY.inj:∀{xs ys us},WY xs us->WY ys us->xs=ys
 | _,_,_,.nil,.nil=>rfl
 | _,_,_,.cons r t,.cons r' t'=>by rw[r.inj r',WY.inj t t']
section
variable {X:Cx}{WG:List (Addr×Obj)}{σ:St}{H:Hp}{s:Shared}{a:Addr}{xs ys:List V}
theorem bf.of {K}(h:H a=some (.lst xs)):bf K H a xs:=.inl (.inl h)
theorem fh.of {K}(h:H a=some (.tup xs)):fh K H a xs:=.inl (.inl h)
theorem Inv.list (I:Inv X WG σ H s) (h:bf X.K H a xs):∃WJ:List Value,WY xs WJ/\PlainL s.heap a WJ.toArray/\xs.length<=sizeLine:=by
 rcases h with h | ⟨o,WJ,n,hk,hc,hd,hs,hz,r⟩
 ·obtain⟨z,WJ,n,r,e⟩:=h.ok I.cP;exact⟨WJ,r,⟨_,n,e,rfl,rfl,rfl⟩,z⟩
 ·refine⟨WJ.toList,r,⟨o,n,I.sU a o hk,hc,hd,by simpa using hs⟩,?_⟩;have e:=r.length;simp only[Array.length_toList] at e;omega
theorem Inv.tuple (I:Inv X WG σ H s) (h:fh X.K H a xs):∃WJ:List Value,WY xs WJ/\IsTup s.heap a WJ.toArray/\xs.length<=sizeLine:=by
 rcases h with h | ⟨o,WJ,n,hk,hc,hs,hz,r⟩
 ·obtain⟨z,WJ,r,p⟩:=h.ok I.cP;exact⟨WJ,r,p,z⟩
 ·refine⟨WJ.toList,r,⟨o,I.sU a o hk,hc,n,by simpa using hs⟩,?_⟩;have e:=r.length;simp only[Array.length_toList] at e;omega
theorem Inv.rz (I:Inv X WG σ H s) (h:bf X.K H a xs) (h':bf X.K H a ys):xs=ys:=by
 obtain⟨WJ,r,⟨o,n,e,_,_,d⟩,_⟩:=I.list h;obtain⟨its',r',⟨o',n',e',_,_,d'⟩,_⟩:=I.list h';rw[e] at e';cases e';rw[d] at d';injection d' with d1 _;have:WJ=its':=by simpa using Xd Array.toList d1
 subst this;exact r.inj r'
theorem Inv.pj (I:Inv X WG σ H s) (h:fh X.K H a xs) (h':fh X.K H a ys):xs=ys:=by
 obtain⟨WJ,r,⟨o,e,_,n,d⟩,_⟩:=I.tuple h;obtain⟨its',r',⟨o',e',_,n',d'⟩,_⟩:=I.tuple h';rw[e] at e';cases e';rw[d] at d';injection d' with d1 _;have:WJ=its':=by simpa using Xd Array.toList d1
 subst this;exact r.inj r'
end
abbrev Cx.oM (X:Cx) (E:Value->Shared->Prop):Cx:={ X with xe:=E }
abbrev Cx.DV (X:Cx):Cx:=X.oM fun _ _=>False
theorem Cx.Ok.oM {X:Cx}(ok:X.Ok) (E:Value->Shared->Prop):(X.oM E).Ok:=
 ⟨ok.mod,ok.kind,ok.glob,ok.blt,ok.above,ok.inj,ok.has,ok.Gi,ok.hd,ok.frames,ok.GI,ok.exf,ok.bs,ok.zW,ok.xS,ok.zT,ok.mI,ok.Dt⟩
theorem Cx.Ok.jl {X:Cx}{E:Value->Shared->Prop}(ok:(X.oM E).Ok):X.Ok:=
 ⟨ok.mod,ok.kind,ok.glob,ok.blt,ok.above,ok.inj,ok.has,ok.Gi,ok.hd,ok.frames,ok.GI,ok.exf,ok.bs,ok.zW,ok.xS,ok.zT,ok.mI,ok.Dt⟩
section
variable {X:Cx}{WG:List (Addr×Obj)}{σ:St}{H:Hp}{s:Shared}{E:Value->Shared->Prop}
theorem Inv.oM (I:Inv X WG σ H s) (E:Value->Shared->Prop):Inv (X.oM E) WG σ H s:=⟨I.ok.oM E,I.os,I.bare,I.base,I.loc,I.cell,I.free,I.j8,I.pin,I.cP,I.len⟩
theorem Inv.jl (I:Inv (X.oM E) WG σ H s):Inv X WG σ H s:=⟨I.ok.jl,I.os,I.bare,I.base,I.loc,I.cell,I.free,I.j8,I.pin,I.cP,I.len⟩
theorem SP.jl {D f s'}(h:SP (X.oM E) WG D f s'):SP X WG D f s':=by
 cases f with
 | next=>obtain⟨σ',H',I,q⟩:=h;exact⟨σ',H',I.jl,q⟩
 | brk=>obtain⟨σ',H',I,q⟩:=h;exact⟨σ',H',I.jl,q⟩
 | cont=>obtain⟨σ',H',I,q⟩:=h;exact⟨σ',H',I.jl,q⟩
 | ret u=>obtain⟨v,σ',H',I,r,q⟩:=h;exact⟨v,σ',H',I.jl,r,q⟩
theorem sf.DV {st t}(h:sf X.DV st t):sf X st t:=fun WG s σ H D I hw=>
 JE (h WG s σ H D (I.oM _) hw) (fun _ _ q=>q.jl) fun _ _ z=>False.elim z
end
section
variable {X:Cx}{st:Stmt}{rest:List Stmt}{t u:TS}{e:Expr}{te:TE}{pos:Pos}
def Ad:TS:=fun D σ H=>D.nx σ H
def A0 (t u:TS):TS:=fun D σ H=>t { D with nx:=u D } σ H
theorem aP:sf X [] Ad:=fun _ _ σ H _ I h=>wpAny_execs_nil ⟨σ,H,I,h⟩
theorem ag (h1:PS X st t) (h2:sf X rest u):sf X (st::rest) (A0 t u):=by
 intro WG s σ H D I h;refine wpAny_execs_cons (dh (h1 WG s σ H { D with nx:=u D } I h) fun f s1 q=>?_);cases f with
 | next=>
  obtain⟨σ',H',I',q⟩:=q;exact h2 WG s1 σ' H' D I' q
 | ret v=>exact q
 | brk=>exact q
 | cont=>exact q
theorem aq (h1:PS X st t):sf X [st] t:=by
 intro WG s σ H D I h;refine wpAny_execs_cons (dh (h1 WG s σ H D I h) fun f s1 q=>?_);cases f with
 | next=>exact wpAny_execs_nil q
 | ret v=>exact q
 | brk=>exact q
 | cont=>exact q
theorem Inv.quiet {WG σ H s}(I:Inv X WG σ H s):interactive X.env=false:=by simp[interactive,I.ok.kind]
def Af (te:TE):TS:=fun D σ H=>te σ H fun _ H1=>D.nx σ H1
theorem bW (he:PE X e te) (hs:swapsWith e none pos.line X.env=pure false:=by rfl):PS X (.Expr e pos) (Af te):=by
 intro WG s σ H D I h;exact wpAny_Expr_any (dh (he WG s σ H _ I h) fun v s1 ⟨x,H1,I1,r1,q1⟩=>⟨σ,H1,I1,q1⟩) I.quiet hs
def Ec (te:TE):TS:=fun D σ H=>te σ H D.rt
theorem aD (he:PE X e te):PS X (.Return (some e) pos) (Ec te):=by
 intro WG s σ H D I h;exact wpAny_Return_some (dh (he WG s σ H _ I h) fun v s1 ⟨x,H1,I1,r1,q1⟩=>⟨x,σ,H1,I1,r1,q1⟩)
def Ek (c:TT) (t u:TS):TS:=fun D σ H=>c σ H fun b H1=>if b=true then t D σ H1 else u D σ H1
theorem br {c:Expr}{a b:List Stmt}{tc:TT}(hc:PT X c tc) (ha:sf X a t) (hb:sf X b u):PS X (.If c a b pos) (Ek tc t u):=by
 intro WG s σ H D I h;refine wpAny_If (dh (hc WG s σ H _ I h) fun d s1 ⟨H1,I1,q1⟩=>?_);cases d with
 | true=>exact ha WG s1 σ H1 D I1 q1
 | false=>exact hb WG s1 σ H1 D I1 q1
end
abbrev TG:=V->St->Hp->(St->Hp->Prop)->Prop
abbrev AS:=List V->St->Hp->(St->Hp->Prop)->Prop
def PG (X:Cx) (target:Expr) (t:TG):Prop:=
 ∀WG s σ H v u Q,Inv X WG σ H s->RelV v u->t v σ H Q->
  wpAny (model X.prog X.w) X.A (assign target X.env u) (fun _ s'=>∃σ' H',Inv X WG σ' H' s'/\Q σ' H') X.xe s
def DI (X:Cx) (ts:List Expr) (t:AS):Prop:=
 ∀WG s σ H vs us Q,Inv X WG σ H s->WY vs us->t vs σ H Q->
  wpAny (model X.prog X.w) X.A (assignInOrder ((assignEach ts X.env).map (·.2)) us) (fun _ s'=>∃σ' H',Inv X WG σ' H' s'/\Q σ' H') X.xe s
abbrev DF:=V->V->V->Hp->(Hp->Prop)->Prop
def Gv (X:Cx) (t:DF):Prop:=
 ∀WG s σ H o i v ov iv u Q,Inv X WG σ H s->RelV o ov->RelV i iv->RelV v u->t o i v H Q->
  wpAny (model X.prog X.w) X.A (setItem ov iv u) (fun _ s'=>∃H',Inv X WG σ H' s'/\Q H') X.xe s
section
variable {X:Cx}{pos:Pos}
def j7 (i:Nat):TG:=fun v σ H Q=>Q (σ.set i (some v)) H
theorem gs {i x}(hN:X.N.Nodup) (hi:X.N[i]?=some x) (hx:Loc X.env.scope x) (hf:X.fn x=true\/X.env.scope.names.lookup x=some .local:=by first | exact .inl rfl | exact .inr rfl | assumption):PG X (.Name x pos) (j7 i):=by
 intro WG s σ H v u Q I r h;exact wpAny_assign_Name (qQ I hN hi hx r (fun s' I'=>⟨_,H,I',h⟩) hf)
def Ga:AS:=fun vs σ H Q=>vs=[]/\Q σ H
def AN (t:TG) (u:AS):AS:=fun vs σ H Q=>∃v r,vs=v::r/\t v σ H fun σ' H'=>u r σ' H' Q
theorem fX:DI X [] Ga:=by
 intro WG s σ H vs us Q I r h;obtain⟨e,h⟩:=h;subst e;cases r;exact assignInOrder_nil ⟨σ,H,I,h⟩
theorem ef {e:Expr}{es:List Expr}{t:TG}{u:AS}(h1:PG X e t) (h2:DI X es u)
  (hs:(assignEach (e::es) X.env).map (·.2)=assign e X.env::(assignEach es X.env).map (·.2):=by rfl):DI X (e::es) (AN t u):=by
 intro WG s σ H vs us Q I r h;obtain⟨v,vr,e1,h⟩:=h;subst e1;cases r with
 | cons r rr=>
  rw[hs];refine assignInOrder_cons (dh (h1 WG s σ H _ _ _ I r h) fun _ s1 ⟨σ1,H1,I1,q1⟩=>?_);exact h2 WG s1 σ1 H1 _ _ Q I1 rr q1
def F9 (K:Fg06) (n:Nat) (t:AS):TG:=fun v σ H Q=>∃a xs,v=.ref a/\fh K H a xs/\xs.length=n/\t xs σ H Q
theorem gW {es k t n}(hc:X.calm=true) (h:DI X es t)
  (hn:(assignEach es X.env).length=n:=by rfl) (KO:(assignEach es X.env).findIdx? (·.1)=none:=by rfl):PG X (.Tuple es k pos) (F9 X.K n t):=by
 intro WG s σ H v u Q I r hw;obtain⟨a,xs,e1,hq,hl,hw⟩:=hw;subst e1;cases r;obtain⟨WJ,rv,ht,hz⟩:=I.tuple hq;refine assign_Tuple_tuple (I.ok.hd hc) ht (by simp[hn,<-hl,rv.length]) KO fun h' hx=>?_;have I1:Inv X WG σ H { s with heap:=h' }:=I.kept (t':=s.toks) fun b o e=>hx b o (Jx (Jw e)) e;exact h WG _ σ H xs _ Q I1 (by simpa using rv) hw
def Ip (to ti:TE) (t:DF):TG:=fun v σ H Q=>to σ H fun o H1=>ti σ H1 fun i H2=>t o i v H2 fun H3=>Q σ H3
theorem BD {o i:Expr}{to ti:TE}{t:DF}(ho:PE X o to) (hi:PE X i ti) (hs:Gv X t)
  (ha:∀v,assign (.Subscript o i pos) X.env v=(do
   let ov <-holding [v] (eval o X.env)
   let iv <-holding [v,ov] (eval i X.env)
   standAt pos
   holding [v,ov,iv] (setItem ov iv v)
   release [v,ov,iv] []):=by intro _;rfl):PG X (.Subscript o i pos) (Ip to ti t):=by
 intro WG s σ H v u Q I r h;rw[ha];refine Ja (wpAny_holding (dh (ho WG s σ H _ I h) fun ov s1 ⟨x,H1,I1,r1,q1⟩=>?_));refine Ja (wpAny_holding (dh (hi WG s1 σ H1 _ I1 q1) fun iv s2 ⟨y,H2,I2,r2,q2⟩=>?_));refine Ja (wpAny_standAt (Ja (wpAny_holding (dh (hs WG s2 σ H2 x y v ov iv u _ I2 r1 r2 r q2) fun _ s3 ⟨H3,I3,q3⟩=>?_))));exact wpAny_release ⟨σ,H3,I3,q3⟩
def wC (te:TE) (g:TG):TS:=fun D σ H=>te σ H fun x H1=>g x σ H1 D.nx
theorem iJ {tg e:Expr}{te:TE}{g:TG}(he:PE X e te) (hg:PG X tg g) (hs:swapsWithSole [tg] e pos.line X.env=pure false:=by rfl) (hw:swappedStores [tg] e X.env=pure none:=by rfl)
  (h1:(assignEach [tg] X.env).map (·.2)=[assign tg X.env]:=by rfl):PS X (.Assign [tg] e pos) (wC te g):=by
 intro WG s σ H D I h;refine wpAny_Assign_stores (dh (he WG s σ H _ I h) fun v s1 ⟨x,H1,I1,r1,q1⟩=>?_) hs hw;rw[h1];exact dh (hg WG s1 σ H1 x v _ I1 r1 q1) fun _ s2 q=>q
theorem iI {i:Nat}{x:Str}{e:Expr}{te:TE}{pos':Pos}(hN:X.N.Nodup) (hi:X.N[i]?=some x) (hx:Loc X.env.scope x) (he:PE X e te) (hs:swapsWith e (some (.Name x pos')) pos.line X.env=pure false:=by rfl) (hf:X.fn x=true\/X.env.scope.names.lookup x=some .local:=by first | exact .inl rfl | exact .inr rfl | assumption):
  PS X (.Assign [.Name x pos'] e pos) (wC te (j7 i)):=by
 intro WG s σ H D I h;refine wpAny_Assign_Name (dh (he WG s σ H _ I h) fun v s1 ⟨y,H1,I1,r1,q1⟩=>?_) hs;exact qQ I1 hN hi hx r1 (fun s2 I2=>⟨_,H1,I2,q1⟩) hf
def wz (c:TT) (tb:TS):TS:=fun D σ H=>∃W:Nat->St->Hp->Prop,(∃m,W m σ H)/\∀m σ H,W m σ H->
 c σ H fun b H1=>if b=true then ∃N:St->Hp->Prop,(∀σ' H',N σ' H'->∃m',m' < m/\W m' σ' H')/\tb { D with nx:=N,ct:=N,bk:=D.nx } σ H1 else D.nx σ H1
theorem fH {c:Expr}{body:List Stmt}{tc:TT}{tb:TS}(hp:PassesOwn (model X.prog X.w) X.A X.env X.xe) (hc:PT X c tc) (hb:sf X body tb):PS X (.While c body [] pos) (wz tc tb):=by
 intro WG s σ H D I h;obtain⟨W,⟨m0,w0⟩,turn⟩:=h;refine wpAny_While (codeAny_whileLoop (fun n s'=>∃σ' H',Inv X WG σ' H' s'/\W n σ' H') ?_ m0 ⟨σ,H,I,w0⟩);rintro n s1 ⟨σ1,H1,I1,w1⟩;refine wpAny_passesOwn hp (dh (hc WG s1 σ1 H1 _ I1 (turn n σ1 H1 w1)) fun b s2 ⟨H2,I2,q2⟩=>?_);cases b with
 | true=>
  obtain⟨N,hN,q2⟩:=q2;rw[IZ rfl];refine wpAny_passesOwn hp (dh (hb WG s2 σ1 H2 _ I2 q2) fun f s3 q3=>?_);cases f with
  | next=>
   obtain⟨σ3,H3,I3,n3⟩:=q3;obtain⟨m',hm,w3⟩:=hN σ3 H3 n3;exact⟨m',hm,σ3,H3,I3,w3⟩
  | cont=>
   obtain⟨σ3,H3,I3,n3⟩:=q3;obtain⟨m',hm,w3⟩:=hN σ3 H3 n3;exact⟨m',hm,σ3,H3,I3,w3⟩
  | brk=>exact q3
  | ret v=>exact q3
 | false=>
  rw[IY Jd];exact wpAny_execs_nil ⟨σ1,H2,I2,q2⟩
end
structure It where
 go:Nat->Hp->Prop
 tT:Nat->Hp->V->Hp->Prop
 stop:Nat->Hp->Prop
def mr (X:Cx) (WG:List (Addr×Obj)) (H:Hp) (b:Addr):Prop:=
 H b=none/\b≠X.env.locals/\b∉X.fs/\(b∈X.ex\/X.s₀.heap.objs.size<=b)/\(∀x c,X.env.cells.lookup x=some c->c≠b)/\∀p∈X.pn++WG,p.1≠b
theorem Inv.yr {X WG σ H H' s b}(I:Inv X WG σ H s) (hb:s.heap.objs.size<=b) (hn:H' b=none):mr X WG H' b:=by
 refine⟨hn,Nat.ne_of_gt (Ju I.lt hb),I.HX hb,.inr (IV I.sz hb),fun x c e z=>?_,fun p hp z=>?_⟩
 ·obtain⟨v,q⟩:=I.cell x c e;exact Xc (Ju q.lt (by rw[z];exact hb)) (W9 _)
 ·exact Xc (Ju (Jw (I.pin p hp).1) (by rw[z];exact hb)) (W9 _)
structure Turn (P:Program) (w:World) (K:Fg06) (tg:Expr) (J:It) (fp:List Addr) (it:Addr) (tn:Nat->Heap->Prop):Prop where
 mem:it∈fp
 obj:∀i h,tn i h->∀b∈fp,∃o,h.get? b=some o/\∀v,o.data≠.cell v
 keep:∀i h h',tn i h->(∀b∈fp,∀o,h.get? b=some o->h'.get? b=some o)->tn i h'
 item:∀X,X.prog=P->X.w=w->X.K=K->X.calm=true->∀i WG s σ H E,Inv X WG σ H s->(∀b∈fp,mr X WG H b)->tn i s.heap->J.go i H->
  wpAny (model P w) X.A (pyNext (.ref it)) (fun r s1=>∃u,r=some u/\
   wpAny (model P w) X.A (letOwnedTupleGo tg (.ref it) u) (fun _ s2=>∃x H',Inv X WG σ H' s2/\RelV x u/\J.tT i H x H'/\tn (i+1) s2.heap/\∀b∈fp,H' b=none) E s1) E s
 done:∀X,X.prog=P->X.w=w->X.K=K->X.calm=true->∀i WG s σ H E,Inv X WG σ H s->(∀b∈fp,mr X WG H b)->tn i s.heap->J.stop i H->
  wpAny (model P w) X.A (pyNext (.ref it)) (fun r s1=>r=none/\Inv X WG σ H s1) E s
 self:∀A i s Q E,tn i s.heap->Q (.ref it) s->wpAny (model P w) A (pyIter (.ref it)) Q E s
abbrev TI:=St->Hp->(It->Hp->Prop)->Prop
def PIE (X:Cx) (WG:List (Addr×Obj)) (σ:St) (tg:Expr) (R:It->Hp->Prop) (itv:Value) (s2:Shared):Prop:=
 ∃(it:Addr) (fp:List Addr) (tn:Nat->Heap->Prop) (J:It) (H':Hp),itv=.ref it/\Inv X WG σ H' s2/\Turn X.prog X.w X.K tg J fp it tn/\tn 0 s2.heap/\(∀b∈fp,mr X WG H' b)/\R J H'
def PI (X:Cx) (tg iter:Expr) (wi:TI):Prop:=
 ∀WG s σ H R,Inv X WG σ H s->wi σ H R->
  wpAny (model X.prog X.w) X.A (eval iter X.env) (fun v s1=>wpAny (model X.prog X.w) X.A (pyIter v) (PIE X WG σ tg R) X.xe s1) X.xe s
theorem yo {M A E s tg it u o n vs Q}(ho:s.heap.get? it=some o) (hc:o.cls=.type n) (hd:o.data=.fields vs)
  (hn:["enumerate","zip","dict_itemiterator","dict_reverseitemiterator","odict_iterator","itertools.zip_longest","itertools.pairwise"].contains n=false) (hQ:Q () s):wpAny M A (letOwnedTupleGo tg (.ref it) u) Q E s:=by
 unfold letOwnedTupleGo;cases tg<;>first
  | exact Jb hQ
  | (cases u<;>first
    | exact Jb hQ
    | (refine Ja (wpAny_load ho ?_)
       rw[hc,hd];show wpAny M A (if(["enumerate","zip","dict_itemiterator","dict_reverseitemiterator","odict_iterator","itertools.zip_longest","itertools.pairwise"].contains n&&vs[0]? == some (rawInt _))=true then _ else _) Q E s;rw[IY (by intro h;rw[hn,Bool.false_and] at h;cases h)];exact Jb hQ))
def z7 (K:Fg06) (a:Addr):It:=
 ⟨fun i H=>∃xs x,bf K H a xs/\xs[i]?=some x,fun i H x H'=>H'=H/\∀xs,bf K H a xs->xs[i]?=some x,fun i H=>∃xs,bf K H a xs/\xs.length<=i⟩
def AV (K:Fg06) (a:Addr):It:=
 ⟨fun i H=>∃xs x,fh K H a xs/\xs[i]?=some x,fun i H x H'=>H'=H/\∀xs,fh K H a xs->xs[i]?=some x,fun i H=>∃xs,fh K H a xs/\xs.length<=i⟩
def wm (lo:Int) (n:Nat):It:=⟨fun i _=>i < n,fun i H x H'=>H'=H/\x=.int (lo+i),fun i _=>n<=i⟩
theorem u9 {P w K tg} (a it):Turn P w K tg (z7 K a) [it] it (fun i h=>h.IsListIter it a i) where
 mem:=by simp
 obj:=fun i h st b hb=>by
  have e:b=it:=by simpa using hb
  subst e;obtain⟨o,e,c,d⟩:=st;exact⟨o,e,fun v z=>by rw[d] at z;cases z⟩
 keep:=fun i h h' st k=>st.at fun o e=>k it (by simp) o e
 item:=by
  intro X hP hw hK hc i WG s σ H E I hf st hg;subst hP hw hK;obtain⟨xs,x,hq,hx⟩:=hg;obtain⟨WJ,rv,p,hz⟩:=I.list hq;obtain⟨u,hu,ru⟩:=rv.get hx;obtain⟨f0,f1,f2,f3,f4,f5⟩:=hf it (by simp);refine wpAny_pyNext_list_item st p.isList (x:=u) (by simpa using hu) fun h' st' sb=>?_;have I1:Inv X WG σ H { s with heap:=h' }:=I.turned (t':=s.toks) (fun b o hb e=>(sb.2 b hb).trans e) f0 f1 f3 f4 f5;obtain⟨o,e,c,d⟩:=id st';exact⟨u,rfl,yo (s:={ s with heap:=h' }) e c d (by decide) ⟨x,H,I1,ru,⟨rfl,fun ys hy=>by rw[I.rz hy hq];exact hx⟩,st',fun b hb=>(hf b hb).1⟩⟩
 done:=by
  intro X hP hw hK hc i WG s σ H E I hf st hg;subst hP hw hK;obtain⟨xs,hq,hx⟩:=hg;obtain⟨WJ,rv,p,hz⟩:=I.list hq;obtain⟨f0,f1,f2,f3,f4,f5⟩:=hf it (by simp);have hl:=rv.length;exact wpAny_pyNext_list_end (I.ok.hd hc) st p.isList (by simp;omega) fun h' eb=>⟨rfl,I.turned (t':=s.toks) (fun b o hb e=>eb b o hb e) f0 f1 f3 f4 f5⟩
 self:=fun _ _ _ _ _ st h=>wpAny_pyIter_listiter st h
theorem sm {P w K tg} (a it):Turn P w K tg (AV K a) [it] it (fun i h=>h.IsTupleIter it a i) where
 mem:=by simp
 obj:=fun i h st b hb=>by
  have e:b=it:=by simpa using hb
  subst e;obtain⟨o,e,c,d⟩:=st;exact⟨o,e,fun v z=>by rw[d] at z;cases z⟩
 keep:=fun i h h' st k=>st.at fun o e=>k it (by simp) o e
 item:=by
  intro X hP hw hK hc i WG s σ H E I hf st hg;subst hP hw hK;obtain⟨xs,x,hq,hx⟩:=hg;obtain⟨WJ,rv,p,hz⟩:=I.tuple hq;obtain⟨u,hu,ru⟩:=rv.get hx;obtain⟨f0,f1,f2,f3,f4,f5⟩:=hf it (by simp);refine wpAny_pyNext_tuple_item st (show s.heap.IsTuple a WJ.toArray from p) (x:=u) (by simpa using hu) fun h' st' sb=>?_;have I1:Inv X WG σ H { s with heap:=h' }:=I.turned (t':=s.toks) (fun b o hb e=>(sb.2 b hb).trans e) f0 f1 f3 f4 f5;obtain⟨o,e,c,d⟩:=id st';exact⟨u,rfl,yo (s:={ s with heap:=h' }) e c d (by decide) ⟨x,H,I1,ru,⟨rfl,fun ys hy=>by rw[I.pj hy hq];exact hx⟩,st',fun b hb=>(hf b hb).1⟩⟩
 done:=by
  intro X hP hw hK hc i WG s σ H E I hf st hg;subst hP hw hK;obtain⟨xs,hq,hx⟩:=hg;obtain⟨WJ,rv,p,hz⟩:=I.tuple hq;obtain⟨f0,f1,f2,f3,f4,f5⟩:=hf it (by simp);have hl:=rv.length;exact wpAny_pyNext_tuple_end (I.ok.hd hc) st (show s.heap.IsTuple a WJ.toArray from p) (by simp;omega) fun h' eb=>⟨rfl,I.turned (t':=s.toks) (fun b o hb e=>eb b o hb e) f0 f1 f3 f4 f5⟩
 self:=fun _ _ _ _ _ st h=>wpAny_pyIter_tupleiter st h
theorem so {P w K tg} (it lo n):Turn P w K tg (wm lo n) [it] it (fun i h=>IsRangeIter h it (lo+(i:Nat)*1) ((n:Int) - (i:Nat)) 1) where
 mem:=by simp
 obj:=fun i h st b hb=>by
  have e:b=it:=by simpa using hb
  subst e;exact⟨_,st,fun v z=>by
   have z':Data.fields _=Data.cell v:=z;cases z'⟩
 keep:=fun i h h' st k=>k it (by simp) _ st
 item:=by
  intro X hP hw hK hc i WG s σ H E I hf st hg;subst hP hw hK;obtain⟨f0,f1,f2,f3,f4,f5⟩:=hf it (by simp);have W:=Walks.range (prog:=X.prog) (w:=X.w) (I.ok.hd hc) it lo 1 n;refine W.item i s _ _ hg st fun v h' tk hv st' kk=>?_;obtain⟨t,rfl⟩:=hv;have I1:Inv X WG σ H { s with heap:=h',toks:=tk }:=I.turned (fun b o hb e=>kk b o (by simpa using hb) e) f0 f1 f3 f4 f5;refine⟨_,rfl,yo (s:={ s with heap:=h',toks:=tk }) (n:="range_iterator") st' rfl rfl (by decide) ⟨.int (lo+i),H,I1,⟨t,?_⟩,⟨rfl,rfl⟩,st',fun b hb=>(hf b hb).1⟩⟩;rw[Int.mul_one]
 done:=by
  intro X hP hw hK hc i WG s σ H E I hf st hg;subst hP hw hK;obtain⟨f0,f1,f2,f3,f4,f5⟩:=hf it (by simp);exact wpAny_pyNext_range_end (I.ok.hd hc) st (by have:n<=i:=hg;omega) fun h' eb=>⟨rfl,I.turned (t':=s.toks) (fun b o hb e=>eb b o hb e) f0 f1 f3 f4 f5⟩
 self:=fun _ _ _ _ _ st h=>wpAny_pyIter_rangeiter st h
end L2
namespace L2
open PySem PySem.Spec PyProof.Rows
section
variable {X:Cx}{tg:Expr}
def AM (K:Fg06) (tl:TE):TI:=fun σ H R=>tl σ H fun x H1=>∃a,x=.ref a/\(∃xs,bf K H1 a xs)/\R (z7 K a) H1
def F4 (K:Fg06) (tl:TE):TI:=fun σ H R=>tl σ H fun x H1=>∃a,x=.ref a/\(∃xs,fh K H1 a xs)/\R (AV K a) H1
theorem cx {l:Expr}{tl:TE}(hl:PE X l tl):PI X tg l (AM X.K tl):=by
 intro WG s σ H R I h;refine dh (hl WG s σ H _ I h) fun v s1 ⟨x,H1,I1,r1,q1⟩=>?_;obtain⟨a,e,⟨xs,hq⟩,q⟩:=q1;subst e;cases r1;obtain⟨WJ,rv,p,hz⟩:=I1.list hq;refine wpAny_pyIter_list p.isList ?_;refine⟨s1.heap.objs.size,[s1.heap.objs.size],_,_,H1,rfl,I1.kept (t':=s1.toks) fun b o e=>Jc _ e,u9 a _,⟨_,JA _ rfl,rfl,rfl⟩,fun b hb=>?_,q⟩;have e:b=s1.heap.objs.size:=by simpa using hb
 subst e;exact I1.yr (IW _) (I1.cP.fresh (IW _))
theorem ee {l:Expr}{tl:TE}(hl:PE X l tl):PI X tg l (F4 X.K tl):=by
 intro WG s σ H R I h;refine dh (hl WG s σ H _ I h) fun v s1 ⟨x,H1,I1,r1,q1⟩=>?_;obtain⟨a,e,⟨xs,hq⟩,q⟩:=q1;subst e;cases r1;obtain⟨WJ,rv,p,hz⟩:=I1.tuple hq;refine wpAny_pyIter_tuple (show s1.heap.IsTuple a WJ.toArray from p) ?_;refine⟨s1.heap.objs.size,[s1.heap.objs.size],_,_,H1,rfl,I1.kept (t':=s1.toks) fun b o e=>Jc _ e,sm a _,⟨_,JA _ rfl,rfl,rfl⟩,fun b hb=>?_,q⟩;have e:b=s1.heap.objs.size:=by simpa using hb
 subst e;exact I1.yr (IW _) (I1.cP.fresh (IW _))
theorem xC {WG:List (Addr×Obj)}{σ:St}{H:Hp}{s:Shared}{R:It->Hp->Prop}{E:Value->Shared->Prop}{lo hi:Int}{t u v:Tok}{tk:Nat}(I:Inv X WG σ H s) (h1:-(2 ^ 62)<=lo) (h2:lo < 2 ^ 62) (h3:-(2 ^ 62)<=hi) (h4:hi < 2 ^ 62)
  (q:R (wm lo (hi - lo).toNat) H):wpAny (model X.prog X.w) X.A (pyIter (.ref s.heap.objs.size)) (PIE X WG σ tg R) E { s with heap:=s.heap.push { cls:=.type "range",data:=.fields #[.int lo t,.int hi u,.int 1 v] },toks:=tk }:=by
 refine wpAny_pyIter_range (IsRange.new ..) (small_one h1 h2 h3 h4) ?_;have I1:Inv X WG σ H { s with heap:=s.heap.push { cls:=.type "range",data:=.fields #[.int lo t,.int hi u,.int 1 v] },toks:=tk }:=I.kept fun b o e=>Jc _ e;refine⟨(s.heap.push { cls:=.type "range",data:=.fields #[.int lo t,.int hi u,.int 1 v] }).objs.size,[(s.heap.push { cls:=.type "range",data:=.fields #[.int lo t,.int hi u,.int 1 v] }).objs.size],_,_,H,rfl,
  I1.kept (t':=tk) fun b o e=>Jc _ e,so _ lo (hi - lo).toNat,?_,fun b hb=>?_,q⟩
 ·have e1:lo+((0:Nat):Int)*1=lo:=by simp
  have e2:(((hi - lo).toNat:Nat):Int) - ((0:Nat):Int)=Builtin.Range.rangeSize lo hi 1:=by rw[rangeSize_one];split<;>omega
  show IsRangeIter _ _ (lo+((0:Nat):Int)*1) ((((hi - lo).toNat:Nat):Int) - ((0:Nat):Int)) 1;rw[e1,e2];exact JA _ rfl
 ·have e:b=(s.heap.push { cls:=.type "range",data:=.fields #[.int lo t,.int hi u,.int 1 v] }).objs.size:=by simpa using hb
  subst e;exact I1.yr (IW _) (I1.cP.fresh (IW _))
def AL (ta:TA):TI:=fun σ H R=>ta σ H fun vs H1=>∃j:Int,vs=[.int j]/\-(2 ^ 62)<=j/\j < 2 ^ 62/\R (wm 0 j.toNat) H1
theorem cg {a:Expr}{ta:TA}{p pos:Pos}(hg:Gl X "range") (hm:X.mg "range"=none) (ha:PA X [a] ta) (hs:starEach [a] X.env=[(false,eval a X.env)]:=by rfl):PI X tg (.Call (.Name "range" p) [a] [] pos) (AL ta):=by
 intro WG s σ H R I h;refine Call_ (kj I hg hm boot_range (PyProof.Rows.callWith_type1 (dh (ha pos WG s σ H _ I h) fun us s1 ⟨vs,H1,I1,r1,q1⟩=>?_) hs rfl));obtain⟨j,e,q1,q2,q⟩:=q1;subst e;cases r1 with
 | cons r rr=>
  cases rr;obtain⟨t,rfl⟩:=r;exact call_range_1 (xC I1 (by omega) (by omega) q1 q2 (by simpa using q))
def Em (wi:TI) (g:TG) (tb:TS):TS:=fun D σ H=>wi σ H fun J H1=>∃W:Nat->Nat->St->Hp->Prop,(∃m,W 0 m σ H1)/\∀i m σ H,W i m σ H->
 (J.stop i H/\D.nx σ H)\/(J.go i H/\∃N:St->Hp->Prop,(∀σ' H',N σ' H'->∃m',m' < m/\W (i+1) m' σ' H')/\∀x H',J.tT i H x H'->g x σ H' fun σ2 H2=>tb { D with nx:=N,ct:=N,bk:=D.nx } σ2 H2)
def lW (fp:List Addr) (h:Heap):List (Addr×Obj):=fp.filterMap fun b=>(h.get? b).map fun o=>(b,o)
theorem gn {fp h b o}(hb:b∈fp) (e:h.get? b=some o):(b,o)∈lW fp h:=List.mem_filterMap.mpr ⟨b,hb,by rw[e];rfl⟩
theorem vC {fp h p}(hp:p∈lW fp h):p.1∈fp/\h.get? p.1=some p.2:=by
 obtain⟨b,hb,e⟩:=List.mem_filterMap.mp hp;cases q:h.get? b with
 | none=>rw[q] at e;cases e
 | some o=>
  rw[q] at e;have e':(b,o)=p:=Option.some.inj e;subst e';exact⟨hb,q⟩
theorem Inv.pinned {WG σ H s fp}(I:Inv X WG σ H s) (hf:∀b∈fp,mr X WG H b) (ho:∀b∈fp,∃o,s.heap.get? b=some o/\∀v,o.data≠.cell v):Inv X (WG++lW fp s.heap) σ H s:=
 I.uq fun p hp=>(Jm.mp hp).elim (fun z=>I.pin p (Jh _ z)) fun z=>by
  obtain⟨hb,e⟩:=vC z;obtain⟨f0,f1,f2,_⟩:=hf p.1 hb;obtain⟨o,e',d⟩:=ho p.1 hb;rw[e] at e';cases e';exact⟨e,f0,f1,f2,d⟩
theorem Inv.jm {WG pl σ H s}(I:Inv X (WG++pl) σ H s):Inv X WG σ H s:=I.uq fun p hp=>I.pin p (Jh _ (Jg _ hp))
theorem d9 {iter:Expr}{body:List Stmt}{wi:TI}{g:TG}{tb:TS}{pos:Pos}(hp:PassesOwn (model X.prog X.w) X.A X.env X.xe) (hc:X.calm=true) (hi:PI X tg iter wi) (hg:PG X tg g) (hb:sf X body tb)
  (hs:∀x,foldedSetIterable iter X.env x=pure x:=by intro _;rfl):PS X (.For tg iter body [] pos) (Em wi g tb):=by
 intro WG s σ H D I h;refine wpAny_For (dh (hi WG s σ H _ I h) fun v s1 h1=>dh h1 fun itv s2 h2=>?_) hs;obtain⟨it,fp,tn,J,H2,e,I2,T,NQ,f2,W,⟨m0,w0⟩,turn⟩:=h2;subst e;have stat:∀{H':Hp},(∀b∈fp,H' b=none)->∀b∈fp,mr X WG H' b:=fun hn b hb=>⟨hn b hb,(f2 b hb).2⟩;refine codeAny_forLoop_any (fun n s'=>∃i σ' H',Inv X WG σ' H' s'/\tn i s'.heap/\(∀b∈fp,H' b=none)/\W i n σ' H') ?_ m0 ⟨0,σ,H2,I2,NQ,fun b hb=>(f2 b hb).1,w0⟩;rintro n s3 ⟨i,σ3,H3,I3,Nm,Pg,w3⟩;rcases turn i n σ3 H3 w3 with ⟨stop,qn⟩ | ⟨go,N,hN,step⟩
 ·refine wpAny_passesOwn hp (dh (T.done X rfl rfl rfl hc i WG s3 σ3 H3 X.xe I3 (stat Pg) Nm stop) fun r s4 ⟨hr,I4⟩=>?_);subst hr;exact wpAny_execs_nil ⟨σ3,H3,I4,qn⟩
 ·refine wpAny_passesOwn hp (dh (T.item X rfl rfl rfl hc i WG s3 σ3 H3 X.xe I3 (stat Pg) Nm go) fun r s4 ⟨u,hr,h4⟩=>?_);subst hr;refine wpAny_passesOwn hp (dh h4 fun _ s5 ⟨x,H5,I5,r5,y5,MX,OO⟩=>?_);have I5':=I5.pinned (stat OO) (T.obj _ _ MX);refine wpAny_passesOwn hp (dh (hg _ s5 σ3 H5 x u _ I5' r5 (step x H5 y5)) fun _ s6 ⟨σ6,H6,I6,q6⟩=>?_);refine wpAny_passesOwn hp (dh (hb _ s6 σ6 H6 _ I6 q6) fun f s7 q7=>?_);have again:∀{σ7:St}{H7:Hp},Inv X (WG++lW fp s5.heap) σ7 H7 s7->N σ7 H7->∃m,m < n/\∃i σ' H',Inv X WG σ' H' s7/\tn i s7.heap/\(∀b∈fp,H' b=none)/\W i m σ' H':=fun {σ7 H7} I7 n7=>by
   obtain⟨m',hm,w7⟩:=hN σ7 H7 n7;refine⟨m',hm,i+1,σ7,H7,I7.jm,T.keep _ _ _ MX fun b hb o e=>(I7.pin (b,o) (Jh _ (Jh _ (gn hb e)))).1,fun b hb=>?_,w7⟩;obtain⟨o,e,d⟩:=T.obj _ _ MX b hb;exact(I7.pin (b,o) (Jh _ (Jh _ (gn hb e)))).2.1
  cases f with
  | next=>obtain⟨σ7,H7,I7,n7⟩:=q7;exact again I7 n7
  | cont=>obtain⟨σ7,H7,I7,n7⟩:=q7;exact again I7 n7
  | brk=>obtain⟨σ7,H7,I7,q7⟩:=q7;exact⟨σ7,H7,I7.jm,q7⟩
  | ret v=>obtain⟨x7,σ7,H7,I7,r7,q7⟩:=q7;exact⟨x7,σ7,H7,I7.jm,r7,q7⟩
end
theorem yt {K:Fg06}{a:Addr}{xs:List V}{g:TG}{tb:TS}{D:W0}{σ:St}{H:Hp}(Pv:Nat->St->Hp->Prop) (h0:Pv 0 σ H) (hl:∀i σ H,i<=xs.length->Pv i σ H->bf K H a xs)
  (hs:∀i x σ H,xs[i]?=some x->Pv i σ H->g x σ H fun σ2 H2=>tb { D with nx:=Pv (i+1),ct:=Pv (i+1),bk:=D.nx } σ2 H2) (hd:∀σ H,Pv xs.length σ H->D.nx σ H):
  ∃W:Nat->Nat->St->Hp->Prop,(∃m,W 0 m σ H)/\∀i m σ H,W i m σ H->
   ((z7 K a).stop i H/\D.nx σ H)\/((z7 K a).go i H/\∃N:St->Hp->Prop,(∀σ' H',N σ' H'->∃m',m' < m/\W (i+1) m' σ' H')/\∀x H',(z7 K a).tT i H x H'->g x σ H' fun σ2 H2=>tb { D with nx:=N,ct:=N,bk:=D.nx } σ2 H2):=by
 refine⟨fun i m σ H=>m=xs.length - i/\i<=xs.length/\Pv i σ H,⟨xs.length,by simp,Jr _,h0⟩,?_⟩;rintro i m σ H ⟨rfl,hi,p⟩;have q:=hl i σ H hi p;by_cases JR:i < xs.length
 ·refine .inr ⟨⟨xs,xs[i],q,by simp[JR]⟩,Pv (i+1),fun σ' H' p'=>⟨xs.length - (i+1),by omega,rfl,JR,p'⟩,fun x H' y=>?_⟩;obtain⟨e,y⟩:=y;subst e;exact hs i x σ _ (y xs q) p
 ·have e:i=xs.length:=by omega
  subst e;exact .inl ⟨⟨xs,q,IW _⟩,hd σ H p⟩
theorem ni {K:Fg06}{a:Addr}{xs:List V}{g:TG}{tb:TS}{D:W0}{σ:St}{H:Hp}(Pv:Nat->St->Hp->Prop) (h0:Pv 0 σ H) (hl:∀i σ H,i<=xs.length->Pv i σ H->fh K H a xs)
  (hs:∀i x σ H,xs[i]?=some x->Pv i σ H->g x σ H fun σ2 H2=>tb { D with nx:=Pv (i+1),ct:=Pv (i+1),bk:=D.nx } σ2 H2) (hd:∀σ H,Pv xs.length σ H->D.nx σ H):
  ∃W:Nat->Nat->St->Hp->Prop,(∃m,W 0 m σ H)/\∀i m σ H,W i m σ H->
   ((AV K a).stop i H/\D.nx σ H)\/((AV K a).go i H/\∃N:St->Hp->Prop,(∀σ' H',N σ' H'->∃m',m' < m/\W (i+1) m' σ' H')/\∀x H',(AV K a).tT i H x H'->g x σ H' fun σ2 H2=>tb { D with nx:=N,ct:=N,bk:=D.nx } σ2 H2):=by
 refine⟨fun i m σ H=>m=xs.length - i/\i<=xs.length/\Pv i σ H,⟨xs.length,by simp,Jr _,h0⟩,?_⟩;rintro i m σ H ⟨rfl,hi,p⟩;have q:=hl i σ H hi p;by_cases JR:i < xs.length
 ·refine .inr ⟨⟨xs,xs[i],q,by simp[JR]⟩,Pv (i+1),fun σ' H' p'=>⟨xs.length - (i+1),by omega,rfl,JR,p'⟩,fun x H' y=>?_⟩;obtain⟨e,y⟩:=y;subst e;exact hs i x σ _ (y xs q) p
 ·have e:i=xs.length:=by omega
  subst e;exact .inl ⟨⟨xs,q,IW _⟩,hd σ H p⟩
theorem iZ {lo:Int}{n:Nat}{g:TG}{tb:TS}{D:W0}{σ:St}{H:Hp}(Pv:Nat->St->Hp->Prop) (h0:Pv 0 σ H)
  (hs:∀i σ H,i < n->Pv i σ H->g (.int (lo+i)) σ H fun σ2 H2=>tb { D with nx:=Pv (i+1),ct:=Pv (i+1),bk:=D.nx } σ2 H2) (hd:∀σ H,Pv n σ H->D.nx σ H):
  ∃W:Nat->Nat->St->Hp->Prop,(∃m,W 0 m σ H)/\∀i m σ H,W i m σ H->
   ((wm lo n).stop i H/\D.nx σ H)\/((wm lo n).go i H/\∃N:St->Hp->Prop,(∀σ' H',N σ' H'->∃m',m' < m/\W (i+1) m' σ' H')/\∀x H',(wm lo n).tT i H x H'->g x σ H' fun σ2 H2=>tb { D with nx:=N,ct:=N,bk:=D.nx } σ2 H2):=by
 refine⟨fun i m σ H=>m=n - i/\i<=n/\Pv i σ H,⟨n,by simp,Jr _,h0⟩,?_⟩;rintro i m σ H ⟨rfl,hi,p⟩;by_cases JR:i < n
 ·refine .inr ⟨JR,Pv (i+1),fun σ' H' p'=>⟨n - (i+1),by omega,rfl,JR,p'⟩,fun x H' y=>?_⟩;obtain⟨e,y⟩:=y;subst e y;exact hs i σ _ JR p
 ·have e:i=n:=by omega
  subst e;exact .inl ⟨IW _,hd σ H p⟩
end L2
namespace L2
open PySem PySem.Spec PyProof.Rows
abbrev R2:=V->V->Hp->VK->Prop
def gQ (X:Cx) (f:Value->Value->Sem Value) (r:R2):Prop:=
 ∀WG s σ H x y v u Q,Inv X WG σ H s->RelV x v->RelV y u->r x y H Q->
  wpAny (model X.prog X.w) X.A (f v u) (EP X WG σ Q) X.xe s
def GV (X:Cx) (f:Value->Sem Value) (r:V->Hp->VK->Prop):Prop:=
 ∀WG s σ H x v Q,Inv X WG σ H s->RelV x v->r x H Q->
  wpAny (model X.prog X.w) X.A (f v) (EP X WG σ Q) X.xe s
def gm (X:Cx) (f:Value) (r:List V->Hp->VK->Prop):Prop:=
 ∀WG s σ H xs us Q,Inv X WG σ H s->WY xs us->r xs H Q->
  wpAny (model X.prog X.w) X.A (call f us) (EP X WG σ Q) X.xe s
def tY (r:R2) (ta tb:TE):TE:=fun σ H Q=>ta σ H fun x H1=>tb σ H1 fun y H2=>r x y H2 Q
def tUn (r:V->Hp->VK->Prop) (ta:TE):TE:=fun σ H Q=>ta σ H fun x H1=>r x H1 Q
def rI (C:Int->Int->Prop) (g:Int->Int->V):R2:=fun x y H Q=>∃i j,x=.int i/\y=.int j/\C i j/\Q (g i j) H
def Aw (g:Int->Int->V):R2:=fun x y H Q=>∃i j,x=.int i/\y=.int j/\Q (g i j) H
def rU (g:Int->V):V->Hp->VK->Prop:=fun x H Q=>∃i,x=.int i/\Q (g i) H
section
variable {X:Cx}{a b c:Expr}{ta tb tc:TE}{pos:Pos}
theorem DB (ha:PE X a ta) (hb:PE X b tb){WG:List (Addr×Obj)}{s:Shared}{σ:St}{H:Hp}{R:V->V->Hp->Prop}(I:Inv X WG σ H s)
  (h:ta σ H fun x H1=>tb σ H1 fun y H2=>R x y H2){Q:Value->Shared->Prop}{f:Value->Value->Sem Value}
  (hf:∀v u s2 x y H2,Inv X WG σ H2 s2->RelV x v->RelV y u->R x y H2->wpAny (model X.prog X.w) X.A (f v u) Q X.xe s2):
  wpAny (model X.prog X.w) X.A (eval a X.env) (fun v s₁=>wpAny (model X.prog X.w) X.A (eval b X.env) (fun u s₂=>wpAny (model X.prog X.w) X.A (f v u) Q X.xe s₂) X.xe s₁) X.xe s:=by
 refine dh (ha WG s σ H _ I h) fun v s1 ⟨x,H1,I1,r1,q1⟩=>?_;refine dh (hb WG s1 σ H1 _ I1 q1) fun u s2 ⟨y,H2,I2,r2,q2⟩=>?_;exact hf v u s2 x y H2 I2 r1 r2 q2
theorem aH {op:Operator}{r:R2}(ho:gQ X (binaryOp op) r) (ha:PE X a ta) (hb:PE X b tb):PE X (.BinOp a op b pos) (tY r ta tb):=by
 intro WG s σ H Q I h;exact wpAny_BinOp (DB ha hb I h fun v u s2 x y H2 I2 rx ry q=>ho WG s2 σ H2 x y v u Q I2 rx ry q)
theorem ju {op r}(ho:GV X (unaryOp op) r) (ha:PE X a ta):PE X (.UnaryOp op a pos) (tUn r ta):=by
 intro WG s σ H Q I h;exact UnaryOp_ (dh (ha WG s σ H _ I h) fun v s1 ⟨x,H1,I1,r1,q1⟩=>ho WG s1 σ H1 x v Q I1 r1 q1)
theorem GN {f:Value->Value->Sem Value}{C:Int->Int->Prop}{g:Int->Int->Int}
  (rule:∀(i j:Int) (t u:Tok) (s:Shared) (Q:Value->Shared->Prop) (E:Value->Shared->Prop),C i j->Q (.int (g i j) s.toks) { s with toks:=s.toks+1 }->wpAny (model X.prog X.w) X.A (f (.int i t) (.int j u)) Q E s):
  gQ X f (rI C fun i j=>.int (g i j)):=by
 intro WG s σ H x y v u Q I rx ry h;obtain⟨i,j,rfl,rfl,hc,q⟩:=h;obtain⟨t,rfl⟩:=rx;obtain⟨t',rfl⟩:=ry;exact rule i j t t' s _ _ hc ⟨.int (g i j),H,I.tok _,⟨_,rfl⟩,q⟩
theorem Fj {f:Value->Value->Sem Value}{g:Int->Int->Int}
  (rule:∀(i j:Int) (t u:Tok) (s:Shared) (Q:Value->Shared->Prop) (E:Value->Shared->Prop),Q (.int (g i j) s.toks) { s with toks:=s.toks+1 }->wpAny (model X.prog X.w) X.A (f (.int i t) (.int j u)) Q E s):
  gQ X f (Aw fun i j=>.int (g i j)):=by
 intro WG s σ H x y v u Q I rx ry h;obtain⟨i,j,rfl,rfl,q⟩:=h;obtain⟨t,rfl⟩:=rx;obtain⟨t',rfl⟩:=ry;exact rule i j t t' s _ _ ⟨.int (g i j),H,I.tok _,⟨_,rfl⟩,q⟩
theorem zD {f:Value->Value->Sem Value}{g:Int->Int->Bool}
  (rule:∀(i j:Int) (t u:Tok) (s:Shared) (Q:Value->Shared->Prop) (E:Value->Shared->Prop),Q (.bool (g i j)) s->wpAny (model X.prog X.w) X.A (f (.int i t) (.int j u)) Q E s):
  gQ X f (Aw fun i j=>.bl (g i j)):=by
 intro WG s σ H x y v u Q I rx ry h;obtain⟨i,j,rfl,rfl,q⟩:=h;obtain⟨t,rfl⟩:=rx;obtain⟨t',rfl⟩:=ry;exact rule i j t t' s _ _ ⟨.bl (g i j),H,I,rfl,q⟩
def IG (i j:Int):Prop:=0 < j/\j < 1073741824
def IE (i j:Int):Prop:=0<=j/\j<=1000000/\i.natAbs < 2 ^ 64
def DP (i j:Int):Prop:=(-(2 ^ 64) < i/\i < 2 ^ 64)\/(-(2 ^ 64) < j/\j < 2 ^ 64)
theorem DP.ok {i j}(h:DP i j):IntMulOk i j:=by
 rcases h with ⟨h1,h2⟩ | ⟨h1,h2⟩
 ·exact .of_left (intBits_le_64 h1 h2)
 ·exact .of_right (intBits_le_64 h1 h2)
theorem fR:gQ X (binaryOp .Add) (Aw fun i j=>.int (i+j)):=Fj fun _ _ _ _ _ _ _ q=>add_int q
theorem iL:gQ X (binaryOp .Sub) (Aw fun i j=>.int (i - j)):=Fj fun _ _ _ _ _ _ _ q=>sub_int q
theorem kg:gQ X (binaryOp .Mult) (rI DP fun i j=>.int (i*j)):=GN fun _ _ _ _ _ _ _ hc q=>mul_int q hc.ok
theorem bN:gQ X (binaryOp .FloorDiv) (rI IG fun i j=>.int (i / j)):=GN fun i j _ _ _ _ _ hc q=>by
 have h1:(0:Int) < j:=hc.1;have h2:j < 1073741824:=hc.2;exact floordiv_int (by omega) (by rw[Int.fdiv_eq_ediv_of_nonneg i (by omega)];exact q) (.inl (PyProof.noPylong_small (by omega)))
theorem bJ:gQ X (binaryOp .Mod) (rI (fun _ j=>0 < j) fun i j=>.int (i % j)):=GN fun i j _ _ _ _ _ hc q=>by
 have h1:(0:Int) < j:=hc;exact mod_int' (by omega) (by rw[Int.fmod_eq_emod_of_nonneg i (by omega)];exact q)
theorem Ci:gQ X (binaryOp .Pow) (rI IE fun i j=>.int (i ^ j.toNat)):=GN fun _ _ _ _ _ _ _ hc q=>pow_int_small hc.1 hc.2.1 hc.2.2 q
theorem unI {f:Value->Sem Value}{g:Int->Int}
  (rule:∀(i:Int) (t:Tok) (s:Shared) (Q:Value->Shared->Prop) (E:Value->Shared->Prop),Q (.int (g i) s.toks) { s with toks:=s.toks+1 }->wpAny (model X.prog X.w) X.A (f (.int i t)) Q E s):
  GV X f (rU fun i=>.int (g i)):=by
 intro WG s σ H x v Q I rx h;obtain⟨i,rfl,q⟩:=h;obtain⟨t,rfl⟩:=rx;exact rule i t s _ _ ⟨.int (g i),H,I.tok _,⟨_,rfl⟩,q⟩
theorem wx:GV X (unaryOp .USub) (rU fun i=>.int (-i)):=unI fun _ _ _ _ _ q=>neg_int q
def Eu:V->V->Bool
 | .bj,.bj=>true | .bj,.int _=>true | .int _,.bj=>true | .bj,.bl _=>true | .bl _,.bj=>true | .bj,.str _=>true | .str _,.bj=>true
 | .int _,.int _=>true | .bl _,.bl _=>true | .str _,.str _=>true | .wj _,.wj _=>true
 | .int _,.str _=>true | .str _,.int _=>true | .bl _,.str _=>true | .str _,.bl _=>true
 | _,_=>false
def rEq:R2:=fun x y H Q=>Eu x y=true/\Q (.bl (decide (x=y))) H
def rNe:R2:=fun x y H Q=>Eu x y=true/\Q (.bl (!decide (x=y))) H
theorem uR {i j}:decide (V.int i=V.int j)=(i == j):=by
 rw[Bool.eq_iff_iff];simp
theorem yz {i j}:decide (V.bl i=V.bl j)=(i == j):=by
 rw[Bool.eq_iff_iff];simp
theorem uQ {i j}:decide (V.str i=V.str j)=(i == j):=by
 rw[Bool.eq_iff_iff];simp
theorem uS {i j}:decide (V.wj i=V.wj j)=(i.toList == j.toList):=by
 rw[Bool.eq_iff_iff];cases i;cases j;simp
theorem cb {WG σ H s Q k k'}(I:Inv X WG σ H s) (q:Q (.bl k) H) (e:k=k'):EP X WG σ Q (.bool k') s:=by
 subst e;exact⟨.bl k,H,I,rfl,q⟩
theorem bL:gQ X (compareOp .Eq) rEq:=by
 intro WG s σ H x y v u Q I rx ry h;obtain⟨hs,q⟩:=h;cases x with
 | bj=>
  cases rx;cases y with
  | bj=>cases ry;exact PySem.EqNone.eq_none_none (cb I q (by simp))
  | bl j=>cases ry;exact PySem.EqNone.eq_none_bool (cb I q (by simp))
  | int j=>obtain⟨t',rfl⟩:=ry;exact PySem.EqNone.eq_none_int (cb I q (by simp))
  | str j=>obtain⟨t',rfl⟩:=ry;exact PySem.EqNone.eq_none_str (cb I q (by simp))
  | _=>exact Xc (show false=true from hs) Jd
 | bl i=>
  cases rx;cases y with
  | bj=>cases ry;exact PySem.EqNone.eq_bool_none (cb I q (by simp))
  | bl j=>cases ry;exact eq_bool (cb I q yz)
  | str j=>obtain⟨t',rfl⟩:=ry;exact PySem.EqMixed.eq_bool_str (cb I q (by simp))
  | _=>exact Xc (show false=true from hs) Jd
 | int i=>
  obtain⟨t,rfl⟩:=rx;cases y with
  | bj=>cases ry;exact PySem.EqNone.eq_int_none (cb I q (by simp))
  | int j=>obtain⟨t',rfl⟩:=ry;exact eq_int (cb I q uR)
  | str j=>obtain⟨t',rfl⟩:=ry;exact PySem.EqMixed.eq_int_str (cb I q (by simp))
  | _=>exact Xc (show false=true from hs) Jd
 | str i=>
  obtain⟨t,rfl⟩:=rx;cases y with
  | bj=>cases ry;exact PySem.EqNone.eq_str_none (cb I q (by simp))
  | bl j=>cases ry;exact PySem.EqMixed.eq_str_bool (cb I q (by simp))
  | int j=>obtain⟨t',rfl⟩:=ry;exact PySem.EqMixed.eq_str_int (cb I q (by simp))
  | str j=>obtain⟨t',rfl⟩:=ry;exact eq_str (cb I q uQ)
  | _=>exact Xc (show false=true from hs) Jd
 | wj i=>
  obtain⟨t,rfl⟩:=rx;cases y with
  | wj j=>obtain⟨t',rfl⟩:=ry;exact PySem.W.eq_bytes (cb I q uS)
  | _=>exact Xc (show false=true from hs) Jd
 | _=>cases y<;>exact Xc (show false=true from hs) Jd
theorem j6:gQ X (compareOp .NotEq) rNe:=by
 intro WG s σ H x y v u Q I rx ry h;obtain⟨hs,q⟩:=h;cases x with
 | bj=>
  cases rx;cases y with
  | bj=>cases ry;exact PySem.EqNone.ne_none_none (cb I q (by simp))
  | bl j=>cases ry;exact PySem.EqNone.ne_none_bool (cb I q (by simp))
  | int j=>obtain⟨t',rfl⟩:=ry;exact PySem.EqNone.ne_none_int (cb I q (by simp))
  | str j=>obtain⟨t',rfl⟩:=ry;exact PySem.EqNone.ne_none_str (cb I q (by simp))
  | _=>exact Xc (show false=true from hs) Jd
 | bl i=>
  cases rx;cases y with
  | bj=>cases ry;exact PySem.EqNone.ne_bool_none (cb I q (by simp))
  | bl j=>cases ry;exact ne_bool (cb I q (Xd not yz))
  | str j=>obtain⟨t',rfl⟩:=ry;exact PySem.EqMixed.ne_bool_str (cb I q (by simp))
  | _=>exact Xc (show false=true from hs) Jd
 | int i=>
  obtain⟨t,rfl⟩:=rx;cases y with
  | bj=>cases ry;exact PySem.EqNone.ne_int_none (cb I q (by simp))
  | int j=>obtain⟨t',rfl⟩:=ry;exact ne_int (cb I q (Xd not uR))
  | str j=>obtain⟨t',rfl⟩:=ry;exact PySem.EqMixed.ne_int_str (cb I q (by simp))
  | _=>exact Xc (show false=true from hs) Jd
 | str i=>
  obtain⟨t,rfl⟩:=rx;cases y with
  | bj=>cases ry;exact PySem.EqNone.ne_str_none (cb I q (by simp))
  | bl j=>cases ry;exact PySem.EqMixed.ne_str_bool (cb I q (by simp))
  | int j=>obtain⟨t',rfl⟩:=ry;exact PySem.EqMixed.ne_str_int (cb I q (by simp))
  | str j=>obtain⟨t',rfl⟩:=ry;exact ne_str (cb I q (Xd not uQ))
  | _=>exact Xc (show false=true from hs) Jd
 | wj i=>
  obtain⟨t,rfl⟩:=rx;cases y with
  | wj j=>obtain⟨t',rfl⟩:=ry;exact PySem.W.ne_bytes (cb I q (Xd not uS))
  | _=>exact Xc (show false=true from hs) Jd
 | _=>cases y<;>exact Xc (show false=true from hs) Jd
theorem uy:gQ X (compareOp .Lt) (Aw fun i j=>.bl (decide (i < j))):=zD fun _ _ _ _ _ _ _ q=>lt_int q
theorem AA:gQ X (compareOp .LtE) (Aw fun i j=>.bl (decide (i<=j))):=zD fun _ _ _ _ _ _ _ q=>le_int q
theorem gy:gQ X (compareOp .Gt) (Aw fun i j=>.bl (decide (j < i))):=zD fun _ _ _ _ _ _ _ q=>gt_int q
theorem Fi:gQ X (compareOp .GtE) (Aw fun i j=>.bl (decide (j<=i))):=zD fun _ _ _ _ _ _ _ q=>ge_int q
theorem jx:gQ X (compareOp .Is) (fun x y H Q=>y=.bj/\Q (.bl (decide (x=.bj))) H):=by
 intro WG s σ H x y v u Q I rx ry h;obtain⟨rfl,q⟩:=h;cases ry;refine is_none_gen (cb I q ?_);cases x<;>first
  | (cases rx;rfl)
  | (obtain⟨t,rfl⟩:=rx;rfl)
theorem i7:gQ X (compareOp .IsNot) (fun x y H Q=>y=.bj/\Q (.bl (!decide (x=.bj))) H):=by
 intro WG s σ H x y v u Q I rx ry h;obtain⟨rfl,q⟩:=h;cases ry;refine isnot_none_gen (cb I q ?_);cases x<;>first
  | (cases rx;rfl)
  | (obtain⟨t,rfl⟩:=rx;rfl)
theorem xR (b) {op}(h:op≠.In:=by decide) (h2:op≠.NotIn:=by decide):behindInMarks op b=false:=by
 have e1:(op == CmpOp.In)=false:=by cases op<;>first | rfl | exact Xc rfl h
 have e2:(op == CmpOp.NotIn)=false:=by cases op<;>first | rfl | exact Xc rfl h2
 cases b<;>simp[behindInMarks,e1,e2]
theorem eJ {op:CmpOp}{r:R2}(ho:gQ X (compareOp op) r) (ha:PE X a ta) (hb:PE X b tb) (hm:behindInMarks op b=false):PE X (.Compare a [op] [b] pos) (tY r ta tb):=by
 intro WG s σ H Q I h;exact wpAny_Compare1 (DB ha hb I h fun v u s2 x y H2 I2 rx ry q=>ho WG s2 σ H2 x y v u Q I2 rx ry q) hm
def qJ (t:TE):TT:=fun σ H Q=>t σ H fun x H'=>∃k,x=.bl k/\Q k H'
theorem fg {op r}(ho:gQ X (compareOp op) r) (ha:PE X a ta) (hb:PE X b tb) (hm:behindInMarks op b=false):PT X (.Compare a [op] [b] pos) (qJ (tY r ta tb)):=by
 intro WG s σ H Q I h;refine wpAny_isTrue_Compare1 (dh (ha WG s σ H _ I h) fun v s1 ⟨x,H1,I1,r1,q1⟩=>dh (hb WG s1 σ H1 _ I1 q1) fun u s2 ⟨y,H2,I2,r2,q2⟩=>
  dh (ho WG s2 σ H2 x y v u _ I2 r1 r2 q2) fun c s3 ⟨z,H3,I3,r3,k,e,q3⟩=>?_) hm
 subst e;cases r3;exact wpAny_truthy_bool ⟨H3,I3,q3⟩
def wB (r r':R2) (ta tb tc:TE):TE:=fun σ H Q=>ta σ H fun x H1=>tb σ H1 fun y H2=>r x y H2 fun z H3=>∃k,z=.bl k/\
 (if k=true then tc σ H3 fun w' H4=>r' y w' H4 Q else Q (.bl false) H3)
theorem nN {op N1 r r'}(ho:gQ X (compareOp op) r) (Ko:gQ X (compareOp N1) r') (ha:PE X a ta) (hb:PE X b tb) (hc:PE X c tc)
  (hm:lastMarks [op,N1] [b,c]=false:=by with_unfolding_all rfl):PT X (.Compare a [op,N1] [b,c] pos) (qJ (wB r r' ta tb tc)):=by
 intro WG s σ H Q I h;refine isTrue_chain (dh (ha WG s σ H _ I h) fun v s1 ⟨x,H1,I1,r1,q1⟩=>test_link (dh (hb WG s1 σ H1 _ I1 q1) fun u s2 ⟨y,H2,I2,r2,q2⟩=>
  dh (ho WG s2 σ H2 x y v u _ I2 r1 r2 q2) fun d s3 ⟨z,H3,I3,r3,k,e,q3⟩=>?_)) hm
 subst e;cases r3;refine wpAny_truthy_bool ?_;cases k with
 | false=>
  obtain⟨k',e',q'⟩:=q3;cases e';exact ite_ff ⟨H3,I3,q'⟩
 | true=>
  refine ite_tt (test_last (dh (hc WG s3 σ H3 _ I3 q3) fun w' s4 ⟨z',H4,I4,r4,q4⟩=>dh (Ko WG s4 σ H4 y z' u w' _ I4 r2 r4 q4) fun d' s5 ⟨z2,H5,I5,r5,k2,e2,q5⟩=>?_));subst e2;cases r5;exact wpAny_truthy_bool ⟨H5,I5,q5⟩
theorem nZ:(sizeLine:Nat) < 2 ^ 63:=by rw[sizeLine_eq];decide
theorem gX:gQ X (binaryOp .Add) (fun x y H Q=>∃i j,x=.str i/\y=.str j/\i.length+j.length<=sizeLine/\Q (.str (i++j)) H):=by
 intro WG s σ H x y v u Q I rx ry h;obtain⟨i,j,rfl,rfl,hz,q⟩:=h;obtain⟨t,rfl⟩:=rx;obtain⟨t',rfl⟩:=ry;exact add_str (fun t' tk=>⟨.str (i++j),H,I.tok _,⟨_,rfl⟩,q⟩) hz
theorem vals1 {x us}(r:WY [x] us):∃u,us=[u]/\RelV x u:=by
 cases r with
 | cons r1 r2=>cases r2;exact⟨_,rfl,r1⟩
theorem vals2 {x y us}(r:WY [x,y] us):∃u w',us=[u,w']/\RelV x u/\RelV y w':=by
 cases r with
 | cons r1 r2=>
  cases r2 with
  | cons r3 r4=>cases r4;exact⟨_,_,rfl,r1,r3⟩
theorem vZ (hc:X.calm=true):gm X (.builtin "max") (fun xs H Q=>∃i j,xs=[.int i,.int j]/\Q (.int (if j > i then j else i)) H):=by
 intro WG s σ H xs us Q I r h;obtain⟨i,j,rfl,q⟩:=h;obtain⟨u,w',rfl,⟨t,rfl⟩,⟨t',rfl⟩⟩:=vals2 r;refine max_two_ints (I.ok.hd hc) fun h' tk k=>⟨_,H,I.kept k,?_,q⟩;by_cases hj:j > i
 ·rw[IZ hj,IZ hj];exact⟨_,rfl⟩
 ·rw[IY hj,IY hj];exact⟨_,rfl⟩
theorem vY (hc:X.calm=true):gm X (.builtin "min") (fun xs H Q=>∃i j,xs=[.int i,.int j]/\Q (.int (if j < i then j else i)) H):=by
 intro WG s σ H xs us Q I r h;obtain⟨i,j,rfl,q⟩:=h;obtain⟨u,w',rfl,⟨t,rfl⟩,⟨t',rfl⟩⟩:=vals2 r;refine min_two_ints (I.ok.hd hc) fun h' tk k=>⟨_,H,I.kept k,?_,q⟩;by_cases hj:j < i
 ·rw[IZ hj,IZ hj];exact⟨_,rfl⟩
 ·rw[IY hj,IY hj];exact⟨_,rfl⟩
theorem v7:gm X (.type "int") (fun xs H Q=>(∃i,xs=[.int i]/\Q (.int i) H)\/∃k,xs=[.bl k]/\Q (.int (if k then 1 else 0)) H):=by
 intro WG s σ H xs us Q I r h;rcases h with ⟨i,rfl,q⟩ | ⟨k,rfl,q⟩
 ·obtain⟨u,rfl,t,rfl⟩:=vals1 r;exact call_int_int ⟨.int i,H,I,⟨_,rfl⟩,q⟩
 ·obtain⟨u,rfl,r1⟩:=vals1 r;cases r1;exact call_int_bool ⟨.int (if k then 1 else 0),H,I.tok _,⟨_,rfl⟩,q⟩
theorem qy:gm X (.type "str") (fun xs H Q=>∃i,xs=[.int i]/\i.natAbs.log2 < 1920/\Q (.str (toString i)) H):=by
 intro WG s σ H xs us Q I r h;obtain⟨i,rfl,hz,q⟩:=h;obtain⟨u,rfl,t,rfl⟩:=vals1 r;exact PySem.P.str_of_int hz ⟨.str _,H,I.tok _,⟨_,rfl⟩,q⟩
end
end L2
namespace L2
open PySem PySem.Spec PyProof.Rows
structure we (h:Heap) (x dx C:Addr) (mA:Str->Option Value):Prop where
 obj:h.get? x=some (PySem.W.instObj C dx)
 ns:h.Ns1 dx mA
 ne:dx≠x
theorem vI {h:Heap}{dx:Addr}{mA:Str->Option Value}(n:h.Ns1 dx mA):∃od,h.get? dx=some od/\∀name,PySem.W.lookIn name od=some (mA name):=by
 obtain⟨o,es,ep,ho,hd,hk,_,hm⟩:=n;refine⟨o,ho,fun name=>?_⟩;have e:=hm name;unfold nsFind findBy at e;rw[<-Array.find?_toList] at e;unfold PySem.W.lookIn;rw[hd];dsimp only;split
 ·rename_i y q;rw[q] at e;exact Xd some e
 ·rename_i q;rw[q] at e;have a:es.toList.any (·.refKey)=false:=by
   rw[List.any_eq_false];intro y hy;obtain⟨z,t,hkey⟩:=hk y (Array.mem_toList_iff.mp hy);simp[DictEntry.refKey,hkey]
  have a':¬es.toList.any (·.refKey)=true:=by rw[a];exact Jd
  rw[IY a'];exact Xd some e
theorem we.look {h:Heap}{x dx C:Addr}{mA:Str->Option Value}(I:we h x dx C mA):∃od,PySem.W.InstAt h x (PySem.W.instObj C dx) C (some od)/\∀name,PySem.W.lookIn name od=some (mA name):=
 let ⟨od,ho,hl⟩:=vI I.ns
 ⟨od,⟨I.obj,rfl,rfl,ho⟩,hl⟩
section
variable {prog:Program}{w:World}{A:Around}{E:Value->Shared->Prop}{s:Shared}{K:Fg06}{x dx C f:Addr}{mA:Str->Option Value}{name:Str}{v:Value}
theorem get_map {expr Q}(X:K.In s.heap) (I:we s.heap x dx C mA) (hg:PySem.W.plainGet K C name=true) (hh:PySem.W.hasDictIn K C=true)
  (ha:PySem.W.findIn K (.ref C) name=some none) (hv:mA name=some v) (Ld:PySem.W.handedIn v=true) (h:Q v { s with toks:=s.toks+1 }):
  wpAny (model prog w) A (getAttr (.ref x) name expr) Q E s:=by
 obtain⟨od,J,hl⟩:=I.look;exact PySem.W.get_value X J (PySem.W.plainGet_of hg).1 (PySem.W.findObj_own hh ha rfl (by rw[hl,hv])) Ld h
theorem zg {ns Q}(X:K.In s.heap) (I:we s.heap x dx C mA)
  (hs:PySem.W.findIn K (.ref C) "__setattr__"=some (some (.builtin "object.__setattr__"))) (hp:PySem.W.plainOver K C=true) (ht:PySem.W.takerIn K C name=some none) (hh:PySem.W.hasDictIn K C=true)
  (hw:PySem.Within mA ns) (hsz:ns.length<=sizeLine)
  (h:∀h',we h' x dx C (fun y=>if y=name then some v else mA y)->Heap.SameBut dx s.heap h'->Q () { s with heap:=h',toks:=s.toks+2 }):
  wpAny (model prog w) A (setAttr (.ref x) name v) Q E s:=by
 obtain⟨od,J,hl⟩:=I.look;refine PySem.W.set_plain X J hs (PySem.W.osa_open (s:={ s with toks:=s.toks+1 }) (r:=none) X J hp ht fun b=>?_);obtain⟨cd,hc,Mu⟩:=PySem.W.any_some hh;have hx:s.heap.get? x=some ⟨.ref C,some dx,.plain,#[]⟩:=I.obj;refine Ja (Jb (Ja (Ja (wpAny_loadPart hx (Ja (PySem.W.Looks.here (s:={ s with toks:=s.toks+1 }) (PySem.W.looks_clsIn X hc) ?_))))));rw[Mu];refine Jb (a:=some dx) (Ja (Jb (Ja ?_)));refine wpAny_nsSet1 (s:={ s with toks:=s.toks+1 }) I.ns fun h' Lh K5=>?_;obtain⟨oD,esD,epD,hoD,hdD,hcD⟩:=Lh.count (PySem.Within.cons name v hw);refine Ja (wpAny_lookBehind hoD (by rw[hdD];exact pastItsLine_dict (IV hcD (by rw[Jf];omega))) ?_);exact Jb (h _ ⟨(K5.2 _ (W3 I.ne)).trans I.obj,Lh,I.ne⟩ K5)
theorem xZ {R vs kw}(X:K.In s.heap) (hm:PySem.W.makesIn K C=true)
  (hi:PySem.W.findIn K (.ref C) "__init__"=some (some (.ref f))) (hf:PySem.W.typeIn K (.ref f)=some (.type "function"))
  (h:codeAny (model prog w) (A.under (.builtin "type.__call__" ⟨.ref C::vs,kw⟩)) (.call (.ref f) ⟨.ref (s.heap.objs.size+1)::vs,kw⟩) (PySem.W.InitBack (s.heap.objs.size+1) R)
   { s with heap:=(s.heap.push PySem.W.emptyDict).push (PySem.W.instObj C s.heap.objs.size) }):
  codeAny (model prog w) A (.call (.ref C) ⟨vs,kw⟩) R s:=by
 obtain⟨hh,g,d,t,os⟩:=s;exact PySem.W.make_core (PySem.W.makes_of X hm) (PySem.W.looks_findIn X hi) (fun self=>PySem.W.bind_fn X self hf) (.inl rfl) h
end
def di (f:Str) (v:V):List (Str×V)->List (Str×V)
 | []=>[(f,v)]
 | (g,x)::r=>if g=f then(g,v)::r else(g,x)::di f v r
theorem mx (f g v):∀fs:List (Str×V),(di f v fs).lookup g=if g=f then some v else fs.lookup g
 | []=>by
  show List.lookup g [(f,v)]=_;by_cases h:g=f
  ·have hb:(g == f)=true:=beq_iff_eq.mpr h;simp only[List.lookup,hb,if_pos h]
  ·have hb:(g == f)=false:=beq_eq_false_iff_ne.mpr h;simp only[List.lookup,hb,if_neg h]
 | (k,x)::r=>by
  have ih:=mx f g v r;rw[show di f v ((k,x)::r)=(if k=f then(k,v)::r else(k,x)::di f v r) from rfl];by_cases hk:k=f
  ·rw[IZ hk];by_cases h:g=k
   ·have hb:(g == k)=true:=beq_iff_eq.mpr h;simp only[List.lookup,hb,if_pos (h.trans hk)]
   ·have hb:(g == k)=false:=beq_eq_false_iff_ne.mpr h;simp only[List.lookup,hb,if_neg (fun e:g=f=>h (e.trans hk.symm))]
  ·rw[IY hk];by_cases h:g=k
   ·have hb:(g == k)=true:=beq_iff_eq.mpr h;simp only[List.lookup,hb,if_neg (fun e:g=f=>hk (h.symm.trans e))]
   ·have hb:(g == k)=false:=beq_eq_false_iff_ne.mpr h;simp only[List.lookup,hb];exact ih
theorem md (f v):∀fs:List (Str×V),f∈(di f v fs).map (·.1)/\∀g,g∈fs.map (·.1)->g∈(di f v fs).map (·.1)
 | []=>⟨by simp[di],fun g h=>by simp at h⟩
 | (k,x)::r=>by
  obtain⟨i1,i2⟩:=md f v r;rw[show di f v ((k,x)::r)=(if k=f then(k,v)::r else(k,x)::di f v r) from rfl];by_cases hk:k=f
  ·rw[IZ hk];subst hk;exact⟨by simp,fun g h=>by simpa using h⟩
  ·rw[IY hk];refine⟨?_,fun g h=>?_⟩
   ·rw[W5];exact IH _ i1
   ·rw[W5] at h ⊢;rcases Jv.mp h with e | e
    ·exact Jv.mpr (.inl e)
    ·exact IH _ (i2 g e)
theorem my (f v):∀fs:List (Str×V),(di f v fs).length<=fs.length+1
 | []=>by simp[di]
 | (k,x)::r=>by
  have ih:=my f v r;rw[show di f v ((k,x)::r)=(if k=f then(k,v)::r else(k,x)::di f v r) from rfl];by_cases hk:k=f
  ·rw[IZ hk,Jf,Jf];omega
  ·rw[IY hk,Jf,Jf];omega
theorem kH.some_of {v o}(r:kH (some v) o):∃u,o=some u/\RelV v u:=by
 cases o with
 | none=>exact(show False from r).elim
 | some u=>exact⟨u,rfl,r⟩
theorem vQ {v u}(r:RelV v u):PySem.W.handedIn u=true:=by
 cases v with
 | bj=>cases (show u=Value.none from r);rfl
 | bl b=>cases (show u=Value.bool b from r);rfl
 | int i=>obtain⟨t,e⟩:=(show ∃t,u=Value.int i t from r);cases e;rfl
 | str x=>obtain⟨t,e⟩:=(show ∃t,u=Value.str x t from r);cases e;rfl
 | wj b=>obtain⟨t,e⟩:=(show ∃t,u=Value.bytes b t from r);cases e;rfl
 | GR b=>obtain⟨t,e⟩:=(show ∃t,u=Value.float b t from r);cases e;rfl
 | ref a=>cases (show u=Value.ref a from r);rfl
 | ty n=>cases (show u=Value.type n from r);rfl
section
variable {P:Program}{w:World}{H H':Hp}{h h':Heap}{a C dx:Addr}{fs JM:List (Str×V)}
theorem qj (cP:kP P w H h) (e:H a=some (.ins C dx fs)):∃mA,we h a dx C mA/\(∀f,kH (fs.lookup f) (mA f))/\PySem.Within mA (fs.map (·.1))/\fs.length<=1000/\H dx=some (.own a):=by
 obtain⟨d,z,ne,ob,mA,n,r,q⟩:=(show eG P w H h a (.ins C dx fs) from cP a _ e);exact⟨mA,⟨ob,n,ne⟩,r,q,z,d⟩
end
structure uZ (K:Fg06) (C:Addr):Prop where
 pg:PySem.W.plainGet K C Str.empty=true
 hd:PySem.W.hasDictIn K C=true
 po:PySem.W.plainOver K C=true
 sa:PySem.W.findIn K (.ref C) "__setattr__"=some (some (.builtin "object.__setattr__"))
theorem uZ.get {K C}(c:uZ K C) (f):PySem.W.plainGet K C f=true:=c.pg
def NoAttr (K:Fg06) (C:Addr) (f:Str):Prop:=PySem.W.findIn K (.ref C) f=some none
theorem NoAttr.DZ {K C f}(n:NoAttr K C f):PySem.W.takerIn K C f=some none:=by
 unfold PySem.W.takerIn;rw[show PySem.W.findIn K (.ref C) f=some none from n];rfl
section
variable {X:Cx}{WG:List (Addr×Obj)}{σ:St}{H:Hp}{s:Shared}{a C dx:Addr}{fs:List (Str×V)}{f:Str}{v:V}{A:Around}{E:Value->Shared->Prop}
theorem tq {b Q}(I:Inv X WG σ H s) (e:H a=some (.ins C dx fs)) (c:uZ X.K C) (n:NoAttr X.K C f) (l:fs.lookup f=some v)
  (h:∀u s',Inv X WG σ H s'->RelV v u->Q u s'):wpAny (model X.prog X.w) A (getAttr (.ref a) f b) Q E s:=by
 obtain⟨mA,O,r,_,_,_⟩:=qj I.cP e;obtain⟨u,hu,ru⟩:=kH.some_of (v:=v) (o:=mA f) (by rw[<-l];exact r f);exact get_map I.sU O (c.get f) c.hd n hu (vQ ru) (h u _ (I.tok _) ru)
theorem sG {y u Q}(I:Inv X WG σ H s) (e:H a=some (.ins C dx fs)) (c:uZ X.K C) (n:NoAttr X.K C f) (hl:fs.length < 1000) (ry:RelV y u)
  (h:∀s',Inv X WG σ (WX H a (.ins C dx (di f y fs))) s'->Q () s'):wpAny (model X.prog X.w) A (setAttr (.ref a) f u) Q E s:=by
 obtain⟨mA,O,r,wi,_,ho⟩:=qj I.cP e;have hz:(fs.map (·.1)).length<=sizeLine:=by rw[IU,sizeLine_eq];omega
 refine zg I.sU O c.sa c.po n.DZ c.hd wi hz fun h' O' sb=>h _ ?_;have hd:∃o,h'.get? dx=some o:=let ⟨o,_,_,e',_⟩:=O'.ns;⟨o,e'⟩;refine I.write (x:=a) (e:=dx) (by rw[e];exact True.intro) (.inr ho) (fun b q hb z=>(sb.2 b hb).trans z) hd ?_;refine⟨by rw[aB O.ne];exact ho,?_,O.ne,O'.obj,_,O'.ns,fun g=>?_,fun g hg=>?_⟩
 ·have:=my f y fs;omega
 ·show kH ((di f y fs).lookup g) (if g=f then some u else mA g);rw[mx];by_cases q:g=f
  ·rw[IZ q,IZ q];exact ry
  ·rw[IY q,IY q];exact r g
 ·by_cases q:g=f
  ·rw[q];exact(md f y fs).1
  ·refine(md f y fs).2 g (wi g fun z=>hg ?_);show(if g=f then some u else mA g)=none;rw[IY q];exact z
theorem Inv.made (I:Inv X WG σ H s):Inv X WG σ (WX (WX H s.heap.objs.size (.own (s.heap.objs.size+1))) (s.heap.objs.size+1) (.ins C s.heap.objs.size []))
  { s with heap:=(s.heap.push PySem.W.emptyDict).push (PySem.W.instObj C s.heap.objs.size) }:=by
 have e1:(s.heap.push PySem.W.emptyDict).get? s.heap.objs.size=some PySem.W.emptyDict:=JA s.heap rfl;have e2:((s.heap.push PySem.W.emptyDict).push (PySem.W.instObj C s.heap.objs.size)).get? (s.heap.objs.size+1)=some (PySem.W.instObj C s.heap.objs.size):=by
  have:=JA (s.heap.push PySem.W.emptyDict) (o:=PySem.W.instObj C s.heap.objs.size) rfl
  rwa [Heap.size_push] at this
 have e3:(s.heap.push PySem.W.emptyDict).Ns s.heap.objs.size (fun _=>none):=⟨PySem.W.emptyDict,#[],_,e1,rfl,(fun e he=>Xc he (by simp)),fun _=>rfl⟩;have I1:=I.laid (a:=s.heap.objs.size) (o:=.own (s.heap.objs.size+1)) (h':=s.heap.push PySem.W.emptyDict) (t':=s.toks) (fun b u q=>Jc _ q) (IW _) ⟨_,e1⟩;refine I1.laid (a:=s.heap.objs.size+1) (o:=.ins C s.heap.objs.size []) (t':=s.toks) (fun b u q=>Jc _ q) (Nat.le_of_eq (Heap.size_push _ _)) ?_;have ne:s.heap.objs.size≠s.heap.objs.size+1:=Jx (Jz _);refine⟨by rw[aB ne,ao],Jr _,ne,e2,fun _=>none,(Heap.Ns1.of_empty e3).at fun o q=>Jc _ q,fun _=>True.intro,fun y hy=>Xc rfl hy⟩
theorem zY {prog w env e f pos s Q}(hb:attributeBase e f env (eval e env)=eval e env)
  (h:wpAny (model prog w) A (eval e env) (fun o s₁=>wpAny (model prog w) A (getAttr o f true) Q E s₁) E s):wpAny (model prog w) A (eval (.Attribute e f pos) env) Q E s:=
 Attribute_any_ h (by rw[arm_eval_Attribute,hb])
end
def A1 (K:Fg06) (ta:TE) (f:Str):TE:=fun σ H Q=>ta σ H fun x H1=>∃a C dx fs v,x=.ref a/\H1 a=some (.ins C dx fs)/\uZ K C/\NoAttr K C f/\fs.lookup f=some v/\Q v H1
def E2 (K:Fg06) (ta tv:TE) (f:Str):TS:=fun D σ H=>tv σ H fun y H1=>ta σ H1 fun x H2=>∃a C dx fs,x=.ref a/\H2 a=some (.ins C dx fs)/\uZ K C/\NoAttr K C f/\fs.length < 1000/\
 D.nx σ (WX H2 a (.ins C dx (di f y fs)))
section
variable {X:Cx}{o e value:Expr}{f:Str}{pos pos' tpos:Pos}{ta tv:TE}
theorem bA (he:PE X e ta) (hb:attributeBase e f X.env (eval e X.env)=eval e X.env):PE X (.Attribute e f pos) (A1 X.K ta f):=by
 intro WG s σ H Q I h;refine zY hb (dh (he WG s σ H _ I h) fun u s1 ⟨x,H1,I1,rx,a,C,dx,fs,v,ex,ea,c,n,l,q⟩=>?_);subst ex;obtain rfl:u=Value.ref a:=rx;exact tq I1 ea c n l fun u' s2 I2 ru=>⟨v,H1,I2,ru,q⟩
theorem cD (ha:PE X o ta) (hv:PE X value tv) (hs:swapsWith value (some (.Attribute o f pos')) pos.line X.env=pure false):PS X (.Assign [.Attribute o f pos'] value pos) (E2 X.K ta tv f):=by
 intro WG s σ H D I h;refine plainObj_wpAny_Assign_Attribute (dh (hv WG s σ H _ I h) fun u s1 ⟨y,H1,I1,ry,q⟩=>dh (ha WG s1 σ H1 _ I1 q) fun ov s2 ⟨x,H2,I2,rx,a,C,dx,fs,ex,ea,c,n,l,q2⟩=>?_) hs;subst ex;obtain rfl:ov=Value.ref a:=rx;exact sG I2 ea c n l ry fun s3 I3=>⟨σ,_,I3,q2⟩
end
section
variable {X:Cx}{WG:List (Addr×Obj)}{σ:St}{H:Hp}{s:Shared}{A:Around}{E:Value->Shared->Prop}{Q:Value->Shared->Prop}{c:Value}{b:Bool}
end
end L2
namespace L2
open PySem PySem.Spec PyProof.Rows
structure dY (k:Nat) (A:Around):Prop where
 hd:A.handled=none
 dp:A.depth+3*k+5 < recursionLimit
 un:A.units+16*k+200 < cLine
 gd:A.guards=some []
theorem dY.mono {j k A}(r:dY k A) (h:j<=k):dY j A:=⟨r.hd,by have:=r.dp;omega,by have:=r.un;omega,r.gd⟩
theorem dY.deeper {k A}(r:dY (k+1) A) (env):dY k (A.deeper env):=
 ⟨r.hd,by have:=r.dp;show A.depth+1+3*k+5 < _;omega,by have:=r.un;show A.units+3+16*k+200 < _;omega,r.gd⟩
theorem sR {A:Around}{C:Addr}{us:List Value}{kw:List (Str×Value)}:(A.under (.builtin "type.__call__" ⟨.ref C::us,kw⟩)).depth=A.depth+1:=by
 first | rfl | simp[Around.under,Code.weight,Code.isCreation,Code.isGuard,Code.isCaller,Code.frames,Code.isFrame,guardIds]
theorem sQ {A:Around}{C:Addr}{us:List Value}{kw:List (Str×Value)}:(A.under (.builtin "type.__call__" ⟨.ref C::us,kw⟩)).units=A.units+1:=by
 first | rfl | simp[Around.under,Code.cUnits,Code.frames,Code.isFrame]
theorem dY.make {k:Nat}{A:Around}(r:dY (k+1) A) (C:Addr) (us:List Value) (kw:List (Str×Value)):dY k (A.under (.builtin "type.__call__" ⟨.ref C::us,kw⟩)):=
 ⟨r.hd,by have:=r.dp;rw[sR];omega,by have:=r.un;rw[sQ];omega,r.gd⟩
theorem dY.depth {k A}(r:dY k A):A.depth < recursionLimit:=by have:=r.dp;omega
theorem dY.units {k A}(r:dY k A):A.units+64 < cLine:=by have:=r.un;omega
def su:TA:=fun _ H Q=>Q [] H
def gR (ta:TE) (tr:TA):TA:=fun σ H Q=>ta σ H fun x H1=>tr σ H1 fun xs H2=>Q (x::xs) H2
section
variable {X:Cx}{e:Expr}{es:List Expr}{te:TE}{t:TA}{pos:Pos}
theorem cJ:PA X [] su:=fun _ _ _ _ H Q I h=>Calls.spliced_nil ⟨[],H,I,.nil,h⟩
theorem bI (ha:PE X e te) (hr:PA X es t) (hs:starEach (e::es) X.env=(false,eval e X.env)::starEach es X.env:=by rfl):PA X (e::es) (gR te t):=by
 intro pos WG s σ H Q I h;rw[hs];show wpAny _ _ (spliced ((false,eval e X.env)::backTo pos (starEach es X.env))) _ _ s;refine Calls.spliced_cons (dh (ha WG s σ H _ I h) fun u s1 ⟨x,H1,I1,r1,q1⟩=>?_);exact dh (hr pos WG s1 σ H1 _ I1 q1) fun us s2 ⟨xs,H2,I2,r2,q2⟩=>⟨x::xs,H2,I2,.cons r1 r2,q2⟩
def Ea (t:TA):TE:=fun σ H Q=>t σ H fun xs H1=>xs.length<=sizeLine/\∀p,H1 p=none->Q (.ref p) (WX H1 p (.tup xs))
def Ei (t:TA):TE:=fun σ H Q=>t σ H fun xs H1=>xs.length<=sizeLine/\∀p,H1 p=none->Q (.ref p) (WX H1 p (.lst xs))
theorem aI {x1}(h:PA X es t):PE X (.Tuple es x1 pos) (Ea t):=by
 intro WG s σ H Q I hq;refine wpAny_Tuple_spliced (dh (h pos WG s σ H _ I hq) fun us s1 ⟨xs,H1,I1,r,z,q⟩=>⟨by rw[<-r.length];exact z,?_⟩);have hf:H1 s1.heap.objs.size=none:=I1.cP.fresh (IW _);refine⟨.ref s1.heap.objs.size,WX H1 s1.heap.objs.size (.tup xs),I1.laid (t':=s1.toks) (fun b u e=>Jc _ e) (IW _) ?_,rfl,q _ hf⟩;exact⟨z,us,r,⟨_,JA _ rfl,rfl,_,rfl⟩⟩
theorem bB (h:PA X es t):PE X (.List es pos) (Ei t):=by
 intro WG s σ H Q I hq;refine wpAny_List_spliced (dh (h pos WG s σ H _ I hq) fun us s1 ⟨xs,H1,I1,r,z,q⟩=>⟨by rw[<-r.length];exact z,?_⟩);have hf:H1 s1.heap.objs.size=none:=I1.cP.fresh (IW _);refine⟨.ref s1.heap.objs.size,WX H1 s1.heap.objs.size (.lst xs),I1.laid (t':=s1.toks) (fun b u e=>Jc _ e) (IW _) ?_,rfl,q _ hf⟩;exact⟨z,us,0,r,JA _ rfl⟩
end
abbrev Sp:=List V->Hp->VK->XK->Prop
abbrev z8:=List Env->Hp->Shared->XK->Value->Shared->Prop
structure tS (P:Program) (w:World) (K:Fg06) (mg:Str->Option Value) (base:Heap) (A:Around) (outer:List Env) (s:Shared) (H:Hp):Prop where
 frames:A.frames=some outer
 mod:Mod K mg base
 bs:∀b o,base.get? b=some o->s.heap.get? b=some o/\H b=none
 zW:base.objs.size<=s.heap.objs.size
 mI:s.heap.FunFrames base outer
 Dt:∀b∈yq outer,H b=none
 cP:kP P w H s.heap
 bare:AllBare s.gens
def CE (outer:List Env) (P:Program) (w:World) (H:Hp) (s:Shared) (Q:VK) (u:Value) (s':Shared):Prop:=
 ∃v H',s'.os=s.os/\AllBare s'.gens/\Un (yq outer) [] H H' s.heap s'.heap/\kP P w H' s'.heap/\RelV v u/\Q v H'
def CR (CX:z8) (outer:List Env) (P:Program) (w:World) (H:Hp) (s:Shared) (Q:VK) (E:XK) (r:Result) (s':Shared):Prop:=
 match r with
 | .ok (.ret u)=>CE outer P w H s Q u s'
 | .ok _=>False
 | .error e=>CX outer H s E e s'
structure bK (P:Program) (w:World) (K:Fg06) (mg:Str->Option Value) (base:Heap) (CX:z8) (k:Nat) (f:Addr) (fd:FuncData) (ps:List Str) (sp:Sp):Prop where
 len:∀vs H Q E,sp vs H Q E->vs.length=ps.length
 run:∀A outer s H args us vs Q E,dY k A->tS P w K mg base A outer s H->BindsTo s fd args (ps.zip us)->WY vs us->sp vs H Q E->
  codeAny (model P w) A (.call (.ref f) args) (CR CX outer P w H s Q E) s
theorem bK.mono {P w K mg base CX j k f fd ps sp}(F:bK P w K mg base CX j f fd ps sp) (h:j<=k):
  bK P w K mg base CX k f fd ps sp:=⟨F.len,fun A outer s H args us vs Q E hr=>F.run A outer s H args us vs Q E (hr.mono h)⟩
theorem tS.make {P w K mg base A outer s H}(e:tS P w K mg base A outer s H) (C us kw):
  tS P w K mg base (A.under (.builtin "type.__call__" ⟨.ref C::us,kw⟩)) outer s H:=⟨by first | exact e.frames | (simpa[Around.under,Code.envs,Code.isFrame,pushEnvs] using e.frames),e.mod,e.bs,e.zW,e.mI,e.Dt,e.cP,e.bare⟩
section
variable {X:Cx}{WG:List (Addr×Obj)}{σ:St}{H:Hp}{s s':Shared}
theorem Inv.Gd (I:Inv X WG σ H s):tS X.prog X.w X.K X.mg X.base X.A X.stack s H:=
 ⟨I.ok.frames,I.ok.mod,I.bs,IV I.ok.zW I.sz,I.stack,I.uc,I.cP,I.bare⟩
theorem Inv.after {Q u}(I:Inv X WG σ H s) (h:CE X.stack X.prog X.w H s Q u s'):EP X WG σ Q u s':=by
 obtain⟨v,H',os,bare,un,cP,r,q⟩:=h;obtain⟨hh,g,d,t,JI⟩:=s';obtain rfl:JI=s.os:=os;exact⟨v,H',I.call (h':=hh) (g':=g) (d':=d) (t':=t) (ch:=[]) un cP bare (fun b z=>Xc z (by simp)),r,q⟩
end
def qL (sp:Sp) (WU:List V) (E:XK) (t:TA):TE:=fun σ H Q=>t σ H fun vs H1=>sp (vs++WU) H1 Q E
def Ae (C:Addr) (sp:Sp) (WU:List V) (E:XK) (t:TA):TE:=fun σ H Q=>t σ H fun vs H1=>∀x dx,H1 x=none->H1 dx=none->dx≠x->
 sp (.ref x::(vs++WU)) (WX (WX H1 dx (.own x)) x (.ins C dx [])) (fun v H2=>v=.bj/\Q (.ref x) H2) E
def Binds (K:Fg06) (fd:FuncData) (ps:List Str) (ds:List Value):Prop:=
 ∀s us,K.In s.heap->(us++ds).length=ps.length->BindsTo s fd ⟨us,[]⟩ (ps.zip (us++ds))
theorem Binds.all {K fd ps}(h:∀us:List Value,us.length=ps.length->bindArgs fd ⟨us,[]⟩=pure (ps.zip us)):Binds K fd ps []:=fun s us _ hl=>by
 rw[Js] at hl ⊢;exact .of_eq (h us hl)
def Passes (CX:z8) (X:Cx) (E:XK):Prop:=∀WG σ H s e s',Inv X WG σ H s->CX X.stack H s E e s'->X.xe e s'
section
variable {X:Cx}{CX:z8}{k:Nat}{f C:Addr}{fd:FuncData}{ps:List Str}{sp:Sp}{WU:List V}{ds:List Value}{E:XK}{x m:Str}{p pos WR:Pos}{e o:Expr}{es:List Expr}{ta:TE}{t:TA}
theorem Bs {WG σ H s Q us vs}(F:bK X.prog X.w X.K X.mg X.base CX k f fd ps sp) (hr:dY k X.A) (hb:Binds X.K fd ps ds) (hd:WY WU ds) (hx:Passes CX X E)
  (I:Inv X WG σ H s) (r:WY vs us) (h:sp (vs++WU) H Q E):wpAny (model X.prog X.w) X.A (call (.ref f) us) (EP X WG σ Q) X.xe s:=by
 have r2:WY (vs++WU) (us++ds):=r.append hd;have hl:(us++ds).length=ps.length:=by rw[<-r2.length];exact F.len _ _ _ _ h
 refine wpAny_call (codeAny_mono (F.run X.A X.stack s H ⟨us,[]⟩ (us++ds) (vs++WU) Q E hr I.Gd (hb s us I.sU hl) r2 h) fun r s' hq=>?_);cases r with
 | error e=>exact hx WG σ H s e s' I hq
 | ok fl=>
  cases fl with
  | ret u=>exact I.after hq
  | next=>exact False.elim hq
  | brk=>exact False.elim hq
  | cont=>exact False.elim hq
theorem zq (F:bK X.prog X.w X.K X.mg X.base CX k f fd ps sp) (hr:dY k X.A) (hg:Gl X x) (hm:X.mg x=some (.ref f)) (hk:PySem.W.keepIn X.K (.ref f)=true) (hb:Binds X.K fd ps ds) (hd:WY WU ds) (hx:Passes CX X E)
  (ha:PA X (e::es) t) (KG:(x == ("__debug__":Str))=false:=by decide) (he:starEach (e::es) X.env=(false,eval e X.env)::starEach es X.env:=by rfl) (JX:(backTo pos (starEach es X.env)).any (·.1)=false:=by rfl):
  PE X (.Call (.Name x p) (e::es) [] pos) (qL sp WU E t):=by
 intro WG s σ H Q I h;refine wpAny_Call_Name_kw (qd I hg hm ?_ KG);refine PySem.W.callWith_K (h₀:=X.base) I.ok.mod.GP hk (dh (ha pos WG s σ H _ I h) fun us s1 ⟨vs,H1,I1,r,q⟩=>⟨I1.sU,?_⟩) he JX;exact Bs F hr hb hd hx I1 r q
structure Mk (K:Fg06) (C f:Addr):Prop where
 makes:PySem.W.makesIn K C=true
 init:PySem.W.findIn K (.ref C) "__init__"=some (some (.ref f))
 fn:PySem.W.isFn K (.ref f)=true
 kp:PySem.W.keepIn K (.ref C)=true
theorem xA {WG σ H s Q us vs}(M:Mk X.K C f) (F:bK X.prog X.w X.K X.mg X.base CX k f fd ps sp) (hr:dY (k+1) X.A) (hb:Binds X.K fd ps ds) (hd:WY WU ds)
  (hx:Passes CX X E) (I:Inv X WG σ H s) (r:WY vs us)
  (h:∀x dx,H x=none->H dx=none->dx≠x->sp (.ref x::(vs++WU)) (WX (WX H dx (.own x)) x (.ins C dx [])) (fun v H2=>v=.bj/\Q (.ref x) H2) E):
  wpAny (model X.prog X.w) X.A (call (.ref C) us) (EP X WG σ Q) X.xe s:=by
 have hq:=h (s.heap.objs.size+1) s.heap.objs.size (I.cP.fresh (Nat.le_succ _)) (I.cP.fresh (IW _)) (Jx (Jz _));have I2:=Inv.made (C:=C) I;have r2:WY (V.ref (s.heap.objs.size+1)::(vs++WU)) (Value.ref (s.heap.objs.size+1)::(us++ds)):=.cons rfl (r.append hd);have hl:(Value.ref (s.heap.objs.size+1)::us++ds).length=ps.length:=by
  have e:=r2.length;rw[F.len _ _ _ _ hq] at e;exact e.symm
 refine wpAny_call (xZ (f:=f) I.sU M.makes M.init (beq_iff_eq.mp M.fn) (codeAny_mono (F.run _ X.stack _ _ ⟨Value.ref (s.heap.objs.size+1)::us,[]⟩ (Value.ref (s.heap.objs.size+1)::(us++ds)) _ _ E (hr.make C us [])
  (I2.Gd.make C us []) (hb _ (Value.ref (s.heap.objs.size+1)::us) I2.sU hl) r2 hq) fun r s' Qh=>?_))
 cases r with
 | error e=>exact hx WG σ _ _ e s' I2 Qh
 | ok fl=>
  cases fl with
  | ret u=>
   obtain⟨v,H',I3,rv,ev,q3⟩:=I2.after Qh;subst ev;exact⟨rv,⟨V.ref (s.heap.objs.size+1),H',I3,rfl,q3⟩⟩
  | next=>exact False.elim Qh
  | brk=>exact False.elim Qh
  | cont=>exact False.elim Qh
theorem zp (M:Mk X.K C f) (F:bK X.prog X.w X.K X.mg X.base CX k f fd ps sp) (hr:dY (k+1) X.A) (hg:Gl X x) (hm:X.mg x=some (.ref C)) (hb:Binds X.K fd ps ds) (hd:WY WU ds) (hx:Passes CX X E)
  (ha:PA X (e::es) t) (KG:(x == ("__debug__":Str))=false:=by decide) (he:starEach (e::es) X.env=(false,eval e X.env)::starEach es X.env:=by rfl) (JX:(backTo pos (starEach es X.env)).any (·.1)=false:=by rfl):
  PE X (.Call (.Name x p) (e::es) [] pos) (Ae C sp WU E t):=by
 intro WG s σ H Q I h;refine wpAny_Call_Name_kw (qd I hg hm ?_ KG);refine PySem.W.callWith_K (h₀:=X.base) I.ok.mod.GP M.kp (dh (ha pos WG s σ H _ I h) fun us s1 ⟨vs,H1,I1,r,q⟩=>⟨I1.sU,?_⟩) he JX;exact xA M F hr hb hd hx I1 r q
end
section
variable {X:Cx}{CX:z8}{k:Nat}{f C:Addr}{fd:FuncData}{ps ks:List Str}{sp:Sp}{E:XK}{x m:Str}{p pos WR kpos:Pos}{e o:Expr}{es:List Expr}{kws:List Keyword}{te ta:TE}{t tk:TA}{nm:Option Str}
variable {g:List Value->List Value->List Value}{gV:List V->List V->List V}
end
structure aS (N P:List Str) (sc:Scope):Prop where
 kind:sc.kind=.function
 co:sc.isCoroutine=false
 gen:sc.isGenerator=false
 nd:N.Nodup
 pre:N.take P.length=P
 par:∀x∈P,sc.names.lookup x=some .local\/sc.names.lookup x=some .cell
 Dd:∀y∈sc.names,y.2≠.free
theorem fE {N P:List Str}{c:Scope}(a:c.kind=.function:=by rfl) (b:c.isCoroutine=false:=by rfl) (d:c.isGenerator=false:=by rfl) (e:N.take P.length=P:=by rfl) (f:N.Nodup/\(∀x∈P,c.names.lookup x=some .local\/c.names.lookup x=some .cell)/\∀y∈c.names,y.2≠.free:=by decide +kernel):aS N P c:=⟨a,b,d,f.1,e,f.2.1,f.2.2⟩
theorem pP {kindOf x}:∀{binds m},(∀v,(x,v)∉binds)->bindL kindOf binds m x=m x
 | [],_,_=>rfl
 | (n,v)::r,m,h=>by
  unfold bindL;rw[pP fun w hw=>h w (IH _ hw)];split
  ·have:x≠n:=by rintro rfl;exact h v II
   simp[this]
  ·rfl
theorem pR {kindOf x}:∀{binds m},(∀v,(x,v)∉binds)->bindC kindOf binds m x=m x
 | [],_,_=>rfl
 | (n,v)::r,m,h=>by
  unfold bindC;rw[pR fun w hw=>h w (IH _ hw)];split
  ·rfl
  ·have:x≠n:=by rintro rfl;exact h v II
   simp[this]
theorem pQ {kindOf:Str->Option NameKind}{x:Str}{v:Value}:∀{P:List Str}{vs:List Value}{i:Nat}{m:Str->Option Value},P.Nodup->P[i]?=some x->vs[i]?=some v->kindOf x=some .local->
  bindL kindOf (P.zip vs) m x=some v
 | [],_,_,_,_,h,_,_=>by simp at h
 | _::_,[],_,_,_,_,h,_=>by simp at h
 | p::P,w::vs,0,m,nd,h1,h2,hk=>by
  simp at h1 h2;subst h1;subst h2;show bindL kindOf ((p,w)::P.zip vs) m p=_;unfold bindL;rw[pP fun v hv=>(List.nodup_cons.mp nd).1 (List.of_mem_zip hv).1,IZ hk];simp
 | p::P,w::vs,i+1,m,nd,h1,h2,hk=>by
  show bindL kindOf ((p,w)::P.zip vs) m x=_;unfold bindL;exact pQ (i:=i) (List.nodup_cons.mp nd).2 (by simpa using h1) (by simpa using h2) hk
theorem pS {kindOf:Str->Option NameKind}{x:Str}{v:Value}:∀{P:List Str}{vs:List Value}{i:Nat}{m:Str->Option Value},P.Nodup->P[i]?=some x->vs[i]?=some v->kindOf x≠some .local->
  bindC kindOf (P.zip vs) m x=some v
 | [],_,_,_,_,h,_,_=>by simp at h
 | _::_,[],_,_,_,_,h,_=>by simp at h
 | p::P,w::vs,0,m,nd,h1,h2,hk=>by
  simp at h1 h2;subst h1;subst h2;show bindC kindOf ((p,w)::P.zip vs) m p=_;unfold bindC;rw[pR fun v hv=>(List.nodup_cons.mp nd).1 (List.of_mem_zip hv).1,IY hk];simp
 | p::P,w::vs,i+1,m,nd,h1,h2,hk=>by
  show bindC kindOf ((p,w)::P.zip vs) m x=_;unfold bindC;exact pS (i:=i) (List.nodup_cons.mp nd).2 (by simpa using h1) (by simpa using h2) hk
def start (N:List Str) (vs:List V):St:=vs.map some++List.replicate (N.length - vs.length) none
def rQ (CX:z8) (P:Program) (w:World) (K:Fg06) (mg:Str->Option Value) (base:Heap) (N:List Str) (WL:Str) (scope:Scope) (f:Addr) (cd:Value) (A:Around) (outer:List Env) (s:Shared) (H:Hp) (E:XK):Cx where
 prog:=P
 w:=w
 K:=K
 mg:=mg
 base:=base
 A:=A.deeper (envOfC WL scope s.heap.objs.size f cd)
 N:=N
 s₀:=s
 H₀:=H
 env:=envOfC WL scope s.heap.objs.size f cd
 outer:=outer
 stack:=envOfC WL scope s.heap.objs.size f cd::outer
 ex:=[]
 calm:=true
 fn:=fun _=>true
 pn:=[]
 xe:=fun e s'=>wpAny (model P w) (A.deeper (envOfC WL scope s.heap.objs.size f cd)) (leaving (envOfC WL scope s.heap.objs.size f cd) e) (fun _ s''=>CX outer H s E e s'') (fun e' s''=>CX outer H s E e' s'') s'
theorem rT {sc:Scope}{n:Nat}{x:Str}(h:sc.names.lookup x=some .cell):∃c,(cellsFrom n sc.names []).lookup x=some c:=by
 have q:=PySem.W.cellsFrom_some sc.names n [] (.inl h);exact Option.isSome_iff_exists.mp q
theorem vO {CX:z8}{P:Program}{w:World}{K:Fg06}{mg:Str->Option Value}{base:Heap}{N ps:List Str}{WL:Str}{scope:Scope}{f:Addr}{cd:Value}{A:Around}{outer:List Env}{s s1:Shared}{H:Hp}{E:XK}{us:List Value}{vs:List V}
  (S:aS N ps scope) (hd:A.handled=none) (e0:tS P w K mg base A outer s H) (hl:vs.length=ps.length) (r:WY vs us)
  (x:InCallC s s.heap.objs.size (bindL (envOfC WL scope s.heap.objs.size f cd).kindOf (ps.zip us) fun _=>none) (cellsFrom (s.heap.objs.size+1) scope.names []) (bindC (envOfC WL scope s.heap.objs.size f cd).kindOf (ps.zip us) fun _=>none) s1):
  Inv (rQ CX P w K mg base N WL scope f cd A outer s H E) [] (start N vs) H s1:=by
 have JX:ps.length<=N.length:=by have:=Xd List.length S.pre;rw[W6] at this;omega
 obtain⟨h1,tk,rfl,hk⟩:=x.done;have noA:∀b:Addr,b∉(rQ CX P w K mg base N WL scope f cd A outer s H E).ex:=fun b z=>Xc (show b∈([]:List Addr) from z) (by simp);refine⟨⟨e0.mod,S.kind,rfl,rfl,IW _,fun y z c h1 h2=>?_,fun y hy=>?_,fun y c _ h=>?_,fun _=>hd,Around.frames_deeper e0.frames,.inr ⟨rfl,rfl⟩,fun b z=>Xc z (noA b),e0.bs,e0.zW,fun b _ _=>noA b,fun b z=>Xc z (noA b),e0.mI,e0.Dt⟩,
  rfl,e0.bare,Un.kept hk,⟨_,x.toInCall.ns,fun i y v h1 h2 h3=>?_⟩,fun y c h=>⟨_,x.cell y c h⟩,e0.cP.fresh (IW _),fun y c h=>?_,fun p hp=>Xc (show p∈([]:List (Addr×Obj)) from hp) (by simp),e0.cP.kept hk,?_⟩
 ·exact name_of_addr x.apart (Je h1) (Je h2)
 ·have hy:scope.names.lookup y=some .cell\/scope.names.lookup y=some .free:=hy;rcases hy with hy | hy
  ·exact rT hy
  ·exact Xc rfl (S.Dd _ (Je hy))
 ·exact Nat.le_of_lt (x.above y c (Je h))
 ·have hi:i < vs.length:=by
   unfold start at h2;by_cases hi:i < vs.length
   ·exact hi
   ·rw[Jj (by simpa using hi)] at h2;rw[List.getElem?_replicate] at h2;split at h2<;>cases h2
  have ha:vs[i]?=some v:=by
   unfold start at h2;rw[JB (by simpa using hi),I0] at h2;cases e:vs[i]? with
   | none=>rw[e] at h2;cases h2
   | some a=>rw[e] at h2;cases h2;rfl
  obtain⟨u,hu,rv⟩:=r.get ha;have hp:ps[i]?=some y:=by
   rw[<-S.pre,List.getElem?_take_of_lt (by omega)];exact h1
  have ndP:ps.Nodup:=by rw[<-S.pre];exact S.nd.sublist (List.take_sublist _ _)
  refine⟨u,rv,?_⟩;rcases S.par y (IX hp) with k | k
  ·exact .inl ⟨k,pQ ndP hp hu k⟩
  ·obtain⟨c,e⟩:=rT (n:=s.heap.objs.size+1) k;refine .inr ⟨.inl k,c,e,?_⟩;have q:=x.cell y c e;rw[pS ndP hp hu (by show scope.names.lookup y≠_;rw[k];decide)] at q;exact q
 ·exact e0.cP.fresh (Nat.le_of_lt (x.above y c (Je h)))
 ·unfold start;show _=N.length;rw[IJ,IU,List.length_replicate];omega
theorem Gb {CX P w K mg base k f name WL params body scope dV kV doc pm WK ct oc an od}
  {osl:Array (Option Value)}{N ps:List Str}{sp:Sp}(lk:K.lookup f=some ⟨oc,od,.func (PySem.W.fnOf name WL params body scope dV kV doc pm an WK ct),osl⟩) (LJ:PySem.W.codeIn K WK WL=true) (S:aS N ps scope)
  (len:∀vs H Q E,sp vs H Q E->vs.length=ps.length)
  (Kk:∀A outer s H vs Q E,dY k (A.deeper (envOfC WL scope s.heap.objs.size f WK))->sp vs H Q E->
   ∃t,sf (rQ CX P w K mg base N WL scope f WK A outer s H E) body t/\t { nx:=fun _ H'=>Q .bj H',rt:=Q } (start N vs) H):
  bK P w K mg base CX (k+1) f (PySem.W.fnOf name WL params body scope dV kV doc pm an WK ct) ps sp:=by
 refine⟨len,fun A outer s H args us vs Q E hr e0 hb r ME=>?_⟩;have hl:=len _ _ _ _ ME;have KX:K.In s.heap:=e0.mod.GP.keeps fun b o e=>(e0.bs b o e).1;have lim:s.heap.NoLimit:=e0.mod.nolimit.keeps fun b o e=>(e0.bs b o e).1;have hkind:∀y∈ps.zip us,scope.names.lookup y.1=some .local\/(scope.names.lookup y.1=some .cell/\((cellsFrom (s.heap.objs.size+1) scope.names []).lookup y.1).isSome=true):=fun⟨n,v⟩ hy=>by
  rcases S.par n (List.of_mem_zip hy).1 with q | q
  ·exact .inl q
  ·exact .inr ⟨q,PySem.W.cellsFrom_some _ _ _ (.inl q)⟩
 refine codeAny_call_function hr.depth (KX _ _ lk) rfl S.co S.gen rfl (PySem.W.codeRec_of KX LJ) (hb _ _ _ _ ?_);refine wpAny_newFunctionEnv_cells S.kind hkind fun env he s1 x=>?_;subst he;refine⟨lim.keeps x.toInCall.keep,codeAny_func ?_⟩;obtain⟨t,ht,hq⟩:=Kk A outer s H vs Q E (hr.deeper _) ME;have I:Inv (rQ CX P w K mg base N WL scope f WK A outer s H E) [] (start N vs) H s1:=vO S hr.hd e0 hl r x;refine JE (ht [] s1 (start N vs) H _ I hq) (fun fl s' hs=>?_) fun e s' hs=>hs;have fin:∀{σ' H' v u},Inv (rQ CX P w K mg base N WL scope f WK A outer s H E) [] σ' H' s'->RelV v u->Q v H'->CE outer P w H s Q u s':=
  fun {σ' H' v u} J rv q=>⟨v,H',J.os,J.bare,J.base,J.cP,rv,q⟩
 cases fl with
 | ret u=>
  obtain⟨v,σ',H',J,rv,q⟩:=hs;exact fin J rv q
 | next=>
  obtain⟨σ',H',J,q⟩:=hs;exact fin (v:=V.bj) (u:=Value.none) J rfl q
 | brk=>
  obtain⟨_,_,_,q⟩:=hs;exact False.elim q
 | cont=>
  obtain⟨_,_,_,q⟩:=hs;exact False.elim q
end L2
namespace L2
open PySem PySem.Spec PyProof.Rows
section
variable {X:Cx}{x:Str}{p pos:Pos}{e:Expr}{es:List Expr}{t:TA}{id T:String}{r:List V->Hp->VK->Prop}
def GH (r:List V->Hp->VK->Prop) (t:TA):TE:=fun σ H Q=>t σ H fun vs H1=>r vs H1 Q
theorem aJ (hc:gm X (.builtin id) r) (hg:Gl X x) (hm:X.mg x=none) (hv:bootBuiltins x=some (.builtin id)) (ha:PA X (e::es) t) (hn:x≠"__name__":=by decide) (KG:(x == ("__debug__":Str))=false:=by decide)
  (he:starEach (e::es) X.env=(false,eval e X.env)::starEach es X.env:=by rfl) (JX:(backTo pos (starEach es X.env)).any (·.1)=false:=by rfl):PE X (.Call (.Name x p) (e::es) [] pos) (GH r t):=by
 intro WG s σ H Q I h;refine wpAny_Call_Name_kw (kj I hg hm hv ?_ hn KG);exact PyProof.Rows.callWith_builtin1 (dh (ha pos WG s σ H _ I h) fun us s1 ⟨vs,H1,I1,r1,q1⟩=>hc WG s1 σ H1 vs us Q I1 r1 q1) he JX
theorem bS (hc:gm X (.type T) r) (hg:Gl X x) (hm:X.mg x=none) (hv:bootBuiltins x=some (.type T)) (ha:PA X (e::es) t) (hn:x≠"__name__":=by decide) (KG:(x == ("__debug__":Str))=false:=by decide)
  (he:starEach (e::es) X.env=(false,eval e X.env)::starEach es X.env:=by rfl) (JX:(backTo pos (starEach es X.env)).any (·.1)=false:=by rfl):PE X (.Call (.Name x p) (e::es) [] pos) (GH r t):=by
 intro WG s σ H Q I h;refine wpAny_Call_Name_kw (kj I hg hm hv ?_ hn KG);exact PyProof.Rows.callWith_type1 (dh (ha pos WG s σ H _ I h) fun us s1 ⟨vs,H1,I1,r1,q1⟩=>hc WG s1 σ H1 vs us Q I1 r1 q1) he JX
end
end L2
namespace HT
open PySem PyProof.Rows
section
open PySem.SeqAt
open PySem.AutoSeq1 (wpAny_loadPart')
open PySem.MeetsSeq PySem.MeetsSeq2 PySem.MeetsSeq3
end
section
variable {prog:Program}{w:World}{A:Around}{E:Value->Shared->Prop}{s:Shared}
theorem uU {t b vs ws Q}(ht:IsTup s.heap t vs.toArray) (hb:IsTup s.heap b ws.toArray) (hv:vs≠[])
  (h1:ws=[]->Q (.ref t) s) (h2:ws≠[]->Q (.ref s.heap.objs.size) { s with heap:=s.heap.push { cls:=.type "tuple",data:=.seq (vs++ws).toArray } })
  (hsz:vs.length+ws.length<=sizeLine):wpAny (model prog w) A (binaryOp .Add (.ref t) (.ref b)) Q E s:=by
 obtain⟨⟨cls,dd,data,sl⟩,ho,hc,n,hd⟩:=id ht;obtain⟨⟨cls2,R9,data2,Rc⟩,Nc,QF,n2,hd2⟩:=id hb;simp only at hc hd QF hd2;subst hc hd QF hd2;have e:vs.toArray++ws.toArray=(vs++ws).toArray:=by simp
 by_cases hw:ws=[]
 ·exact concat_meets ⟨_,ho,rfl⟩ ⟨_,Nc,rfl⟩ noFill_tuple_add seq_tuple_add PySem.F.slot_tuple_add PySem.F.entry_tuple_add (PySem.F.args_tuple_add_2 _ _)
   (tuple_addW1 t b vs.toArray ws.toArray n n2 dd R9 sl Rc (by simpa using hv) (by simp[hw])) ⟨ho,Nc,h1 hw⟩
 ·refine concat_meets ⟨_,ho,rfl⟩ ⟨_,Nc,rfl⟩ noFill_tuple_add seq_tuple_add PySem.F.slot_tuple_add PySem.F.entry_tuple_add (PySem.F.args_tuple_add_2 _ _)
   (tuple_addW2 t b vs.toArray ws.toArray n n2 dd R9 sl Rc (by simpa using hv) (by simpa using hw) (by rw[W4,W4];exact hsz)) ⟨ho,Nc,?_⟩
  rw[e];exact h2 hw
def fG (n d:Nat):Option Int->Nat
 | none=>d
 | some v=>if v < 0 then(v+(n:Int)).toNat else min v.toNat n
theorem lh (n d):fG n d none=d:=rfl
theorem mU (n d k:Nat):fG n d (some (k:Int))=min k n:=by
 show(if(k:Int) < 0 then((k:Int)+(n:Int)).toNat else min (k:Int).toNat n)=min k n;rw[IY (by omega),Int.toNat_natCast]
theorem Bn (n d) (hd:d<=n) (o):fG n d o<=n:=by
 cases o with
 | none=>exact hd
 | some v=>
  show(if v < 0 then(v+(n:Int)).toNat else min v.toNat n)<=n;by_cases hv:v < 0
  ·rw[IZ hv];omega
  ·rw[IY hv];exact Nat.min_le_right _ _
theorem uT (v:Int) (n d:Nat):(if v < 0 then max (v+(n:Int)) 0 else min v (n:Int))=((fG n d (some v):Nat):Int):=by
 show(if v < 0 then max (v+(n:Int)) 0 else min v (n:Int))=(((if v < 0 then(v+(n:Int)).toNat else min v.toNat n):Nat):Int);by_cases hv:v < 0
 ·simp only[if_pos hv];omega
 ·simp only[if_neg hv];omega
theorem tP (lo hi:Option Int) (n:Nat):Builtin.Slice.sliceAdjust lo hi 1 (n:Int)=(((fG n 0 lo:Nat):Int),((fG n n hi:Nat):Int)):=by
 have h1:¬((1:Int) < 0):=by omega
 unfold Builtin.Slice.sliceAdjust;simp only[h1,if_false];refine Prod.ext ?_ ?_
 ·cases lo with
  | none=>rfl
  | some v=>exact uT v n 0
 ·cases hi with
  | none=>rfl
  | some v=>exact uT v n n
theorem sM (i j:Nat):Builtin.Slice.slicePlaces (i:Int) (j:Int) 1=j - i:=by
 unfold Builtin.Slice.slicePlaces;have h1:(1:Int) > 0:=by omega
 simp only[h1,if_true,Int.ediv_one];split<;>omega
theorem gS {v o Q}(p:IsPart v o) (h:Q o s):wpAny (model prog w) A (Builtin.Slice.slicePartIndex v) Q E s:=by
 cases p with
 | none=>exact slicePart_none h
 | int i t=>exact slicePart_int h
theorem iU {sl:Addr}{vl vu:Value}{lo hi:Option Int}{n:Nat}{Q:Int×Int×Nat->Shared->Prop}(hs:s.heap.IsSliceOf sl vl vu .none) (pl:IsPart vl lo) (pu:IsPart vu hi)
  (h:Q (((fG n 0 lo:Nat):Int),1,fG n n hi - fG n 0 lo) s):wpAny (model prog w) A (Builtin.Slice.sliceApplied (.ref sl) (pure (n:Int))) Q E s:=by
 obtain⟨os,KP,OE,Kj⟩:=id hs;unfold Builtin.Slice.sliceApplied Builtin.Slice.sliceFields;refine Ja (Ja (wpAny_field KP Kj (x:=vl) rfl (Ja (wpAny_field KP Kj (x:=vu) rfl (Ja (wpAny_field KP Kj (x:=.none) rfl (Jb ?_)))))));refine Ja (slicePart_none ?_);show wpAny _ _ (if((1:Int) == 0)=true then _ else _) _ _ s;rw[IY (by decide)];refine Ja (gS pl (Ja (gS pu (Ja (Jb ?_)))));show wpAny _ _ (match Builtin.Slice.sliceAdjust lo hi 1 (n:Int) with | (lo,hi)=>pure (lo,(1:Int),Builtin.Slice.slicePlaces lo hi 1)) _ _ s;rw[tP lo hi n];show wpAny _ _ (pure (((fG n 0 lo:Nat):Int),(1:Int),Builtin.Slice.slicePlaces ((fG n 0 lo:Nat):Int) ((fG n n hi:Nat):Int) 1)) _ _ s;rw[sM];exact Jb h
theorem xF (xs:Array Value) (i k:Nat):((List.range k).filterMap fun(m:Nat)=>xs[((i:Int)+(m:Int)*1).toNat]?).toArray=((xs.toList.drop i).take k).toArray:=by
 have e:(fun(m:Nat)=>xs[((i:Int)+(m:Int)*1).toNat]?)=fun m=>xs[i+m]?:=by
  funext m;have:((i:Int)+(m:Int)*1).toNat=i+m:=by omega
  rw[this]
 rw[e];have:=pick_run xs i k;rw[List.filterMap_map] at this;have e2:((fun x=>xs[x]?)∘fun x=>i+x)=fun m=>xs[i+m]?:=rfl;rw[e2] at this;rw[this]
theorem lH {t sl items vl vu lo hi Q}(ht:IsTup s.heap t items) (hs:s.heap.IsSliceOf sl vl vu .none) (pl:IsPart vl lo) (pu:IsPart vu hi)
  (hw:¬(fG items.size 0 lo=0/\fG items.size items.size hi=items.size))
  (h:Q (.ref s.heap.objs.size) { s with heap:=s.heap.push { cls:=.type "tuple",data:=.seq ((items.toList.drop (fG items.size 0 lo)).take (fG items.size items.size hi - fG items.size 0 lo)).toArray } })
  (hsz:items.size<=sizeLine):wpAny (model prog w) A (getItem (.ref t) (.ref sl)) Q E s:=by
 have J4:sizeOk (.seq ((items.toList.drop (fG items.size 0 lo)).take (fG items.size items.size hi - fG items.size 0 lo)).toArray):=by
  show((items.toList.drop (fG items.size 0 lo)).take (fG items.size items.size hi - fG items.size 0 lo)).toArray.size<=sizeLine;rw[W4,W6,List.length_drop,Array.length_toList];omega
 have hj:fG items.size items.size hi<=items.size:=Bn _ _ (IW _) hi;obtain⟨os,KP,OE,Kj⟩:=id hs;have QL:s.TypeIs (.ref sl) "slice":=⟨os,KP,OE⟩;unfold getItem
 try with_reducible refine wpAny_holding ?_
 first | refine Ja (Jb ?_) | skip
 refine Ja (wpAny_sequenceKey ht.typeIs (by decide) ?_);refine Ja (wpAny_callSpecial?_slot (name:=Str.ofString "__getitem__") ht.typeIs PyProof.Rows.slot_tuple_getitem
  (wpAny_call_entry PyProof.Rows.slot_tuple_getitem ht.typeIs entry_tuple_getitem ?_ (args_tuple_getitem _ _)))
 show wpAny _ _ (Builtin.Tuple.tupleItemsOf (.ref t) >>= _) _ _ s;refine Ja (tupleItemsOf_ ht ?_);refine Ja (wpAny_typeOf QL ?_);rw[IZ (by decide)];refine Ja (iU hs pl pu ?_);have Nd:¬((((fG items.size 0 lo:Nat):Int) == 0&&(1:Int) == 1&&(fG items.size items.size hi - fG items.size 0 lo) == items.size)=true):=by
  intro q;rw[Xb,Xb] at q;have q1:((fG items.size 0 lo:Nat):Int)=0:=eq_of_beq q.1.1;have q2:fG items.size items.size hi - fG items.size 0 lo=items.size:=eq_of_beq q.2;exact hw ⟨by omega,by omega⟩
 show wpAny _ _ (if(((fG items.size 0 lo:Nat):Int) == 0&&(1:Int) == 1&&(fG items.size items.size hi - fG items.size 0 lo) == items.size)=true then _ else _) _ _ s;rw[IY Nd,xF]
 first
  | exact Ja (m:=Builtin.Tuple.tupleExact _) (wpAny_newObj_type (Jb ⟨_,rfl,Jb h⟩) J4)
  | exact Ja (m:=Builtin.Tuple.tupleExact _) (wpAny_newObj_type (Ja (Jb (Jb ⟨_,rfl,Jb h⟩))) J4)
  | exact Ja (Ja (m:=Builtin.Tuple.tupleExact _) (wpAny_newObj_type (Jb (Jb ⟨_,rfl,Jb h⟩)) J4))
  | exact Ja (Ja (m:=Builtin.Tuple.tupleExact _) (wpAny_newObj_type (Jb ⟨_,rfl,Jb h⟩) J4))
end
end HT
namespace L2
open PySem PySem.Spec PyProof.Rows
abbrev TO:=St->Hp->(Option Int->Hp->Prop)->Prop
def PO (X:Cx) (e:Option Expr) (t:TO):Prop:=
 ∀WG s σ H Q,Inv X WG σ H s->t σ H Q->
  wpAny (model X.prog X.w) X.A (evalPart e X.env) (fun u s'=>∃o H',Inv X WG σ H' s'/\IsPart u o/\Q o H') X.xe s
def tZ:TO:=fun _ H Q=>Q none H
def Ac (t:TE):TO:=fun σ H Q=>t σ H fun x H1=>∃i,x=.int i/\Q (some i) H1
section
variable {X:Cx}{e:Expr}{te:TE}{lo hi:Option Expr}{tl th:TO}{pos p2:Pos}
theorem ck:PO X none tZ:=by
 intro WG s σ H Q I h;rw[evalPart_none];exact Jb ⟨none,H,I,.none,h⟩
theorem bZ (h:PE X e te):PO X (some e) (Ac te):=by
 intro WG s σ H Q I hw;rw[evalPart_some];refine dh (h WG s σ H _ I hw) fun u s1 ⟨x,H1,I1,r1,q1⟩=>?_;obtain⟨i,rfl,q⟩:=q1;obtain⟨t,rfl⟩:=r1;exact⟨some i,H1,I1,.int i t,q⟩
def wk (X:Cx) (r:V->Option Int->Option Int->Hp->VK->Prop):Prop:=
 ∀WG s σ H x v vl vu lo hi sl Q,Inv X WG σ H s->RelV x v->s.heap.IsSliceOf sl vl vu .none->IsPart vl lo->IsPart vu hi->r x lo hi H Q->
  ∃T id,typeLookup (.type T) "__getitem__"=pure (some (.builtin id))/\s.TypeIs v T/\wpAny (model X.prog X.w) X.A (getItem v (.ref sl)) (EP X WG σ Q) X.xe s
theorem wk.or {r r'}(h:wk X r) (h':wk X r'):wk X (fun x lo hi H Q=>r x lo hi H Q\/r' x lo hi H Q):=by
 intro WG s σ H x v vl vu lo hi sl Q I rx hs pl pu q;rcases q with q | q
 ·exact h WG s σ H x v vl vu lo hi sl Q I rx hs pl pu q
 ·exact h' WG s σ H x v vl vu lo hi sl Q I rx hs pl pu q
def tSl (r:V->Option Int->Option Int->Hp->VK->Prop) (te:TE) (tl th:TO):TE:=fun σ H Q=>te σ H fun x H1=>tl σ H1 fun l H2=>th σ H2 fun u H3=>r x l u H3 Q
theorem bR {r}(hr:wk X r) (he:PE X e te) (hl:PO X lo tl) (hu:PO X hi th):PE X (.Subscript e (.Slice lo hi none p2) pos) (tSl r te tl th):=by
 intro WG s σ H Q I h;refine Subscript_ (dh (he WG s σ H _ I h) fun v s1 ⟨x,H1,I1,r1,q1⟩=>?_);refine wpAny_Slice (dh (hl WG s1 σ H1 _ I1 q1) fun vl s2 ⟨l,H2,I2,pl,q2⟩=>dh (hu WG s2 σ H2 _ I2 q2) fun vu s3 ⟨u,H3,I3,pu,q3⟩=>?_);rw[evalPart_none];refine Jb ?_;have I4:Inv X WG σ H3 { s3 with heap:=s3.heap.push { cls:=.type "slice",data:=.fields #[vl,vu,.none] } }:=I3.kept (t':=s3.toks) fun b ob q=>Jc _ q;obtain⟨T,id,hT,ht,hg⟩:=hr WG { s3 with heap:=s3.heap.push { cls:=.type "slice",data:=.fields #[vl,vu,.none] } } σ H3 x v vl vu l u s3.heap.objs.size Q I4 r1 (Heap.IsSliceOf.new ..) pl pu q3;show wpAny (model X.prog X.w) X.A (subscriptTail e (.Slice lo hi none p2) v (.ref s3.heap.objs.size)) (EP X WG σ Q) X.xe { s3 with heap:=s3.heap.push { cls:=.type "slice",data:=.fields #[vl,vu,.none] } };exact tail_any (ops:=[.ref s3.heap.objs.size,v]) ht hT hg (by with_unfolding_all rfl)
def jg (xs:List V) (lo hi:Option Int):List V:=(xs.drop (HT.fG xs.length 0 lo)).take (HT.fG xs.length xs.length hi - HT.fG xs.length 0 lo)
theorem mE (xs lo hi):(jg xs lo hi).length<=xs.length:=by
 unfold jg;rw[W6,List.length_drop];omega
def HC (K:Fg06):V->Option Int->Option Int->Hp->VK->Prop:=fun x lo hi H Q=>∃a xs,x=.ref a/\fh K H a xs/\
 ¬(HT.fG xs.length 0 lo=0/\HT.fG xs.length xs.length hi=xs.length)/\∀p,H p=none->Q (.ref p) (WX H p (.tup (jg xs lo hi)))
theorem xt:wk X (HC X.K):=by
 intro WG s σ H x v vl vu lo hi sl Q I rx hs pl pu h;obtain⟨a,xs,rfl,hx,hw,q⟩:=h;cases rx;obtain⟨WJ,r,ht,hz⟩:=I.tuple hx;have WM:WJ.toArray.size=xs.length:=by rw[W4];exact r.length.symm
 refine⟨"tuple",_,PyProof.Rows.slot_tuple_getitem.lookup,ht.typeIs,?_⟩;refine HT.lH ht hs pl pu (by rw[WM];exact hw) ?_ (by rw[WM];exact hz);rw[WM];refine⟨.ref s.heap.objs.size,_,I.laid (t':=s.toks) (o:=.tup (jg xs lo hi)) (fun b ob q=>Jc _ q) (IW _) ?_,rfl,q _ (I.cP.fresh (IW _))⟩;exact⟨IV (mE xs lo hi) hz,_,(r.drop (HT.fG xs.length 0 lo)).take (HT.fG xs.length xs.length hi - HT.fG xs.length 0 lo),IsTup.new _ _⟩
def Ax (K:Fg06):R2:=fun x y H Q=>∃a b xs ys,x=.ref a/\y=.ref b/\fh K H a xs/\fh K H b ys/\xs≠[]/\xs.length+ys.length<=sizeLine/\
 (ys=[]->Q (.ref a) H)/\(ys≠[]->∀p,H p=none->Q (.ref p) (WX H p (.tup (xs++ys))))
theorem WY.p0 {xs us}(r:WY xs us):us=[]↔xs=[]:=by
 cases r with
 | nil=>simp
 | cons _ _=>simp
theorem zC:gQ X (binaryOp .Add) (Ax X.K):=by
 intro WG s σ H x y v u Q I rx ry h;obtain⟨a,b,xs,ys,rfl,rfl,ha,hb,hx,hz,q1,q2⟩:=h;cases rx;cases ry;obtain⟨WJ,r1,p1,_⟩:=I.tuple ha;obtain⟨Kb,r2,p2,_⟩:=I.tuple hb;refine HT.uU p1 p2 (fun z=>hx (r1.p0.mp z)) (fun z=>⟨.ref a,H,I,rfl,q1 (r2.p0.mp z)⟩) (fun z=>?_) (by rw[<-r1.length,<-r2.length];exact hz);refine⟨.ref s.heap.objs.size,_,I.laid (t':=s.toks) (o:=.tup (xs++ys)) (fun b ob q=>Jc _ q) (IW _) ?_,rfl,q2 (fun w=>z (r2.p0.mpr w)) _ (I.cP.fresh (IW _))⟩;exact⟨by rw[IJ];exact hz,_,r1.append r2,IsTup.new _ _⟩
end
end L2
namespace L2
open PySem PySem.Spec PyProof.Rows
def sX (n:Nat) (i:Int):Option Nat:=if 0<=i then(if i < n then some i.toNat else none) else if -(n:Int)<=i then some (i+n).toNat else none
def j4 {α:Type}(xs:List α) (i:Int):Option α:=(sX xs.length i).bind fun j=>xs[j]?
theorem uD {n i j}(h:sX n i=some j):seqIndex? i n=some j/\j < n/\-(n:Int)<=i/\i < n:=by
 unfold sX at h;by_cases h0:0<=i
 ·rw[IZ h0] at h;by_cases h1:i < n
  ·rw[IZ h1] at h;have e:i.toNat=j:=Option.some.inj h;exact⟨by rw[seqIndex_of h0 h1,e],by omega,by omega,h1⟩
  ·rw[IY h1] at h;cases h
 ·rw[IY h0] at h;by_cases h1:-(n:Int)<=i
  ·rw[IZ h1] at h;have e:(i+n).toNat=j:=Option.some.inj h;exact⟨by rw[seqIndex_neg (by omega) h1,e],by omega,h1,by omega⟩
  ·rw[IY h1] at h;cases h
theorem qz {α:Type}{xs:List α}{i:Int}{v:α}(h:j4 xs i=some v):∃j,seqIndex? i xs.length=some j/\xs[j]?=some v/\j < xs.length/\-(xs.length:Int)<=i/\i < xs.length:=by
 unfold j4 at h;cases e:sX xs.length i with
 | none=>rw[e] at h;cases h
 | some j=>
  rw[e] at h;obtain⟨h1,h2,h3,h4⟩:=uD e;exact⟨j,h1,h,h2,h3,h4⟩
theorem aC {α:Type}{xs:List α}{j:Nat}{v:α}(h:xs[j]?=some v):j4 xs (j:Int)=some v:=by
 have hj:j < xs.length:=(Jn.mp h).1;have e:sX xs.length (j:Int)=some j:=by
  unfold sX;rw[IZ (by omega),IZ (by omega)];simp
 unfold j4;rw[e];exact h
def qB (b:Expr):Prop:=∀o i,subscripted b false o i=operate [o,i] (getItem o i)
def yQ (X:Cx) (r:R2):Prop:=
 ∀value slice WG s σ H x y v u Q,Inv X WG σ H s->RelV x v->RelV y u->r x y H Q->
  subscripted slice false v u=operate [v,u] (getItem v u)->wpAny (model X.prog X.w) X.A (subscriptTail value slice v u) (EP X WG σ Q) X.xe s
def GY (X:Cx) (id:String) (r:V->List V->Hp->VK->Prop):Prop:=
 ∀WG s σ H x xs v us Q,Inv X WG σ H s->RelV x v->WY xs us->r x xs H Q->
  wpAny (model X.prog X.w) X.A (call (.builtin id) (v::us)) (EP X WG σ Q) X.xe s
section
variable {X:Cx}{a b:Expr}{ta tb:TE}{pos:Pos}
theorem yQ.or {r r'}(h:yQ X r) (h':yQ X r'):yQ X (fun x y H Q=>r x y H Q\/r' x y H Q):=by
 intro value slice WG s σ H x y v u Q I rx ry q hs;rcases q with q | q
 ·exact h value slice WG s σ H x y v u Q I rx ry q hs
 ·exact h' value slice WG s σ H x y v u Q I rx ry q hs
theorem fV {r}(hr:yQ X r) (ha:PE X a ta) (hb:PE X b tb) (hs:qB b):PE X (.Subscript a b pos) (tY r ta tb):=by
 intro WG s σ H Q I h;exact Subscript_ (DB ha hb I h fun v u s2 x y H2 I2 rx ry q=>hr a b WG s2 σ H2 x y v u Q I2 rx ry q (hs _ _))
def Bz (K:Fg06):R2:=fun x y H Q=>∃p xs i v,x=.ref p/\y=.int i/\bf K H p xs/\j4 xs i=some v/\Q v H
def E7 (K:Fg06):R2:=fun x y H Q=>∃p xs i v,x=.ref p/\y=.int i/\fh K H p xs/\j4 xs i=some v/\Q v H
def zk:R2:=fun x y H Q=>∃z i c,x=.str z/\y=.int i/\z.length<=sizeLine/\j4 z.cps.toList i=some c/\Q (.str ⟨#[c]⟩) H
theorem lG:yQ X (Bz X.K):=by
 intro value slice WG s σ H x y v u Q I rx ry h hs;obtain⟨p,xs,i,z,rfl,rfl,hq,he,q⟩:=h;cases rx;obtain⟨t,rfl⟩:=ry;obtain⟨WJ,r,pl,hz⟩:=I.list hq;obtain⟨j,h1,h2,h3,h4,h5⟩:=qz he;obtain⟨w,ew,J7⟩:=r.get h2;have hl:=r.length;have hn:=nZ;have fin:EP X WG σ Q w s:=⟨z,H,I,J7,q⟩;by_cases h0:0<=i
 ·have hj:i.toNat=j:=by
   rw[seqIndex_of h0 h5] at h1;exact Option.some.inj h1
  exact item_listR pl.isList h0 (by omega) (by rw[hj];simpa using ew) fin hs
 ·have hj:(i+(WJ.toArray.size:Int)).toNat=j:=by
   rw[seqIndex_neg (by omega) h4] at h1;rw[W4,<-hl];exact Option.some.inj h1
  exact subscriptTail_builtinR (x:=w) pl.isList.typeIs slot_list_getitem.lookup
   (wpAny_getItem_list_neg (Q:=fun r s'=>r=w/\EP X WG σ Q r s') pl.isList (by omega) (by rw[W4]<;>omega) (by omega) (by rw[hj];simpa using ew) ⟨rfl,fin⟩) hs
theorem yg:yQ X (E7 X.K):=by
 intro value slice WG s σ H x y v u Q I rx ry h hs;obtain⟨p,xs,i,z,rfl,rfl,hq,he,q⟩:=h;cases rx;obtain⟨t,rfl⟩:=ry;obtain⟨WJ,r,pl,hz⟩:=I.tuple hq;obtain⟨j,h1,h2,h3,h4,h5⟩:=qz he;obtain⟨w,ew,J7⟩:=r.get h2;have hl:=r.length;have hn:=nZ;have fin:EP X WG σ Q w s:=⟨z,H,I,J7,q⟩;exact subscriptTail_builtinR (x:=w) pl.typeIs slot_tuple_getitem.lookup
  (getItem_tuple (j:=j) (Q:=fun r s'=>r=w/\EP X WG σ Q r s') pl (by omega) (by omega) (by rw[W4,<-hl];exact h1) (by simpa using ew) ⟨rfl,fin⟩) hs
theorem sV:yQ X zk:=by
 intro value slice WG s σ H x y v u Q I rx ry h hs;obtain⟨z,i,c,rfl,rfl,hz,he,q⟩:=h;obtain⟨t,rfl⟩:=rx;obtain⟨t',rfl⟩:=ry;obtain⟨j,h1,h2,h3,h4,h5⟩:=qz he;have hl:z.cps.toList.length=z.length:=by simp[Str.length]
 rw[hl] at h1 h4 h5;have hn:=nZ;exact tail_any (typeIs_str s z t) slot_str_getitem.lookup (getItem_str (c:=c) (by
  have e1:decide (i < -(2 ^ 63:Int))=false:=IK (by omega);have e2:decide (i≥2 ^ 63)=false:=IK (by omega);rw[e1,e2,Bool.or_false]) (by rw[h1];simpa using h2) ⟨.str ⟨#[c]⟩,H,I.tok _,⟨_,rfl⟩,q⟩) hs
def E8 (K:Fg06):R2:=fun x y H Q=>Bz K x y H Q\/E7 K x y H Q\/zk x y H Q
theorem sW:yQ X (E8 X.K):=lG.or (yg.or sV)
theorem sP (WJ:List Value) (n j:Nat) (u:Value):Obj.mapSeq (·.setIfInBounds j u) { cls:=.type "list",data:=.seq WJ.toArray n }={ cls:=.type "list",data:=.seq (WJ.set j u).toArray n }:=by
 simp[Obj.mapSeq]
theorem Inv.lst {WG σ H s p xs}(I:Inv X WG σ H s) (h:H p=some (.lst xs)):
  ∃WJ n,WY xs WJ/\s.heap.get? p=some { cls:=.type "list",data:=.seq WJ.toArray n }/\xs.length<=sizeLine:=by
 obtain⟨z,WJ,n,r,e⟩:=I.cP p _ h;exact⟨WJ,n,r,e,z⟩
theorem Inv.Di {WG:List (Addr×Obj)}{σ:St}{H:Hp}{s:Shared}{p:Addr}{xs ys:List V}{WJ its':List Value}{n n':Nat}{f:Obj->Obj}(I:Inv X WG σ H s) (h:H p=some (.lst xs))
  (ho:s.heap.get? p=some { cls:=.type "list",data:=.seq WJ.toArray n }) (hf:f { cls:=.type "list",data:=.seq WJ.toArray n }={ cls:=.type "list",data:=.seq its'.toArray n' }) (r:WY ys its') (hz:ys.length<=sizeLine) (t:Nat):
  Inv X WG σ (WX H p (.lst ys)) { s with heap:=s.heap.update p f,toks:=t }:=by
 have e:(s.heap.update p f).get? p=some { cls:=.type "list",data:=.seq its'.toArray n' }:=by
  rw[Heap.get?_update_self f ho (by rw[hf]<;>rfl),hf]
 refine I.write (x:=p) (e:=p) (by rw[h];trivial) (.inl rfl) (fun b u hb q=>(Heap.get?_update_other _ _ (W3 hb)).trans q) ⟨_,e⟩ ?_;exact⟨hz,its',n',r,e⟩
def E4:V->V->V->Hp->(Hp->Prop)->Prop:=fun o i v H Q=>∃p xs k j,o=.ref p/\i=.int k/\H p=some (.lst xs)/\sX xs.length k=some j/\Q (WX H p (.lst (xs.set j v)))
theorem set_list:Gv X E4:=by
 intro WG s σ H o i v ov iv u Q I ro ri rv h;obtain⟨p,xs,k,j,rfl,rfl,hp,hj,q⟩:=h;cases ro;obtain⟨t,rfl⟩:=ri;obtain⟨WJ,n,r,ho,hz⟩:=I.lst hp;obtain⟨h1,h2,h3,h4⟩:=uD hj;have hl:=r.length;have hn:=nZ;have I':Inv X WG σ (WX H p (.lst (xs.set j v))) { s with heap:=s.heap.update p (Obj.mapSeq (·.setIfInBounds j u)) }:=
  I.Di hp ho (sP WJ n j u) (r.set rv j) (by rw[Jk];exact hz) s.toks
 by_cases h0:0<=k
 ·have hk:k.toNat=j:=by
   rw[seqIndex_of h0 h4] at h1;exact Option.some.inj h1
  exact PySem.W.ki_setAt ho h0 (by omega) (by rw[W4,<-hl];exact h4) (by rw[hk];exact⟨_,I',q⟩)
 ·have hk:(k+(WJ.toArray.size:Int)).toNat=j:=by
   rw[seqIndex_neg (by omega) h3] at h1;rw[W4,<-hl];exact Option.some.inj h1
  exact PySem.W.ki_setBack ho (by omega) (by rw[W4,<-hl];exact h3) (by omega) (by rw[hk];exact⟨_,I',q⟩)
theorem pU (lo hi n):(sliceBounds lo hi none n).1=((HT.fG n 0 lo:Nat):Int)/\(sliceBounds lo hi none n).2.1=((HT.fG n n hi:Nat):Int)/\(sliceBounds lo hi none n).2.2=1:=by
 refine⟨?_,?_,rfl⟩
 ·cases lo with
  | none=>simp[sliceBounds,HT.fG]
  | some i=>
   simp only[sliceBounds,HT.fG,Option.getD_none,show(1:Int) > 0 by decide,if_true];by_cases h:i < 0
   ·simp only[h,if_true]<;>omega
   ·simp only[h,if_false]<;>omega
 ·cases hi with
  | none=>simp[sliceBounds,HT.fG]
  | some i=>
   simp only[sliceBounds,HT.fG,Option.getD_none,show(1:Int) > 0 by decide,if_true];by_cases h:i < 0
   ·simp only[h,if_true]<;>omega
   ·simp only[h,if_false]<;>omega
theorem oQ (WJ:List Value) (lo hi:Option Int):slicePick WJ.toArray lo hi none=((WJ.drop (HT.fG WJ.length 0 lo)).take (HT.fG WJ.length WJ.length hi - HT.fG WJ.length 0 lo)).toArray:=by
 obtain⟨h1,h2,h3⟩:=pU lo hi WJ.toArray.size;unfold slicePick;rw[h1,h2,h3];simp only[sliceRange_one,pick_run,List.size_toArray]<;>rfl
def Bw (K:Fg06):V->Option Int->Option Int->Hp->VK->Prop:=fun x lo hi H Q=>∃a xs,x=.ref a/\bf K H a xs/\∀p,H p=none->Q (.ref p) (WX H p (.lst (jg xs lo hi)))
theorem k9:wk X (Bw X.K):=by
 intro WG s σ H x v vl vu lo hi sl Q I rx hs pl pu h;obtain⟨a,xs,rfl,hx,q⟩:=h;cases rx;obtain⟨WJ,r,ht,hz⟩:=I.list hx;have WM:=r.length;refine⟨"list",_,slot_list_getitem.lookup,ht.isList.typeIs,?_⟩;refine wpAny_getItem_list_slice ht.isList hs pl pu .none (by simp) ?_ (by rw[W4]<;>omega);rw[oQ,<-WM];refine⟨.ref s.heap.objs.size,_,I.laid (t':=s.toks) (o:=.lst (jg xs lo hi)) (fun b ob q=>Jc _ q) (IW _) ?_,rfl,q _ (I.cP.fresh (IW _))⟩;exact⟨IV (mE xs lo hi) hz,_,0,(r.drop (HT.fG xs.length 0 lo)).take (HT.fG xs.length xs.length hi - HT.fG xs.length 0 lo),JA _ rfl⟩
def mC:V->Bool
 | .bj=>true
 | .bl _=>true
 | .int _=>true
 | .str _=>true
 | _=>false
def AO:V->V->Bool
 | .bj,.bj=>true
 | .bl a,.bl b=>a == b
 | .bl a,.int b=>(if a then 1 else 0) == b
 | .int a,.bl b=>a == (if b then 1 else 0)
 | .int a,.int b=>a == b
 | .str a,.str b=>a == b
 | _,_=>false
theorem Dw {A s y x u v}(ry:RelV y u) (rx:RelV x v) (fy:mC y=true) (fx:mC x=true):SeqAt.EqAt A s u v (AO y x):=by
 cases y with
 | bj=>
  cases ry;cases x with
  | bj=>cases rx;exact SeqAt.EqAt.same _
  | bl b=>cases rx;exact SeqAt.EqAt.none_bool b
  | int b=>obtain⟨t,rfl⟩:=rx;exact SeqAt.EqAt.none_int b t
  | str b=>obtain⟨t,rfl⟩:=rx;exact SeqAt.EqAt.none_str b t
  | _=>exact Xc (show false=true from fx) Jd
 | bl a=>
  cases ry;cases x with
  | bj=>cases rx;exact SeqAt.EqAt.bool_none a
  | bl b=>cases rx;exact SeqAt.EqAt.bool_bool a b
  | int b=>obtain⟨t,rfl⟩:=rx;exact SeqAt.EqAt.bool_int a b t
  | str b=>obtain⟨t,rfl⟩:=rx;exact SeqAt.EqAt.bool_str a b t
  | _=>exact Xc (show false=true from fx) Jd
 | int a=>
  obtain⟨t',rfl⟩:=ry;cases x with
  | bj=>cases rx;exact SeqAt.EqAt.int_none a t'
  | bl b=>cases rx;exact SeqAt.EqAt.int_bool a t' b
  | int b=>obtain⟨t,rfl⟩:=rx;exact SeqAt.EqAt.int_int a t' b t
  | str b=>obtain⟨t,rfl⟩:=rx;exact SeqAt.EqAt.int_str a t' b t
  | _=>exact Xc (show false=true from fx) Jd
 | str a=>
  obtain⟨t',rfl⟩:=ry;cases x with
  | bj=>cases rx;exact SeqAt.EqAt.str_none a t'
  | bl b=>cases rx;exact SeqAt.EqAt.str_bool a t' b
  | int b=>obtain⟨t,rfl⟩:=rx;exact SeqAt.EqAt.str_int a t' b t
  | str b=>obtain⟨t,rfl⟩:=rx;exact SeqAt.EqAt.str_str a t' b t
  | _=>exact Xc (show false=true from fx) Jd
 | _=>exact Xc (show false=true from fy) Jd
def zU (x:V) (u:Value):Bool:=match u with
 | .none=>AO .bj x
 | .bool b=>AO (.bl b) x
 | .int i _=>AO (.int i) x
 | .str z _=>AO (.str z) x
 | _=>false
theorem yx {x y u}(r:RelV y u) (f:mC y=true):zU x u=AO y x:=by
 cases y with
 | bj=>cases r;rfl
 | bl b=>cases r;rfl
 | int i=>obtain⟨t,rfl⟩:=r;rfl
 | str z=>obtain⟨t,rfl⟩:=r;rfl
 | _=>exact Xc (show false=true from f) Jd
theorem qA {x}:∀{xs us},WY xs us->xs.all mC=true->us.any (zU x)=xs.any fun y=>AO y x
 | _,_,.nil,_=>rfl
 | y::xs,u::us,.cons r t,f=>by
  rw[List.all_cons,Xb] at f;rw[List.any_cons,List.any_cons,yx r f.1,qA t f.2]
theorem nX {A s x v}(rx:RelV x v) (fx:mC x=true):∀{xs us},WY xs us->xs.all mC=true->∀u∈us,SeqAt.EqAt A s u v (zU x u)
 | _,_,.nil,_=>fun u hu=>by cases hu
 | y::xs,u::us,.cons r t,f=>fun u' hu=>by
  rw[List.all_cons,Xb] at f;rcases Jv.mp hu with rfl | hu
  ·rw[yx r f.1];exact Dw r rx f.1 fx
  ·exact nX rx fx t f.2 u' hu
def inV (x:V) (xs:List V):Bool:=xs.any fun y=>AO y x
def rIn (K:Fg06) (neg:Bool):R2:=fun x y H Q=>∃p xs,y=.ref p/\(bf K H p xs\/fh K H p xs)/\mC x=true/\xs.all mC=true/\Q (.bl (if neg then !inV x xs else inV x xs)) H
theorem vB:gQ X (compareOp .In) (rIn X.K false):=by
 intro WG s σ H x y v u Q I rx ry h;obtain⟨p,xs,rfl,hq,fx,fs,q⟩:=h;cases ry;rcases hq with hq | hq
 ·obtain⟨WJ,r,pl,hz⟩:=I.list hq;refine SeqAt.in_listAt (zU x) pl.isList (fun w hw=>nX rx fx r fs w (by simpa using hw)) ⟨.bl _,H,I,rfl,?_⟩;rw[show WJ.toArray.any (zU x)=WJ.any (zU x) by simp,qA r fs];exact q
 ·obtain⟨WJ,r,pl,hz⟩:=I.tuple hq;refine SeqAt.in_tupleAt (zU x) pl (fun w hw=>nX rx fx r fs w (by simpa using hw)) ⟨.bl _,H,I,rfl,?_⟩;rw[show WJ.toArray.any (zU x)=WJ.any (zU x) by simp,qA r fs];exact q
theorem aU:gm X (.builtin "len") (fun xs H Q=>∃p ys,xs=[.ref p]/\(bf X.K H p ys\/fh X.K H p ys)/\Q (.int ys.length) H):=by
 intro WG s σ H xs us Q I r h;obtain⟨p,ys,rfl,hq,q⟩:=h;obtain⟨u,rfl,rx⟩:=vals1 r;cases rx;have hn:=nZ;rcases hq with hq | hq
 ·obtain⟨WJ,r',pl,hz⟩:=I.list hq;have WM:=r'.length;exact Calls.call_len_list pl.isList (by simp only[List.size_toArray]<;>omega) ⟨.int ys.length,H,I.tok _,⟨s.toks+1,by rw[W4,WM]⟩,q⟩
 ·obtain⟨WJ,r',pl,hz⟩:=I.tuple hq;have WM:=r'.length;exact len_tuple pl (by simp only[List.size_toArray]<;>omega) ⟨.int ys.length,H,I.tok _,⟨s.toks+1,by rw[W4,WM]⟩,q⟩
theorem jc:gm X (.type "list") (fun xs H Q=>∃p ys,xs=[.ref p]/\(bf X.K H p ys\/fh X.K H p ys)/\∀l,H l=none->Q (.ref l) (WX H l (.lst ys))):=by
 intro WG s σ H xs us Q I r h;obtain⟨p,ys,rfl,hq,q⟩:=h;obtain⟨u,rfl,rx⟩:=vals1 r;cases rx;have fin:∀WJ,WY ys WJ->ys.length<=sizeLine->∀h' c',(∀b o',s.heap.get? b=some o'->h'.get? b=some o')->
   h'.get? s.heap.objs.size=some { cls:=.type "list",dict:=none,data:=.seq WJ.toArray c',slots:=#[] }->EP X WG σ Q (.ref s.heap.objs.size) { s with heap:=h' }:=fun WJ r' hz h' c' kp e=>
  ⟨.ref s.heap.objs.size,_,I.laid (t':=s.toks) kp (IW _) (show eG X.prog X.w _ h' _ (.lst ys) from⟨hz,WJ,c',r',e⟩),rfl,q _ (I.cP.fresh (IW _))⟩
 rcases hq with hq | hq
 ·obtain⟨WJ,r',pl,hz⟩:=I.list hq;have WM:=r'.length;obtain⟨o,ho,hc,n,hd⟩:=pl.isList;exact call_list_seq p (.inl rfl) ho hc hd (fun h' c' kp e=>fin WJ r' hz h' c' kp e) (by simp only[List.size_toArray]<;>omega)
 ·obtain⟨WJ,r',pl,hz⟩:=I.tuple hq;have WM:=r'.length;obtain⟨o,ho,hc,n,hd⟩:=pl;exact call_list_seq p (.inr rfl) ho hc hd (fun h' c' kp e=>fin WJ r' hz h' c' kp e) (by simp only[List.size_toArray]<;>omega)
theorem gw:gm X (.type "tuple") (fun xs H Q=>∃p ys,xs=[.ref p]/\((bf X.K H p ys/\∀l,H l=none->Q (.ref l) (WX H l (.tup ys)))\/(fh X.K H p ys/\Q (.ref p) H))):=by
 intro WG s σ H xs us Q I r h;obtain⟨p,ys,rfl,h⟩:=h;obtain⟨u,rfl,rx⟩:=vals1 r;cases rx;rcases h with ⟨hq,q⟩ | ⟨hq,q⟩
 ·obtain⟨WJ,r',pl,hz⟩:=I.list hq;have WM:=r'.length;refine call_tuple_list pl.isList (fun h' kp=>?_) (by simp only[List.size_toArray]<;>omega);have I1:Inv X WG σ H { s with heap:=h' }:=I.kept (t':=s.toks) kp;have I2:Inv X WG σ (WX H h'.objs.size (.tup ys)) { s with heap:=h'.push { cls:=.type "tuple",data:=.seq WJ.toArray } }:=
   I1.laid (t':=s.toks) (fun b o e=>Jc _ e) (IW _) (show eG X.prog X.w _ _ _ (.tup ys) from⟨hz,WJ,r',IsTup.new _ _⟩)
  exact⟨.ref h'.objs.size,_,I2,rfl,q _ (I1.cP.fresh (IW _))⟩
 ·obtain⟨WJ,r',pl,hz⟩:=I.tuple hq;exact call_tuple_same pl ⟨.ref p,H,I,rfl,q⟩
def tyV (K:Fg06) (T:String) (x:V) (H:Hp):Prop:=match x with
 | .str _=>T="str"
 | .int _=>T="int"
 | .ref p=>(T="list"/\∃xs,bf K H p xs)\/(T="tuple"/\∃o,K.lookup p=some o/\o.cls=.type "tuple"/\o.dict=none)\/
   (T="dict"/\((∃WI,H p=some (.dK WI))\/∃WI,H p=some (.dT WI)))\/(T="set"/\∃S n,H p=some (.set S n))
 | _=>False
theorem AX {WG σ H s T x v}(I:Inv X WG σ H s) (r:RelV x v) (ty:tyV X.K T x H):
  s.TypeIs v T/\∀a,v=.ref a->∃ob,s.heap.get? a=some ob/\ob.dict=none:=by
 cases x with
 | str z=>
  obtain⟨t,rfl⟩:=r;cases (show T="str" from ty);exact⟨typeIs_str s z t,fun _ e=>nomatch e⟩
 | int i=>
  obtain⟨t,rfl⟩:=r;cases (show T="int" from ty);exact⟨typeIs_int s i t,fun _ e=>nomatch e⟩
 | ref p=>
  cases r;rcases ty with ⟨rfl,xs,hq⟩ | ⟨rfl,o,hk,hc,hd⟩ | ⟨rfl,hk⟩ | ⟨rfl,S,n,hk⟩
  ·obtain⟨WJ,_,pl,_⟩:=I.list hq;refine⟨pl.isList.typeIs,fun a e=>?_⟩;cases e;obtain⟨o,n,e,c,hd,_⟩:=pl;exact⟨o,e,hd⟩
  ·refine⟨⟨o,I.sU p o hk,hc⟩,fun a e=>?_⟩;cases e;exact⟨o,I.sU _ o hk,hd⟩
  ·have z:∃o,s.heap.get? p=some o/\o.ExactDict:=by
    rcases hk with ⟨WI,hk⟩ | ⟨WI,hk⟩
    ·obtain⟨_,_,_,_,o,_,_,e,ex,_⟩:=I.cP p _ hk;exact⟨o,e,ex⟩
    ·obtain⟨_,_,_,_,o,_,_,e,ex,_⟩:=I.cP p _ hk;exact⟨o,e,ex⟩
   obtain⟨o,e,ex⟩:=z;refine⟨⟨o,e,ex.1⟩,fun a e2=>?_⟩;cases e2;exact⟨o,e,ex.2.1⟩
  ·obtain⟨o,_,_,_,e,ex,_⟩:=I.cP p _ hk;refine⟨⟨o,e,ex.1⟩,fun a e2=>?_⟩;cases e2;exact⟨o,e,ex.2.1⟩
 | _=>exact False.elim ty
def tBM (K:Fg06) (T:String) (r:V->List V->Hp->VK->Prop) (to:TE) (t:TA):TE:=fun σ H Q=>to σ H fun x H1=>tyV K T x H1/\t σ H1 fun xs H2=>r x xs H2 Q
variable {o e:Expr}{es:List Expr}{to:TE}{t:TA}{name:Str}{WR WO:Pos}{T id:String}{r:V->List V->Hp->VK->Prop}
theorem dZ (pa:PlainAttrs T) (slot:Slot T name id) (P9:typeOf (.builtin id)=pure (.type "method_descriptor")) (hm:GY X id r) (ho:PE X o to) (ha:PA X (e::es) t)
  (Kl:attributeBase o name X.env (eval o X.env)=eval o X.env:=by rfl)
  (Lr:((backTo WO (starEach (e::es) X.env)).all (fun x=>!x.1)&&(backToKw WO (keywordEach [] X.env)).all (fun x=>x.1.isSome)
   &&decide ((e::es).length+([]:List Keyword).length+(if([]:List Keyword).isEmpty then 0 else 1) < 30))=true:=by rfl)
  (Ki:(WR.endLine == WO.line)=true:=by rfl) (hs:starEach (e::es) X.env=(false,eval e X.env)::starEach es X.env:=by rfl) (J1:(backTo WO (starEach es X.env)).any (·.1)=false:=by rfl):
  PE X (.Call (.Attribute o name WR) (e::es) [] WO) (tBM X.K T r to t):=by
 intro WG s σ H Q I h;refine wpAny_Call_method_late Kl Lr Ki rfl (dh (ho WG s σ H _ I h) fun v s1 ⟨x,H1,I1,r1,ty,q1⟩=>?_);obtain⟨h1,h2⟩:=AX I1 r1 ty;refine⟨T,id,pa,slot,P9,h1,h2,?_⟩;have hA:=ha WO WG s1 σ H1 _ I1 q1;rw[hs] at hA ⊢;refine Calls.callWith_builtin (by show(false||(backTo WO (starEach es X.env)).any (·.1))=false;rw[J1]<;>rfl) (Calls.evalArgs_plain ?_);exact dh hA fun us s2 ⟨vs,H2,I2,r2,q2⟩=>hm WG s2 σ H2 x vs v us Q I2 r1 r2 q2
end
end L2
namespace L2
open PySem PySem.Spec PyProof.Rows
def Iz (X:Cx) (id:String) (r:V->List V->Hp->VK->Prop):Prop:=
 ∀WG s σ H x xs v us Q,Inv X WG σ H s->RelV x v->WY xs us->r x xs H Q->
  wpAny (model X.prog X.w) X.A (call (.builtin id) (v::us)) (EP X WG σ Q) X.xe s
theorem WY.one:∀{x us},WY [x] us->∃u,us=[u]/\RelV x u
 | _,_,.cons r .nil=>⟨_,rfl,r⟩
theorem WY.eraseIdx:∀{xs us} i,WY xs us->WY (xs.eraseIdx i) (us.eraseIdx i)
 | _,_,_,.nil=>.nil
 | _,_,0,.cons _ t=>t
 | _,_,i+1,.cons r t=>.cons r (WY.eraseIdx i t)
theorem pE {α:Type}:∀(l:List α) (i:Nat),(l.eraseIdx i).length<=l.length
 | [],_=>IW _
 | _::_,0=>Nat.le_succ _
 | _::r,i+1=>Nat.succ_le_succ (pE r i)
section
variable {X:Cx}{WG:List (Addr×Obj)}{σ:St}{H:Hp}{s:Shared}{l b:Addr}{xs ys zs:List V}
theorem Inv.FY {WJ its':List Value}{n:Nat}{f:Array Value->Array Value}{t':Nat}(I:Inv X WG σ H s) (hH:H l=some (.lst xs))
  (e:s.heap.get? l=some { cls:=.type "list",data:=.seq WJ.toArray n }) (hf:f WJ.toArray=its'.toArray) (hv:WY ys its') (hz:ys.length<=sizeLine):
  Inv X WG σ (WX H l (.lst ys)) { s with heap:=s.heap.update l (Obj.mapSeq f),toks:=t' }:=by
 have q:=PySem.IsL.update e f;rw[hf] at q;refine I.write (x:=l) (e:=l) (by rw[hH];exact trivial) (.inl rfl) (fun b' u hb hu=>(Heap.get?_update_other s.heap (Obj.mapSeq f) (W3 hb)).trans hu) ⟨_,q⟩ ?_;exact⟨hz,its',_,hv,q⟩
theorem Inv.Ih {WJ t'}(I:Inv X WG σ H s) (hv:WY ys WJ) (hz:ys.length<=sizeLine):
  Inv X WG σ (WX H s.heap.objs.size (.lst ys)) { s with heap:=s.heap.push { cls:=.type "list",data:=.seq WJ.toArray },toks:=t' }:=
 I.laid (fun _ _ q=>Jc _ q) (IW _) ⟨hz,WJ,0,hv,JA _ rfl⟩
theorem Inv.fresh (I:Inv X WG σ H s):H s.heap.objs.size=none:=I.cP.fresh (IW _)
theorem Inv.zK (I:Inv X WG σ H s) (hH:H l=some (.lst xs)):xs.length<=sizeLine/\∃WJ n,WY xs WJ/\xs.length=WJ.length/\s.heap.get? l=some { cls:=.type "list",data:=.seq WJ.toArray n }:=by
 obtain⟨z,WJ,n,r,e⟩:=I.cP l _ hH;exact⟨z,WJ,n,r,r.length,e⟩
end
section
variable {X:Cx}
def zl:V->List V->Hp->VK->Prop:=fun x vs H Q=>∃l xs y,x=.ref l/\vs=[y]/\H l=some (.lst xs)/\xs.length < sizeLine/\Q .bj (WX H l (.lst (xs++[y])))
theorem cp:Iz X "list.append" zl:=by
 intro WG s σ H x vs v us Q I rx rv h;obtain⟨l,xs,y,rfl,rfl,hH,hz,q⟩:=h;cases rx;obtain⟨u,rfl,ru⟩:=rv.one;obtain⟨z,WJ,n,r,hl,e⟩:=I.zK hH;refine call_meets F.slot_list_append ⟨_,e,rfl⟩ F.entry_list_append (F.args_list_append_2 _ _) (PySem.list_append l WJ.toArray n u (by rw[W4];omega)) ⟨e,?_⟩;refine⟨.bj,_,I.FY (its':=WJ++[u]) hH e (by simp) (r.append (.cons ru .nil)) ?_,rfl,q⟩;rw[IJ,Jy];omega
def Bx:V->List V->Hp->VK->Prop:=fun x vs H Q=>∃l xs i k y,x=.ref l/\vs=[.int i]/\H l=some (.lst xs)/\-(2 ^ 63)<=i/\i < 2 ^ 63/\seqIndex? i xs.length=some k/\xs[k]?=some y/\Q y (WX H l (.lst (xs.eraseIdx k)))
theorem rl:Iz X "list.pop" Bx:=by
 intro WG s σ H x vs v us Q I rx rv h;obtain⟨l,xs,i,k,y,rfl,rfl,hH,h1,h2,hk,hy,q⟩:=h;cases rx;obtain⟨u,rfl,ru⟩:=rv.one;obtain⟨t,rfl⟩:=ru;obtain⟨z,WJ,n,r,hl,e⟩:=I.zK hH;obtain⟨w,hw,J7⟩:=r.get hy;refine call_meets F.slot_list_pop ⟨_,e,rfl⟩ F.entry_list_pop (F.args_list_pop_2 _ _)
  (MeetsSeq.list_pop_at l WJ.toArray n i t k w (fitsIndex_both h1 h2) (by rw[W4,<-hl];exact hk) (by rw[<-Array.getElem?_toList];exact hw) (by rw[W4];omega)) ⟨e,?_⟩
 refine⟨y,_,I.FY (its':=WJ.eraseIdx k) hH e ?_ (r.eraseIdx k) ?_,J7,q⟩
 ·show WJ.toArray.eraseIdxIfInBounds k=(WJ.eraseIdx k).toArray;rw[List.eraseIdxIfInBounds_toArray]
 ·have:=pE xs k;omega
def HJ:R2:=fun x y H Q=>∃l b xs zs,x=.ref l/\y=.ref b/\H l=some (.lst xs)/\H b=some (.lst zs)/\xs.length+zs.length<=sizeLine/\∀p,H p=none->Q (.ref p) (WX H p (.lst (xs++zs)))
theorem pX:gQ X (binaryOp .Add) HJ:=by
 intro WG s σ H x y v u Q I rx ry h;obtain⟨l,b,xs,zs,rfl,rfl,hH,hB,hz,q⟩:=h;cases rx;cases ry;obtain⟨z,WJ,n,r,hl,e⟩:=I.zK hH;obtain⟨z2,Kb,n2,r2,JY,e2⟩:=I.zK hB;refine PySem.P.add_list e e2 ?_ (by rw[W4,W4];omega);have ea:WJ.toArray++Kb.toArray=(WJ++Kb).toArray:=by simp
 rw[ea];exact⟨.ref _,_,I.Ih (t':=s.toks) (r.append r2) (by rw[IJ];omega),rfl,q _ I.fresh⟩
end
section
variable {prog:Program}{w:World}{A:Around}{E:Value->Shared->Prop}{s:Shared}
set_option maxRecDepth 100000 in
end
section
variable {X:Cx}
end
end L2
namespace Att
open PySem PySem.W PySem.Calls PyProof.Rows
theorem mH {P h}:∀ns vs,WellAll P h vs (ns.map WData.int)->IntsAre vs ns:=by
 intro ns
 induction ns with
 | nil=>
  intro vs w;rw[List.map_nil] at w;cases w;exact .nil
 | cons n ns ih=>
  intro vs w;rw[W5] at w;cases w with
  | cons a b=>
   cases a;exact .cons _ _ (ih _ b)
theorem vn {l:OpenLaw}{n:Nat}(hn:l.most=some n){P:Params}{h:Heap}{args:List WData}{vals:List Value}
  (M9:l.row.toRowW.claim.pre args=true) (Ry:WellAll P h vals args):
  ∃a vs ns,vals=[Value.ref a]/\args=[WData.list (ns.map WData.int)]/\h.get? a=some { cls:=.type "list",data:=.seq vs.toArray }/\IntsAre vs ns/\ns.length<=n:=by
 have hsh:WShape.hasAll [] args [.list .int]=true:=(pre_splitW M9).1;have hc:l.pre.holds [] { args:=args }=true:=(pre_splitW M9).2;obtain⟨d,r,rfl,h1,h2⟩:=hasAllW_cons hsh;obtain rfl:=hasAllW_nil h2;obtain⟨xs,rfl,h3⟩:=hasW_list h1;obtain⟨ns,rfl⟩:=items_int h3;have WM:ns.length<=n:=by
  unfold OpenLaw.pre at hc;have h4:(WTm.not (.lt (.lit (.int (n:Int))) (.len (.arg 0)))).holds [] { args:=[.list (ns.map .int)] }=true:=by
   have h4:=(holds_andW hc).1;rw[hn] at h4;exact h4
  have h5:=condW_of h4 (w_not (w_lt w_lit (w_len_list (w_arg rfl))));rw[IU] at h5;refine Nat.le_of_not_lt fun q=>?_;have q':(n:Int) < ((ns.length:Nat):Int):=by omega
  first
   | (rw[IL q'] at h5;exact Xc h5 (by decide))
   | (simp at h5;omega)
 cases Ry with
 | cons w1 w2=>
  cases w2;cases w1 with
  | list ho JW=>exact⟨_,_,ns,rfl,rfl,ho,mH ns _ JW,WM⟩
theorem vq (l:OpenLaw) (args):l.row.toRowW.claim.post args (.bool true) args=true:=
 postW_of (r:=l.row.toRowW) (X:=(true == true))
  (show WShape.has [] (.bool true) .bool=true by first | rfl | decide | simp[WShape.has,WShape.arms,WShape.armsAll])
  (show(WTm.eq .res (.lit (.bool true))).value [] { args:=args,res:=some (.bool true),after:=args }=some (.bool (true == true)) from w_eq_bool (w_res rfl) w_lit) rfl
theorem rW {l:OpenLaw}{n:Nat}{q:Program}{loose:List Str}{XP:(Str->Option Value)->Heap->Prop}{YP:World->Heap->Prop}{d:DefRec}
  (hn:l.most=some n) (Ls:d.params.defaults=[])
  (call:∀(w:World) (s₀ s₁:Shared) (mg mb:Str->Option Value) (fa:Addr) (o:Obj) (pm cd doc:Value) (a:Addr) (vs:List Value) (ns:List Int),
   Ground q loose [] XP w s₀ mg mb s₁.heap->YP w s₁.heap->
   s₁.heap.get? fa=some o->o.data=.func (docDef d.name d.params d.body d.scope pm cd doc)->s₁.heap.CodeRec cd d.name->mg d.name=some (.ref fa)->
   s₁.heap.get? a=some { cls:=.type "list",data:=.seq vs.toArray }->IntsAre vs ns->ns.length<=n->s₁.gens=#[]->
   codeAny (model l.prog w) callerA (.call (.ref fa) ⟨[.ref a],[]⟩) (fun r s'=>r=.ok (.ret (.bool true))/\OldK s₁.heap s'.heap/\s'.os=s₁.os/\AllBare s'.gens) s₁):
  WalkO q loose XP YP l.row.toRowW d [] (fun f vs=>PySem.call f vs):=by
 intro w s₀ s₁ mg mb G Y fa o pm cd doc dV kV ho hd LJ hD hmg hg args vals as M9 hlay hrd Ry Qr;obtain rfl:dV=.none:=Dflts.none hD Ls;obtain rfl:kV=.none:=Dflts.noKw hD;obtain⟨a,vs,ns,rfl,rfl,Ol,hints,WM⟩:=vn hn M9 Ry;refine enter_call (codeAny_mono (call w s₀ s₁ mg mb fa o pm cd doc a vs ns G Y ho (fd_plain hd) LJ hmg Ol hints WM hg) fun r s' hq=>?_);obtain⟨rfl,h2,h3,h4⟩:=hq;exact⟨.inl ⟨.bool true,.bool true,[],rfl,fun _=>rfl,.bool true,vq l _,fun _=>⟨List.Pairwise.nil,fun _ hm=>(nomatch hm)⟩⟩,h2,h3,h4⟩
section
variable {prog:Program}{w:World}{A:Around}{E:Value->Shared->Prop}{s:Shared}{K:Frag}
end
end Att
namespace L2
open PySem PySem.Spec PyProof.Rows
theorem pe:∀{vs ns},IntsAre vs ns->WY (ns.map V.int) vs
 | _,_,.nil=>.nil
 | _,_,.cons n t h=>.cons ⟨t,rfl⟩ (pe h)
def DK (H:Hp):Prop:=∀b,H b=none\/∃o xs,H b=some (.mB o (.lst xs))
theorem yc {P w K mg mb CX k fa a fd x sp s₁ vs ns}
  (KX:K.In s₁.heap) (Lp:s₁.heap.Ns mainGlobals mg) (hb:s₁.heap.Ns builtinsNs mb) (hbb:∀x:Str,x≠"__name__"->mb x=bootBuiltins x) (hlim:s₁.heap.NoLimit) (hg:s₁.gens=#[])
  (ha:s₁.heap.get? a=some { cls:=.type "list",data:=.seq vs.toArray }) (hi:IntsAre vs ns) (hl:ns.length<=sizeLine) (hr:dY k callerA)
  (F:∀base:Heap,K.In base->base.Ns mainGlobals mg->bK P w K mg base CX k fa fd [x] sp) (hbind:∀s u,BindsTo s fd ⟨[u],[]⟩ [(x,u)])
  (ME:∀H:Hp,DK H->bf K H a (ns.map V.int)->sp [.ref a] H (fun v _=>v=.bl true) fun _ _ _=>False)
  (TK:∀H e s',CX [] H s₁ (fun _ _ _=>False) e s'->False):
  codeAny (model P w) callerA (.call (.ref fa) ⟨[.ref a],[]⟩) (fun r s'=>r=.ok (.ret (.bool true))/\OldK s₁.heap s'.heap/\s'.os=s₁.os/\AllBare s'.gens) s₁:=by
 have rv:=pe hi;have lenV:=hi.length;have core:∀H:Hp,DK H->bf K H a (ns.map V.int)->kP P w H s₁.heap->(∀b,H b≠none->b=a)->(H a≠none->K.lookup a=none)->
   codeAny (model P w) callerA (.call (.ref fa) ⟨[.ref a],[]⟩) (fun r s'=>r=.ok (.ret (.bool true))/\OldK s₁.heap s'.heap/\s'.os=s₁.os/\AllBare s'.gens) s₁:=by
  intro H hO hS cP hA hK;have base_of:∀{b o},s₁.heap.get? b=some o->H b=none->(qk s₁.heap H).get? b=some o:=fun e n=>yh e n;have noA:∀{b o es ep},s₁.heap.get? b=some o->o.data=.dict es ep->H b=none:=fun {b o es ep} e d=>by
   cases q:H b with
   | none=>rfl
   | some u=>
    have e':b=a:=hA b (by rw[q];simp);subst e';rw[ha] at e;cases e;have d':Data.seq vs.toArray _=Data.dict es ep:=d;cases d'
  have nsK:∀{b m},s₁.heap.Ns b m->(qk s₁.heap H).Ns b m:=fun {b m} ⟨o,es,ep,e,d,r⟩=>⟨o,es,ep,base_of e (noA e d),d,r⟩;have VO:K.In (qk s₁.heap H):=fun b o e=>base_of (KX b o e) (by
   cases q:H b with
   | none=>rfl
   | some u=>
    have e':b=a:=hA b (by rw[q];simp);subst e';rw[hK (by rw[q];simp)] at e;cases e)
  have hM:Mod K mg (qk s₁.heap H):=⟨VO,nsK Lp,⟨mb,nsK hb,hbb⟩,let ⟨mc,h1,h2⟩:=hlim;⟨mc,nsK h1,h2⟩⟩;have e0:tS P w K mg (qk s₁.heap H) callerA [] s₁ H:=⟨rfl,hM,fun b o e=>zG e,Nat.le_of_eq (vP _ _),trivial,fun b hb=>Xc (show b∈([]:List Addr) from hb) (by simp),cP,.of_eq hg⟩;refine codeAny_mono ((F _ VO (nsK Lp)).run callerA [] s₁ H ⟨[.ref a],[]⟩ [.ref a] [.ref a] _ _ hr e0 (hbind s₁ (.ref a)) (.cons rfl .nil) (ME H hO hS)) fun r s' h=>?_;cases r with
  | error e=>exact(TK H e s' h).elim
  | ok fl=>
   cases fl with
   | next=>exact False.elim h
   | brk=>exact False.elim h
   | cont=>exact False.elim h
   | ret u=>
    obtain⟨v,H',os,bare,un,hok',r',q⟩:=h;have q':v=.bl true:=q;subst q';obtain rfl:u=Value.bool true:=r';refine⟨rfl,OldK.of_keep fun b o e=>?_,os,bare⟩;cases q:H b with
    | none=>exact un.keep b o e q (by intro z;exact Xc (show b∈([]:List Addr) from z) (by simp)) (by simp)
    | some u=>
     rcases hO b with z | ⟨ob,xs,z⟩
     ·rw[q] at z;cases z
     ·have z2:=un.oj b ob _ z;obtain⟨e1,_⟩:=cP b _ z;obtain⟨e2,_⟩:=hok' b _ z2;rw[e] at e1;cases e1;exact e2
 cases hk:K.lookup a with
 | some o=>
  have e:=KX a o hk;rw[ha] at e;cases e;refine core (fun _=>none) (fun _=>.inl rfl) (.inr ⟨_,vs.toArray,_,hk,rfl,rfl,rfl,by rw[W4,lenV];exact hl,by simpa using rv⟩) (fun b u z=>by have z':(none:Option HO)=some u:=z;cases z') (fun b z=>Xc rfl z) fun z=>Xc rfl z
 | none=>
  refine core (fun b=>if b=a then some (.mB { cls:=.type "list",data:=.seq vs.toArray } (.lst (ns.map V.int))) else none) (fun b=>?_) (.inl (.inr ⟨{ cls:=.type "list",data:=.seq vs.toArray },IZ rfl⟩)) (fun b u z=>?_) (fun b z=>?_) fun _=>hk
  ·by_cases hb:b=a
   ·exact .inr ⟨_,_,IZ hb⟩
   ·exact .inl (IY hb)
  ·by_cases hb:b=a
   ·have z':=(IZ hb).symm.trans z;cases z';subst hb;exact⟨ha,by rw[IU];exact hl,vs,_,rv,ha⟩
   ·have z':=(IY hb).symm.trans z;cases z'
  ·by_cases hb:b=a
   ·exact hb
   ·exact Xc (IY hb) z
end L2
namespace L2
open PySem PySem.Spec PyProof.Rows
abbrev KOf {K:Fg06}{h:Heap}(_:K.In h):Fg06:=K
theorem y8 {l:PySem.W.OpenLaw}{n k:Nat}{q:Program}{loose:List Str}{XP:(Str->Option Value)->Heap->Prop}{YP:World->Heap->Prop}{d:DefRec}{K:Params->Fg06}{CX:World->z8}{sp:World->Sp}{x:Str}
  (hn:l.most=some n) (Lh:n<=sizeLine) (Ls:d.params.defaults=[]) (hr:dY k callerA)
  (hY:∀(w:World) (h:Heap),YP w h->(K w.params).In h)
  (F:∀(w:World) (mg:Str->Option Value) (fa:Addr) (h:Heap),(K w.params).In h->h.Ns mainGlobals mg->mg d.name=some (.ref fa)->
   ∃fd:FuncData,(∀(s:Shared) (u:Value),BindsTo s fd ⟨[u],[]⟩ [(x,u)])/\
    ∀base:Heap,(K w.params).In base->base.Ns mainGlobals mg->bK l.prog w (K w.params) mg base (CX w) k fa fd [x] (sp w))
  (ME:∀(w:World) (H:Hp) (a:Addr) (ns:List Int),ns.length<=n->DK H->bf (K w.params) H a (ns.map V.int)->sp w [.ref a] H (fun v _=>v=.bl true) fun _ _ _=>False)
  (TK:∀(w:World) (H:Hp) (s:Shared) (e:Value) (s':Shared),CX w [] H s (fun _ _ _=>False) e s'->False):
  PySem.W.WalkO q loose XP YP l.row.toRowW d [] (fun f vs=>PySem.call f vs):=by
 refine Att.rW hn Ls fun w s₀ s₁ mg mb fa o pm cd doc a vs ns G Y ho hd LJ hmg Ol hints WM hg=>?_;have KX:=hY w _ Y;obtain⟨fd,hb,hF⟩:=F w mg fa _ KX G.T.g hmg;exact yc KX G.T.g G.T.b G.T.builtins G.T.nolimit hg Ol hints (IV WM Lh) hr hF hb (fun H hO hS=>ME w H a ns WM hO hS) fun H e s'=>TK w H s₁ e s'
end L2
namespace L2
open PySem PySem.Spec PyProof.Rows
def gP (s:Stmt):Arguments:=match s with
 | .FunctionDef _ a _ _ _ _ _ _ _ _=>a
 | _=>{ posonlyargs:=[],args:=[],vararg:=none,kwonlyargs:=[],kw_defaults:=[],kwarg:=none,defaults:=[] }
def gN (s:Stmt):List Stmt:=match s with
 | .FunctionDef _ _ b _ _ _ _ _ _ _=>b
 | _=>[]
def aw (s:Stmt):Scope:=match s with
 | .FunctionDef _ _ _ _ _ _ sc _ _ _=>sc
 | _=>{ kind:=.function,names:=[],isGenerator:=false,isCoroutine:=false }
abbrev eh:z8:=fun _ _ _ _ _ _=>False
abbrev E0:XK:=fun _ _ _=>False
theorem Az {X}:Passes eh X E0:=fun _ _ _ _ _ _ _ h=>h.elim
structure eg (K:Fg06) (x WL:Str) (st:Stmt) (f:Addr) (fd:FuncData):Prop where
 ex:∃oc od kV doc pm an WK ct osl,
  fd=PySem.W.fnOf x WL (gP st) (gN st) (aw st) .none kV doc pm an WK ct/\K.lookup f=some ⟨oc,od,.func fd,osl⟩/\PySem.W.codeIn K WK WL=true
 kp:PySem.W.keepIn K (.ref f)=true
section
variable {P:Program}{w:World}{K:Fg06}{mg:Str->Option Value}{base:Heap}
theorem eg.ok {x WL st f fd N ps k sp}(F:eg K x WL st f fd) (S:aS N ps (aw st)) (len:∀vs H Q E,sp vs H Q E->vs.length=ps.length)
  (Kk:∀WK A outer s H vs Q E,dY k (A.deeper (envOfC WL (aw st) s.heap.objs.size f WK))->sp vs H Q E->
   ∃t,sf (rQ eh P w K mg base N WL (aw st) f WK A outer s H E).DV (gN st) t/\t { nx:=fun _ H'=>Q .bj H',rt:=Q } (start N vs) H):bK P w K mg base eh (k+1) f fd ps sp:=by
 obtain⟨oc,od,kV,doc,pm,an,WK,ct,osl,rfl,lk,LJ⟩:=F.ex;refine Gb lk LJ S len fun A outer s H vs Q E hr ME=>?_;obtain⟨t,h,q⟩:=Kk WK A outer s H vs Q E hr ME;exact⟨t,h.DV,q⟩
theorem eg.binds {x WL st f fd ps}(F:eg K x WL st f fd)
  (h:∀kV doc pm an WK ct us,us.length=ps.length->bindArgs (PySem.W.fnOf x WL (gP st) (gN st) (aw st) .none kV doc pm an WK ct) ⟨us,[]⟩=pure (ps.zip us)):Binds K fd ps []:=by
 obtain⟨oc,od,kV,doc,pm,an,WK,ct,osl,rfl,lk,LJ⟩:=F.ex;exact .all (h kV doc pm an WK ct)
theorem yp {x WL st f oc od an osl kV doc pm WK ct}(l:K.lookup f=some ⟨oc,od,.func (PySem.W.fnOf x WL (gP st) (gN st) (aw st) .none kV doc pm an WK ct),osl⟩)
  (c:PySem.W.codeIn K WK WL=true) (k:PySem.W.keepIn K (.ref f)=true):eg K x WL st f (PySem.W.fnOf x WL (gP st) (gN st) (aw st) .none kV doc pm an WK ct):=⟨⟨oc,od,kV,doc,pm,an,WK,ct,osl,rfl,l,c⟩,k⟩
end
theorem fz {A k}(hr:dY k A):A.units+1 < cLine:=Nat.lt_of_le_of_lt (Nat.add_le_add_left (by decide:1<=64) _) hr.units
theorem cm {n}(h:n<=1000):n < sizeLine:=Nat.lt_of_le_of_lt h (by decide)
section
variable {X:Cx}
theorem pv (i) {x pos}(hN:X.N[i]?=some x:=by rfl) (hv:GU X.env.scope x:=by first | exact Or.inl rfl | exact Or.inr (Or.inl rfl) | exact Or.inr (Or.inr rfl)) (hd:(x == ("__debug__":Str))=false:=by decide)
  (LJ:(x == ("__classdict__":Str))=false:=by decide):PE X (.Name x pos) (vh i):=BE hN hv hd LJ
end
theorem aY {A B:Prop}(h:B):if false=true then A else B:=by
 rw[IY Jd];exact h
theorem bE {A B:Prop}(h:A):if true=true then A else B:=by
 rw[IZ rfl];exact h
def au (H H':Hp):Prop:=∀b o,H b=some o->H' b=some o
theorem au.refl (H):au H H:=fun _ _ h=>h
theorem au.trans {H H1 H2}(a:au H H1) (b:au H1 H2):au H H2:=fun c o h=>b c o (a c o h)
theorem au.free {H H'}(e:au H H') {l}(h:H' l=Option.none):H l=Option.none:=by
 cases q:H l with
 | none=>rfl
 | some o=>
  rw[e l o q] at h;cases h
theorem au.seq {K H H' a xs}(e:au H H') (h:bf K H a xs):bf K H' a xs:=by
 rcases h with (h | ⟨o,h⟩) | h
 ·exact .inl (.inl (e _ _ h))
 ·exact .inl (.inr ⟨o,e _ _ h⟩)
 ·exact .inr h
end L2
namespace GS
end GS
set_option maxHeartbeats 4000000
namespace L2
open PySem PySem.Spec PyProof.Rows PySem.Builtin PySem.Builtin.Str
section
variable {X:Cx}
def HD:V->Option Int->Option Int->Hp->VK->Prop:=fun x lo hi H Q=>∃z,x=.str z/\z.length<=sizeLine/\Q (.str (StrLaws.sliceText z lo hi)) H
theorem dz (x l u):(StrLaws.sliceText x l u).length<=x.length:=Txt.slice_le x l u
theorem jt:wk X HD:=by
 intro WG s σ H x v vl vu lo hi sl Q I rx hs pl pu h;obtain⟨z,rfl,hz,q⟩:=h;obtain⟨t,rfl⟩:=rx;have fin:∀t' k,EP X WG σ Q (.str (StrLaws.sliceText z lo hi) t') { s with toks:=k }:=fun t' k=>⟨.str _,H,I.tok _,⟨_,rfl⟩,q⟩;refine⟨"str",_,F.slot_str_getitem.lookup,typeIs_str _ _ _,?_⟩;cases pl with
 | none=>
  cases pu with
  | none=>exact wpAny_getItem_str_slice (l:=none) (u:=none) (st:=none) hs rfl (post_val_or_str ⟨IV (dz z _ _) hz,fin⟩)
  | int j uj=>exact wpAny_getItem_str_slice (l:=none) (u:=some (j,uj)) (st:=none) hs rfl (post_val_or_str ⟨IV (dz z _ _) hz,fin⟩)
 | int i ui=>
  cases pu with
  | none=>exact wpAny_getItem_str_slice (l:=some (i,ui)) (u:=none) (st:=none) hs rfl (post_val_or_str ⟨IV (dz z _ _) hz,fin⟩)
  | int j uj=>exact wpAny_getItem_str_slice (l:=some (i,ui)) (u:=some (j,uj)) (st:=none) hs rfl (post_val_or_str ⟨IV (dz z _ _) hz,fin⟩)
theorem nD:∀{ys us},WY (ys.map V.str) us->StrsAre us ys
 | [],_,.nil=>.nil
 | y::ys,_,.cons r rr=>by
  obtain⟨t,rfl⟩:=r;exact .cons y t (nD rr)
theorem zI:GY X "str.join" (fun x xs H Q=>∃z p ys,x=.str z/\xs=[.ref p]/\bf X.K H p (ys.map V.str)/\(ys.map (·.length)).sum+ys.length*z.length<=16777216/\Q (.str (Txt.join z ys)) H):=by
 intro WG s σ H x xs v us Q I rx rs h;obtain⟨z,p,ys,rfl,rfl,hq,cP,q⟩:=h;obtain⟨t,rfl⟩:=rx;obtain⟨u,rfl,ru⟩:=vals1 rs;cases ru;obtain⟨WJ,r,pl,hz⟩:=I.list hq;exact join_list pl.isList (by simpa using nD r) cP fun t' k=>⟨.str _,H,I.tok _,⟨_,rfl⟩,q⟩
theorem sO:gQ X (binaryOp .Mult) (fun x y H Q=>∃z n,x=.str z/\y=.int n/\0<=n/\n<=4096/\z.length<=4095/\Q (.str (Txt.mul z n)) H):=by
 intro WG s σ H x y v u Q I rx ry h;obtain⟨z,n,rfl,rfl,h0,h1,h2,q⟩:=h;obtain⟨t,rfl⟩:=rx;obtain⟨t',rfl⟩:=ry;refine SB.mul ⟨?_,fun _ _=>?_,fun _ _=>?_⟩ fun t' k=>⟨.str _,H,I.tok _,⟨_,rfl⟩,q⟩
 ·have e1:decide (n < -(2 ^ 63:Int))=false:=IK (by omega);have e2:decide (n≥2 ^ 63)=false:=IK (by omega);rw[e1,e2];rfl
 ·by_cases hn:n=0
  ·subst hn;omega
  ·have:(2 ^ 63 - 1:Int) / n≥4096:=by
    refine(Int.le_ediv_iff_mul_le (by omega)).mpr ?_;omega
   omega
 ·have hm:z.length*n.toNat<=4095*4096:=Nat.mul_le_mul h2 (by omega);unfold tooLong;exact IK (by rw[sizeLine_eq];omega)
end
end L2
namespace PySem
section
variable {prog:Program}{w:World}{A:Around}{E:Value->Shared->Prop}{R:Result->Shared->Prop}{s:Shared}
end
end PySem
namespace L2
open PySem PySem.Spec PyProof.Rows PySem.Builtin PySem.Builtin.Str
section
variable {X:Cx}{tg:Expr}
end
def oI (X:Cx) (scope:Scope) (cl:List (Str×Addr)) (C:Addr) (N':List Str) (s0:Shared) (H0:Hp) (fp:List Addr):Cx:=
 { X with N:=N',s₀:=s0,H₀:=H0,env:=compEnvC scope cl C X.env,outer:=X.stack,stack:=X.stack,ex:=fp,fn:=fun _=>false,pn:=[],xe:=fun _ _=>False }
section
variable {X:Cx}
end
end L2
namespace L2
open PySem PySem.Spec PyProof.Rows PySem.Builtin PySem.Builtin.Str
section
variable {X:Cx}
theorem ka:∀{bs:List Bool}{us:List Value},WY (bs.map V.bl) us->us=bs.map Value.bool
 | [],_,.nil=>rfl
 | b::bs,_,.cons r rr=>by
  have e:_=Value.bool b:=r;rw[e,ka rr];rfl
theorem yN (bs:List Bool):(List.range bs.length).all (fun j=>(bs[j]?).getD true)=bs.all id:=by
 rw[Bool.eq_iff_iff,List.all_eq_true,List.all_eq_true];constructor
 ·intro h x hx;obtain⟨i,hi,rfl⟩:=List.mem_iff_getElem.mp hx;have:=h i (List.mem_range.mpr hi)
  simpa[hi] using this
 ·intro h j hj;have L8:=List.mem_range.mp hj;have:=h _ (List.getElem_mem L8)
  simpa[L8] using this
theorem yF (hc:X.calm=true):gm X (.builtin "all") (fun xs H Q=>∃(p:Addr) (bs:List Bool),xs=[.ref p]/\bf X.K H p (bs.map V.bl)/\Q (.bl (bs.all id)) H):=by
 intro WG s σ H xs us Q I r h;obtain⟨p,bs,rfl,hq,q⟩:=h;obtain⟨u,rfl,ru⟩:=vals1 r;cases ru;obtain⟨WJ,rv,pl,hz⟩:=I.list hq;have ei:=ka rv;subst ei;have JX:p < s.heap.objs.size:=let ⟨o,n,e,_⟩:=pl;Jw e;refine call_all_walk (wpAny_pyIter_list pl.isList ?_);refine⟨s.heap.objs.size,[s.heap.objs.size,p],[s.heap.objs.size],(bs.map Value.bool).toArray.size,_,_,(fun j=>(bs[j]?).getD true),rfl,
  Walks.list (A:=X.A.in1) (I.ok.hd hc) _ p (Jx JX) (bs.map Value.bool).toArray,⟨⟨_,JA _ rfl,rfl,rfl⟩,?_⟩,fun i v s' Q' E' hP Tw=>?_,fun h' tk k=>?_⟩
 ·obtain⟨o,ho,r⟩:=pl.isList;exact⟨o,Jc _ ho,r⟩
 ·have La:(bs.map Value.bool)[i]?=some v:=by simpa using hP
  rw[I0] at La;cases e:bs[i]? with
  | none=>rw[e] at La;cases La
  | some b=>
   rw[e] at La;have e':Value.bool b=v:=by simpa using La
   subst e';have hQ2:Q' b s':=by simpa[e] using Tw
   exact wpAny_truthy_bool hQ2
 ·have e1:(bs.map Value.bool).toArray.size=bs.length:=by simp
  rw[e1,yN bs];refine⟨.bl _,H,I.kept fun b o e=>k b o ?_ (Jc _ e),rfl,q⟩;intro hm;exact Jx (Jw e) (W7.mp hm)
theorem Inv.big {WG σ H s}(I:Inv X WG σ H s):sysModules < s.heap.objs.size:=by
 have h:mainGlobals < s.heap.objs.size:=(I.mod.glob.keeps I.bk).lt;exact Nat.lt_trans (by decide) h
theorem rK {P w H}(h:Heap) (hb:sysModules < h.objs.size):eG P w H (h.push { cls:=.type "dict",data:=.dict #[] }) h.objs.size (.dK []):=
 ⟨Jr _,beq_eq_false_iff_ne.mpr (W3 (Jx hb)),[],.nil,Heap.DictOf.new h⟩
def A2:TE:=fun _ H Q=>∀p,H p=none->Q (.ref p) (WX H p (.dK []))
theorem fI {pos}:PE X (.Dict [] [] pos) A2:=fun WG s σ H Q I h=>
 wpAny_Dict_empty ⟨.ref s.heap.objs.size,_,I.laid (a:=s.heap.objs.size) (o:=.dK []) (t':=s.toks) (fun _ _ q=>Jc _ q) (IW _) (rK s.heap I.big),rfl,h _ (I.cP.fresh (IW _))⟩
end
end L2
namespace GS
open PySem L2 PyProof.Rows
structure Def (P:Program) (w:World) (K:Fg06) (mg:Str->Option Value) (base:Heap) (name:Str) (ps:List Str) (k:Nat) (sp:Sp):Prop where
 ex:∃f fd,mg name=some (.ref f)/\PySem.W.keepIn K (.ref f)=true/\Binds K fd ps []/\bK P w K mg base eh k f fd ps sp
theorem sN {X name ps k k' sp e es t p pos}(F:Def X.prog X.w X.K X.mg X.base name ps k sp) (hr:dY k' X.A) (hk:k<=k') (hg:Gl X name) (ha:PA X (e::es) t)
  (KG:(name == ("__debug__":Str))=false:=by decide) (he:starEach (e::es) X.env=(false,eval e X.env)::starEach es X.env:=by rfl) (JX:(backTo pos (starEach es X.env)).any (·.1)=false:=by rfl):
  PE X (.Call (.Name name p) (e::es) [] pos) (qL sp [] E0 t):=by
 obtain⟨f,fd,h1,h2,h3,h4⟩:=F.ex;exact zq (h4.mono hk) hr hg h1 h2 h3 .nil Az ha KG he JX
theorem Dy {P w K mg base name ps k sp st f fd}(F:eg K name name st f fd) (hm:mg name=some (.ref f)) (hb:Binds K fd ps []) (h:bK P w K mg base eh k f fd ps sp):
  Def P w K mg base name ps k sp:=⟨f,fd,hm,F.kp,hb,h⟩
theorem mY {X x z pos}(hg:Gl X x) (hm:∃t,X.mg x=some (.int z t)) (hd:(x == ("__debug__":Str))=false:=by decide):PE X (.Name x pos) (tC (.int z)):=by
 obtain⟨t,e⟩:=hm;exact bz hg e ⟨t,rfl⟩ hd
theorem ae {H p}(h:H p=none) (o):au H (WX H p o):=fun b u q=>by rw[aB (cU q h)];exact q
theorem qZ {H H' p}(e:au H H') (h:H p=none) (o):au H (WX H' p o):=fun b u q=>by rw[aB (cU q h)];exact e b u q
theorem small {n}(h:n<=1000000):n<=sizeLine:=by rw[sizeLine_eq];omega
end GS
namespace L3
open PySem PySem.Spec PyProof.Rows L2
@[irreducible] def LE (X:Cx) (e:Expr) (t:TE):Prop:=PE X e t
@[irreducible] def LT (X:Cx) (e:Expr) (t:TT):Prop:=PT X e t
@[irreducible] def LW (X:Cx) (e:Expr) (t:TT):Prop:=PW X e t
@[irreducible] def LA (X:Cx) (es:List Expr) (t:TA):Prop:=PA X es t
@[irreducible] def LO (X:Cx) (e:Option Expr) (t:TO):Prop:=PO X e t
@[irreducible] def LG (X:Cx) (e:Expr) (t:TG):Prop:=PG X e t
@[irreducible] def yZ (X:Cx) (es:List Expr) (t:AS):Prop:=DI X es t
@[irreducible] def LI (X:Cx) (tg e:Expr) (t:TI):Prop:=PI X tg e t
@[irreducible] def LS (X:Cx) (st:Stmt) (t:TS):Prop:=PS X st t
@[irreducible] def sh (X:Cx) (st:List Stmt) (t:TS):Prop:=sf X st t
section
variable {X:Cx}{e a b c o tg:Expr}{es rest:List Expr}{oe lo hi:Option Expr}{st:Stmt}{sts:List Stmt}{te ta tb to:TE}{tA tB' tc:TT}{tl th:TO}{t:TA}{ts us:TS}{Mz:TG}{tgs:AS}{wi:TI}{pos p p2 WR WO:Pos}
theorem LE.mk (h:PE X e te):LE X e te:=by unfold LE;exact h
theorem LE.out (h:LE X e te):PE X e te:=by unfold LE at h;exact h
theorem LT.mk (h:PT X e tA):LT X e tA:=by unfold LT;exact h
theorem LT.out (h:LT X e tA):PT X e tA:=by unfold LT at h;exact h
theorem LW.mk (h:PW X e tA):LW X e tA:=by unfold LW;exact h
theorem LW.out (h:LW X e tA):PW X e tA:=by unfold LW at h;exact h
theorem LA.mk (h:PA X es t):LA X es t:=by unfold LA;exact h
theorem LA.out (h:LA X es t):PA X es t:=by unfold LA at h;exact h
theorem LO.mk (h:PO X oe tl):LO X oe tl:=by unfold LO;exact h
theorem LO.out (h:LO X oe tl):PO X oe tl:=by unfold LO at h;exact h
theorem LG.mk (h:PG X e Mz):LG X e Mz:=by unfold LG;exact h
theorem LG.out (h:LG X e Mz):PG X e Mz:=by unfold LG at h;exact h
theorem yZ.mk (h:DI X es tgs):yZ X es tgs:=by unfold yZ;exact h
theorem yZ.out (h:yZ X es tgs):DI X es tgs:=by unfold yZ at h;exact h
theorem LI.mk (h:PI X tg e wi):LI X tg e wi:=by unfold LI;exact h
theorem LI.out (h:LI X tg e wi):PI X tg e wi:=by unfold LI at h;exact h
theorem LS.mk (h:PS X st ts):LS X st ts:=by unfold LS;exact h
theorem LS.out (h:LS X st ts):PS X st ts:=by unfold LS at h;exact h
theorem sh.mk (h:sf X sts ts):sh X sts ts:=by unfold sh;exact h
theorem sh.out (h:sh X sts ts):sf X sts ts:=by unfold sh at h;exact h
theorem ah {i j}:LE X (.Constant (.int i) j pos) (tC (.int i)):=.mk L2.ah
theorem jd {b j}:LE X (.Constant (.bool b) j pos) (tC (.bl b)):=.mk L2.jd
theorem bV {j}:LE X (.Constant .none j pos) (tC .bj):=.mk L2.bV
theorem ak {x j}:LE X (.Constant (.str x) j pos) (tC (.str x)):=.mk L2.ak
theorem pv (i) {x}(hN:X.N[i]?=some x:=by rfl) (hv:GU X.env.scope x:=by first | exact Or.inl rfl | exact Or.inr (Or.inl rfl) | exact Or.inr (Or.inr rfl)) (hd:(x == ("__debug__":Str))=false:=by decide)
  (LJ:(x == ("__classdict__":Str))=false:=by decide):LE X (.Name x pos) (vh i):=.mk (L2.pv i hN hv hd LJ)
theorem bz {x v u}(hg:Gl X x) (hm:X.mg x=some u) (r:RelV v u) (hd:(x == ("__debug__":Str))=false:=by decide):LE X (.Name x pos) (tC v):=.mk (L2.bz hg hm r hd)
theorem fY {x v u}(hg:Gl X x) (hm:X.mg x=none) (hv:bootBuiltins x=some u) (r:RelV v u) (hn:x≠"__name__":=by decide) (hd:(x == ("__debug__":Str))=false:=by decide):LE X (.Name x pos) (tC v):=.mk (L2.fY hg hm hv r hn hd)
theorem mY {x z}(hg:Gl X x) (hm:∃t,X.mg x=some (.int z t)) (hd:(x == ("__debug__":Str))=false:=by decide):LE X (.Name x pos) (tC (.int z)):=.mk (GS.mY hg hm hd)
theorem aH {op r}(ho:gQ X (binaryOp op) r) (ha:LE X a ta) (hb:LE X b tb):LE X (.BinOp a op b pos) (tY r ta tb):=.mk (L2.aH ho ha.out hb.out)
theorem ju {op r}(ho:GV X (unaryOp op) r) (ha:LE X a ta):LE X (.UnaryOp op a pos) (tUn r ta):=.mk (L2.ju ho ha.out)
theorem eJ {op r}(ho:gQ X (compareOp op) r) (ha:LE X a ta) (hb:LE X b tb) (hm:behindInMarks op b=false):LE X (.Compare a [op] [b] pos) (tY r ta tb):=.mk (L2.eJ ho ha.out hb.out hm)
theorem cZ {op}(h:LE X a te):LE X (.BoolOp op [a] pos) te:=.mk (L2.cZ h.out)
theorem cT (ha:LE X a ta) (hb:LE X (.BoolOp .And (b::rest) pos) tb):LE X (.BoolOp .And (a::b::rest) pos) (Ai ta tb):=.mk (L2.cT ha.out hb.out)
theorem jv (ha:LE X a ta) (hb:LE X (.BoolOp .Or (b::rest) pos) tb):LE X (.BoolOp .Or (a::b::rest) pos) (Ee ta tb):=.mk (L2.jv ha.out hb.out)
theorem bx (hc:LT X c tA) (ha:LE X a ta) (hb:LE X b tb):LE X (.IfExp c a b pos) (tIf tA ta tb):=.mk (L2.bx hc.out ha.out hb.out)
theorem fV {r}(hr:yQ X r) (ha:LE X a ta) (hb:LE X b tb) (hs:qB b):LE X (.Subscript a b pos) (tY r ta tb):=.mk (L2.fV hr ha.out hb.out hs)
theorem ck:LO X none tZ:=.mk L2.ck
theorem bZ (h:LE X e te):LO X (some e) (Ac te):=.mk (L2.bZ h.out)
theorem bR {r}(hr:wk X r) (he:LE X e te) (hl:LO X lo tl) (hu:LO X hi th):LE X (.Subscript e (.Slice lo hi none p2) pos) (tSl r te tl th):=.mk (L2.bR hr he.out hl.out hu.out)
theorem cJ:LA X [] su:=.mk L2.cJ
theorem bI (ha:LE X e te) (hr:LA X es t) (hs:starEach (e::es) X.env=(false,eval e X.env)::starEach es X.env:=by rfl):LA X (e::es) (gR te t):=.mk (L2.bI ha.out hr.out hs)
theorem bB (h:LA X es t):LE X (.List es pos) (Ei t):=.mk (L2.bB h.out)
theorem aI {k}(h:LA X es t):LE X (.Tuple es k pos) (Ea t):=.mk (L2.aI h.out)
theorem aJ {x id r}(hc:gm X (.builtin id) r) (hg:Gl X x) (hm:X.mg x=none) (hv:bootBuiltins x=some (.builtin id)) (ha:LA X (e::es) t) (hn:x≠"__name__":=by decide) (KG:(x == ("__debug__":Str))=false:=by decide)
  (he:starEach (e::es) X.env=(false,eval e X.env)::starEach es X.env:=by rfl) (JX:(backTo pos (starEach es X.env)).any (·.1)=false:=by rfl):LE X (.Call (.Name x p) (e::es) [] pos) (GH r t):=.mk (L2.aJ hc hg hm hv ha.out hn KG he JX)
theorem bS {x T r}(hc:gm X (.type T) r) (hg:Gl X x) (hm:X.mg x=none) (hv:bootBuiltins x=some (.type T)) (ha:LA X (e::es) t) (hn:x≠"__name__":=by decide) (KG:(x == ("__debug__":Str))=false:=by decide)
  (he:starEach (e::es) X.env=(false,eval e X.env)::starEach es X.env:=by rfl) (JX:(backTo pos (starEach es X.env)).any (·.1)=false:=by rfl):LE X (.Call (.Name x p) (e::es) [] pos) (GH r t):=.mk (L2.bS hc hg hm hv ha.out hn KG he JX)
theorem dZ {T id name r}(pa:PlainAttrs T) (slot:Slot T name id) (P9:typeOf (.builtin id)=pure (.type "method_descriptor")) (hm:GY X id r) (ho:LE X o to) (ha:LA X (e::es) t)
  (Kl:attributeBase o name X.env (eval o X.env)=eval o X.env:=by rfl)
  (Lr:((backTo WO (starEach (e::es) X.env)).all (fun x=>!x.1)&&(backToKw WO (keywordEach [] X.env)).all (fun x=>x.1.isSome)
   &&decide ((e::es).length+([]:List Keyword).length+(if([]:List Keyword).isEmpty then 0 else 1) < 30))=true:=by rfl)
  (Ki:(WR.endLine == WO.line)=true:=by rfl) (hs:starEach (e::es) X.env=(false,eval e X.env)::starEach es X.env:=by rfl) (J1:(backTo WO (starEach es X.env)).any (·.1)=false:=by rfl):
  LE X (.Call (.Attribute o name WR) (e::es) [] WO) (tBM X.K T r to t):=.mk (L2.dZ pa slot P9 hm ho.out ha.out Kl Lr Ki hs J1)
theorem sN {name ps k k' sp}(F:GS.Def X.prog X.w X.K X.mg X.base name ps k sp) (hr:dY k' X.A) (hk:k<=k') (hg:Gl X name) (ha:LA X (e::es) t)
  (KG:(name == ("__debug__":Str))=false:=by decide) (he:starEach (e::es) X.env=(false,eval e X.env)::starEach es X.env:=by rfl) (JX:(backTo pos (starEach es X.env)).any (·.1)=false:=by rfl):
  LE X (.Call (.Name name p) (e::es) [] pos) (qL sp [] E0 t):=.mk (GS.sN F hr hk hg ha.out KG he JX)
theorem fg {op r}(ho:gQ X (compareOp op) r) (ha:LE X a ta) (hb:LE X b tb) (hm:behindInMarks op b=false):LT X (.Compare a [op] [b] pos) (qJ (tY r ta tb)):=.mk (L2.fg ho ha.out hb.out hm)
theorem bT (h:LE X e te) (he:∀whole,isTrue e X.env whole=(do let v <-whole;standAt e.pos;holding [v] (truthy v)):=by intro _;rfl):LT X e (tB te):=.mk (L2.bT h.out he)
theorem fb (ha:LT X a tA):LT X (.UnaryOp .Not a pos) (Eg tA):=.mk (L2.fb ha.out)
theorem cv (ha:LT X a tA):LW X (.BoolOp .And [a] pos) tA:=.mk (L2.cv ha.out)
theorem cY (ha:LT X a tA):LW X (.BoolOp .Or [a] pos) tA:=.mk (L2.cY ha.out)
theorem cS (ha:LT X a tA) (hb:LW X (.BoolOp .And (b::rest) pos) tB'):LW X (.BoolOp .And (a::b::rest) pos) (Ep tA tB'):=.mk (L2.cS ha.out hb.out)
theorem eY (ha:LT X a tA) (hb:LW X (.BoolOp .Or (b::rest) pos) tB'):LW X (.BoolOp .Or (a::b::rest) pos) (Ef tA tB'):=.mk (L2.eY ha.out hb.out)
theorem LW.pt (h:LW X e tA):LT X e tA:=.mk (L2.PW.pt h.out)
theorem gs {i x}(hN:X.N.Nodup) (hi:X.N[i]?=some x) (hx:Loc X.env.scope x) (hf:X.fn x=true\/X.env.scope.names.lookup x=some .local:=by first | exact .inl rfl | exact .inr rfl | assumption):LG X (.Name x pos) (j7 i):=.mk (L2.gs hN hi hx hf)
theorem fX:yZ X [] Ga:=.mk L2.fX
theorem ef (h1:LG X e Mz) (h2:yZ X es tgs) (hs:(assignEach (e::es) X.env).map (·.2)=assign e X.env::(assignEach es X.env).map (·.2):=by rfl):yZ X (e::es) (AN Mz tgs):=.mk (L2.ef h1.out h2.out hs)
theorem gW {k n}(hc:X.calm=true) (h:yZ X es tgs) (hn:(assignEach es X.env).length=n:=by rfl) (KO:(assignEach es X.env).findIdx? (·.1)=none:=by rfl):LG X (.Tuple es k pos) (F9 X.K n tgs):=.mk (L2.gW hc h.out hn KO)
theorem cx (hl:LE X e te):LI X tg e (AM X.K te):=.mk (L2.cx hl.out)
theorem ee (hl:LE X e te):LI X tg e (F4 X.K te):=.mk (L2.ee hl.out)
theorem cg (hg:Gl X "range") (hm:X.mg "range"=none) (ha:LA X [a] t) (hs:starEach [a] X.env=[(false,eval a X.env)]:=by rfl):LI X tg (.Call (.Name "range" p) [a] [] pos) (AL t):=.mk (L2.cg hg hm ha.out hs)
theorem aD (he:LE X e te):LS X (.Return (some e) pos) (Ec te):=.mk (L2.aD he.out)
theorem bW (he:LE X e te) (hs:swapsWith e none pos.line X.env=pure false:=by rfl):LS X (.Expr e pos) (Af te):=.mk (L2.bW he.out hs)
theorem iI {i x pos'}(hN:X.N.Nodup) (hi:X.N[i]?=some x) (hx:Loc X.env.scope x) (he:LE X e te) (hs:swapsWith e (some (.Name x pos')) pos.line X.env=pure false:=by rfl)
  (hf:X.fn x=true\/X.env.scope.names.lookup x=some .local:=by first | exact .inl rfl | exact .inr rfl | assumption):LS X (.Assign [.Name x pos'] e pos) (wC te (j7 i)):=.mk (L2.iI hN hi hx he.out hs hf)
theorem iJ (he:LE X e te) (hg:LG X tg Mz) (hs:swapsWithSole [tg] e pos.line X.env=pure false:=by rfl) (hw:swappedStores [tg] e X.env=pure none:=by rfl) (h1:(assignEach [tg] X.env).map (·.2)=[assign tg X.env]:=by rfl):
  LS X (.Assign [tg] e pos) (wC te Mz):=.mk (L2.iJ he.out hg.out hs hw h1)
theorem br {a b}(hc:LT X c tc) (ha:sh X a ts) (hb:sh X b us):LS X (.If c a b pos) (Ek tc ts us):=.mk (L2.br hc.out ha.out hb.out)
theorem fH {body}(hp:PassesOwn (model X.prog X.w) X.A X.env X.xe) (hc:LT X c tc) (hb:sh X body ts):LS X (.While c body [] pos) (wz tc ts):=.mk (L2.fH hp hc.out hb.out)
theorem d9 {iter body}(hp:PassesOwn (model X.prog X.w) X.A X.env X.xe) (hc:X.calm=true) (hi:LI X tg iter wi) (hg:LG X tg Mz) (hb:sh X body ts)
  (hs:∀x,foldedSetIterable iter X.env x=pure x:=by intro _;rfl):LS X (.For tg iter body [] pos) (Em wi Mz ts):=.mk (L2.d9 hp hc hi.out hg.out hb.out hs)
theorem cu {t'}(h:LS X st ts) (hi:∀D σ H,t' D σ H->ts D σ H):LS X st t':=.mk fun WG s σ H D I q=>h.out WG s σ H D I (hi D σ H q)
theorem aP:sh X [] Ad:=.mk L2.aP
theorem ag (h1:LS X st ts) (h2:sh X sts us):sh X (st::sts) (A0 ts us):=.mk (L2.ag h1.out h2.out)
theorem aq (h1:LS X st ts):sh X [st] ts:=.mk (L2.aq h1.out)
end
end L3
namespace L2
open PySem PySem.Spec PyProof.Rows
theorem eg.okI {P w K mg base x WL st f fd N ps k sp}(F:eg K x WL st f fd) (S:aS N ps (aw st)) (len:∀vs H Q E,sp vs H Q E->vs.length=ps.length)
  (Kk:∀WK A outer s H vs Q E,dY k (A.deeper (envOfC WL (aw st) s.heap.objs.size f WK))->sp vs H Q E->
   ∃t,L3.sh (rQ eh P w K mg base N WL (aw st) f WK A outer s H E).DV (gN st) t/\t { nx:=fun _ H'=>Q .bj H',rt:=Q } (start N vs) H):bK P w K mg base eh (k+1) f fd ps sp:=
 F.ok S len fun WK A outer s H vs Q E hr h=>let ⟨t,h1,h2⟩:=Kk WK A outer s H vs Q E hr h;⟨t,h1.out,h2⟩
end L2
namespace GS
open PySem L2 PyProof.Rows
inductive D where
 | bj | bl (b:Bool) | int (i:Int) | str (x:Str) | tup (xs:List D)
mutual
def At (K:Fg06) (H:Hp):D->V->Prop
 | .bj,v=>v=.bj
 | .bl b,v=>v=.bl b
 | .int i,v=>v=.int i
 | .str x,v=>v=.str x
 | .tup ds,v=>∃p vs,v=.ref p/\fh K H p vs/\az K H ds vs
def az (K:Fg06) (H:Hp):List D->List V->Prop
 | [],vs=>vs=[]
 | d::ds,vs=>∃v r,vs=v::r/\At K H d v/\az K H ds r
end
section
variable {K:Fg06}{H H':Hp}
theorem aX {ds v}:At K H (.tup ds) v↔∃p vs,v=.ref p/\fh K H p vs/\az K H ds vs:=by rw[At]
theorem bq {vs}:az K H [] vs↔vs=[]:=by rw[az]
theorem ba {d ds vs}:az K H (d::ds) vs↔∃v r,vs=v::r/\At K H d v/\az K H ds r:=by rw[az]
theorem cB {v}:At K H .bj v↔v=.bj:=by rw[At]
theorem cL {b v}:At K H (.bl b) v↔v=.bl b:=by rw[At]
theorem bc {i v}:At K H (.int i) v↔v=.int i:=by rw[At]
theorem av {x v}:At K H (.str x) v↔v=.str x:=by rw[At]
theorem au.lU {a xs}(e:au H H') (h:fh K H a xs):fh K H' a xs:=by
 rcases h with (h | ⟨o,h⟩) | h
 ·exact .inl (.inl (e _ _ h))
 ·exact .inl (.inr ⟨o,e _ _ h⟩)
 ·exact .inr h
mutual
theorem At.same (e:au H H'):∀d v,At K H d v->At K H' d v
 | .bj,_,h=>cB.mpr (cB.mp h)
 | .bl _,_,h=>cL.mpr (cL.mp h)
 | .int _,_,h=>bc.mpr (bc.mp h)
 | .str _,_,h=>av.mpr (av.mp h)
 | .tup ds,_,h=>by
  obtain⟨p,vs,rfl,h1,h2⟩:=aX.mp h;exact aX.mpr ⟨p,vs,rfl,au.lU e h1,az.same e ds vs h2⟩
theorem az.same (e:au H H'):∀ds vs,az K H ds vs->az K H' ds vs
 | [],_,h=>bq.mpr (bq.mp h)
 | d::ds,_,h=>by
  obtain⟨v,r,rfl,h1,h2⟩:=ba.mp h;exact ba.mpr ⟨v,r,rfl,At.same e d v h1,az.same e ds r h2⟩
end
theorem az.len:∀{ds vs},az K H ds vs->vs.length=ds.length
 | [],_,h=>by rw[bq.mp h];rfl
 | d::ds,_,h=>by
  obtain⟨v,r,rfl,_,h2⟩:=ba.mp h;rw[Jf,Jf,az.len h2]
theorem az.get:∀{ds vs}{i:Nat} {d},az K H ds vs->ds[i]?=some d->∃v,vs[i]?=some v/\At K H d v
 | [],_,i,d,_,e=>by simp at e
 | d0::ds,_,0,d,h,e=>by
  obtain⟨v,r,rfl,h1,_⟩:=ba.mp h;have:d0=d:=by simpa using e
  subst this;exact⟨v,rfl,h1⟩
 | d0::ds,_,i+1,d,h,e=>by
  obtain⟨v,r,rfl,_,h2⟩:=ba.mp h;obtain⟨u,e1,e2⟩:=az.get h2 (by simpa using e);exact⟨u,by simpa using e1,e2⟩
theorem az.append:∀{ds es vs ws},az K H ds vs->az K H es ws->az K H (ds++es) (vs++ws)
 | [],_,_,_,h,h'=>by rw[bq.mp h];exact h'
 | d::ds,_,_,_,h,h'=>by
  obtain⟨v,r,rfl,h1,h2⟩:=ba.mp h;exact ba.mpr ⟨v,_,rfl,h1,az.append h2 h'⟩
end
section
variable {X:Cx}{WG:List (Addr×Obj)}{σ:L2.St}{H:Hp}{s:Shared}
mutual
theorem At.one (I:Inv X WG σ H s):∀d e v,At X.K H d v->At X.K H e v->d=e
 | .bj,e,v,h,h'=>by
  rw[cB.mp h] at h';cases e with
  | bj=>rfl
  | tup ds=>obtain⟨p,vs,z,_⟩:=aX.mp h';cases z
  | bl b=>cases cL.mp h'
  | int i=>cases bc.mp h'
  | str x=>cases av.mp h'
 | .bl b,e,v,h,h'=>by
  rw[cL.mp h] at h';cases e with
  | bl c=>cases cL.mp h';rfl
  | tup ds=>obtain⟨p,vs,z,_⟩:=aX.mp h';cases z
  | bj=>cases cB.mp h'
  | int i=>cases bc.mp h'
  | str x=>cases av.mp h'
 | .int i,e,v,h,h'=>by
  rw[bc.mp h] at h';cases e with
  | int c=>cases bc.mp h';rfl
  | tup ds=>obtain⟨p,vs,z,_⟩:=aX.mp h';cases z
  | bj=>cases cB.mp h'
  | bl i=>cases cL.mp h'
  | str x=>cases av.mp h'
 | .str x,e,v,h,h'=>by
  rw[av.mp h] at h';cases e with
  | str c=>cases av.mp h';rfl
  | tup ds=>obtain⟨p,vs,z,_⟩:=aX.mp h';cases z
  | bj=>cases cB.mp h'
  | bl i=>cases cL.mp h'
  | int x=>cases bc.mp h'
 | .tup ds,e,v,h,h'=>by
  obtain⟨p,vs,rfl,h1,h2⟩:=aX.mp h;cases e with
  | tup es=>
   obtain⟨q,ws,z,g1,g2⟩:=aX.mp h';cases z;have e1:=I.pj h1 g1;subst e1;rw[az.one I ds es vs h2 g2]
  | bj=>cases cB.mp h'
  | bl i=>cases cL.mp h'
  | int x=>cases bc.mp h'
  | str x=>cases av.mp h'
theorem az.one (I:Inv X WG σ H s):∀ds es vs,az X.K H ds vs->az X.K H es vs->ds=es
 | [],[],_,_,_=>rfl
 | [],_::_,_,h,h'=>by
  rw[bq.mp h] at h';obtain⟨v,r,z,_⟩:=ba.mp h';cases z
 | d::ds,[],_,h,h'=>by
  rw[bq.mp h'] at h;obtain⟨v,r,z,_⟩:=ba.mp h;cases z
 | d::ds,e::es,_,h,h'=>by
  obtain⟨v,r,rfl,h1,h2⟩:=ba.mp h;obtain⟨v',r',z,g1,g2⟩:=ba.mp h';cases z;rw[At.one I d e v h1 g1,az.one I ds es r h2 g2]
end
end
mutual
def bP:D->D->Bool
 | .bj,.bj=>true
 | .bl a,.bl b=>a == b
 | .bl a,.int b=>(if a then 1 else 0) == b
 | .int a,.bl b=>a == (if b then 1 else 0)
 | .int a,.int b=>a == b
 | .str a,.str b=>a == b
 | .tup xs,.tup ys=>fv xs ys
 | _,_=>false
def fv:List D->List D->Bool
 | [],[]=>true
 | x::xs,y::ys=>bP x y&&fv xs ys
 | _,_=>false
end
mutual
def dep:D->Nat
 | .tup xs=>bM xs+1
 | _=>0
def bM:List D->Nat
 | []=>0
 | x::xs=>max (dep x) (bM xs)
end
theorem kA (b'):bP .bj (.bl b')=false:=by rw[bP]<;>nofun
theorem iz (i'):bP .bj (.int i')=false:=by rw[bP]<;>nofun
theorem iw (x'):bP .bj (.str x')=false:=by rw[bP]<;>nofun
theorem iu (NM):bP .bj (.tup NM)=false:=by rw[bP]<;>nofun
theorem kD (b):bP (.bl b) .bj=false:=by rw[bP]<;>nofun
theorem kC (b x'):bP (.bl b) (.str x')=false:=by rw[bP]<;>nofun
theorem kB (b NM):bP (.bl b) (.tup NM)=false:=by rw[bP]<;>nofun
theorem iD (i):bP (.int i) .bj=false:=by rw[bP]<;>nofun
theorem iB (i x'):bP (.int i) (.str x')=false:=by rw[bP]<;>nofun
theorem iA (i NM):bP (.int i) (.tup NM)=false:=by rw[bP]<;>nofun
theorem iq (x):bP (.str x) .bj=false:=by rw[bP]<;>nofun
theorem kz (x b'):bP (.str x) (.bl b')=false:=by rw[bP]<;>nofun
theorem ir (x i'):bP (.str x) (.int i')=false:=by rw[bP]<;>nofun
theorem ip (x NM):bP (.str x) (.tup NM)=false:=by rw[bP]<;>nofun
theorem ik (xs):bP (.tup xs) .bj=false:=by rw[bP]<;>nofun
theorem ky (xs b'):bP (.tup xs) (.bl b')=false:=by rw[bP]<;>nofun
theorem il (xs i'):bP (.tup xs) (.int i')=false:=by rw[bP]<;>nofun
theorem ij (xs x'):bP (.tup xs) (.str x')=false:=by rw[bP]<;>nofun
theorem qv:dep .bj=0:=by rw[dep]<;>nofun
theorem mn (b):dep (.bl b)=0:=by rw[dep]<;>nofun
theorem fP (i):dep (.int i)=0:=by rw[dep]<;>nofun
theorem cy (x):dep (.str x)=0:=by rw[dep]<;>nofun
theorem qw:∀{ds}{i:Nat} {d},ds[i]?=some d->dep d<=bM ds
 | [],i,d,e=>by simp at e
 | x::xs,0,d,e=>by
  have:x=d:=by simpa using e
  subst this;rw[bM];exact Nat.le_max_left ..
 | x::xs,i+1,d,e=>by
  have:=qw (ds:=xs) (i:=i) (d:=d) (by simpa using e);rw[bM];exact IV this (Nat.le_max_right ..)
mutual
theorem bo:∀d:D,bP d d=true
 | .bj=>rfl
 | .bl b=>by rw[bP];exact beq_self_eq_true b
 | .int i=>by rw[bP];exact beq_self_eq_true i
 | .str x=>by rw[bP];exact beq_self_eq_true x
 | .tup xs=>by rw[bP];exact mm xs
theorem mm:∀ds:List D,fv ds ds=true
 | []=>by rw[fv]
 | d::ds=>by rw[fv,bo d,mm ds];rfl
end
theorem rF:∀ds es,fv ds es=true↔ds.length=es.length/\∀(j:Nat) d e,ds[j]?=some d->es[j]?=some e->bP d e=true
 | [],[]=>by rw[fv];simp
 | [],e::es=>by
  have h:fv [] (e::es)=false:=by rw[fv]<;>nofun
  rw[h];simp
 | d::ds,[]=>by
  have h:fv (d::ds) []=false:=by rw[fv]<;>nofun
  rw[h];simp
 | d::ds,e::es=>by
  rw[fv,Xb,rF ds es];constructor
  ·rintro⟨h1,h2,h3⟩;refine⟨by simp[h2],fun j d' e' a b=>?_⟩;cases j with
   | zero=>
    have e1:d=d':=by simpa using a
    have e2:e=e':=by simpa using b
    subst e1 e2;exact h1
   | succ j=>exact h3 j d' e' (by simpa using a) (by simpa using b)
  ·rintro⟨h1,h2⟩;exact⟨h2 0 d e rfl rfl,by simpa using h1,fun j d' e' a b=>h2 (j+1) d' e' (by simpa using a) (by simpa using b)⟩
theorem rG (ds es:List D):((List.range (min ds.length es.length)).all (fun j=>bP (ds.getD j .bj) (es.getD j .bj))&&ds.length == es.length)=fv ds es:=by
 rw[Bool.eq_iff_iff,Xb,rF,List.all_eq_true,beq_iff_eq];constructor
 ·rintro⟨h1,h2⟩;refine⟨h2,fun j d e a b=>?_⟩;have hj:j < ds.length:=(Jn.mp a).1;have:=h1 j (List.mem_range.mpr (by omega));rw[IP,IP,a,b] at this;exact this
 ·rintro⟨h1,h2⟩;refine⟨fun j hj=>?_,h1⟩;have L8:=List.mem_range.mp hj;have a:ds[j]?=some ds[j]:=IM (by omega);have b:es[j]?=some es[j]:=IM (by omega);rw[IP,IP,a,b];exact h2 j _ _ a b
section
variable {X:Cx}{WG:List (Addr×Obj)}{σ:L2.St}{H:Hp}{s:Shared}
theorem qr (I:Inv X WG σ H s):∀(n:Nat) d e A x y u v,dep d<=n->RelV x u->RelV y v->At X.K H d x->At X.K H e y->A.units+n < cLine->SeqAt.EqAt A s u v (bP d e):=by
 intro n
 induction n with
 | zero=>
  intro d e A x y u v hd rx ry hx hy hu;cases d with
  | tup ds=>rw[dep] at hd;omega
  | bj=>
   have ex:=cB.mp hx;subst ex;cases rx;cases e with
   | bj=>have ey:=cB.mp hy;subst ey;cases ry;rw[bP];exact SeqAt.EqAt.same _
   | bl b=>have ey:=cL.mp hy;subst ey;cases ry;rw[kA];exact SeqAt.EqAt.none_bool b
   | int b=>have ey:=bc.mp hy;subst ey;obtain⟨t,rfl⟩:=ry;rw[iz];exact SeqAt.EqAt.none_int b t
   | str b=>have ey:=av.mp hy;subst ey;obtain⟨t,rfl⟩:=ry;rw[iw];exact SeqAt.EqAt.none_str b t
   | tup es=>
    obtain⟨p,vs,rfl,h1,_⟩:=aX.mp hy;cases ry;obtain⟨WJ,rv,ht,_⟩:=I.tuple h1;rw[iu];exact SeqAt.EqAt.none_tuple ht (by omega)
  | bl a=>
   have ex:=cL.mp hx;subst ex;cases rx;cases e with
   | bj=>have ey:=cB.mp hy;subst ey;cases ry;rw[kD];exact SeqAt.EqAt.bool_none a
   | bl b=>have ey:=cL.mp hy;subst ey;cases ry;rw[bP];exact SeqAt.EqAt.bool_bool a b
   | int b=>have ey:=bc.mp hy;subst ey;obtain⟨t,rfl⟩:=ry;rw[bP];exact SeqAt.EqAt.bool_int a b t
   | str b=>have ey:=av.mp hy;subst ey;obtain⟨t,rfl⟩:=ry;rw[kC];exact SeqAt.EqAt.bool_str a b t
   | tup es=>
    obtain⟨p,vs,rfl,h1,_⟩:=aX.mp hy;cases ry;obtain⟨WJ,rv,ht,_⟩:=I.tuple h1;rw[kB];exact SeqAt.EqAt.bool_tuple a ht (by omega)
  | int a=>
   have ex:=bc.mp hx;subst ex;obtain⟨t',rfl⟩:=rx;cases e with
   | bj=>have ey:=cB.mp hy;subst ey;cases ry;rw[iD];exact SeqAt.EqAt.int_none a t'
   | bl b=>have ey:=cL.mp hy;subst ey;cases ry;rw[bP];exact SeqAt.EqAt.int_bool a t' b
   | int b=>have ey:=bc.mp hy;subst ey;obtain⟨t,rfl⟩:=ry;rw[bP];exact SeqAt.EqAt.int_int a t' b t
   | str b=>have ey:=av.mp hy;subst ey;obtain⟨t,rfl⟩:=ry;rw[iB];exact SeqAt.EqAt.int_str a t' b t
   | tup es=>
    obtain⟨p,vs,rfl,h1,_⟩:=aX.mp hy;cases ry;obtain⟨WJ,rv,ht,_⟩:=I.tuple h1;rw[iA];exact SeqAt.EqAt.int_tuple a t' ht (by omega)
  | str a=>
   have ex:=av.mp hx;subst ex;obtain⟨t',rfl⟩:=rx;cases e with
   | bj=>have ey:=cB.mp hy;subst ey;cases ry;rw[iq];exact SeqAt.EqAt.str_none a t'
   | bl b=>have ey:=cL.mp hy;subst ey;cases ry;rw[kz];exact SeqAt.EqAt.str_bool a t' b
   | int b=>have ey:=bc.mp hy;subst ey;obtain⟨t,rfl⟩:=ry;rw[ir];exact SeqAt.EqAt.str_int a t' b t
   | str b=>have ey:=av.mp hy;subst ey;obtain⟨t,rfl⟩:=ry;rw[bP];exact SeqAt.EqAt.str_str a t' b t
   | tup es=>
    obtain⟨p,vs,rfl,h1,_⟩:=aX.mp hy;cases ry;obtain⟨WJ,rv,ht,_⟩:=I.tuple h1;rw[ip];exact SeqAt.EqAt.str_tuple a t' ht (by omega)
 | succ n ih=>
  intro d e A x y u v hd rx ry hx hy hu;cases d with
  | tup ds=>
   obtain⟨p,vs,rfl,h1,h2⟩:=aX.mp hx;cases rx;obtain⟨WJ,rv,ht,_⟩:=I.tuple h1;cases e with
   | bj=>have ey:=cB.mp hy;subst ey;cases ry;rw[ik];exact SeqAt.EqAt.tuple_none ht (by omega)
   | bl b=>have ey:=cL.mp hy;subst ey;cases ry;rw[ky];exact SeqAt.EqAt.tuple_bool b ht (by omega)
   | int b=>have ey:=bc.mp hy;subst ey;obtain⟨t,rfl⟩:=ry;rw[il];exact SeqAt.EqAt.tuple_int b t ht (by omega)
   | str b=>have ey:=av.mp hy;subst ey;obtain⟨t,rfl⟩:=ry;rw[ij];exact SeqAt.EqAt.tuple_str b t ht (by omega)
   | tup es=>
    obtain⟨q,ws,rfl,g1,g2⟩:=aX.mp hy;cases ry;obtain⟨WT,J7,hq,_⟩:=I.tuple g1;rw[bP];by_cases Vf:p=q
    ·subst Vf;have e1:=At.one I (.tup ds) (.tup es) (.ref p) hx hy;injection e1 with e2;rw[e2,mm];exact SeqAt.EqAt.same _
    ·have l1:WJ.length=ds.length:=by rw[<-rv.length];exact az.len h2
     have l2:WT.length=es.length:=by rw[<-J7.length];exact az.len g2
     have R:=SeqAt.RcAt.tuples (A:=A) (s:=s) (e:=fun j=>bP (ds.getD j .bj) (es.getD j .bj)) (show s.heap.IsTuple p WJ.toArray from ht) (show s.heap.IsTuple q WT.toArray from hq) (by omega) (fun j k1 k2=>by
      have SO:j < ds.length:=by simpa[l1] using k1
      have SN:j < es.length:=by simpa[l2] using k2
      have a:ds[j]?=some ds[j]:=IM SO;have b:es[j]?=some es[j]:=IM SN;obtain⟨x',ex,O2⟩:=az.get h2 a;obtain⟨y',ey,M4⟩:=az.get g2 b;obtain⟨u',eu,ru⟩:=rv.get ex;obtain⟨v',ev,Su⟩:=J7.get ey;have e3:WJ.toArray[j]=u':=by
       have:WJ[j]?=some u':=eu;have:=(Jn.mp this).2
       simpa using this
      have e4:WT.toArray[j]=v':=by
       have:WT[j]?=some v':=ev;have:=(Jn.mp this).2
       simpa using this
      rw[e3,e4,IP,IP,a,b];have Pc:dep ds[j]<=n:=by
       have:=qw a;rw[dep] at hd;omega
      exact ih ds[j] es[j] A.in1 x' y' u' v' Pc ru Su O2 M4 (by show A.units+1+n < cLine;omega))
     have e5:((List.range (min WJ.toArray.size WT.toArray.size)).all (fun j=>bP (ds.getD j .bj) (es.getD j .bj))&&WJ.toArray.size == WT.toArray.size)=fv ds es:=by
      have a1:WJ.toArray.size=ds.length:=by rw[W4,l1]
      have a2:WT.toArray.size=es.length:=by rw[W4,l2]
      rw[a1,a2];exact rG ds es
     rw[e5] at R;exact SeqAt.EqAt.of_refs Vf R
  | bj=>exact ih .bj e A x y u v (by rw[qv];exact Jr _) rx ry hx hy (by omega)
  | bl a=>exact ih (.bl a) e A x y u v (by rw[mn];exact Jr _) rx ry hx hy (by omega)
  | int a=>exact ih (.int a) e A x y u v (by rw[fP];exact Jr _) rx ry hx hy (by omega)
  | str a=>exact ih (.str a) e A x y u v (by rw[cy];exact Jr _) rx ry hx hy (by omega)
end
section
variable {K:Fg06}{H:Hp}
theorem At.new {p ds vs}(hp:H p=none) (h:az K H ds vs):At K (WX H p (.tup vs)) (.tup ds) (.ref p):=
 aX.mpr ⟨p,vs,rfl,fh.of ao,az.same (ae hp _) ds vs h⟩
theorem At.ix {ds:List D}{v:V}{i:Nat}{d:D}(h:At K H (.tup ds) v) (hi:ds[i]?=some d):∃p vs w,v=.ref p/\fh K H p vs/\j4 vs (i:Int)=some w/\At K H d w:=by
 obtain⟨p,vs,rfl,h1,h2⟩:=aX.mp h;obtain⟨w,e,hw⟩:=az.get h2 hi;exact⟨p,vs,w,rfl,h1,aC e,hw⟩
end
section
variable {X:Cx}{WG:List (Addr×Obj)}{σ:L2.St}{H:Hp}{s:Shared}
theorem jz (I:Inv X WG σ H s) {ds es vs ws WJ WT A n}(rv:WY vs WJ) (J7:WY ws WT) (h2:az X.K H ds vs) (g2:az X.K H es ws) (hd:bM ds<=n) (hu:A.units+n < cLine):
  ∀j (k1:j < WJ.toArray.size) (k2:j < WT.toArray.size),SeqAt.EqAt A s WJ.toArray[j] WT.toArray[j] (bP (ds.getD j .bj) (es.getD j .bj)):=by
 intro j k1 k2;have l1:WJ.length=ds.length:=by rw[<-rv.length];exact az.len h2
 have l2:WT.length=es.length:=by rw[<-J7.length];exact az.len g2
 have SO:j < ds.length:=by simpa[l1] using k1
 have SN:j < es.length:=by simpa[l2] using k2
 have a:ds[j]?=some ds[j]:=IM SO;have b:es[j]?=some es[j]:=IM SN;obtain⟨x',ex,O2⟩:=az.get h2 a;obtain⟨y',ey,M4⟩:=az.get g2 b;obtain⟨u',eu,ru⟩:=rv.get ex;obtain⟨v',ev,Su⟩:=J7.get ey;have e3:WJ.toArray[j]=u':=by
  have:=(Jn.mp eu).2
  simpa using this
 have e4:WT.toArray[j]=v':=by
  have:=(Jn.mp ev).2
  simpa using this
 rw[e3,e4,IP,IP,a,b];exact qr I n ds[j] es[j] A x' y' u' v' (IV (qw a) hd) ru Su O2 M4 hu
theorem qW {ds es vs ws WJ WT}(rv:WY vs WJ) (J7:WY ws WT) (h2:az X.K H ds vs) (g2:az X.K H es ws):
  ((List.range (min WJ.toArray.size WT.toArray.size)).all (fun j=>bP (ds.getD j .bj) (es.getD j .bj))&&WJ.toArray.size == WT.toArray.size)=fv ds es:=by
 have a1:WJ.toArray.size=ds.length:=by rw[W4,<-rv.length];exact az.len h2
 have a2:WT.toArray.size=es.length:=by rw[W4,<-J7.length];exact az.len g2
 rw[a1,a2];exact rG ds es
theorem Bu (I:Inv X WG σ H s) (d e A x y u v) (rx:RelV x u) (ry:RelV y v) (hx:At X.K H d x) (hy:At X.K H e y) (hu:A.units+dep d < cLine):SeqAt.RcAt A s u v (bP d e):=by
 cases d with
 | tup ds=>
  rw[dep] at hu;obtain⟨p,vs,rfl,h1,h2⟩:=aX.mp hx;cases rx;obtain⟨WJ,rv,ht,_⟩:=I.tuple h1;cases e with
  | bj=>have ey:=cB.mp hy;subst ey;cases ry;rw[ik];exact SeqAt.RcAt.tuple_none ht (by omega)
  | bl b=>have ey:=cL.mp hy;subst ey;cases ry;rw[ky];exact SeqAt.RcAt.tuple_bool b ht (by omega)
  | int b=>have ey:=bc.mp hy;subst ey;obtain⟨t,rfl⟩:=ry;rw[il];exact SeqAt.RcAt.tuple_int b t ht (by omega)
  | str b=>have ey:=av.mp hy;subst ey;obtain⟨t,rfl⟩:=ry;rw[ij];exact SeqAt.RcAt.tuple_str b t ht (by omega)
  | tup es=>
   obtain⟨q,ws,rfl,g1,g2⟩:=aX.mp hy;cases ry;obtain⟨WT,J7,hq,_⟩:=I.tuple g1;have R:=SeqAt.RcAt.tuples (A:=A) (s:=s) (e:=fun j=>bP (ds.getD j .bj) (es.getD j .bj)) (show s.heap.IsTuple p WJ.toArray from ht) (show s.heap.IsTuple q WT.toArray from hq) (by omega)
    (jz I (A:=A.in1) (n:=bM ds) rv J7 h2 g2 (IW _) (by show A.units+1+bM ds < cLine;omega))
   rw[qW rv J7 h2 g2] at R;rw[bP];exact R
 | bj=>
  rw[qv] at hu;have ex:=cB.mp hx;subst ex;cases rx;cases e with
  | bj=>have ey:=cB.mp hy;subst ey;cases ry;rw[bP];exact SeqAt.RcAt.none_none
  | bl b=>have ey:=cL.mp hy;subst ey;cases ry;rw[kA];exact SeqAt.RcAt.none_bool b
  | int b=>have ey:=bc.mp hy;subst ey;obtain⟨t,rfl⟩:=ry;rw[iz];exact SeqAt.RcAt.none_int b t
  | str b=>have ey:=av.mp hy;subst ey;obtain⟨t,rfl⟩:=ry;rw[iw];exact SeqAt.RcAt.none_str b t
  | tup es=>
   obtain⟨p,vs,rfl,h1,_⟩:=aX.mp hy;cases ry;obtain⟨WJ,rv,ht,_⟩:=I.tuple h1;rw[iu];exact SeqAt.RcAt.none_tuple ht (by omega)
 | bl a=>
  rw[mn] at hu;have ex:=cL.mp hx;subst ex;cases rx;cases e with
  | bj=>have ey:=cB.mp hy;subst ey;cases ry;rw[kD];exact SeqAt.RcAt.bool_none a
  | bl b=>have ey:=cL.mp hy;subst ey;cases ry;rw[bP];exact SeqAt.RcAt.bool_bool a b
  | int b=>have ey:=bc.mp hy;subst ey;obtain⟨t,rfl⟩:=ry;rw[bP];exact SeqAt.RcAt.bool_int a b t
  | str b=>have ey:=av.mp hy;subst ey;obtain⟨t,rfl⟩:=ry;rw[kC];exact SeqAt.RcAt.bool_str a b t
  | tup es=>
   obtain⟨p,vs,rfl,h1,_⟩:=aX.mp hy;cases ry;obtain⟨WJ,rv,ht,_⟩:=I.tuple h1;rw[kB];exact SeqAt.RcAt.bool_tuple a ht (by omega)
 | int a=>
  rw[fP] at hu;have ex:=bc.mp hx;subst ex;obtain⟨t',rfl⟩:=rx;cases e with
  | bj=>have ey:=cB.mp hy;subst ey;cases ry;rw[iD];exact SeqAt.RcAt.int_none a t'
  | bl b=>have ey:=cL.mp hy;subst ey;cases ry;rw[bP];exact SeqAt.RcAt.int_bool a t' b
  | int b=>have ey:=bc.mp hy;subst ey;obtain⟨t,rfl⟩:=ry;rw[bP];exact SeqAt.RcAt.int_int a t' b t
  | str b=>have ey:=av.mp hy;subst ey;obtain⟨t,rfl⟩:=ry;rw[iB];exact SeqAt.RcAt.int_str a t' b t
  | tup es=>
   obtain⟨p,vs,rfl,h1,_⟩:=aX.mp hy;cases ry;obtain⟨WJ,rv,ht,_⟩:=I.tuple h1;rw[iA];exact SeqAt.RcAt.int_tuple a t' ht (by omega)
 | str a=>
  rw[cy] at hu;have ex:=av.mp hx;subst ex;obtain⟨t',rfl⟩:=rx;cases e with
  | bj=>have ey:=cB.mp hy;subst ey;cases ry;rw[iq];exact SeqAt.RcAt.str_none a t'
  | bl b=>have ey:=cL.mp hy;subst ey;cases ry;rw[kz];exact SeqAt.RcAt.str_bool a t' b
  | int b=>have ey:=bc.mp hy;subst ey;obtain⟨t,rfl⟩:=ry;rw[ir];exact SeqAt.RcAt.str_int a t' b t
  | str b=>have ey:=av.mp hy;subst ey;obtain⟨t,rfl⟩:=ry;rw[bP];exact SeqAt.RcAt.str_str a t' b t
  | tup es=>
   obtain⟨p,vs,rfl,h1,_⟩:=aX.mp hy;cases ry;obtain⟨WJ,rv,ht,_⟩:=I.tuple h1;rw[ip];exact SeqAt.RcAt.str_tuple a t' ht (by omega)
end
section
variable {X:Cx}
def HI (X:Cx):R2:=fun x y H Q=>∃d e,At X.K H d x/\At X.K H e y/\dep d<=60/\Q (.bl (bP d e)) H
theorem xO {k}(hr:dY k X.A):gQ X (compareOp .Eq) (HI X):=by
 intro WG s σ H x y v u Q I rx ry h;obtain⟨d,e,hx,hy,hd,q⟩:=h;exact Bu I d e X.A x y v u rx ry hx hy (by have:=hr.units;omega) _ _ _ _ ⟨.bl _,H,I,rfl,q⟩
end
section
variable {X:Cx}{WG:List (Addr×Obj)}{σ:L2.St}{H:Hp}{s:Shared}
theorem xB (I:Inv X WG σ H s) (d e A x y u v) (rx:RelV x u) (ry:RelV y v) (hx:At X.K H d x) (hy:At X.K H e y) (hu:A.units+dep d < cLine):SeqAt.RcNeAt A s u v (!bP d e):=by
 cases d with
 | tup ds=>
  rw[dep] at hu;obtain⟨p,vs,rfl,h1,h2⟩:=aX.mp hx;cases rx;obtain⟨WJ,rv,ht,_⟩:=I.tuple h1;cases e with
  | bj=>have ey:=cB.mp hy;subst ey;cases ry;rw[ik];exact SeqAt.RcNeAt.tuple_none ht (by omega)
  | bl b=>have ey:=cL.mp hy;subst ey;cases ry;rw[ky];exact SeqAt.RcNeAt.tuple_bool b ht (by omega)
  | int b=>have ey:=bc.mp hy;subst ey;obtain⟨t,rfl⟩:=ry;rw[il];exact SeqAt.RcNeAt.tuple_int b t ht (by omega)
  | str b=>have ey:=av.mp hy;subst ey;obtain⟨t,rfl⟩:=ry;rw[ij];exact SeqAt.RcNeAt.tuple_str b t ht (by omega)
  | tup es=>
   obtain⟨q,ws,rfl,g1,g2⟩:=aX.mp hy;cases ry;obtain⟨WT,J7,hq,_⟩:=I.tuple g1;have R:=SeqAt.RcNeAt.tuples (A:=A) (s:=s) (e:=fun j=>bP (ds.getD j .bj) (es.getD j .bj)) (show s.heap.IsTuple p WJ.toArray from ht) (show s.heap.IsTuple q WT.toArray from hq) (by omega)
    (jz I (A:=A.in1) (n:=bM ds) rv J7 h2 g2 (IW _) (by show A.units+1+bM ds < cLine;omega))
   rw[qW rv J7 h2 g2] at R;rw[bP];exact R
 | bj=>
  rw[qv] at hu;have ex:=cB.mp hx;subst ex;cases rx;cases e with
  | bj=>have ey:=cB.mp hy;subst ey;cases ry;rw[bP];exact SeqAt.RcNeAt.none_none
  | bl b=>have ey:=cL.mp hy;subst ey;cases ry;rw[kA];exact SeqAt.RcNeAt.none_bool b
  | int b=>have ey:=bc.mp hy;subst ey;obtain⟨t,rfl⟩:=ry;rw[iz];exact SeqAt.RcNeAt.none_int b t
  | str b=>have ey:=av.mp hy;subst ey;obtain⟨t,rfl⟩:=ry;rw[iw];exact SeqAt.RcNeAt.none_str b t
  | tup es=>
   obtain⟨p,vs,rfl,h1,_⟩:=aX.mp hy;cases ry;obtain⟨WJ,rv,ht,_⟩:=I.tuple h1;rw[iu];exact SeqAt.RcNeAt.none_tuple ht (by omega)
 | bl a=>
  rw[mn] at hu;have ex:=cL.mp hx;subst ex;cases rx;cases e with
  | bj=>have ey:=cB.mp hy;subst ey;cases ry;rw[kD];exact SeqAt.RcNeAt.bool_none a
  | bl b=>have ey:=cL.mp hy;subst ey;cases ry;rw[bP];exact SeqAt.RcNeAt.bool_bool a b
  | int b=>have ey:=bc.mp hy;subst ey;obtain⟨t,rfl⟩:=ry;rw[bP];exact SeqAt.RcNeAt.bool_int a b t
  | str b=>have ey:=av.mp hy;subst ey;obtain⟨t,rfl⟩:=ry;rw[kC];exact SeqAt.RcNeAt.bool_str a b t
  | tup es=>
   obtain⟨p,vs,rfl,h1,_⟩:=aX.mp hy;cases ry;obtain⟨WJ,rv,ht,_⟩:=I.tuple h1;rw[kB];exact SeqAt.RcNeAt.bool_tuple a ht (by omega)
 | int a=>
  rw[fP] at hu;have ex:=bc.mp hx;subst ex;obtain⟨t',rfl⟩:=rx;cases e with
  | bj=>have ey:=cB.mp hy;subst ey;cases ry;rw[iD];exact SeqAt.RcNeAt.int_none a t'
  | bl b=>have ey:=cL.mp hy;subst ey;cases ry;rw[bP];exact SeqAt.RcNeAt.int_bool a t' b
  | int b=>have ey:=bc.mp hy;subst ey;obtain⟨t,rfl⟩:=ry;rw[bP];exact SeqAt.RcNeAt.int_int a t' b t
  | str b=>have ey:=av.mp hy;subst ey;obtain⟨t,rfl⟩:=ry;rw[iB];exact SeqAt.RcNeAt.int_str a t' b t
  | tup es=>
   obtain⟨p,vs,rfl,h1,_⟩:=aX.mp hy;cases ry;obtain⟨WJ,rv,ht,_⟩:=I.tuple h1;rw[iA];exact SeqAt.RcNeAt.int_tuple a t' ht (by omega)
 | str a=>
  rw[cy] at hu;have ex:=av.mp hx;subst ex;obtain⟨t',rfl⟩:=rx;cases e with
  | bj=>have ey:=cB.mp hy;subst ey;cases ry;rw[iq];exact SeqAt.RcNeAt.str_none a t'
  | bl b=>have ey:=cL.mp hy;subst ey;cases ry;rw[kz];exact SeqAt.RcNeAt.str_bool a t' b
  | int b=>have ey:=bc.mp hy;subst ey;obtain⟨t,rfl⟩:=ry;rw[ir];exact SeqAt.RcNeAt.str_int a t' b t
  | str b=>have ey:=av.mp hy;subst ey;obtain⟨t,rfl⟩:=ry;rw[bP];exact SeqAt.RcNeAt.str_str a t' b t
  | tup es=>
   obtain⟨p,vs,rfl,h1,_⟩:=aX.mp hy;cases ry;obtain⟨WJ,rv,ht,_⟩:=I.tuple h1;rw[ip];exact SeqAt.RcNeAt.str_tuple a t' ht (by omega)
end
section
variable {X:Cx}
def HG (X:Cx):R2:=fun x y H Q=>∃d e,At X.K H d x/\At X.K H e y/\dep d<=60/\Q (.bl (!bP d e)) H
theorem Cj {k}(hr:dY k X.A):gQ X (compareOp .NotEq) (HG X):=by
 intro WG s σ H x y v u Q I rx ry h;obtain⟨d,e,hx,hy,hd,q⟩:=h;exact xB I d e X.A x y v u rx ry hx hy (by have:=hr.units;omega) _ _ _ _ ⟨.bl _,H,I,rfl,q⟩
end
section
variable {X:Cx}{WG:List (Addr×Obj)}{σ:L2.St}{H:Hp}{s:Shared}
end
section
variable {X:Cx}
theorem xY {WG σ H s}(I:Inv X WG σ H s) {d x v}(rx:RelV x v) (hx:At X.K H d x) {ds xs WJ}(ha:az X.K H ds xs) (rv:WY xs WJ) (A:Around) (hu:∀e∈ds,A.units+dep e < cLine):
  ∃f:Value->Bool,(∀u∈WJ,SeqAt.EqAt A s u v (f u))/\WJ.any f=ds.any fun e=>bP e d:=by
 classical
 have fact:∀(i:Nat) (u:Value),WJ[i]?=some u->∃e y,ds[i]?=some e/\RelV y u/\At X.K H e y:=fun i u hu=>by
  have hi:i < WJ.length:=(Jn.mp hu).1;have h1:=rv.length;have h2:=ha.len;obtain⟨e,he⟩:∃e,ds[i]?=some e:=⟨ds[i]'(by omega),by simp⟩;obtain⟨y,hy,KL⟩:=ha.get he;obtain⟨u',Lf,ru⟩:=rv.get hy;rw[hu] at Lf;cases Lf;exact⟨e,y,he,ru,KL⟩
 have val:∀(i:Nat) (u:Value) (e:D),WJ[i]?=some u->ds[i]?=some e->(decide (∃(j:Nat) (e':D),WJ[j]?=some u/\ds[j]?=some e'/\bP e' d=true))=bP e d:=fun i u e hu he=>by
  rw[Bool.eq_iff_iff,decide_eq_true_eq];constructor
  ·rintro⟨j,e',hj,Ov,h⟩;obtain⟨e1,y1,k1,k2,k3⟩:=fact i u hu;obtain⟨e2,y2,l1,l2,l3⟩:=fact j u hj;rw[he] at k1;cases k1;rw[Ov] at l1;cases l1;have ey:=RelV.inj k2 l2;subst ey;have:=At.one I _ _ _ k3 l3;rw[this];exact h
  ·exact fun h=>⟨i,e,hu,he,h⟩
 refine⟨fun u=>decide (∃(j:Nat) (e':D),WJ[j]?=some u/\ds[j]?=some e'/\bP e' d=true),fun u Lf=>?_,?_⟩
 ·obtain⟨i,hi⟩:=List.mem_iff_getElem?.mp Lf;obtain⟨e,y,he,ry,hy⟩:=fact i u hi;dsimp only;rw[val i u e hi he];exact qr I (dep e) e d A y x u v (IW _) ry rx hy hx (hu e (IX he))
 ·rw[Bool.eq_iff_iff,List.any_eq_true,List.any_eq_true];constructor
  ·rintro⟨u,Lf,h⟩;obtain⟨i,hi⟩:=List.mem_iff_getElem?.mp Lf;obtain⟨e,y,he,ry,hy⟩:=fact i u hi;rw[val i u e hi he] at h;exact⟨e,IX he,h⟩
  ·rintro⟨e,he,h⟩;obtain⟨i,hi⟩:=List.mem_iff_getElem?.mp he;obtain⟨y,hy,_⟩:=ha.get hi;obtain⟨u,Lf,_⟩:=rv.get hy;exact⟨u,IX Lf,by rw[val i u e Lf hi];exact h⟩
def Fb (X:Cx) (neg:Bool):R2:=fun x y H Q=>∃d ds,At X.K H d x/\At X.K H (.tup ds) y/\(∀e∈ds,dep e<=60)/\Q (.bl (if neg then !(ds.any fun e=>bP e d) else ds.any fun e=>bP e d)) H
theorem vA {k}(hr:dY k X.A):gQ X (compareOp .NotIn) (Fb X true):=by
 intro WG s σ H x y v u Q I rx ry h;obtain⟨d,ds,hx,hy,hd,q⟩:=h;obtain⟨p,xs,rfl,hq,ha⟩:=aX.mp hy;cases ry;obtain⟨WJ,r,pl,hz⟩:=I.tuple hq;obtain⟨f,f1,f2⟩:=xY I rx hx ha r X.A.in1 (fun e he=>by have:=hr.units;have:=hd e he;show X.A.units+1+_ < _;omega);refine SeqAt.notIn_tupleAt f pl (fun w hw=>f1 w (by simpa using hw)) ⟨.bl _,H,I,rfl,?_⟩;rw[show WJ.toArray.any f=WJ.any f by simp,f2];exact q
end
end GS
namespace GS
open PySem PySem.Builtin PyProof.Rows L2
open AutoSeq1 (wpAny_loadPart')
section
variable {X:Cx}
theorem nR {k}(hr:dY k X.A):gQ X (compareOp .Eq) (fun x y H Q=>∃a b xs,x=.ref a/\y=.ref b/\bf X.K H a xs/\bf X.K H b []/\Q (.bl xs.isEmpty) H):=by
 intro WG s σ H x y v u Q I rx ry h;obtain⟨a,b,xs,rfl,rfl,ha,hb,q⟩:=h;cases rx;cases ry;obtain⟨WJ,r1,p1,z1⟩:=I.list ha;obtain⟨Kb,r2,p2,z2⟩:=I.list hb;cases r2;have hu:X.A.units < cLine:=Nat.lt_of_succ_lt (fz hr);cases r1 with
 | nil=>exact SeqAt.eq_listAt (e:=fun _=>true) p1.isList p2.isList rfl hu (fun j h1 _=>Xc h1 (by simp)) (cb I q rfl)
 | cons _ _=>exact SeqAt.eq_list_lengthsAt p1.isList p2.isList (by simp) hu (cb I q rfl)
theorem nP {k}(hr:dY k X.A):gQ X (compareOp .NotEq) (fun x y H Q=>∃a b xs,x=.ref a/\y=.ref b/\bf X.K H a xs/\bf X.K H b []/\Q (.bl (!xs.isEmpty)) H):=by
 intro WG s σ H x y v u Q I rx ry h;obtain⟨a,b,xs,rfl,rfl,ha,hb,q⟩:=h;cases rx;cases ry;obtain⟨WJ,r1,p1,z1⟩:=I.list ha;obtain⟨Kb,r2,p2,z2⟩:=I.list hb;cases r2;have hu:X.A.units < cLine:=Nat.lt_of_succ_lt (fz hr);cases r1 with
 | nil=>exact SeqAt.RcNeAt.lists (e:=fun _=>true) p1.isList p2.isList rfl hu (fun j h1 _=>Xc h1 (by simp)) _ _ _ _ (cb I q rfl)
 | cons _ _=>exact SeqAt.RcNeAt.lists_lengths p1.isList p2.isList (by simp) hu _ _ _ _ (cb I q rfl)
theorem range_any (bs:List Bool):((List.range bs.length).any fun j=>(bs[j]?).getD false)=bs.any id:=by
 rw[Bool.eq_iff_iff,List.any_eq_true,List.any_eq_true];constructor
 ·rintro⟨j,hj,h⟩;have L8:=List.mem_range.mp hj;exact⟨bs[j],List.getElem_mem L8,by simpa[L8] using h⟩
 ·rintro⟨x,hx,h⟩;obtain⟨i,hi,rfl⟩:=List.mem_iff_getElem.mp hx;exact⟨i,List.mem_range.mpr hi,by simpa[hi] using h⟩
theorem oG (hc:X.calm=true):gm X (.builtin "any") (fun xs H Q=>∃(p:Addr) (bs:List Bool),xs=[.ref p]/\bf X.K H p (bs.map V.bl)/\Q (.bl (bs.any id)) H):=by
 intro WG s σ H xs us Q I r h;obtain⟨p,bs,rfl,hq,q⟩:=h;obtain⟨u,rfl,ru⟩:=vals1 r;cases ru;obtain⟨WJ,rv,pl,hz⟩:=I.list hq;have ei:=ka rv;subst ei;have JX:p < s.heap.objs.size:=let ⟨o,n,e,_⟩:=pl;Jw e;refine call_any_walk (wpAny_pyIter_list pl.isList ?_);refine⟨s.heap.objs.size,[s.heap.objs.size,p],[s.heap.objs.size],(bs.map Value.bool).toArray.size,_,_,(fun j=>(bs[j]?).getD false),rfl,
  Walks.list (A:=X.A.in1) (I.ok.hd hc) _ p (Jx JX) (bs.map Value.bool).toArray,⟨⟨_,JA _ rfl,rfl,rfl⟩,?_⟩,fun i v s' Q' E' hP Tw=>?_,fun h' tk k=>?_⟩
 ·obtain⟨o,ho,r⟩:=pl.isList;exact⟨o,Jc _ ho,r⟩
 ·have La:(bs.map Value.bool)[i]?=some v:=by simpa using hP
  rw[I0] at La;cases e:bs[i]? with
  | none=>rw[e] at La;cases La
  | some b=>
   rw[e] at La;have e':Value.bool b=v:=by simpa using La
   subst e';exact wpAny_truthy_bool (show Q' b s' by simpa[e] using Tw)
 ·rw[show(bs.map Value.bool).toArray.size=bs.length by simp,range_any bs];exact⟨.bl _,H,I.kept fun b o e=>k b o (fun hm=>Jx (Jw e) (W7.mp hm)) (Jc _ e),rfl,q⟩
end
end GS
namespace GS
open PySem PySem.Builtin PyProof.Rows L2
section
variable {X:Cx}
def Fd (K:Fg06):R2:=fun x y H Q=>∃ds es,At K H (.tup ds) x/\At K H (.tup es) y/\ds.length+es.length<=sizeLine/\∀r H',au H H'->At K H' (.tup (ds++es)) r->Q r H'
theorem gK:gQ X (binaryOp .Add) (Fd X.K):=by
 intro WG s σ H x y v u Q I rx ry h;obtain⟨ds,es,hx,hy,hz,q⟩:=h;obtain⟨a,xs,rfl,ha,hA⟩:=aX.mp hx;obtain⟨b,ys,rfl,hb,hB⟩:=aX.mp hy;cases rx;cases ry;have l1:=hA.len;have l2:=hB.len;obtain⟨WJ,r1,p1,_⟩:=I.tuple ha;obtain⟨Kb,r2,p2,_⟩:=I.tuple hb;have l3:=r1.length;have l4:=r2.length;by_cases h1:WJ=[]
 ·subst h1;cases r1;have e1:ds=[]:=by cases ds with | nil=>rfl | cons _ _=>simp at l1
  subst e1;obtain⟨⟨cc,dd,dt,sl⟩,ho,hc,n,hd⟩:=id p1;obtain⟨⟨cc2,R9,dt2,Rc⟩,Nc,QF,n2,hd2⟩:=id p2;simp only at hc hd QF hd2;subst hc hd QF hd2;exact concat_meets ⟨_,ho,rfl⟩ ⟨_,Nc,rfl⟩ noFill_tuple_add seq_tuple_add PySem.F.slot_tuple_add PySem.F.entry_tuple_add (PySem.F.args_tuple_add_2 _ _) (tuple_addW0 a b _ Kb.toArray n n2 dd R9 sl Rc (by simp)) ⟨ho,Nc,.ref b,H,I,rfl,q _ H (au.refl H) hy⟩
 ·refine HT.uU p1 p2 h1 (fun z=>⟨.ref a,H,I,rfl,q _ H (au.refl H) ?_⟩) (fun z=>?_) (by omega)
  ·have e2:es=[]:=by
    subst z;cases es with
    | nil=>rfl
    | cons d r=>exact Xc (l4.symm.trans l2) (by simp)
   rw[e2,Js];exact hx
  ·refine⟨.ref s.heap.objs.size,_,I.laid (t':=s.toks) (o:=.tup (xs++ys)) (fun b ob q=>Jc _ q) (IW _) ⟨by rw[IJ];omega,_,r1.append r2,IsTup.new _ _⟩,rfl,?_⟩;have hn:=I.cP.fresh (IW s.heap.objs.size);exact q _ _ (ae hn _) (At.new hn (hA.append hB))
end
end GS
namespace PySem
section
variable {prog:Program}{w:World}{A:Around}{E:Value->Shared->Prop}{R:Result->Shared->Prop}{s:Shared}
def tX (ifs:List Expr) (env:Env):Sem Bool:=forIn ifs true fun c r=>if r=true then do let ok <-PySem.isTrue c env (eval c env);pure (ForInStep.yield ok) else pure (ForInStep.yield r)
theorem lJ {elt target iter ifs scope pos it acc env}(I:Nat->Shared->Prop)
  (turn:∀n s,I n s->wpAny (model prog w) A (pyNext it) (fun r s₁=>match r with
   | none=>R (.ok .next) s₁
   | some v=>wpAny (model prog w) A (letOwnedTupleGo target it v) (fun _ s₂=>wpAny (model prog w) A (assign target env v) (fun _ s₃=>
     wpAny (model prog w) A (tX ifs env) (fun b s₄=>if b=true then
      wpAny (model prog w) A (eval elt env) (fun x s₄=>
       wpAny (model prog w) A (call (.builtin "list.append") [acc,x]) (fun _ s₅=>∃m,m < n/\I m s₅) (notedBy (model prog w) A env fun e s'=>R (.error e) s') s₄) (notedBy (model prog w) A env fun e s'=>R (.error e) s') s₄ else ∃m,m < n/\I m s₄) (notedBy (model prog w) A env fun e s'=>R (.error e) s') s₃) (notedBy (model prog w) A env fun e s'=>R (.error e) s') s₂) (notedBy (model prog w) A env fun e s'=>R (.error e) s') s₁) (notedBy (model prog w) A env fun e s'=>R (.error e) s') s)
  (n:Nat) (h:I n s):
  codeAny (model prog w) A (.compLoop (.ListComp elt [⟨target,iter,ifs,0⟩] scope pos) 0 it acc env) R s:=by
 refine codeAny_loop rfl I (fun n s hI=>?_) n h;show wpAny _ A ((compTurn (.ListComp elt [⟨target,iter,ifs,0⟩] scope pos) 0 it acc env).onRaise (fun x=>do noteFrame x env;theTreesLotGoes x)) _ _ s;refine wpAny_noted ?_;rw[compTurn_list];refine Ja (wpAny_standAt (Ja (JE (turn n s hI) (fun r s₁ h₁=>?_) fun _ _ h'=>h')));cases r with
 | none=>exact Jb h₁
 | some v=>
  refine Ja (JE h₁ (fun _ s₂ h₂=>Ja (JE h₂ (fun _ s₃ h₃=>?_) fun _ _ h'=>h')) fun _ _ h'=>h');refine Ja (JE h₃ (fun b s₄ h₄=>?_) fun _ _ h'=>h');cases b with
  | false=>
   rw[IY Jd] at h₄;exact wpAny_ite_false (by simp) (Jb ⟨rfl,h₄⟩)
  | true=>
   rw[IZ rfl] at h₄;exact wpAny_ite_true (by simp) (Ja (Ja (JE h₄ (fun x s₄ h₄=>Ja (JE h₄ (fun _ s₅ h₅=>Jb (Jb ⟨rfl,h₅⟩)) fun _ _ h'=>h')) fun _ _ h'=>h')))
end
end PySem
namespace L2
open PySem PySem.Spec PyProof.Rows PySem.Builtin PySem.Builtin.Str
structure lL (X:Cx) (scope:Scope) (cl:List (Str×Addr)) (Xs Nf:List Str) (js:List Nat):Prop where
 Gg:closureFor scope X.env=pure cl
 cell:∀y∈scope.names,y.2≠.cell
 kind:scope.kind=.function
 names:∀y∈scope.names,y.2=.local->scope.names.lookup y.1=some .local
 sub:∀y c,cl.lookup y=some c->X.env.cells.lookup y=some c
 has:∀y,((relabel scope X.env).names.lookup y=some .cell\/(relabel scope X.env).names.lookup y=some .free)->∃c,cl.lookup y=some c
 len:js.length=Nf.length
 frees:∀(j:Nat) y,Nf[j]?=some y->∃i,js[j]?=some i/\X.N[i]?=some y/\X.env.scope.names.lookup y=some .cell/\((relabel scope X.env).names.lookup y=some .cell\/(relabel scope X.env).names.lookup y=some .free)
def GX (X:Cx) (ifs:List Expr) (tc:TT):Prop:=∀WG s σ H Q,Inv X WG σ H s->tc σ H Q->wpAny (model X.prog X.w) X.A (tX ifs X.env) (TP X WG σ Q) X.xe s
def gx:TT:=fun _ H Q=>Q true H
theorem d6 {X}:GX X [] gx:=fun WG s σ H Q I h=>wpAny_tests_nil ⟨H,I,h⟩
theorem gq {X c tc}(h:PT X c tc):GX X [c] tc:=fun WG s σ H Q I q=>wpAny_tests_one (h WG s σ H Q I q)
def sv (k:Nat) (js:List Nat) (wi:TI) (g:TG) (tc:TT) (te:TE):TE:=fun σ H Q=>wi σ H fun J H1=>∃vs:List V,(vs.length=js.length/\∀(j i:Nat),js[j]?=some i->∃v,vs[j]?=some v/\σ[i]?=some (some v))/\
 ∀D,H1 D=none->∃W:Nat->Nat->List V->Hp->Prop,(∃m,W 0 m [] (WX H1 D (.lst [])))/\∀i m ys H,W i m ys H->
  (J.stop i H/\Q (.ref D) H)\/(J.go i H/\∀x H' (ox:List (Option V)),ox.length=k->J.tT i H x H'->g x (ox++vs.map some) H' fun σ2 H2=>∃K1,K1.length=k/\σ2=K1++vs.map some/\tc σ2 H2 fun b H3=>
   if b=true then te σ2 H3 fun v H4=>H4 D=some (.lst ys)/\ys.length < sizeLine/\∃m',m' < m/\W (i+1) m' (ys++[v]) (WX H4 D (.lst (ys++[v]))) else ∃m',m' < m/\W (i+1) m' ys H3)
section
variable {X:Cx}
theorem oH {WG:List (Addr×Obj)}{σ:St}{H:Hp}{s:Shared}{scope:Scope}{cl:List (Str×Addr)}{Xs Nf:List Str}{js:List Nat}{vs:List V}{fp:List Addr}{h1:Heap}{tk:Nat}{m:Str->Option Value}
  (K:lL X scope cl Xs Nf js) (I:Inv X WG σ H s) (L0:vs.length=js.length) (MC:∀(j i:Nat),js[j]?=some i->∃v,vs[j]?=some v/\σ[i]?=some (some v))
  (hf:∀b∈fp,mr X WG H b) (JR:∀b∈fp,b < s.heap.objs.size) (ns:h1.Ns s.heap.objs.size m) (keep:∀b o,s.heap.get? b=some o->h1.get? b=some o):
  Inv (oI X scope cl s.heap.objs.size (Xs++Nf) s H fp) [] (List.replicate Xs.length none++vs.map some) H { s with heap:=h1,toks:=tk }:=by
 refine⟨⟨I.ok.mod,K.kind,I.ok.glob,I.ok.blt,IW _,fun y z c e1 e2=>I.ok.inj y z c (K.sub y c e1) (K.sub z c e2),fun y hy=>K.has y hy,fun y c e _=>(Bool.noConfusion (show false=true from e)),I.ok.hd,I.ok.frames,.inl rfl,
  fun b hb=>⟨Jx (JR b hb),fun y c e=>(hf b hb).2.2.2.2.1 y c (K.sub y c e)⟩,I.bs,IV I.ok.zW I.sz,fun b o e hb=>?_,fun b hb z=>?_,I.stack,I.uc⟩,
  rfl,I.bare,Un.kept keep,⟨m,ns,fun i y v e1 e2 e3=>?_⟩,fun y c e=>?_,I.cP.fresh (IW _),fun y c e=>I.j8 y c (K.sub y c e),fun p hp=>Xc (show p∈([]:List (Addr×Obj)) from hp) (by simp),I.cP.kept keep,?_⟩
 ·rcases(hf b hb).2.2.2.1 with z | z
  ·exact I.ok.xS b o e z
  ·exact Xc (Ju (Jw e) (IV I.ok.zW z)) (W9 _)
 ·rcases Jv.mp (I.nI b z) with e | e
  ·exact(hf b hb).2.1 e
  ·exact(hf b hb).2.2.1 e
 ·by_cases hi:i < Xs.length
  ·rw[JB (by rw[List.length_replicate];exact hi)] at e2;rw[List.getElem?_replicate] at e2;split at e2<;>simp at e2
  ·obtain⟨j,rfl⟩:∃j,i=Xs.length+j:=⟨i - Xs.length,by omega⟩;have e1':Nf[j]?=some y:=by
    have e1'':(Xs++Nf)[Xs.length+j]?=some y:=e1;rw[Jj (by omega)] at e1''
    simpa using e1''
   have e2b:(vs.map some)[j]?=some (some v):=by
    rw[Jj (by rw[List.length_replicate];omega),List.length_replicate] at e2
    simpa using e2
   obtain⟨i0,hj,hN,hk,hr⟩:=K.frees j y e1';obtain⟨v',Kr,J8⟩:=MC j i0 hj;have ev:v=v':=by
    have Wb:(vs.map some)[j]?=some (some v):=e2b;rw[I0,Kr] at Wb
    simpa using Wb.symm
   subst ev;obtain⟨m0,hn0,hl⟩:=I.loc;obtain⟨u,r,l⟩:=hl i0 y v hN J8 (.inr (.inl hk));refine⟨u,r,?_⟩;rcases l with ⟨l1,_⟩ | ⟨_,c,hc,o,ho,hd⟩
   ·have UX:X.env.scope.names.lookup y=some .local:=l1;rw[hk] at UX;cases UX
   ·obtain⟨c',QG⟩:=K.has y hr;have ec:=K.sub y c' QG;rw[hc] at ec;cases ec;exact .inr ⟨hr,c,QG,o,keep c o ho,hd⟩
 ·obtain⟨v,o,ho,hd⟩:=I.cell y c (K.sub y c e);exact⟨v,o,keep c o ho,hd⟩
 ·show(List.replicate Xs.length none++vs.map some).length=(Xs++Nf).length;rw[IJ,IJ,List.length_replicate,IU,L0,K.len]
theorem dH {elt iter tg ifs pos scope cl Xs Nf}{js:List Nat} {wi g tc te}(K:lL X scope cl Xs Nf js) (hc:X.calm=true) (hi:PI X tg iter wi)
  (hg:∀C s0 H0 fp,PG (oI X scope cl C (Xs++Nf) s0 H0 fp) tg g) (Nj:∀C s0 H0 fp,GX (oI X scope cl C (Xs++Nf) s0 H0 fp) ifs tc) (he:∀C s0 H0 fp,PE (oI X scope cl C (Xs++Nf) s0 H0 fp) elt te) (hs:∀x,foldedSetIterable iter X.env x=pure x:=by intro _;rfl):
  PE X (.ListComp elt [⟨tg,iter,ifs,0⟩] scope pos) (sv Xs.length js wi g tc te):=by
 intro WG s σ H Q I h;rw[eval_ListComp];refine wpAny_comprehension_free (use:=none) rfl hs K.Gg K.kind K.names (dh (hi WG s σ H _ I h) fun v s1 h1=>dh h1 fun itv s2 h2=>?_);obtain⟨it,fp,tn,J,H2,e,I2,T,NQ,f2,vs,⟨L0,MC⟩,hW⟩:=h2;subst e;have hD:H2 s2.heap.objs.size=none:=I2.cP.fresh (IW _);obtain⟨W,⟨m0,w0⟩,turn⟩:=hW s2.heap.objs.size hD;have Om:∀b∈fp,b < s2.heap.objs.size:=fun b hb=>let ⟨o,e,_⟩:=T.obj _ _ NQ b hb;Jw e;refine wpAny_newObj_type (wpAny_newFunctionEnv K.cell (by intro y hy;simp at hy) (fun h₁ Lp₁ Lo₁=>?_) K.kind);dsimp only at Lp₁ Lo₁ ⊢;generalize QQ:s2.heap.push { cls:=.type "list",dict:=none,data:=.seq ([]:List Value).toArray }=P3 at Lp₁ Lo₁ ⊢;obtain⟨s3,Oe⟩:∃s3:Shared,s3={ s2 with heap:=P3 }:=⟨_,rfl⟩;have eP:P3=s3.heap:=by rw[Oe]
 rw[eP] at Lp₁ Lo₁ ⊢;have I3:Inv X WG σ (WX H2 s2.heap.objs.size (.lst [])) s3:=by
  rw[Oe,<-QQ];exact I2.laid (t':=s2.toks) (fun b u e=>Jc _ e) (IW _) ⟨Jr _,[],0,.nil,JA _ rfl⟩
 have keep23:∀b o,s2.heap.get? b=some o->s3.heap.get? b=some o:=fun b o e=>by rw[<-eP,<-QQ];exact Jc _ e
 have f3:∀b∈fp,mr X WG (WX H2 s2.heap.objs.size (.lst [])) b:=fun b hb=>⟨by rw[aB (Jx (Om b hb))];exact(f2 b hb).1,(f2 b hb).2⟩;have Nm:tn 0 s3.heap:=T.keep _ _ _ NQ fun b hb o e=>keep23 b o e;have Mq:∀b∈fp,b < s3.heap.objs.size:=fun b hb=>let ⟨o,e,_⟩:=T.obj _ _ Nm b hb;Jw e;have keep34:∀b o,s3.heap.get? b=some o->h₁.get? b=some o:=fun b o e=>Lo₁.extBut b o (Jx (Jw e)) (Jc _ e);have Pp:tn 0 h₁:=T.keep _ _ _ Nm fun b hb o e=>keep34 b o e;have Pg:∀b∈fp,WX H2 s2.heap.objs.size (.lst []) b=none:=fun b hb=>(f3 b hb).1;have stat:∀{H':Hp},(∀b∈fp,H' b=none)->∀b∈fp,mr (oI X scope cl s3.heap.objs.size (Xs++Nf) s3 (WX H2 s2.heap.objs.size (.lst [])) fp) [] H' b:=fun {H'} hn b hb=>by
  refine⟨hn b hb,Jx (Mq b hb),fun z=>?_,.inl hb,fun y c e=>(f3 b hb).2.2.2.2.1 y c (K.sub y c e),fun p hp=>Xc (show p∈([]:List (Addr×Obj)) from hp) (by simp)⟩;rcases Jv.mp (I3.nI b z) with e | e
  ·exact(f3 b hb).2.1 e
  ·exact(f3 b hb).2.2.1 e
 have fin:∀{σ':St}{H':Hp}{s':Shared},Inv (oI X scope cl s3.heap.objs.size (Xs++Nf) s3 (WX H2 s2.heap.objs.size (.lst [])) fp) [] σ' H' s'->Q (.ref s2.heap.objs.size) H'->
   compPost (model X.prog X.w) X.A X.xe none (EP X WG σ Q) (.ref s2.heap.objs.size) s3.heap.objs.size (.ok .next) s':=fun {σ' H' s'} J q=>by
  obtain⟨m,hn,_⟩:=J.loc;refine⟨m,hn,fun h' O4=>⟨.ref s2.heap.objs.size,H',?_,rfl,q⟩⟩;have ne:∀b o,s3.heap.get? b=some o->b≠s3.heap.objs.size:=fun b o e=>Jx (Jw e);have nC:∀b u,H' b=some u->b≠s3.heap.objs.size:=fun b u e z=>by
   have f:=J.free;rw[z] at e;have f':H' s3.heap.objs.size=none:=f;rw[f'] at e;cases e
  have B:=J.base;refine I3.yG (ch:=fp) (s':={ s' with heap:=h' }) J.os ?_ (fun b u e=>(J.cP b u e).sD (fun c v hc q=>O4.extBut c v ?_ q) (fun _ q=>q) fun _ _ q=>q) J.bare fun b hb=>⟨(f3 b hb).2.2.2.1,(f3 b hb).2.1,(f3 b hb).2.2.2.2.1,(f3 b hb).2.2.2.2.2⟩
  ·exact⟨fun b o e n hb hx=>O4.extBut b o (ne b o e) (B.keep b o e n hb hx),fun b o e n hb hx=>let ⟨sl,z⟩:=B.slot b o e n hb hx;⟨sl,O4.extBut b _ (ne b o e) z⟩,fun b o e n hx=>B.free b o e n hx,
    fun b o e hx=>let ⟨o',z⟩:=B.there b o e hx;⟨o',O4.extBut b _ (ne b o e) z⟩,B.oN,B.oj,B.oP⟩
  ·rcases hc with z | z
   ·rw[z];exact nC b u e
   ·exact nC c _ z
 have loop:∀s4:Shared,s4={ s3 with heap:=h₁,toks:=s3.toks+([]:List (Str×Value)).length }->
   codeAny (model X.prog X.w) X.A (.compLoop (.ListComp elt [⟨tg,iter,ifs,0⟩] scope pos) 0 (.ref it) (.ref s2.heap.objs.size) (compEnvC scope cl s3.heap.objs.size X.env))
    (compPost (model X.prog X.w) X.A X.xe none (EP X WG σ Q) (.ref s2.heap.objs.size) s3.heap.objs.size) s4:=by
  rintro s4 rfl;have I4:=oH (Xs:=Xs) (tk:=s3.toks+([]:List (Str×Value)).length) K I3 L0 MC f3 Mq Lp₁ keep34;refine lJ (fun n s'=>∃i ox ys H',ox.length=Xs.length/\Inv (oI X scope cl s3.heap.objs.size (Xs++Nf) s3 (WX H2 s2.heap.objs.size (.lst [])) fp) [] (ox++vs.map some) H' s'/\tn i s'.heap/\(∀b∈fp,H' b=none)/\W i n ys H') ?_ m0 ⟨0,List.replicate Xs.length none,[],_,List.length_replicate,I4,Pp,Pg,w0⟩;rintro n s5 ⟨i,ox,ys,H5,Oj,I5,MX,OO,w5⟩;rcases turn i n ys H5 w5 with ⟨stop,qn⟩ | ⟨go,step⟩
  ·refine JE (T.done (oI X scope cl s3.heap.objs.size (Xs++Nf) s3 (WX H2 s2.heap.objs.size (.lst [])) fp) rfl rfl rfl hc i [] s5 _ H5 _ I5 (stat OO) MX stop) (fun r s6 ⟨hr,I6⟩=>?_) fun _ _ z=>z;subst hr;exact fin I6 qn
  ·refine JE (T.item (oI X scope cl s3.heap.objs.size (Xs++Nf) s3 (WX H2 s2.heap.objs.size (.lst [])) fp) rfl rfl rfl hc i [] s5 _ H5 _ I5 (stat OO) MX go) (fun r s6 ⟨u,hr,h6⟩=>?_) fun _ _ z=>z;subst hr;refine JE h6 (fun _ s7 ⟨x7,H7,I7,r7,y7,NP,TN⟩=>?_) fun _ _ z=>z;have Uh:=I7.pinned (stat TN) (T.obj _ _ NP);refine JE (hg s3.heap.objs.size s3 (WX H2 s2.heap.objs.size (.lst [])) fp _ s7 _ H7 x7 u _ Uh r7 (step x7 H7 ox Oj y7)) (fun _ s8 ⟨σ8,H8,I8,K1,Oi,e8,q8⟩=>?_) fun _ _ z=>False.elim z;subst e8;refine JE (Nj s3.heap.objs.size s3 _ fp _ s8 _ H8 _ I8 q8) (fun b8 s8b ⟨H8b,I8b,q8b⟩=>?_) fun _ _ z=>False.elim z;have ends:∀(Kq:Hp) (J0:Shared) (NL:List V) (m':Nat),m' < n->W (i+1) m' NL Kq->Inv (oI X scope cl s3.heap.objs.size (Xs++Nf) s3 (WX H2 s2.heap.objs.size (.lst [])) fp) ([]++lW fp s7.heap) (K1++vs.map some) Kq J0->
     ∃m,m < n/\∃i ox ys H',ox.length=Xs.length/\Inv (oI X scope cl s3.heap.objs.size (Xs++Nf) s3 (WX H2 s2.heap.objs.size (.lst [])) fp) [] (ox++vs.map some) H' J0/\tn i J0.heap/\(∀b∈fp,H' b=none)/\W i m ys H':=fun Kq J0 NL m' Mp w9 Mw=>by
    refine⟨m',Mp,i+1,K1,NL,_,Oi,Mw.jm,T.keep _ _ _ NP fun b hb o e=>(Mw.pin (b,o) (Jh _ (Jh _ (gn hb e)))).1,fun b hb=>?_,w9⟩;obtain⟨o,e,d⟩:=T.obj _ _ NP b hb;exact(Mw.pin (b,o) (Jh _ (Jh _ (gn hb e)))).2.1
   cases b8 with
   | false=>
    rw[IY Jd] at q8b ⊢;obtain⟨m',Mp,w9⟩:=q8b;exact ends _ _ _ _ Mp w9 I8b
   | true=>
    rw[IZ rfl] at q8b ⊢;refine JE (he s3.heap.objs.size s3 _ fp _ s8b _ H8b _ I8b q8b) (fun v9 s9 ⟨v,H9,I9,r9,TH,SQ,m',Mp,w9⟩=>?_) fun _ _ z=>False.elim z;refine JE (cp (X:=oI X scope cl s3.heap.objs.size (Xs++Nf) s3 (WX H2 s2.heap.objs.size (.lst [])) fp) _ s9 _ H9 (.ref s2.heap.objs.size) [v] (.ref s2.heap.objs.size) [v9] (fun _ H'=>H'=WX H9 s2.heap.objs.size (.lst (ys++[v]))) I9 rfl (.cons r9 .nil) ⟨_,ys,v,rfl,rfl,TH,SQ,rfl⟩)
     (fun _ J0 ⟨_,Kq,Mw,_,jk⟩=>?_) fun _ _ z=>False.elim z
    subst jk;exact ends _ _ _ _ Mp w9 Mw
 have e4:({ s2 with heap:=h₁,toks:=s2.toks+([]:List (Str×Value)).length }:Shared)={ s3 with heap:=h₁,toks:=s3.toks+([]:List (Str×Value)).length }:=by rw[Oe]
 rw[e4];exact codeAny_compStart_list (loop _ rfl) (T.self _ 0 _ _ _ Pp (loop _ rfl))
end
end L2
namespace L2
open PySem PySem.Spec PyProof.Rows PySem.Builtin PySem.Builtin.Str
def vj (k:Nat) (js:List Nat) (wi:TI) (g:TG) (tc:TT) (te:TE) (i:Nat):TS:=fun D σ H=>sv k js wi g tc te σ H fun v H'=>D.nx (σ.set i (some v)) H'
section
variable {X:Cx}
theorem cM {elt iter tg ifs y py spos iy pos scope cl Xs Nf js wi g tc te}(K:lL X scope cl Xs Nf js) (hc:X.calm=true) (hi:PI X tg iter wi)
  (hg:∀C s0 H0 fp,PG (oI X scope cl C (Xs++Nf) s0 H0 fp) tg g) (Nj:∀C s0 H0 fp,GX (oI X scope cl C (Xs++Nf) s0 H0 fp) ifs tc) (he:∀C s0 H0 fp,PE (oI X scope cl C (Xs++Nf) s0 H0 fp) elt te)
  (hN:X.N.Nodup) (hiy:X.N[iy]?=some y) (hy:Loc X.env.scope y) (hsw:swapsWith (.ListComp elt [⟨tg,iter,ifs,0⟩] scope pos) (some (.Name y py)) spos.line X.env=pure true:=by rfl)
  (hfy:X.fn y=true\/X.env.scope.names.lookup y=some .local:=by first | exact .inl rfl | exact .inr rfl | assumption) (hs:∀x,foldedSetIterable iter X.env x=pure x:=by intro _;rfl):
  PS X (.Assign [.Name y py] (.ListComp elt [⟨tg,iter,ifs,0⟩] scope pos) spos) (vj Xs.length js wi g tc te iy):=by
 intro WG s σ H DD I h;obtain⟨Q,hQ⟩:∃Q:VK,Q=fun v H'=>DD.nx (σ.set iy (some v)) H':=⟨_,rfl⟩;have h':sv Xs.length js wi g tc te σ H Q:=by rw[hQ];exact h
 rw[exec_Assign_Name_used _ _ _ _ hsw];refine Ja (wpAny_standAt (Ja ?_));show wpAny _ X.A (do let _ <-comprehension (.ListComp elt [⟨tg,iter,ifs,0⟩] scope pos) scope X.env _ (newList []) false (eval iter X.env) (some (assign (.Name y py) X.env))) _ _ s;refine Ja (JE (wpAny_comprehension_free (use:=some (assign (.Name y py) X.env)) (Q:=fun _ s'=>SP X WG DD .next s') rfl hs K.Gg K.kind K.names (dh (hi WG s σ H _ I h') fun v s1 h1=>dh h1 fun itv s2 h2=>?_)) (fun _ s' hq=>Jb (Jb hq)) fun _ _ e=>e);obtain⟨it,fp,tn,J,H2,e,I2,T,NQ,f2,vs,⟨L0,MC⟩,hW⟩:=h2;subst e;have hD:H2 s2.heap.objs.size=none:=I2.cP.fresh (IW _);obtain⟨W,⟨m0,w0⟩,turn⟩:=hW s2.heap.objs.size hD;have Om:∀b∈fp,b < s2.heap.objs.size:=fun b hb=>let ⟨o,e,_⟩:=T.obj _ _ NQ b hb;Jw e;refine wpAny_newObj_type (wpAny_newFunctionEnv K.cell (by intro y hy;simp at hy) (fun h₁ Lp₁ Lo₁=>?_) K.kind);dsimp only at Lp₁ Lo₁ ⊢;generalize QQ:s2.heap.push { cls:=.type "list",dict:=none,data:=.seq ([]:List Value).toArray }=P3 at Lp₁ Lo₁ ⊢;obtain⟨s3,Oe⟩:∃s3:Shared,s3={ s2 with heap:=P3 }:=⟨_,rfl⟩;have eP:P3=s3.heap:=by rw[Oe]
 rw[eP] at Lp₁ Lo₁ ⊢;have I3:Inv X WG σ (WX H2 s2.heap.objs.size (.lst [])) s3:=by
  rw[Oe,<-QQ];exact I2.laid (t':=s2.toks) (fun b u e=>Jc _ e) (IW _) ⟨Jr _,[],0,.nil,JA _ rfl⟩
 have keep23:∀b o,s2.heap.get? b=some o->s3.heap.get? b=some o:=fun b o e=>by rw[<-eP,<-QQ];exact Jc _ e
 have f3:∀b∈fp,mr X WG (WX H2 s2.heap.objs.size (.lst [])) b:=fun b hb=>⟨by rw[aB (Jx (Om b hb))];exact(f2 b hb).1,(f2 b hb).2⟩;have Nm:tn 0 s3.heap:=T.keep _ _ _ NQ fun b hb o e=>keep23 b o e;have Mq:∀b∈fp,b < s3.heap.objs.size:=fun b hb=>let ⟨o,e,_⟩:=T.obj _ _ Nm b hb;Jw e;have keep34:∀b o,s3.heap.get? b=some o->h₁.get? b=some o:=fun b o e=>Lo₁.extBut b o (Jx (Jw e)) (Jc _ e);have Pp:tn 0 h₁:=T.keep _ _ _ Nm fun b hb o e=>keep34 b o e;have Pg:∀b∈fp,WX H2 s2.heap.objs.size (.lst []) b=none:=fun b hb=>(f3 b hb).1;have stat:∀{H'},(∀b∈fp,H' b=none)->∀b∈fp,mr (oI X scope cl s3.heap.objs.size (Xs++Nf) s3 (WX H2 s2.heap.objs.size (.lst [])) fp) [] H' b:=fun {H'} hn b hb=>by
  refine⟨hn b hb,Jx (Mq b hb),fun z=>?_,.inl hb,fun y c e=>(f3 b hb).2.2.2.2.1 y c (K.sub y c e),fun p hp=>Xc (show p∈([]:List (Addr×Obj)) from hp) (by simp)⟩;rcases Jv.mp (I3.nI b z) with e | e
  ·exact(f3 b hb).2.1 e
  ·exact(f3 b hb).2.2.1 e
 have fin:∀{σ' H' s'},Inv (oI X scope cl s3.heap.objs.size (Xs++Nf) s3 (WX H2 s2.heap.objs.size (.lst [])) fp) [] σ' H' s'->Q (.ref s2.heap.objs.size) H'->
   compPost (model X.prog X.w) X.A X.xe (some (assign (.Name y py) X.env)) (fun _ s'=>SP X WG DD .next s') (.ref s2.heap.objs.size) s3.heap.objs.size (.ok .next) s':=fun {σ' H' s'} J q=>by
  obtain⟨m,hn,_⟩:=J.loc;have ne:∀b o,s3.heap.get? b=some o->b≠s3.heap.objs.size:=fun b o e=>Jx (Jw e);have B:=J.base;have I5:Inv X WG σ H' s':=by
   refine I3.yG (ch:=fp) (s':=s') J.os ?_ J.cP J.bare fun b hb=>⟨(f3 b hb).2.2.2.1,(f3 b hb).2.1,(f3 b hb).2.2.2.2.1,(f3 b hb).2.2.2.2.2⟩;exact⟨fun b o e n hb hx=>B.keep b o e n hb hx,fun b o e n hb hx=>B.slot b o e n hb hx,fun b o e n hx=>B.free b o e n hx,fun b o e hx=>B.there b o e hx,B.oN,B.oj,B.oP⟩
  have fC:mr X WG H' s3.heap.objs.size:=I3.yr (IW _) J.free;obtain⟨c0,c1,c2,c3,c4,c5⟩:=fC;show wpAny _ X.A (assign (.Name y py) X.env (.ref s2.heap.objs.size)) _ _ s';refine wpAny_assign_Name (pk (v:=.ref s2.heap.objs.size) I5 hN hiy hy rfl (fun s'' I'' sb=>?_) hfy);obtain⟨a,sb,ha⟩:=sb;have hCa:s3.heap.objs.size≠a:=by
   rcases ha with z | z
   ·rw[z];exact c1
   ·exact fun e=>c4 y a z e.symm
  refine⟨m,hn.sameBut sb hCa,fun h' O4=>⟨_,H',I''.turned (t':=s''.toks) (fun b o hb e=>O4.extBut b o hb e) c0 c1 c3 c4 c5,?_⟩⟩;rw[hQ] at q;exact q
 have loop:∀s4:Shared,s4={ s3 with heap:=h₁,toks:=s3.toks+([]:List (Str×Value)).length }->
   codeAny (model X.prog X.w) X.A (.compLoop (.ListComp elt [⟨tg,iter,ifs,0⟩] scope pos) 0 (.ref it) (.ref s2.heap.objs.size) (compEnvC scope cl s3.heap.objs.size X.env))
    (compPost (model X.prog X.w) X.A X.xe (some (assign (.Name y py) X.env)) (fun _ s'=>SP X WG DD .next s') (.ref s2.heap.objs.size) s3.heap.objs.size) s4:=by
  rintro s4 rfl;have I4:=oH (Xs:=Xs) (tk:=s3.toks+([]:List (Str×Value)).length) K I3 L0 MC f3 Mq Lp₁ keep34;refine lJ (fun n s'=>∃i ox ys H',ox.length=Xs.length/\Inv (oI X scope cl s3.heap.objs.size (Xs++Nf) s3 (WX H2 s2.heap.objs.size (.lst [])) fp) [] (ox++vs.map some) H' s'/\tn i s'.heap/\(∀b∈fp,H' b=none)/\W i n ys H') ?_ m0 ⟨0,List.replicate Xs.length none,[],_,List.length_replicate,I4,Pp,Pg,w0⟩;rintro n s5 ⟨i,ox,ys,H5,Oj,I5,MX,OO,w5⟩;rcases turn i n ys H5 w5 with ⟨stop,qn⟩ | ⟨go,step⟩
  ·refine JE (T.done (oI X scope cl s3.heap.objs.size (Xs++Nf) s3 (WX H2 s2.heap.objs.size (.lst [])) fp) rfl rfl rfl hc i [] s5 _ H5 _ I5 (stat OO) MX stop) (fun r s6 ⟨hr,I6⟩=>?_) fun _ _ z=>z;subst hr;exact fin I6 qn
  ·refine JE (T.item (oI X scope cl s3.heap.objs.size (Xs++Nf) s3 (WX H2 s2.heap.objs.size (.lst [])) fp) rfl rfl rfl hc i [] s5 _ H5 _ I5 (stat OO) MX go) (fun r s6 ⟨u,hr,h6⟩=>?_) fun _ _ z=>z;subst hr;refine JE h6 (fun _ s7 ⟨x7,H7,I7,r7,y7,NP,TN⟩=>?_) fun _ _ z=>z;have Uh:=I7.pinned (stat TN) (T.obj _ _ NP);refine JE (hg s3.heap.objs.size s3 (WX H2 s2.heap.objs.size (.lst [])) fp _ s7 _ H7 x7 u _ Uh r7 (step x7 H7 ox Oj y7)) (fun _ s8 ⟨σ8,H8,I8,K1,Oi,e8,q8⟩=>?_) fun _ _ z=>False.elim z;subst e8;refine JE (Nj s3.heap.objs.size s3 _ fp _ s8 _ H8 _ I8 q8) (fun b8 s8b ⟨H8b,I8b,q8b⟩=>?_) fun _ _ z=>False.elim z;have ends:∀Kq J0 NL m',m' < n->W (i+1) m' NL Kq->Inv (oI X scope cl s3.heap.objs.size (Xs++Nf) s3 (WX H2 s2.heap.objs.size (.lst [])) fp) ([]++lW fp s7.heap) (K1++vs.map some) Kq J0->
     ∃m,m < n/\∃i ox ys H',ox.length=Xs.length/\Inv (oI X scope cl s3.heap.objs.size (Xs++Nf) s3 (WX H2 s2.heap.objs.size (.lst [])) fp) [] (ox++vs.map some) H' J0/\tn i J0.heap/\(∀b∈fp,H' b=none)/\W i m ys H':=fun Kq J0 NL m' Mp w9 Mw=>by
    refine⟨m',Mp,i+1,K1,NL,_,Oi,Mw.jm,T.keep _ _ _ NP fun b hb o e=>(Mw.pin (b,o) (Jh _ (Jh _ (gn hb e)))).1,fun b hb=>?_,w9⟩;obtain⟨o,e,d⟩:=T.obj _ _ NP b hb;exact(Mw.pin (b,o) (Jh _ (Jh _ (gn hb e)))).2.1
   cases b8 with
   | false=>
    rw[IY Jd] at q8b ⊢;obtain⟨m',Mp,w9⟩:=q8b;exact ends _ _ _ _ Mp w9 I8b
   | true=>
    rw[IZ rfl] at q8b ⊢;refine JE (he s3.heap.objs.size s3 _ fp _ s8b _ H8b _ I8b q8b) (fun v9 s9 ⟨v,H9,I9,r9,TH,SQ,m',Mp,w9⟩=>?_) fun _ _ z=>False.elim z;refine JE (cp (X:=oI X scope cl s3.heap.objs.size (Xs++Nf) s3 (WX H2 s2.heap.objs.size (.lst [])) fp) _ s9 _ H9 (.ref s2.heap.objs.size) [v] (.ref s2.heap.objs.size) [v9] (fun _ H'=>H'=WX H9 s2.heap.objs.size (.lst (ys++[v]))) I9 rfl (.cons r9 .nil) ⟨_,ys,v,rfl,rfl,TH,SQ,rfl⟩)
     (fun _ J0 ⟨_,Kq,Mw,_,jk⟩=>?_) fun _ _ z=>False.elim z
    subst jk;exact ends _ _ _ _ Mp w9 Mw
 have e4:({ s2 with heap:=h₁,toks:=s2.toks+([]:List (Str×Value)).length }:Shared)={ s3 with heap:=h₁,toks:=s3.toks+([]:List (Str×Value)).length }:=by rw[Oe]
 rw[e4];exact codeAny_compStart_list (loop _ rfl) (T.self _ 0 _ _ _ Pp (loop _ rfl))
end
end L2
namespace GS
open PySem PySem.Spec PySem.Builtin PyProof.Rows L2
open PySem.SeqAt
open PySem.MeetsSeq PySem.MeetsSeq2 PySem.MeetsSeq3
theorem gI {prog w A E s t sl items vl vu lo hi Q}(ht:IsTup s.heap t items) (hs:s.heap.IsSliceOf sl vl vu .none) (pl:IsPart vl lo) (pu:IsPart vu hi)
  (hw:HT.fG items.size 0 lo=0/\HT.fG items.size items.size hi=items.size) (h:Q (.ref t) s):wpAny (model prog w) A (getItem (.ref t) (.ref sl)) Q E s:=by
 obtain⟨os,KP,OE,Kj⟩:=id hs;have QL:s.TypeIs (.ref sl) "slice":=⟨os,KP,OE⟩;unfold getItem
 try with_reducible refine wpAny_holding ?_
 first | refine Ja (Jb ?_) | skip
 refine Ja (wpAny_sequenceKey ht.typeIs (by decide) ?_);refine Ja (wpAny_callSpecial?_slot (name:=Str.ofString "__getitem__") ht.typeIs PyProof.Rows.slot_tuple_getitem
  (wpAny_call_entry PyProof.Rows.slot_tuple_getitem ht.typeIs entry_tuple_getitem ?_ (args_tuple_getitem _ _)))
 show wpAny _ _ (Builtin.Tuple.tupleItemsOf (.ref t) >>= _) _ _ s;refine Ja (tupleItemsOf_ ht ?_);refine Ja (wpAny_typeOf QL ?_);rw[IZ (by decide)];refine Ja (HT.iU hs pl pu ?_);rw[hw.1,hw.2];show wpAny _ _ (if(((0:Nat):Int) == 0&&(1:Int) == 1&&(items.size - 0) == items.size)=true then _ else _) _ _ s;rw[IZ (by simp)];refine Ja ?_;unfold Builtin.Tuple.tupleIsExact;refine Ja (wpAny_typeOf ht.typeIs (Jb ?_));rw[IZ (by decide)];exact Ja (wpAny_rule (Jb ⟨_,rfl,Jb h⟩))
def cutD (ds:List D) (lo hi:Option Int):List D:=(ds.drop (HT.fG ds.length 0 lo)).take (HT.fG ds.length ds.length hi - HT.fG ds.length 0 lo)
section
variable {X:Cx}{K:Fg06}{H:Hp}
theorem az.drop:∀n {ds vs},az K H ds vs->az K H (ds.drop n) (vs.drop n)
 | 0,_,_,h=>h
 | n+1,[],vs,h=>by rw[bq.mp h];exact bq.mpr rfl
 | n+1,d::ds,vs,h=>by
  obtain⟨v,r,rfl,h1,h2⟩:=ba.mp h;exact az.drop n h2
theorem az.take:∀n {ds vs},az K H ds vs->az K H (ds.take n) (vs.take n)
 | 0,_,_,h=>bq.mpr rfl
 | n+1,[],vs,h=>by rw[bq.mp h];exact bq.mpr rfl
 | n+1,d::ds,vs,h=>by
  obtain⟨v,r,rfl,h1,h2⟩:=ba.mp h;exact ba.mpr ⟨v,r.take n,rfl,h1,az.take n h2⟩
def HE (K:Fg06):V->Option Int->Option Int->Hp->VK->Prop:=fun x lo hi H Q=>∃ds,At K H (.tup ds) x/\∀r H',au H H'->At K H' (.tup (cutD ds lo hi)) r->Q r H'
theorem zf:wk X (HE X.K):=by
 intro WG s σ H x v vl vu lo hi sl Q I rx hs pl pu h;obtain⟨ds,hx,q⟩:=h;obtain⟨a,xs,rfl,hq,hA⟩:=aX.mp hx;have ln:=hA.len;by_cases hw:HT.fG xs.length 0 lo=0/\HT.fG xs.length xs.length hi=xs.length
 ·cases rx;obtain⟨WJ,r,ht,hz⟩:=I.tuple hq;have WM:WJ.toArray.size=xs.length:=by rw[W4];exact r.length.symm
  refine⟨"tuple",_,PyProof.Rows.slot_tuple_getitem.lookup,ht.typeIs,?_⟩;refine gI ht hs pl pu (by rw[WM];exact hw) ⟨.ref a,H,I,rfl,q _ H (au.refl H) ?_⟩;have e:cutD ds lo hi=ds:=by
   unfold cutD;rw[<-ln,hw.1,hw.2,ln];simp
  rw[e];exact hx
 ·refine xt WG s σ H _ v vl vu lo hi sl Q I rx hs pl pu ⟨a,xs,rfl,hq,hw,fun p hp=>q _ _ (ae hp _) (At.new hp ?_)⟩;unfold cutD jg;rw[<-ln];exact az.take _ (az.drop _ hA)
end
end GS
namespace L2
open PySem PySem.Spec PyProof.Rows
section
variable {κ:Type} [DecidableEq κ]
def fQ (WI:List (κ×V)) (k:κ):Option V:=(WI.find? fun kv=>decide (kv.1=k)).map (·.2)
def WZ (WI:List (κ×V)) (k:κ) (v:V):List (κ×V):=
 if(WI.any fun kv=>decide (kv.1=k))=true then WI.map (fun kv=>if kv.1=k then(kv.1,v) else kv) else WI++[(k,v)]
theorem eU {p:κ×V}{r:List (κ×V)}{k:κ}(e:p.1=k):fQ (p::r) k=some p.2:=by simp[fQ,List.find?_cons,e]
theorem eV {p:κ×V}{r:List (κ×V)}{k:κ}(e:¬p.1=k):fQ (p::r) k=fQ r k:=by simp[fQ,List.find?_cons,e]
theorem kX (k:κ):∀WI:List (κ×V),(WI.any fun kv=>decide (kv.1=k))=(fQ WI k).isSome
 | []=>rfl
 | p::r=>by
  rw[List.any_cons];by_cases e:p.1=k
  ·simp only[eU e,decide_eq_true e,Bool.true_or,Option.isSome_some]
  ·rw[eV e,IK e,Bool.false_or];exact kX k r
theorem qI (k j:κ) (y:V):∀WI:List (κ×V),fQ (WI.map fun kv=>if kv.1=k then(kv.1,y) else kv) j=(fQ WI j).map fun x=>if j=k then y else x
 | []=>rfl
 | p::r=>by
  have ih:=qI k j y r;rw[W5];by_cases h:p.1=k
  ·rw[IZ h];by_cases e:p.1=j
   ·rw[eU (p:=(p.1,y)) e,eU e,Option.map_some,IZ (e.symm.trans h)]
   ·rw[eV (p:=(p.1,y)) e,eV e,ih]
  ·rw[IY h];by_cases e:p.1=j
   ·rw[eU (p:=p) e,eU e,Option.map_some,IY (fun z=>h (e.trans z))]
   ·rw[eV (p:=p) e,eV e,ih]
theorem ph (k j:κ) (y:V):∀WI:List (κ×V),fQ WI k=none->fQ (WI++[(k,y)]) j=if j=k then some y else fQ WI j
 | [],_=>by
  by_cases e:k=j
  ·rw[IZ e.symm];exact eU (p:=(k,y)) e
  ·rw[IY (fun z=>e z.symm)];exact eV (p:=(k,y)) e
 | p::r,hn=>by
  rw[List.cons_append];have hk:¬p.1=k:=fun z=>by rw[eU z] at hn;cases hn
  rw[eV hk] at hn;have ih:=ph k j y r hn;by_cases e:p.1=j
  ·rw[eU e,eU e,IY (fun z=>hk (e.trans z))]
  ·rw[eV e,eV e,ih]
theorem kU (WI) (k j:κ) (y):fQ (WZ WI k y) j=if j=k then some y else fQ WI j:=by
 unfold WZ;by_cases a:(WI.any fun kv=>decide (kv.1=k))=true
 ·rw[IZ a,qI];rw[kX] at a;by_cases e:j=k
  ·obtain⟨x,hx⟩:=Option.isSome_iff_exists.mp a;rw[IZ e,e,hx,Option.map_some,IZ rfl]
  ·rw[IY e];cases fQ WI j with
   | none=>rfl
   | some x=>rw[Option.map_some,IY e]
 ·rw[IY a];refine ph k j y WI ?_;rw[kX] at a;cases q:fQ WI k with
  | none=>rfl
  | some x=>rw[q] at a;exact(a rfl).elim
theorem gz (WI) (k:κ) (v):(WZ WI k v).length<=WI.length+1:=by
 unfold WZ;split
 ·rw[IU];omega
 ·rw[IJ,Jf,List.length_nil];omega
theorem kH.mi {o u}(r:kH o u):o.isSome=u.isSome:=by
 cases o with
 | none=>cases u with
  | none=>rfl
  | some _=>exact(show False from r).elim
 | some _=>cases u with
  | none=>exact(show False from r).elim
  | some _=>rfl
theorem kH.getD {o u d d'}(r:kH o u) (rd:RelV d d'):RelV (o.getD d) (u.getD d'):=by
 cases o with
 | none=>cases u with
  | none=>exact rd
  | some _=>exact(show False from r).elim
 | some _=>cases u with
  | none=>exact(show False from r).elim
  | some _=>exact r
theorem KV.val {WI:List (κ×V)}{vs:List (κ×Value)}(r:KV WI vs) (k:κ):kH (fQ WI k) (valueAt vs k):=by
 unfold KV at r
 induction r with
 | nil=>exact True.intro
 | @cons p q ps qs h t ih=>
  obtain⟨h1,h2⟩:=h;by_cases e:p.1=k
  ·have e':q.1=k:=h1.symm.trans e;have b:valueAt (q::qs) k=some q.2:=by simp[valueAt,List.find?_cons,e']
   rw[eU e,b];exact h2
  ·have e':¬q.1=k:=fun z=>e (h1.trans z);have b:valueAt (q::qs) k=valueAt qs k:=by simp[valueAt,List.find?_cons,e']
   rw[eV e,b];exact ih
theorem KV.any {WI vs}(r:KV WI vs) (k:κ):(WI.any fun kv=>decide (kv.1=k))=vs.any fun kv=>decide (kv.1=k):=by
 unfold KV at r
 induction r with
 | nil=>rfl
 | cons h t ih=>rw[List.any_cons,List.any_cons,ih,h.1]
theorem KV.Bt {WI vs}(r:KV WI vs) (k:κ) {y u}(ry:RelV y u):
  KV (WI.map fun kv=>if kv.1=k then(kv.1,y) else kv) (vs.map fun kv=>if kv.1=k then(kv.1,u) else kv):=by
 unfold KV at r ⊢
 induction r with
 | nil=>exact .nil
 | @cons p q ps qs h t ih=>
  rw[W5,W5];refine .cons ?_ ih;obtain⟨h1,h2⟩:=h;by_cases e:p.1=k
  ·rw[IZ e,IZ (h1.symm.trans e)];exact⟨h1,ry⟩
  ·rw[IY e,IY (fun z=>e (h1.trans z))];exact⟨h1,h2⟩
theorem KV.put {WI vs}(r:KV WI vs) (k:κ) {y u}(ry:RelV y u):KV (WZ WI k y) (stored vs k u):=by
 unfold WZ stored;rw[r.any k];by_cases e:(vs.any fun kv=>decide (kv.1=k))=true
 ·rw[IZ e,IZ e];exact r.Bt k ry
 ·rw[IY e,IY e];exact Paired.snoc r ⟨rfl,ry⟩
theorem KV.length {WI:List (κ×V)}{vs:List (κ×Value)}(r:KV WI vs):WI.length=vs.length:=Paired.length r
end
theorem oa {P w k u}(r:RelV (kV k) u):(cC P w).is k u=true:=by
 cases k with
 | inl i=>obtain⟨t,e⟩:=(show ∃t,u=Value.int i t from r);subst e;exact rp P w i t
 | inr x=>obtain⟨t,e⟩:=(show ∃t,u=Value.str x t from r);subst e;exact rn P w x t
theorem pI {P w}:∀{ks us},WY (ks.map kV) us->ItemsAre (cC P w) ks us
 | [],_,r=>by rw[List.map_nil] at r;cases r;exact .nil
 | k::ks,_,r=>by
  rw[W5] at r;cases r with
  | cons h t=>exact .cons (oa h) (pI t)
abbrev KT (H:Hp):List (List Key×V)->List (List Key×Addr×Value)->Prop:=Paired fun p q=>p.1=q.1/\H q.2.1=some (.tup (p.1.map kV))/\RelV p.2 q.2.2
theorem KT.val {H:Hp}{WI:List (List Key×V)}{xs:List (List Key×Addr×Value)}(r:KT H WI xs) (k:List Key):kH (fQ WI k) ((atKey xs k).map (·.2)):=by
 induction r with
 | nil=>exact True.intro
 | @cons p q ps qs h t ih=>
  obtain⟨h1,_,h2⟩:=h;by_cases e:p.1=k
  ·have e':q.1=k:=h1.symm.trans e;have b:atKey (q::qs) k=some q.2:=by simp[atKey,List.find?_cons,e']
   rw[eU e,b];exact h2
  ·have e':¬q.1=k:=fun z=>e (h1.trans z);have b:atKey (q::qs) k=atKey qs k:=by simp[atKey,List.find?_cons,e']
   rw[eV e,b];exact ih
theorem KT.Bt {H WI xs}(r:KT H WI xs) (k) {y u}(ry:RelV y u):
  KT H (WI.map fun kv=>if kv.1=k then(kv.1,y) else kv) (xs.map (putAt k u)):=by
 induction r with
 | nil=>exact .nil
 | @cons p q ps qs h t ih=>
  rw[W5,W5];refine .cons ?_ ih;obtain⟨h1,h2,h3⟩:=h;unfold putAt;by_cases e:p.1=k
  ·rw[IZ e,IZ (h1.symm.trans e)];exact⟨h1,h2,ry⟩
  ·rw[IY e,IY (fun z=>e (h1.trans z))];exact⟨h1,h2,h3⟩
theorem KT.put {H WI xs}(r:KT H WI xs) (k) {b y u}(hb:H b=some (.tup (k.map kV))) (ry:RelV y u):
  KT H (WZ WI k y) (storedH xs k b u):=by
 have e:(WI.any fun kv=>decide (kv.1=k))=(atKey xs k).isSome:=by
  rw[kX,(r.val k).mi,Option.isSome_map]
 unfold WZ storedH;rw[e];by_cases q:(atKey xs k).isSome=true
 ·rw[IZ q,IZ q];exact r.Bt k ry
 ·rw[IY q,IY q];exact Paired.snoc r ⟨rfl,hb,ry⟩
theorem KT.keeps {H H' WI xs}(r:KT H WI xs) (ht:∀b ys,H b=some (.tup ys)->H' b=some (.tup ys)):KT H' WI xs:=
 Paired.Dh r fun _ _ z=>⟨z.1,ht _ _ z.2.1,z.2.2⟩
section
variable {P:Program}{w:World}{H:Hp}{h:Heap}{a:Addr}
theorem Av {u}(ok:kP P w H h) (e:Rd H a u):eG P w H h a u:=e.ok ok
theorem pL {WI}(ok:kP P w H h) (e:Rd H a (.dK WI)):WI.length<=sizeLine/\(a == sysModules)=false/\∃vs,KV WI vs/\h.DictOf (cC P w) a vs:=
 show eG P w H h a (.dK WI) from Av ok e
theorem AQ {WI}(ok:kP P w H h) (e:H a=some (.dK WI)):WI.length<=sizeLine/\(a == sysModules)=false/\∃vs,KV WI vs/\h.DictOf (cC P w) a vs:=pL ok (.inl e)
theorem n0 {ks}(ok:kP P w H h) (e:H a=some (.tup (ks.map kV))):(tupleKind (cC P w)).is h ks a:=by
 obtain⟨_,WJ,r,o,h1,h2,n,h3⟩:=(show eG P w H h a (.tup (ks.map kV)) from ok a _ e);exact⟨o,WJ.toArray,n,h1,h2,h3,by simpa using pI r⟩
theorem pJ {WI}(ok:kP P w H h) (e:Rd H a (.dT WI)):WI.length<=sizeLine/\(a == sysModules)=false/\
  ∃xs,KT H WI xs/\h.DictOfH (tupleKind (cC P w)) a xs:=by
 obtain⟨z,y,xs,r,o,es,ep,h1,h2,h3,h4,h5⟩:=(show eG P w H h a (.dT WI) from Av ok e);refine⟨z,y,xs,r,o,es,ep,h1,h2,h3,h4,fun x hx=>?_,h5⟩;have all:∀{l m},KT H l m->∀x∈m,(tupleKind (cC P w)).is h x.1 x.2.1:=by
  intro l m q
  induction q with
  | nil=>intro x hx;exact nomatch hx
  | @cons p q ps qs hq t ih=>
   intro x hx;rcases Jv.mp hx with e | hx
   ·subst e;exact n0 ok (by rw[<-hq.1];exact hq.2.1)
   ·exact ih x hx
 exact all r x hx
theorem Gf {WI}(ok:kP P w H h) (e:H a=some (.dT WI)):WI.length<=sizeLine/\(a == sysModules)=false/\
  ∃xs,KT H WI xs/\h.DictOfH (tupleKind (cC P w)) a xs:=pJ ok (.inl e)
end
def gC (H:Hp) (a:Addr) (y:V) (r:Option V):Prop:=
 (∃WI k,Rd H a (.dK WI)/\y=kV k/\r=fQ WI k)\/∃WI k b,Rd H a (.dT WI)/\y=.ref b/\H b=some (.tup (k.map kV))/\r=fQ WI k
def rZ (H:Hp) (a:Addr) (y v:V) (H':Hp):Prop:=
 (∃WI k,H a=some (.dK WI)/\y=kV k/\WI.length < sizeLine/\H'=WX H a (.dK (WZ WI k v)))\/
 ∃WI k b,H a=some (.dT WI)/\y=.ref b/\H b=some (.tup (k.map kV))/\WI.length < sizeLine/\H'=WX H a (.dT (WZ WI k v))
theorem gC.k {H a WI k}(e:H a=some (.dK WI)):gC H a (kV k) (fQ WI k):=.inl ⟨WI,k,.inl e,rfl,rfl⟩
theorem rZ.k {H a WI k v}(e:H a=some (.dK WI)) (hl:WI.length < sizeLine):rZ H a (kV k) v (WX H a (.dK (WZ WI k v))):=.inl ⟨WI,k,e,rfl,hl,rfl⟩
section
variable {X:Cx}{WG:List (Addr×Obj)}{σ:St}{H:Hp}{s:Shared}{a:Addr}{y v:V}{u r:Value}{o:Option V}{A:Around}{E:Value->Shared->Prop}
theorem vW {Q}(hu:A.units+1 < cLine) (I:Inv X WG σ H s) (g:gC H a y (some v)) (ry:RelV y u) (h:∀w' s',Inv X WG σ H s'->RelV v w'->Q w' s'):
  wpAny (model X.prog X.w) A (getItem (.ref a) u) Q E s:=by
 rcases g with ⟨WI,k,e,ey,l⟩ | ⟨WI,k,b,e,ey,eb,l⟩
 ·subst ey;obtain⟨z,hd,vs,rel,dd⟩:=pL I.cP e;obtain⟨w',hw,J7⟩:=kH.some_of (v:=v) (o:=valueAt vs k) (by rw[l];exact rel.val k);exact wpAny_getItem_of (oa ry) dd.mapOf hw (h w' _ (I.tok _) J7)
 ·subst ey;cases (show u=Value.ref b from ry);obtain⟨z,hd,xs,rel,dd⟩:=pJ I.cP e;obtain⟨w',hw,J7⟩:=kH.some_of (v:=v) (o:=(atKey xs k).map (·.2)) (by rw[l];exact rel.val k);obtain⟨p,hp,L1⟩:=Option.map_eq_some_iff.mp hw;refine wpAny_getItem_heap (tupleKind_room_in1 hu) (n0 I.cP eb) dd hp ?_;rw[L1];exact h w' _ (I.tok _) J7
theorem Iq {Q}(hu:A.units+1 < cLine) (I:Inv X WG σ H s) (g:gC H a y o) (ry:RelV y u) (h:∀s',Inv X WG σ H s'->Q (.bool o.isSome) s'):
  wpAny (model X.prog X.w) A (compareOp .In u (.ref a)) Q E s:=by
 rcases g with ⟨WI,k,e,ey,l⟩ | ⟨WI,k,b,e,ey,eb,l⟩
 ·subst ey;obtain⟨z,hd,vs,rel,dd⟩:=pL I.cP e;refine wpAny_in_of (oa ry) hd dd.mapOf ?_;rw[<-(rel.val k).mi,<-l];exact h _ (I.tok _)
 ·subst ey;cases (show u=Value.ref b from ry);obtain⟨z,hd,xs,rel,dd⟩:=pJ I.cP e;refine wpAny_in_heap (tupleKind_room_in1 hu) (n0 I.cP eb) hd dd ?_;have q:=(rel.val k).mi;rw[Option.isSome_map] at q;rw[<-q,<-l];exact h _ (I.tok _)
theorem qx {h' t' ob}(I:Inv X WG σ H s) (mu:Gw (H a)) (hs:Heap.SameBut a s.heap h') (he:∃q,h'.get? a=some q) (new:eG X.prog X.w (WX H a ob) h' a ob):
  Inv X WG σ (WX H a ob) { s with heap:=h',toks:=t' }:=
 I.write (x:=a) (e:=a) mu (.inl rfl) (fun b q hb z=>(hs.2 b hb).trans z) he new
theorem tH {P w H' h' WI vs}(z:WI.length<=sizeLine) (hd:(a == sysModules)=false) (rel:KV WI vs) (dd:h'.DictOf (cC P w) a vs):
  eG P w H' h' a (.dK WI):=⟨z,hd,vs,rel,dd⟩
theorem vV {H' Q}(hu:A.units+1 < cLine) (I:Inv X WG σ H s) (g:rZ H a y v H') (ry:RelV y u) (rv:RelV v r) (h:∀s',Inv X WG σ H' s'->Q () s'):
  wpAny (model X.prog X.w) A (setItem (.ref a) u r) Q E s:=by
 rcases g with ⟨WI,k,e,ey,l,eH⟩ | ⟨WI,k,b,e,ey,eb,l,eH⟩
 ·subst ey eH;obtain⟨z,hd,vs,rel,dd⟩:=AQ I.cP e;have hz:vs.length<=sizeLine:=by rw[<-rel.length];exact z
  have hl:(WZ WI k v).length<=sizeLine:=by have:=gz WI k v;omega
  refine wpAny_setItem_pairs (hsz:=hz) (oa ry) dd fun h' OP hs=>h _ ?_;have he:∃q,h'.get? a=some q:=let ⟨q,_,_,hq,_⟩:=OP;⟨q,hq⟩;exact qx I (by rw[e];exact True.intro) hs he (tH hl hd (rel.put k rv) OP)
 ·subst ey eH;cases (show u=Value.ref b from ry);obtain⟨z,hd,xs,rel,dd⟩:=Gf I.cP e;have hz:xs.length<=sizeLine:=by rw[<-Paired.length rel];exact z
  have hl:(WZ WI k v).length<=sizeLine:=by have:=gz WI k v;omega
  refine wpAny_setItem_heap (hsz:=hz) (tupleKind_room_in1 hu) (n0 I.cP eb) dd fun h' OP hs=>h _ ?_;obtain⟨q,es,ep,hq,h2,h3,h4,_,h5⟩:=OP;refine qx I (by rw[e];exact True.intro) hs ⟨q,hq⟩ ⟨hl,hd,_,(rel.put k eb rv).keeps fun c ys ec=>?_,q,es,ep,hq,h2,h3,h4,h5⟩;rw[aB (FQ ec e (fun z=>nomatch z))];exact ec
end
section
variable {X:Cx}{WG:List (Addr×Obj)}{σ:St}{H:Hp}{s:Shared}{a:Addr}{WI:List (Key×V)}{k:Key}{u:Value}{A:Around}{E:Value->Shared->Prop}
end
def z6 (i:Expr):Prop:=∀ov iv,subscripted i false ov iv=operate [ov,iv] (getItem ov iv)
theorem ua {prog w A E s env value slice pos T id Q}
  (hl:typeLookup (.type T) "__getitem__"=pure (some (.builtin id))) (hs:z6 slice)
  (h:wpAny (model prog w) A (eval value env) (fun o s₁=>wpAny (model prog w) A (eval slice env) (fun i s₂=>s₂.TypeIs o T/\wpAny (model prog w) A (getItem o i) Q E s₂) E s₁) E s):
  wpAny (model prog w) A (eval (.Subscript value slice pos) env) Q E s:=by
 refine Subscript_ (JE h (fun o s₁ h₁=>JE h₁ (fun i s₂ h₂=>?_) fun _ _ x=>x) fun _ _ x=>x);obtain⟨hT,h₂⟩:=h₂;unfold subscriptTail;refine Ja ?_;rw[getitemInPython_of_ne hT.not_modules];refine Ja (wpAny_specialOf hT hl ?_);have fin:wpAny (model prog w) A (subscripted slice false o i) (fun r s₃=>wpAny (model prog w) A (letTemporaryGo value o r >>= fun _=>pure r) Q E s₃) E s₂:=by
  rw[hs o i];exact wpAny_operating (JE h₂ (fun r s₃ h₃=>Ja (wpAny_letTemporaryGo (Jb h₃))) fun _ _ x=>x)
 first
  | exact Jb (Ja fin)
  | exact Ja (Jb (Ja fin))
  | exact Ja fin
theorem rL {X WG σ H s a y o}(I:Inv X WG σ H s) (g:gC H a y o):s.TypeIs (.ref a) "dict":=by
 rcases g with ⟨WI,k,e,_,_⟩ | ⟨WI,k,b,e,_,_,_⟩
 ·obtain⟨_,_,vs,_,dd⟩:=pL I.cP e;exact dd.typeIs
 ·obtain⟨_,_,xs,_,dd⟩:=pJ I.cP e;exact dd.typeIs
def Ah (td ty:TE):TE:=fun σ H Q=>td σ H fun x H1=>ty σ H1 fun y H2=>∃a v,x=.ref a/\gC H2 a y (some v)/\Q v H2
def En (ty td:TE):TE:=fun σ H Q=>ty σ H fun y H1=>td σ H1 fun x H2=>∃a o,x=.ref a/\gC H2 a y o/\Q (.bl o.isSome) H2
def E3 (td ty tv:TE):TS:=fun D σ H=>tv σ H fun v H1=>td σ H1 fun x H2=>ty σ H2 fun y H3=>∃a H4,x=.ref a/\rZ H3 a y v H4/\D.nx σ H4
section
variable {X:Cx}{o i e value:Expr}{pos pos' tpos:Pos}{td ty tv:TE}
theorem eI (hu:X.A.units+1 < cLine) (ho:PE X o td) (hi:PE X i ty) (hs:z6 i):PE X (.Subscript o i pos) (Ah td ty):=by
 intro WG s σ H Q I h;refine ua PySem.F.slot_dict_getitem.lookup hs (dh (ho WG s σ H _ I h) fun u s1 ⟨x,H1,I1,rx,q1⟩=>dh (hi WG s1 σ H1 _ I1 q1) fun iv s2 ⟨y,H2,I2,ry,a,v,ex,g,q2⟩=>?_);subst ex;obtain rfl:u=Value.ref a:=rx;exact⟨rL I2 g,vW hu I2 g ry fun w' s3 I3 J7=>⟨v,H2,I3,J7,q2⟩⟩
theorem BH (hu:X.A.units+1 < cLine) (hi:PE X i ty) (ho:PE X o td):PC X .In i o (En ty td):=by
 intro WG s σ H Q I h;refine dh (hi WG s σ H _ I h) fun iv s1 ⟨y,H1,I1,ry,q1⟩=>dh (ho WG s1 σ H1 _ I1 q1) fun u s2 ⟨x,H2,I2,rx,a,ov,ex,g,q2⟩=>?_;subst ex;obtain rfl:u=Value.ref a:=rx;exact Iq hu I2 g ry fun s3 I3=>⟨.bl ov.isSome,H2,I3,rfl,q2⟩
theorem mX (hu:X.A.units+1 < cLine) (ho:PE X o td) (hi:PE X i ty) (hv:PE X value tv) (hs:swapsWith value (some (.Subscript o i pos')) pos.line X.env=pure false):
  PS X (.Assign [.Subscript o i pos'] value pos) (E3 td ty tv):=by
 intro WG s σ H D I h;refine wpAny_Assign_Subscript (dh (hv WG s σ H _ I h) fun r s1 ⟨v,H1,I1,rv,q1⟩=>dh (ho WG s1 σ H1 _ I1 q1) fun u s2 ⟨x,H2,I2,rx,q2⟩=>dh (hi WG s2 σ H2 _ I2 q2) fun iv s3 ⟨y,H3,I3,ry,a,H4,ex,g,q3⟩=>?_) hs;subst ex;obtain rfl:u=Value.ref a:=rx;exact vV hu I3 g ry rv fun s4 I4=>⟨σ,H4,I4,q3⟩
end
section
variable {X:Cx}{pos:Pos}
end
def sr:List (TE×TE)->St->Hp->(List (V×V)->Hp->Prop)->Prop
 | [],_,H,Q=>Q [] H
 | (tk,tv)::r,σ,H,Q=>tk σ H fun x H1=>tv σ H1 fun y H2=>sr r σ H2 fun ps H3=>Q ((x,y)::ps) H3
abbrev VV:List (V×V)->List (Value×Value)->Prop:=Paired fun p q=>RelV p.1 q.1/\RelV p.2 q.2
def DH (X:Cx) (pos:Pos) (keys:List (Option Expr)) (values:List Expr) (WV:List (TE×TE)):Prop:=
 ∀WG s σ H Q,Inv X WG σ H s->sr WV σ H Q->
  wpAny (model X.prog X.w) X.A (evalPairs (pairTrees keys values X.env pos)) (fun vs s'=>∃ps H',Inv X WG σ H' s'/\VV ps vs/\Q ps H') X.xe s
theorem lp {X pos}:DH X pos [] [] []:=fun WG s σ H Q I h=>pairTrees_nil_walk ⟨[],H,I,.nil,h⟩
theorem fj {X pos k v ks vs tk tv WV}(hk:PE X k tk) (hv:PE X v tv) (hr:DH X pos ks vs WV):
  DH X pos (some k::ks) (v::vs) ((tk,tv)::WV):=fun WG s σ H Q I h=>
 pairTrees_cons_walk (dh (hk WG s σ H _ I h) fun u s1 ⟨x,H1,I1,rx,q1⟩=>dh (hv WG s1 σ H1 _ I1 q1) fun w2 s2 ⟨y,H2,I2,ry,q2⟩=>
  dh (hr WG s2 σ H2 _ I2 q2) fun ws s3 ⟨ps,H3,I3,rel,q3⟩=>⟨(x,y)::ps,H3,I3,.cons ⟨rx,ry⟩ rel,q3⟩)
def eL (WI more:List (Key×V)):List (Key×V):=more.foldl (fun acc kv=>WZ acc kv.1 kv.2) WI
theorem KV.merge:∀{more rs WI vs},KV more rs->KV WI vs->KV (eL WI more) (merged vs rs):=by
 intro more rs WI vs r;unfold KV at r
 induction r generalizing WI vs with
 | nil=>intro q;exact q
 | @cons p q ps qs h t ih=>
  intro r0;have e:KV (WZ WI p.1 p.2) (stored vs q.1 q.2):=by
   have:=r0.put p.1 h.2;rw[<-h.1];exact this
  exact ih e
theorem iQ:∀more WI,(eL WI more).length<=WI.length+more.length
 | [],WI=>by show WI.length<=WI.length+0;omega
 | p::r,WI=>by
  have h1:=iQ r (WZ WI p.1 p.2);have h2:=gz WI p.1 p.2;show(eL (WZ WI p.1 p.2) r).length<=_;rw[Jf];omega
theorem oE {P w}:∀{WI ws},VV (WI.map fun kv=>(kV kv.1,kv.2)) ws->∃rs,Carries (cC P w) ws rs/\KV WI rs
 | [],_,r=>by rw[List.map_nil] at r;cases r;exact⟨[],True.intro,.nil⟩
 | p::WI,_,r=>by
  rw[W5] at r;cases r with
  | @cons a b as bs h t=>
   obtain⟨rs,c,q⟩:=oE (P:=P) (w:=w) t;obtain⟨b1,b2⟩:=b;exact⟨(p.1,b2)::rs,⟨oa h.1,rfl,c⟩,.cons ⟨rfl,h.2⟩ q⟩
def Ag (WV:List (TE×TE)):TE:=fun σ H Q=>∀p,H p=none->sr WV σ (WX H p (.dK [])) fun ps H2=>H2 p=some (.dK [])/\∃WI:List (Key×V),ps=WI.map (fun kv=>(kV kv.1,kv.2))/\WI.length<=15/\Q (.ref p) (WX H2 p (.dK (eL [] WI)))
theorem lF {X pos keys values WV}(h:DH X pos keys values WV) (JW:keys.all (·.isSome)=true) (hl:keys.length=values.length) (h0:keys≠[])
  (TL:keys.length<=15):PE X (.Dict keys values pos) (Ag WV):=by
 intro WG s σ H Q I q;have hn:=I.cP.fresh (IW s.heap.objs.size);have I1:=I.laid (a:=s.heap.objs.size) (o:=.dK []) (h':=s.heap.push { cls:=.type "dict",data:=.dict #[] }) (t':=s.toks) (fun _ _ q=>Jc _ q) (IW _) (rK s.heap I.big);refine wpAny_Dict_walk (knd:=cC X.prog X.w) JW hl h0 TL (dh (h WG _ σ _ _ I1 (q _ hn)) fun ws s2 ⟨ps,H2,I2,rel,e,WI,ep,lk,q2⟩=>?_);subst ep;obtain⟨rs,c,rk⟩:=oE (P:=X.prog) (w:=X.w) rel;obtain⟨z,hd,vs0,r0,dd⟩:=AQ I2.cP e;cases r0;refine⟨rs,c,dd,fun h' OP hs=>⟨.ref s.heap.objs.size,_,?_,rfl,q2⟩⟩;have hz:(eL [] WI).length<=sizeLine:=by
  have h1:=iQ WI [];rw[List.length_nil] at h1;rw[sizeLine_eq];omega
 have he:∃q,h'.get? s.heap.objs.size=some q:=let ⟨q,_,_,hq,_⟩:=OP;⟨q,hq⟩;exact qx I2 (by rw[e];exact True.intro) hs he (tH hz hd (rk.merge .nil) OP)
structure M1 (X:Cx) (o:Expr) (m:Str) (WR:Pos) (e:Expr) (WO:Pos):Prop where
 base:attributeBase o m X.env (eval o X.env)=eval o X.env
 few:((backTo WO (starEach [e] X.env)).all (fun x=>!x.1)&&(backToKw WO (keywordEach [] X.env)).all (fun x=>x.1.isSome)
  &&decide (([e]:List Expr).length+([]:List Keyword).length+(if([]:List Keyword).isEmpty then 0 else 1) < 30))=true
 line:(WR.endLine == WO.line)=true
 trees:backTo WO (starEach [e] X.env)=[(false,eval e X.env)]
def IsD (H:Hp) (a:Addr):Prop:=(∃WI,Rd H a (.dK WI))\/∃WI,Rd H a (.dT WI)
theorem Dp {X WG σ H s a}(I:Inv X WG σ H s) (d:IsD H a):
  s.TypeIs (.ref a) "dict"/\(∀b,Value.ref a=.ref b->∃ob,s.heap.get? b=some ob/\ob.dict=none)/\(a == sysModules)=false:=by
 rcases d with ⟨WI,e⟩ | ⟨WI,e⟩
 ·obtain⟨_,hd,vs,_,dd⟩:=pL I.cP e;refine⟨dd.typeIs,fun b q=>?_,hd⟩;cases q;obtain⟨ob,_,_,h1,h2,_⟩:=dd;exact⟨ob,h1,h2.2.1⟩
 ·obtain⟨_,hd,xs,_,dd⟩:=pJ I.cP e;refine⟨dd.typeIs,fun b q=>?_,hd⟩;cases q;obtain⟨ob,_,_,h1,h2,_⟩:=dd;exact⟨ob,h1,h2.2.1⟩
section
variable {X:Cx}{WG:List (Addr×Obj)}{σ:St}{H:Hp}{s:Shared}{a:Addr}{y d:V}{u r:Value}{o:Option V}{A:Around}{E:Value->Shared->Prop}
theorem Dz {Q}(hu:A.units+1 < cLine) (I:Inv X WG σ H s) (g:gC H a y o) (ry:RelV y u) (h:∀w' s',Inv X WG σ H s'->RelV (o.getD .bj) w'->Q w' s'):
  wpAny (model X.prog X.w) A (call (.builtin "dict.get") [.ref a,u]) Q E s:=by
 rcases g with ⟨WI,k,e,ey,l⟩ | ⟨WI,k,b,e,ey,eb,l⟩
 ·subst ey;obtain⟨z,hd,vs,rel,dd⟩:=pL I.cP e;refine call_meetsIn PySem.F.slot_dict_get dd.typeIs PySem.F.entry_dict_get (PySem.F.args_dict_get_2 _ _) (meets_dict_get (cC X.prog X.w) a (oa ry) hd) ⟨_,dd.mapOf,h _ _ (I.tok _) ?_⟩;rw[l];exact(rel.val k).getD rfl
 ·subst ey;cases (show u=Value.ref b from ry);obtain⟨z,hd,xs,rel,dd⟩:=pJ I.cP e;refine call_meetsIn PySem.F.slot_dict_get dd.typeIs PySem.F.entry_dict_get (PySem.F.args_dict_get_2 _ _) (meetsH_dict_get (tupleKind (cC X.prog X.w)) a b hd) ⟨tupleKind_room_in1 hu,k,xs,n0 I.cP eb,dd,h _ _ (I.tok _) ?_⟩;rw[l];exact(rel.val k).getD rfl
end
def A3 (td ty:TE):TE:=fun σ H Q=>td σ H fun x H1=>∃a,x=.ref a/\IsD H1 a/\ty σ H1 fun y H2=>∃o,gC H2 a y o/\Q (o.getD .bj) H2
section
variable {X:Cx}{o e f:Expr}{WR WO:Pos}{td ty tx:TE}
theorem rb (hu:X.A.units+1 < cLine) (ho:PE X o td) (he:PE X e ty) (m:M1 X o "get" WR e WO):PE X (.Call (.Attribute o "get" WR) [e] [] WO) (A3 td ty):=by
 intro WG s σ H Q I h;refine wpAny_Call_method m.base m.few m.line PySem.F.plainAttrs_dict PySem.F.slot_dict_get PySem.F.type_dict_get (dh (ho WG s σ H _ I h) fun u s1 ⟨x,H1,I1,rx,a,ex,d,q1⟩=>?_);subst ex;obtain rfl:u=Value.ref a:=rx;obtain⟨t1,t2,_⟩:=Dp I1 d;refine⟨t1,t2,?_⟩;rw[m.trees];refine Calls.callWith_builtin rfl (Calls.evalArgs_plain (Calls.spliced_cons (dh (he WG s1 σ H1 _ I1 q1) fun iv s2 ⟨y,H2,I2,ry,ov,g,q2⟩=>Calls.spliced_nil ?_)));exact Dz hu I2 g ry fun w' s3 I3 J7=>⟨_,H2,I3,J7,q2⟩
end
section
variable {X:Cx}{WG:List (Addr×Obj)}{σ:St}{H:Hp}{s:Shared}{a:Addr}{WI:List (Key×V)}{A:Around}{E:Value->Shared->Prop}
end
section
variable {X:Cx}{WG:List (Addr×Obj)}{σ:St}{H:Hp}{s:Shared}{a:Addr}{y:V}{u:Value}{A:Around}{E:Value->Shared->Prop}
end
end L2
namespace L2
open PySem PySem.Spec PyProof.Rows PySem.Builtin PySem.Builtin.Str
section
variable {X:Cx}
def Bv (K:Fg06):V->Option Int->Option Int->Hp->VK->Prop:=fun x lo hi H Q=>∃a xs,x=.ref a/\fh K H a xs/\∀b H',au H H'->fh K H' b (jg xs lo hi)->Q (.ref b) H'
theorem Et:wk X (Bv X.K):=by
 intro WG s σ H x v vl vu lo hi sl Q I rx hs pl pu h;obtain⟨a,xs,rfl,hq,q⟩:=h;by_cases hw:HT.fG xs.length 0 lo=0/\HT.fG xs.length xs.length hi=xs.length
 ·cases rx;obtain⟨WJ,r,ht,hz⟩:=I.tuple hq;have WM:WJ.toArray.size=xs.length:=by rw[W4];exact r.length.symm
  refine⟨"tuple",_,PyProof.Rows.slot_tuple_getitem.lookup,ht.typeIs,?_⟩;refine GS.gI ht hs pl pu (by rw[WM];exact hw) ⟨.ref a,H,I,rfl,q _ H (au.refl H) ?_⟩;have e:jg xs lo hi=xs:=by
   unfold jg;rw[hw.1,hw.2];simp
  rw[e];exact hq
 ·exact xt WG s σ H _ v vl vu lo hi sl Q I rx hs pl pu ⟨a,xs,rfl,hq,hw,fun p hp=>q _ _ (GS.ae hp _) (fh.of ao)⟩
end
end L2
namespace L3
open PySem PyProof.Rows L2
section
variable {X:Cx}{o i:Expr}{pos:Pos}{td ty:TE}
theorem BB (hu:X.A.units+1 < cLine) (hi:LE X i ty) (ho:LE X o td) (hm:behindInMarks .In o=false:=by rfl):LT X (.Compare i [.In] [o] pos) (tB (En ty td)):=.mk (L2.BC (L2.BH hu hi.out ho.out) hm)
theorem eI (hu:X.A.units+1 < cLine) (ho:LE X o td) (hi:LE X i ty) (hs:z6 i:=by intro _ _;rfl):LE X (.Subscript o i pos) (Ah td ty):=.mk (L2.eI hu ho.out hi.out hs)
end
end L3
namespace GS
open PySem L2 PyProof.Rows
section
variable {X:Cx}
def GZ:D->String
 | .bj=>"NoneType" | .bl _=>"bool" | .int _=>"int" | .str _=>"str" | .tup _=>"tuple"
theorem F2 {WG σ H s x u d}(I:Inv X WG σ H s) (rx:RelV x u) (hx:At X.K H d x):∃HP,PySem.W.KitX X.K u (.type (GZ d)) HP/\HP s.heap/\u≠Value.builtin "__main__.__loader__#opaque":=by
 cases d with
 | bj=>rw[cB.mp hx] at rx;cases (show u=Value.none from rx);exact⟨_,PySem.W.kitx_none,True.intro,(fun z=>nomatch z)⟩
 | bl y=>rw[cL.mp hx] at rx;cases (show u=Value.bool y from rx);exact⟨_,PySem.W.kitx_bool,True.intro,(fun z=>nomatch z)⟩
 | int i=>rw[bc.mp hx] at rx;obtain⟨t,q⟩:=(show ∃t,u=Value.int i t from rx);cases q;exact⟨_,PySem.W.kitx_int,True.intro,(fun z=>nomatch z)⟩
 | str y=>rw[av.mp hx] at rx;obtain⟨t,q⟩:=(show ∃t,u=Value.str y t from rx);cases q;exact⟨_,PySem.W.kitx_str,True.intro,(fun z=>nomatch z)⟩
 | tup ds=>
  obtain⟨p,vs,rfl,hq,_⟩:=aX.mp hx;cases (show u=Value.ref p from rx);obtain⟨WJ,_,⟨o,h1,h2,_⟩,_⟩:=I.tuple hq;exact⟨_,PySem.W.kitx_tuple,⟨o,h1,h2⟩,(fun z=>nomatch z)⟩
theorem pO:gm X (.builtin "isinstance") (fun xs H Q=>∃x T d b,xs=[x,.ty T]/\At X.K H d x/\PySem.W.kitOne X.K (.type (GZ d)) (.type T)=some b/\Q (.bl b) H):=by
 intro WG s σ H xs us Q I r h;obtain⟨x,T,d,b,rfl,hx,hk,q⟩:=h;obtain⟨u,w',rfl,r1,r2⟩:=vals2 r;cases r2;obtain⟨HP,kx,hh,ne⟩:=F2 I r1 hx;exact PySem.W.kia_one kx I.sU hh hk ne fun tk=>⟨.bl b,H,I.tok _,rfl,q⟩
end
end GS
namespace L2
open PySem PySem.Spec PyProof.Rows PySem.Builtin PySem.Builtin.Str
theorem Inv.u7 {X:Cx}{WG:List (Addr×Obj)}{σ:St}{H:Hp}{s:Shared}{fp:List Addr}{T:Addr}{o:HO}{h':Heap}{t':Nat}(I:Inv X WG σ H s) (k:∀b u,b∉fp->s.heap.get? b=some u->h'.get? b=some u)
  (hf:∀b∈fp,mr X WG H b) (hT:s.heap.objs.size<=T) (new:eG X.prog X.w (WX H T o) h' T o):Inv X WG σ (WX H T o) { s with heap:=h',toks:=t' }:=by
 have hn:=I.cP.fresh hT;have nf:∀b u,H b=some u->b∉fp:=fun b u e hb=>by rw[(hf b hb).1] at e;cases e
 refine I.yG (ch:=fp) (s':={ s with heap:=h',toks:=t' }) rfl ⟨fun b o q _ _ hx=>k b o hx q,fun b o q _ _ hx=>⟨o.slots,k b o hx q⟩,fun b u q n _=>?_,fun b o q hx=>⟨o,k b o hx q⟩,fun b xs q=>?_,fun b u xs q=>?_,fun b ps q=>⟨#[],?_⟩⟩ ?_ I.bare
  fun b hb=>⟨(hf b hb).2.2.2.1,(hf b hb).2.1,(hf b hb).2.2.2.2.1,(hf b hb).2.2.2.2.2⟩
 ·rw[aB (Jx (Ju (Jw q) hT))];exact n
 ·rw[aB (cU q hn)];exact q
 ·rw[aB (cU q hn)];exact q
 ·rw[aB (cU q hn),q];simp
 ·intro b u e;by_cases hb:b=T
  ·subst hb;rw[ao] at e;cases e;exact new
  ·rw[aB hb] at e;refine(I.cP b u e).sD (fun c v hc q=>k c v ?_ q) (fun c q=>by rw[aB (cU q hn)];exact q) fun c xs q=>by rw[aB (cU q hn)];exact q
   rcases hc with z | z
   ·rw[z];exact nf b u e
   ·exact nf c _ z
def Gz (K:Fg06) (a:Addr):It:=
 ⟨fun i H=>∃xs x,bf K H a xs/\xs[i]?=some x,fun i H x H'=>∃T y,H T=none/\x=.ref T/\H'=WX H T (.tup [.int (i:Nat),y])/\∀xs,bf K H a xs->xs[i]?=some y,fun i H=>∃xs,bf K H a xs/\xs.length<=i⟩
theorem va {P w K elts}{x1:Nat} {pos}(a e it:Addr) (Vz:e≠it):Turn P w K (.Tuple elts x1 pos) (Gz K a) [e,it] e (fun i h=>(∃old,IsEnum h e it i old)/\h.IsListIter it a i) where
 mem:=by simp
 obj:=fun i h st b hb=>by
  obtain⟨⟨old,he⟩,hit⟩:=st;rcases Jv.mp hb with rfl | hb
  ·exact⟨_,he,fun v z=>by cases z⟩
  ·have eb:b=it:=by simpa using hb
   subst eb;obtain⟨o,e,c,d⟩:=hit;exact⟨o,e,fun v z=>by rw[d] at z;cases z⟩
 keep:=fun i h h' st k=>by
  obtain⟨⟨old,he⟩,hit⟩:=st;exact⟨⟨old,k e (by simp) _ he⟩,hit.at fun o z=>k it (by simp) o z⟩
 item:=by
  intro X hP hw hK hc i WG s σ H E I hf st hg;subst hP hw hK;obtain⟨⟨old,he⟩,hit⟩:=st;obtain⟨xs,x,hq,hx⟩:=hg;obtain⟨WJ,rv,p,hz⟩:=I.list hq;obtain⟨u,hu,ru⟩:=rv.get hx;have QA:e < s.heap.objs.size:=Jw he;have hilt:it < s.heap.objs.size:=by obtain⟨_,z,_⟩:=hit;exact Jw z
  refine wpAny_pyNext_enum_item he hit p.isList (x:=u) (by simpa using hu) Vz fun h1 ho1 hit1 hT1 hsz1 L7=>?_;refine⟨_,rfl,wpAny_letOwnedTupleGo_enum ho1 fun h2 he2 K5=>?_⟩;have hT2:h2.get? s.heap.objs.size=some { cls:=.type "tuple",data:=.seq #[.int i s.toks,u] }:=(K5.2 _ (Nat.ne_of_gt QA)).trans hT1;refine⟨.ref s.heap.objs.size,WX H s.heap.objs.size (.tup [.int (i:Nat),x]),?_,rfl,⟨_,x,I.cP.fresh (IW _),rfl,rfl,fun ys hy=>by rw[I.rz hy hq];exact hx⟩,⟨⟨_,by simpa using he2⟩,hit1.at fun o z=>(K5.2 it Vz.symm).trans z⟩,fun b hb=>?_⟩
  ·refine Inv.u7 (s:=s) (h':=h2) (fp:=[e,it]) (t':=s.toks+1) I (fun b o hb q=>?_) hf (IW _) ⟨by show 2<=sizeLine;decide,_,.cons ⟨_,rfl⟩ (.cons ru .nil),⟨_,hT2,rfl,_,rfl⟩⟩;have Li:b≠e:=fun z=>hb (by simp[z]);have QH:b≠it:=fun z=>hb (by simp[z]);exact(K5.2 b Li).trans (L7 b o Li QH q)
  ·have JR:b < s.heap.objs.size:=by
    rcases Jv.mp hb with rfl | hb
    ·exact QA
    ·have eb:b=it:=by simpa using hb
     subst eb;exact hilt
   rw[aB (Jx JR)];exact(hf b hb).1
 done:=by
  intro X hP hw hK hc i WG s σ H E I hf st hg;subst hP hw hK;obtain⟨⟨old,he⟩,hit⟩:=st;obtain⟨xs,hq,hx⟩:=hg;obtain⟨WJ,rv,p,hz⟩:=I.list hq;obtain⟨f0,f1,f2,f3,f4,f5⟩:=hf it (by simp);have hl:=rv.length;exact wpAny_pyNext_enum_end (I.ok.hd hc) he hit p.isList (by simp;omega) fun h' eb=>⟨rfl,I.turned (t':=s.toks) (fun b o hb e=>eb b o hb e) f0 f1 f3 f4 f5⟩
 self:=fun _ _ _ _ _ st h=>let ⟨⟨_,he⟩,_⟩:=st;wpAny_pyIter_enum he h
theorem wa:bootBuiltins "enumerate"=some (.type "enumerate"):=by decide +kernel
section
variable {X:Cx}{elts:List Expr}{x1:Nat}{tpos:Pos}
def F5 (K:Fg06) (ta:TA):TI:=fun σ H R=>ta σ H fun vs H1=>∃a,vs=[.ref a]/\(∃xs,bf K H1 a xs)/\R (Gz K a) H1
theorem zm {a ta p pos}(hg:Gl X "enumerate") (hm:X.mg "enumerate"=none) (ha:PA X [a] ta) (hs:starEach [a] X.env=[(false,eval a X.env)]:=by rfl):PI X (.Tuple elts x1 tpos) (.Call (.Name "enumerate" p) [a] [] pos) (F5 X.K ta):=by
 intro WG s σ H R I h;refine Call_ (kj I hg hm wa (PyProof.Rows.callWith_type1 (dh (ha pos WG s σ H _ I h) fun us s1 ⟨vs,H1,I1,r1,q1⟩=>?_) hs rfl));obtain⟨l,e,⟨xs,hq⟩,q⟩:=q1;subst e;obtain⟨u,rfl,ru⟩:=vals1 r1;cases ru;obtain⟨WJ,rv,p,hz⟩:=I1.list hq;refine call_enumerate_list p.isList fun h' he hit hsz hk=>wpAny_pyIter_enum he ?_;refine⟨s1.heap.objs.size+1,[s1.heap.objs.size+1,s1.heap.objs.size],_,_,H1,rfl,I1.kept (t':=s1.toks) hk,va l _ _ (Nat.succ_ne_self _),⟨⟨_,he⟩,hit⟩,fun b hb=>?_,q⟩;have VF:s1.heap.objs.size<=b:=by
  rcases Jv.mp hb with rfl | hb
  ·exact Nat.le_succ _
  ·have eb:b=s1.heap.objs.size:=by simpa using hb
   exact Nat.le_of_eq eb.symm
 exact I1.yr VF (I1.cP.fresh VF)
end
theorem yu {K:Fg06}{a:Addr}{xs:List V}{g:TG}{tb:TS}{D:W0}{σ:St}{H:Hp}(Pv:Nat->St->Hp->Prop) (h0:Pv 0 σ H) (hl:∀i σ H,i<=xs.length->Pv i σ H->bf K H a xs)
  (hs:∀i x σ H T,xs[i]?=some x->Pv i σ H->H T=none->g (.ref T) σ (WX H T (.tup [.int (i:Nat),x])) fun σ2 H2=>tb { D with nx:=Pv (i+1),ct:=Pv (i+1),bk:=D.nx } σ2 H2) (hd:∀σ H,Pv xs.length σ H->D.nx σ H):
  ∃W:Nat->Nat->St->Hp->Prop,(∃m,W 0 m σ H)/\∀i m σ H,W i m σ H->
   ((Gz K a).stop i H/\D.nx σ H)\/((Gz K a).go i H/\∃N:St->Hp->Prop,(∀σ' H',N σ' H'->∃m',m' < m/\W (i+1) m' σ' H')/\∀x H',(Gz K a).tT i H x H'->g x σ H' fun σ2 H2=>tb { D with nx:=N,ct:=N,bk:=D.nx } σ2 H2):=by
 refine⟨fun i m σ H=>m=xs.length - i/\i<=xs.length/\Pv i σ H,⟨xs.length,by simp,Jr _,h0⟩,?_⟩;rintro i m σ H ⟨rfl,hi,p⟩;have q:=hl i σ H hi p;by_cases JR:i < xs.length
 ·refine .inr ⟨⟨xs,xs[i],q,by simp[JR]⟩,Pv (i+1),fun σ' H' p'=>⟨xs.length - (i+1),by omega,rfl,JR,p'⟩,fun x H' y=>?_⟩;obtain⟨T,y',hT,rfl,rfl,hy⟩:=y;exact hs i y' σ _ T (hy xs q) p hT
 ·have e:i=xs.length:=by omega
  subst e;exact .inl ⟨⟨xs,q,IW _⟩,hd σ H p⟩
section
variable {X:Cx}
end
end L2
namespace L2
open PySem PySem.Spec PyProof.Rows
section
variable {X:Cx}{o e:Expr}{td ty:TE}{WR WO:Pos}
end
end L2
namespace L3
open PySem PyProof.Rows L2
section
variable {X:Cx}{pos WR WO:Pos}{k v o e f a b c:Expr}{ks:List (Option Expr)}{vs:List Expr}{tk tv td ty tx ta tb tc:TE}{WV:List (TE×TE)}
@[irreducible] def yY (X:Cx) (pos:Pos) (ks:List (Option Expr)) (vs:List Expr) (WV:List (TE×TE)):Prop:=DH X pos ks vs WV
theorem yY.mk (h:DH X pos ks vs WV):yY X pos ks vs WV:=by unfold yY;exact h
theorem yY.out (h:yY X pos ks vs WV):DH X pos ks vs WV:=by unfold yY at h;exact h
theorem lp:yY X pos [] [] []:=.mk L2.lp
theorem fj (hk:LE X k tk) (hv:LE X v tv) (hr:yY X pos ks vs WV):yY X pos (some k::ks) (v::vs) ((tk,tv)::WV):=.mk (L2.fj hk.out hv.out hr.out)
theorem lF (h:yY X pos ks vs WV) (JW:ks.all (·.isSome)=true:=by rfl) (hl:ks.length=vs.length:=by rfl) (h0:ks≠[]:=by simp) (TL:ks.length<=15:=by decide):LE X (.Dict ks vs pos) (Ag WV):=.mk (L2.lF h.out JW hl h0 TL)
theorem nN {op N1 r r'}(ho:gQ X (compareOp op) r) (Ko:gQ X (compareOp N1) r') (ha:LE X a ta) (hb:LE X b tb) (hc:LE X c tc)
  (hm:lastMarks [op,N1] [b,c]=false:=by with_unfolding_all rfl):LT X (.Compare a [op,N1] [b,c] pos) (qJ (wB r r' ta tb tc)):=.mk (L2.nN ho Ko ha.out hb.out hc.out hm)
end
end L3
namespace GS
open PySem PySem.Spec PyProof.Rows
theorem nY:typeLookup (.type "list") "keys"=pure none:=by rw[typeLookup_type,builtinLookup_eq_fast];kernel_rfl
theorem oV {prog w A E s a o xs k Q}
  (hx:s.heap.get? a=some o) (hc:o.cls=.type "list") (QE:o.data=.seq xs k) (hd:o.dict=none) (hA:A.handled=none)
  (h:∀h' tk,(∀b ob,s.heap.get? b=some ob->h'.get? b=some ob)->Q none { s with heap:=h',toks:=tk }):wpAny (model prog w) A (getAttr? (.ref a) "keys") Q E s:=by
 obtain⟨c,dct,dat,sl⟩:=o;simp only at hc QE hd;subst hc QE hd;obtain⟨hp,g,d,tk,os⟩:=s;have hT:∀Uu,(⟨hp,g,d,Uu,os⟩:Shared).TypeIs (.ref a) "list":=fun _=>⟨_,hx,rfl⟩;have f1:=sub_AttributeError;have f3:=F.slot_list_getattribute.lookup;have f4:=F.slot_list_getattribute.bind (.ref a);have f5:=am_list_getattr_none;unfold getAttr? getAttrBy? getAttrBy
 repeat (any_goals (first | assumption | exact hT _ | ((with_reducible show wpAny _ _ (call (Value.builtin "list.__getattribute__") _ _) _ _ _);refine call_meets F.slot_list_getattribute (hT _) am_entry_list_getattribute (F.args_list_getattribute_2 _ _) (meets_getattribute_miss_list a xs k sl "keys" _ nY (by decide +kernel)) ⟨hx,hA,fun h' Uu e O2=>?_⟩) | wp_step))
 obtain⟨t',u',he⟩:=O2.there;show wpAny _ _ (getattributeRaised _ _ _ _ _ _ _) _ _ _;unfold getattributeRaised
 repeat (any_goals (first | assumption | wp_step))
 exact h _ _ O2.keeps
theorem je:entryFor table "dict.update.loop"=some Builtin.«dict.update.loop»:=entryFor_of_tree (by kernel_rfl)
theorem fN:plainId "dict.update.loop"=true:=by decide +kernel
def jb (kv:Nat->L2.Key×Value) (i:Nat):List (L2.Key×Value):=merged [] ((List.range i).map kv)
theorem mD (kv i):jb kv (i+1)=stored (jb kv i) (kv i).1 (kv i).2:=by
 unfold jb merged;rw[List.range_succ,Jt,List.foldl_append];rfl
theorem sC (WI) (k:L2.Key) (v):(stored WI k v).length<=WI.length+1:=by
 unfold stored;split
 ·rw[IU];omega
 ·rw[IJ,Jy];exact IW _
theorem ot (kv):∀i,(jb kv i).length<=i
 | 0=>IW _
 | i+1=>by
  rw[mD];have h1:=sC (jb kv i) (kv i).1 (kv i).2;have h2:=ot kv i;omega
section
variable {prog:Program}{w:World}{A:Around}{R:Result->Shared->Prop}{I:Addr}{fp wr:List Addr}{n:Nat}{P:Nat->Value->Prop}{St:Nat->Heap->Prop}
theorem lK (W:Walks prog w A.in1 I fp wr n P St) (d:Addr) (Ls:d∉fp) (kv:Nat->L2.Key×Value) (pr:Nat->Addr) (ks:Nat->Value) (hP:∀i v,i < n->P i v->v=.ref (pr i)) (hk:∀i,i < n->(L2.cC prog w).is (kv i).1 (ks i)=true)
  (RJ:∀i,i < n->pr i≠d/\pr i∉wr) (hz:n<=sizeLine):
  ∀(k i:Nat) (s:Shared) (t:Tok),n - i=k->i<=n->St i s.heap->s.heap.DictOf (L2.cC prog w) d (jb kv i)->(∀j,j < n->IsTup s.heap (pr j) #[ks j,(kv j).2])->
   (∀h' tk,(∀b o,b≠d->b∉wr->s.heap.get? b=some o->h'.get? b=some o)->h'.DictOf (L2.cC prog w) d (jb kv n)->R (.ok (.ret .none)) { s with heap:=h',toks:=tk })->
   codeAny (model prog w) A (.builtin "dict.update.loop" ⟨[.ref d,.ref I,.int (i:Nat) t,.none],[]⟩) R s:=by
 have OA:d∉wr:=fun h=>Ls (W.sub _ h);intro k
 induction k with
 | zero=>
  intro i s t hki hi KO hD hT hR;have MI:i=n:=by omega
  subst MI;refine codeAny_builtin je ?_;rw[Around.under_plainId fN _];show wpAny _ A.in1 (pyNext (.ref I) >>= _) _ _ s;refine Ja (W.done s _ _ KO fun h' tk hm=>?_);show wpAny _ A.in1 (Builtin.Dict.addKeywords d [] >>= _) _ _ _;exact Ja (Jb (Jb (hR h' tk (fun b o _ hb e=>hm b o hb e) (by
   obtain⟨o,es,ep,ho,rest⟩:=hD;exact⟨o,es,ep,hm d _ OA ho,rest⟩))))
 | succ k ih=>
  intro i s t hki hi KO hD hT hR;have JR:i < n:=by omega
  refine codeAny_builtin je ?_;rw[Around.under_plainId fN _];show wpAny _ A.in1 (pyNext (.ref I) >>= _) _ _ s;refine Ja (W.item i s _ _ JR KO fun v h' tk hPv hst' hm=>?_);have ev:=hP i v JR hPv;subst ev;have MS:h'.DictOf (L2.cC prog w) d (jb kv i):=by
   obtain⟨o,es,ep,ho,rest⟩:=hD;exact⟨o,es,ep,hm d _ OA ho,rest⟩
  have VJ:∀j,j < n->IsTup h' (pr j) #[ks j,(kv j).2]:=fun j hj=>by
   obtain⟨o,ho,rest⟩:=hT j hj;exact⟨o,hm _ _ (RJ j hj).2 ho,rest⟩
  obtain⟨o,ho,Nb,m,MH⟩:=id (VJ i JR);have hTy:(⟨h',s.gens,s.drawn,tk,s.os⟩:Shared).TypeIs (.ref (pr i)) "tuple":=⟨o,ho,Nb⟩;refine Ja (wpAny_holding (Ja ?_));refine wpAny_tryCatch ?_;unfold Builtin.Dict.pairItems;refine Ja (wpAny_typeOf hTy ?_);rw[IZ (by decide)];refine Ja (wpAny_seqItems ho MH ?_);refine Jb ?_;show wpAny _ A.in1 (holding [ks i,(kv i).2] (dictSet d (ks i) (kv i).2)) _ _ _;refine wpAny_holding (wpAny_dictSet_pairs (hk i JR) MS (fun h2 TJ Lo=>?_) (IV (ot kv i) (by omega)));rw[<-mD] at TJ;refine Jb ⟨plainId_quiet fN _,?_⟩;have hcast:((i:Nat):Int)+1=((i+1:Nat):Int):=by omega
  rw[hcast];refine ih (i+1) _ _ (by omega) JR (W.frame _ _ _ hst' fun b hb o e=>?_) TJ (fun j hj=>?_) fun h3 tk3 Ms hD3=>?_
  ·rw[Lo.2 b (fun h:b=d=>Ls (by rw[<-h];exact hb))];exact e
  ·obtain⟨o,ho,rest⟩:=VJ j hj;exact⟨o,(Lo.2 _ (RJ j hj).1).trans ho,rest⟩
  ·exact hR h3 tk3 (fun b o hb VD e=>Ms b o hb VD ((Lo.2 b hb).trans (hm b o VD e))) hD3
end
open L2
theorem pd:∀{ps:List Addr}{WJ:List Value},WY (ps.map V.ref) WJ->WJ=ps.map Value.ref
 | [],_,h=>by rw[List.map_nil] at h;cases h;rfl
 | p::ps,_,h=>by
  rw[W5] at h;cases h with
  | cons a b=>rw[pd b,show _=Value.ref p from a];rfl
theorem ye {WI:List (Key×V)}{g:Nat->Key×Value}(h:∀i kv,WI[i]?=some kv->kv.1=(g i).1/\RelV kv.2 (g i).2):KV WI ((List.range WI.length).map g):=by
 induction WI generalizing g with
 | nil=>exact .nil
 | cons a r ih=>
  rw[Jf,List.range_succ_eq_map,W5,List.map_map];exact .cons (h 0 a rfl) (ih fun i kv e=>h (i+1) kv e)
section
variable {X:Cx}
theorem tJ (hc:X.calm=true):gm X (.type "dict") (fun xs H Q=>∃(p:Addr) (ps:List Addr) (WI:List (Key×V)),xs=[.ref p]/\bf X.K H p (ps.map V.ref)/\ps.length=WI.length/\(∀(i:Nat) (a:Addr) (kv:Key×V),ps[i]?=some a->WI[i]?=some kv->fh X.K H a [kV kv.1,kv.2])/\WI.length<=sizeLine/\
  ∀l,H l=none->Q (.ref l) (WX H l (.dK (eL [] WI)))):=by
 intro WG s σ H xs us Q I r h;obtain⟨p,ps,WI,rfl,hq,WM,hT,hz,q⟩:=h;obtain⟨u,rfl,ru⟩:=vals1 r;cases ru;obtain⟨WJ,rv,pl,hzz⟩:=I.list hq;have ei:=pd rv;subst ei;have JX:p < s.heap.objs.size:=let ⟨o,n,e,_⟩:=pl;Jw e;have hex:∀i:Nat,∃y:Addr×(Key×Value)×Value,i < WI.length->ps[i]?=some y.1/\(∀kv,WI[i]?=some kv->kv.1=y.2.1.1/\RelV kv.2 y.2.1.2)/\(cC X.prog X.w).is y.2.1.1 y.2.2=true/\IsTup s.heap y.1 #[y.2.2,y.2.1.2]:=fun i=>by
  by_cases hi:i < WI.length
  ·have NA:i < ps.length:=by omega
   obtain⟨Kb,r2,p2,_⟩:=I.tuple (hT i ps[i] WI[i] (by simp[NA]) (by simp[hi]));cases r2 with
   | @cons _ u1 _ us1 a1 b1=>
    cases b1 with
    | @cons _ u2 _ Us a2 b2=>
     cases b2;refine⟨(ps[i],(WI[i].1,u2),u1),fun _=>⟨by simp[NA],fun kv e=>?_,oa a1,p2⟩⟩;have:WI[i]=kv:=by simpa[hi] using e
     rw[<-this];exact⟨rfl,a2⟩
  ·exact⟨(0,(.inl 0,.none),.none),fun z=>Xc z hi⟩
 obtain⟨y,hy⟩:=Classical.axiomOfChoice hex;refine callType_codes (Q₁:=fun obj s₁=>obj=.ref s.heap.objs.size/\s₁={ s with heap:=s.heap.push { cls:=.type "dict",data:=.dict #[] } }) F.kt_called_dict (F.kt_typeCall_dict_1 _) F.entry_dict_init (kt_code_dict_new _ ⟨rfl,rfl⟩) ?_;rintro obj s₁ ⟨rfl,rfl⟩;have Ng:(s.heap.push { cls:=.type "dict",data:=.dict #[] }).DictOf (cC X.prog X.w) s.heap.objs.size []:=Heap.DictOf.new s.heap;refine⟨Ng.typeIs,F.args_dict_init_2 _ _,?_⟩;unfold Builtin.«dict.__init__»;refine Ja ?_;unfold Builtin.Dict.selfAndRest;refine Ja (wpAny_notOrdered_dict Ng.typeIs ?_);show wpAny _ _ (pure (s.heap.objs.size,[Value.ref p])) _ _ _;refine Jb ?_;show wpAny _ _ (Builtin.Dict.updateFrom "dict.__init__" s.heap.objs.size (.ref p) [] .none) _ _ _;unfold Builtin.Dict.updateFrom;obtain⟨o,nn,e,Nb,MH⟩:=id pl;have e1:(s.heap.push { cls:=.type "dict",data:=.dict #[] }).get? p=some o:=Jc _ e;refine Ja (wpAny_typeOf (T:="list") ⟨o,e1,Nb⟩ ?_);rw[IZ (by decide)];have VA:=I.ok.hd hc;refine Ja (oV (xs:=(ps.map Value.ref).toArray) (k:=nn) e1 Nb MH.2 MH.1 VA fun h1 tk1 L7=>?_);show wpAny _ _ (rule _ >>= _) _ _ _;have e2:h1.get? p=some o:=L7 _ _ e1;have hL:h1.IsList p (ps.map Value.ref).toArray:=⟨o,e2,Nb,nn,MH.2⟩;refine Ja (wpAny_rule (Ja (wpAny_pyIter_list (s:=⟨h1,s.gens,s.drawn,tk1,s.os⟩) hL ?_)));have hsz:s.heap.objs.size < h1.objs.size:=by
  obtain⟨o',_,_,Ko,_⟩:=Ng;exact Jw (L7 _ _ Ko)
 refine Jb ⟨plainId_quiet fN _,?_⟩;have LM:(ps.map Value.ref).toArray.size=WI.length:=by rw[W4,IU];exact WM
 have keep:∀b ob,s.heap.get? b=some ob->(h1.push { cls:=.type "list_iterator",data:=.fields #[.ref p,.int 0 0] }).get? b=some ob:=fun b ob hb=>Jc _ (L7 _ _ (Jc _ hb));have hpI:p≠h1.objs.size:=Jx (Nat.lt_trans JX hsz);have hold:∀{b ob},s.heap.get? b=some ob->b≠s.heap.objs.size/\b∉[h1.objs.size]:=fun {b ob} hb=>by
  have:=Jw hb;exact⟨Jx this,fun m=>by rw[W7] at m;exact Nat.lt_asymm hsz (m▸this)⟩
 have hd2:X.A.in1.in1.handled=none:=VA;refine lK (A:=X.A.in1) (Walks.list (A:=X.A.in1.in1) hd2 h1.objs.size p hpI (ps.map Value.ref).toArray) s.heap.objs.size (fun m=>?m1) (fun i=>(y i).2.1) (fun i=>(y i).1) (fun i=>(y i).2.2) (fun i v hi hv=>?m2) (fun i hi=>(hy i (by rw[<-LM];exact hi)).2.2.1) (fun i hi=>?m3) (by rw[LM];exact hz) _ 0 _ 0 rfl (Jr _) ⟨?m4,?m5⟩ ?m6 (fun j hj=>?m7) (fun h' tk hk hD=>?m8)
 case m1=>
  simp only[List.mem_cons,List.not_mem_nil,or_false] at m;rcases m with m | m
  ·exact Jx hsz m
  ·exact Jx JX m.symm
 case m2=>
  have LN:i < WI.length:=by rw[<-LM];exact hi
  have TM:=(hy i LN).1;have:(ps.map Value.ref)[i]?=some v:=by simpa using hv
  rw[I0,TM] at this
  simpa using this.symm
 case m3=>
  obtain⟨_,_,_,o',Ko,_⟩:=hy i (by rw[<-LM];exact hi);exact hold Ko
 case m4=>exact⟨_,JA _ rfl,rfl,rfl⟩
 case m5=>exact⟨o,Jc _ e2,Nb,nn,MH.2⟩
 case m6=>
  obtain⟨o',es,ep,Ko,rest⟩:=Ng;exact⟨o',es,ep,Jc _ (L7 _ _ Ko),rest⟩
 case m7=>
  obtain⟨_,_,_,o',Ko,rest⟩:=hy j (by rw[<-LM];exact hj);exact⟨o',keep _ _ Ko,rest⟩
 case m8=>
  have rel:KV WI ((List.range WI.length).map fun i=>(y i).2.1):=ye fun i kv e=>(hy i (Jn.mp e).1).2.1 kv e;have MS:h'.DictOf (cC X.prog X.w) s.heap.objs.size (merged [] ((List.range WI.length).map fun i=>(y i).2.1)):=by
   have:jb (fun i=>(y i).2.1) (ps.map Value.ref).toArray.size=merged [] ((List.range WI.length).map fun i=>(y i).2.1):=by rw[LM];rfl
   rw[<-this];exact hD
  have LK:(eL [] WI).length<=sizeLine:=IV (iQ WI []) (by simpa using hz);refine⟨rfl,.ref s.heap.objs.size,_,I.laid (a:=s.heap.objs.size) (o:=.dK (eL [] WI)) (h':=h') (t':=tk) (fun b u hb=>?_) (IW _) (tH LK (beq_eq_false_iff_ne.mpr (W3 (Jx I.big))) (rel.merge .nil) MS),rfl,q _ (I.cP.fresh (IW _))⟩;exact hk b u (hold hb).1 (hold hb).2 (keep _ _ hb)
end
end GS
namespace GS
open PySem PyProof.Rows L2
structure jD (P:Program) (w:World) (K:Fg06) (mg:Str->Option Value) (base:Heap) (name:Str) (C:Addr) (ps:List Str) (k:Nat) (sp:Sp):Prop where
 ex:∃f fd,mg name=some (.ref C)/\Mk K C f/\Binds K fd ps []/\bK P w K mg base eh k f fd ps sp
end GS
namespace L3
open PySem PyProof.Rows L2
section
variable {X:Cx}{e o value:Expr}{es:List Expr}{f:Str}{pos pos' p WR:Pos}{ta tv te:TE}{t:TA}
theorem bA (he:LE X e ta) (hb:attributeBase e f X.env (eval e X.env)=eval e X.env:=by rfl):LE X (.Attribute e f pos) (A1 X.K ta f):=.mk (L2.bA he.out hb)
theorem cD (ha:LE X o ta) (hv:LE X value tv) (hs:swapsWith value (some (.Attribute o f pos')) pos.line X.env=pure false:=by rfl):LS X (.Assign [.Attribute o f pos'] value pos) (E2 X.K ta tv f):=.mk (L2.cD ha.out hv.out hs)
theorem j5 {name C ps k k' sp}(M:GS.jD X.prog X.w X.K X.mg X.base name C ps k sp) (hr:dY (k'+1) X.A) (hk:k<=k') (hg:Gl X name) (ha:LA X (e::es) t)
  (KG:(name == ("__debug__":Str))=false:=by decide) (he:starEach (e::es) X.env=(false,eval e X.env)::starEach es X.env:=by rfl) (JX:(backTo pos (starEach es X.env)).any (·.1)=false:=by rfl):
  LE X (.Call (.Name name p) (e::es) [] pos) (Ae C sp [] E0 t):=by
 obtain⟨f,fd,h1,h2,h3,h4⟩:=M.ex;exact .mk (L2.zp h2 (h4.mono hk) hr hg h1 h3 .nil Az ha.out KG he JX)
end
end L3
namespace GS
open PySem PyProof.Rows
open L2 hiding ah jd bV ak pv bz fY aH ju eJ cZ cT jv bx fV ck bZ bR cJ bI bB aI fI aJ bS dZ fg bT fb cv cY cS eY gs fX ef gW cx ee cg aD bW iI iJ br fH d9 aP ag aq
open L3
theorem jY:1<=sizeLine:=by decide
theorem eX:2<=sizeLine:=by decide
theorem wD:3<=sizeLine:=by decide
theorem DS:4<=sizeLine:=by decide
theorem Er:5<=sizeLine:=by decide
theorem sz6:6<=sizeLine:=by decide
theorem cW {n:Nat}:(0:Int) < ((n+1:Nat):Int):=by omega
theorem cE {H:Hp}{p q:Addr}{o o':Option HO}(h:H p=o) (h':H q=o') (n:o≠o':=by intro h;cases h):p≠q:=fun y=>n (by rw[<-h,<-h',y])
end GS
namespace L3
open PySem PySem.Spec PyProof.Rows L2
section
variable {X:Cx}{e a b c d:Expr}{es:List Expr}{te ta tb tc td:TE}{t:TA}{pos p:Pos}
theorem bX {name:Str}{ps:List Str}{k k':Nat}{sp:Sp}(F:GS.Def X.prog X.w X.K X.mg X.base name ps k sp) (ha:LA X (e::es) t) (hr:dY k' X.A:=by assumption) (hk:k<=k':=by decide) (hg:Gl X name:=by rfl)
  (KG:(name == ("__debug__":Str))=false:=by decide) (he:starEach (e::es) X.env=(false,eval e X.env)::starEach es X.env:=by rfl) (JX:(backTo pos (starEach es X.env)).any (·.1)=false:=by rfl):
  LE X (.Call (.Name name p) (e::es) [] pos) (qL sp [] E0 t):=sN F hr hk hg ha KG he JX
theorem ff (K:Fg06) (ha:LE X a ta) (hb:LE X b tb) (hK:X.K=K:=by rfl) (hs:qB b:=by exact fun _ _=>rfl):LE X (.Subscript a b pos) (tY (Bz K) ta tb):=by subst hK;exact fV lG ha hb hs
theorem ib {op:CmpOp}{r:R2}(ho:gQ X (compareOp op) r) (ha:LE X a ta) (hb:LE X b tb) (hm:behindInMarks op b=false:=by exact xR _):LE X (.Compare a [op] [b] pos) (tY r ta tb):=eJ ho ha hb hm
theorem cR {op:CmpOp}{r:R2}(ho:gQ X (compareOp op) r) (ha:LE X a ta) (hb:LE X b tb) (hm:behindInMarks op b=false:=by exact xR _):LT X (.Compare a [op] [b] pos) (qJ (tY r ta tb)):=fg ho ha hb hm
theorem cw (ha:LE X a ta) (s1:starEach [a] X.env=(false,eval a X.env)::starEach [] X.env:=by rfl):LA X [a] (gR ta su):=bI ha cJ s1
theorem bF (ha:LE X a ta) (hb:LE X b tb) (s2:starEach [a,b] X.env=(false,eval a X.env)::starEach [b] X.env:=by rfl) (s1:starEach [b] X.env=(false,eval b X.env)::starEach [] X.env:=by rfl):LA X [a,b] (gR ta (gR tb su)):=bI ha (cw hb s1) s2
theorem ia (ha:LE X a ta) (hb:LE X b tb) (hc:LE X c tc) (s3:starEach [a,b,c] X.env=(false,eval a X.env)::starEach [b,c] X.env:=by rfl) (s2:starEach [b,c] X.env=(false,eval b X.env)::starEach [c] X.env:=by rfl) (s1:starEach [c] X.env=(false,eval c X.env)::starEach [] X.env:=by rfl):LA X [a,b,c] (gR ta (gR tb (gR tc su))):=bI ha (bF hb hc s2 s1) s3
theorem lV (ha:LE X a ta) (hb:LE X b tb) (hc:LE X c tc) (hd:LE X d td) (s4:starEach [a,b,c,d] X.env=(false,eval a X.env)::starEach [b,c,d] X.env:=by rfl) (s3:starEach [b,c,d] X.env=(false,eval b X.env)::starEach [c,d] X.env:=by rfl) (s2:starEach [c,d] X.env=(false,eval c X.env)::starEach [d] X.env:=by rfl) (s1:starEach [d] X.env=(false,eval d X.env)::starEach [] X.env:=by rfl):LA X [a,b,c,d] (gR ta (gR tb (gR tc (gR td su)))):=bI ha (ia hb hc hd s3 s2 s1) s4
theorem i6 (i:Nat){x:Str}(hN:X.N.Nodup) (hi:X.N[i]?=some x:=by rfl) (hx:Loc X.env.scope x:=by first | exact .inl rfl | exact .inr rfl) (hf:X.fn x=true\/X.env.scope.names.lookup x=some .local:=by first | exact .inl rfl | exact .inr rfl | assumption):LG X (.Name x pos) (j7 i):=gs hN hi hx hf
theorem dD (i:Nat){x:Str}{pos':Pos}(hN:X.N.Nodup) (he:LE X e te) (hi:X.N[i]?=some x:=by rfl) (hx:Loc X.env.scope x:=by first | exact .inl rfl | exact .inr rfl) (hs:swapsWith e (some (.Name x pos')) pos.line X.env=pure false:=by rfl)
  (hf:X.fn x=true\/X.env.scope.names.lookup x=some .local:=by first | exact .inl rfl | exact .inr rfl | assumption):LS X (.Assign [.Name x pos'] e pos) (wC te (j7 i)):=iI hN hi hx he hs hf
end
end L3
namespace L2
open PySem PySem.Spec PyProof.Rows
theorem eg.fw {P:Program}{w:World}{K:Fg06}{mg:Str->Option Value}{base:Heap}{x WL:Str}{st:Stmt}{f:Addr}{fd:FuncData}{N ps:List Str}{k:Nat}{sp:Sp}(F:eg K x WL st f fd) (S:aS N ps (aw st))
  (Kk:∀(WK:Value) (A:Around) (outer:List Env) (s:Shared) (H:Hp) (vs:List V) (Q:VK) (E:XK),dY k (A.deeper (envOfC WL (aw st) s.heap.objs.size f WK))->sp vs H Q E->
   ∃t,L3.sh (rQ eh P w K mg base N WL (aw st) f WK A outer s H E).DV (gN st) t/\t { nx:=fun _ H'=>Q .bj H',rt:=Q } (start N vs) H) (len:∀vs H Q E,sp vs H Q E->vs.length=ps.length:=by intro _ _ _ _ h;cases h;subst_vars;rfl):bK P w K mg base eh (k+1) f fd ps sp:=
 F.okI S len Kk
end L2
namespace GS
open PySem PyProof.Rows
open L2 hiding ah jd bV ak pv bz fY aH ju eJ cZ cT jv bx fV ck bZ bR cJ bI bB aI fI aJ bS dZ fg bT fb cv cY cS eY gs fX ef gW cx ee cg aD bW iI iJ br fH d9 aP ag aq
open L3
def cj (i:Nat):Stmt:=PySem.Challenge.pw_grassnake_k12_calls.main.body.getD i (.Pass ⟨0,0,0,0⟩)
structure Glb9 (mg:Str->Option Value):Prop where
 Ie:mg "all"=none
 Dg:mg "any"=none
 AH:mg "bool"=none
 AG:mg "dict"=none
 FT:mg "enumerate"=none
 Ic:mg "int"=none
 i8:mg "isinstance"=none
 fJ:mg "len"=none
 nList:mg "list"=none
 Ib:mg "max"=none
 Ia:mg "min"=none
 gG:mg "range"=none
 nSet:mg "set"=none
 nSort:mg "sorted"=none
 zH:mg "str"=none
 p7:mg "tuple"=none
 nZip:mg "zip"=none
theorem cX:bootBuiltins "len"=some (.builtin "len"):=by decide +kernel
theorem gi:bootBuiltins "isinstance"=some (.builtin "isinstance"):=by decide +kernel
theorem yJ:bootBuiltins "any"=some (.builtin "any"):=by decide +kernel
theorem Gp:bootBuiltins "all"=some (.builtin "all"):=by decide +kernel
theorem yI:bootBuiltins "bool"=some (.type "bool"):=by decide +kernel
theorem nq:bootBuiltins "tuple"=some (.type "tuple"):=by decide +kernel
theorem oJ:bootBuiltins "list"=some (.type "list"):=by decide +kernel
theorem Gn:bootBuiltins "int"=some (.type "int"):=by decide +kernel
theorem Gk:bootBuiltins "min"=some (.builtin "min"):=by decide +kernel
theorem uW:bootBuiltins "str"=some (.type "str"):=by decide +kernel
def dQ (K:Fg06) (H:Hp) (ds:List D) (v:V):Prop:=∃p vs,v=.ref p/\(bf K H p vs\/fh K H p vs)/\az K H ds vs
theorem dQ.same {K H H' ds v}(s:au H H') (h:dQ K H ds v):dQ K H' ds v:=by
 obtain⟨p,vs,e,h1,h2⟩:=h;exact⟨p,vs,e,h1.imp (fun z=>s.seq z) (fun z=>au.lU s z),az.same s _ _ h2⟩
theorem dQ.tup {K H ds v}(h:At K H (.tup ds) v):dQ K H ds v:=by
 obtain⟨p,vs,e,h1,h2⟩:=aX.mp h;exact⟨p,vs,e,.inr h1,h2⟩
def iOr (a b:TI):TI:=fun σ H R=>a σ H R\/b σ H R
theorem Fg {X tg e a b}(ha:LI X tg e a) (hb:LI X tg e b):LI X tg e (iOr a b):=.mk fun WG s σ H R I h=>h.elim (fun z=>ha.out WG s σ H R I z) (fun z=>hb.out WG s σ H R I z)
theorem zV {X scope Xs}(a:closureFor scope X.env=pure []:=by rfl) (b:∀y∈scope.names,y.2≠.cell:=by decide +kernel) (k:scope.kind=.function:=by rfl) (n:∀y∈scope.names,y.2=.local->scope.names.lookup y.1=some .local:=by decide +kernel) (r:((relabel scope X.env).names.all fun p=>p.2 != .cell&&p.2 != .free)=true:=by rfl):lL X scope [] Xs [] []:=by
 refine⟨a,b,k,n,fun y c h=>(by cases h),fun y hy=>?_,rfl,fun j y h=>(by simp at h)⟩;have key:∀z,(relabel scope X.env).names.lookup y=some z->z≠.cell/\z≠.free:=fun z hz=>by
  have:=List.all_eq_true.mp r _ (Je hz)
  simpa using this
 rcases hy with z | z
 ·exact Xc rfl (key _ z).1
 ·exact Xc rfl (key _ z).2
theorem tI {X scope Xs Nf cl}{js:List Nat}(a:closureFor scope X.env=pure cl:=by rfl) (b:∀y∈scope.names,y.2≠.cell:=by decide +kernel) (k:scope.kind=.function:=by rfl) (n:∀y∈scope.names,y.2=.local->scope.names.lookup y.1=some .local:=by decide +kernel) (e:cl.map (fun p=>X.env.cells.lookup p.1)=cl.map (fun p=>some p.2):=by rfl) (r:((relabel scope X.env).names.all fun p=>(p.2 != .cell&&p.2 != .free)||(Nf.contains p.1))=true:=by rfl) (hc:cl.map (·.1)=Nf:=by rfl) (hl:js.length=Nf.length:=by rfl) (hN:js.map (fun i=>X.N[i]?)=Nf.map some:=by rfl) (hk:Nf.map (fun y=>X.env.scope.names.lookup y)=Nf.map (fun _=>some .cell):=by rfl) (Kg:Nf.map (fun y=>(relabel scope X.env).names.lookup y)=Nf.map (fun _=>some .cell):=by rfl):lL X scope cl Xs Nf js:=by
 have mp:∀{α β:Type}{f g:α->β}{l:List α}{x:α},l.map f=l.map g->x∈l->f x=g x:=fun {α β f g l x} h hx=>by
  induction l with
  | nil=>cases hx
  | cons y l ih=>
   simp only[List.map_cons,List.cons.injEq] at h;rcases Jv.mp hx with rfl | hx
   ·exact h.1
   ·exact ih h.2 hx
 refine⟨a,b,k,n,fun y c h=>mp (x:=(y,c)) e (Je h),fun y hy=>?_,hl,fun j y h=>?_⟩
 ·have key:∀z,(relabel scope X.env).names.lookup y=some z->(z=.cell\/z=.free)->y∈Nf:=fun z hz LK=>by
   have:=List.all_eq_true.mp r _ (Je hz);rcases LK with rfl | rfl<;>simpa using this
  have KL:y∈Nf:=by
   rcases hy with z | z
   ·exact key _ z (.inl rfl)
   ·exact key _ z (.inr rfl)
  rw[<-hc] at KL;cases hq:cl.lookup y with
  | some c=>exact⟨c,rfl⟩
  | none=>
   obtain⟨p,hp,L1⟩:=JD.mp KL;have:∀{l:List (Str×Addr)},p∈l->l.lookup p.1≠none:=fun {l} hl=>by
    induction l with
    | nil=>cases hl
    | cons q l ih=>
     intro z;rw[List.lookup_cons] at z;split at z
     ·cases z
     ·rename_i JJ;rcases Jv.mp hl with rfl | hl
      ·rw[beq_self_eq_true] at JJ;cases JJ
      ·exact ih hl z
   rw[<-L1] at hq;exact Xc hq (this hp)
 ·have hy:=IX h;have hj:j < js.length:=by rw[hl];exact(Jn.mp h).1
  refine⟨js[j],IM hj,?_,mp (x:=y) hk hy,.inl (mp (x:=y) Kg hy)⟩;have e1:(js.map fun i=>X.N[i]?)[j]?=(Nf.map some)[j]?:=by rw[hN]
  rw[I0,I0,h,IM hj] at e1;exact Option.some.inj e1
end GS
namespace L3
open PySem PyProof.Rows L2
section
variable {X:Cx}{pos:Pos}
theorem uu {K e f ta}(hK:X.K=K) (he:LE X e ta) (hb:attributeBase e f X.env (eval e X.env)=eval e X.env:=by rfl):LE X (.Attribute e f pos) (A1 K ta f):=by
 subst hK;exact L3.bA he hb
theorem cH {st}:LS X st (fun _ _ _=>False):=.mk fun WG s σ H D I q=>q.elim
theorem uw {e}:LE X e (fun _ _ _=>False):=.mk fun WG s σ H D I q=>q.elim
end
end L3
namespace GS
open PySem PyProof.Rows
open L2 hiding ah jd bV ak pv bz fY aH ju eJ cZ cT jv bx fV ck bZ bR cJ bI bB aI fI aJ bS dZ fg bT fb cv cY cS eY gs fX ef gW cx ee cg aD bW iI iJ br fH d9 aP ag aq
open L3
inductive Pairs (P:Nat->V->Prop):List Nat->List V->Prop
 | nil:Pairs P [] []
 | cons {i v is vs}:P i v->Pairs P is vs->Pairs P (i::is) (v::vs)
theorem Pairs.snoc {P i v}(h:P i v):∀{is vs},Pairs P is vs->Pairs P (is++[i]) (vs++[v])
 | _,_,.nil=>.cons h .nil
 | _,_,.cons h1 h2=>.cons h1 (h2.snoc h)
theorem Pairs.mono {P P'}(hp:∀i v,P i v->P' i v):∀{is vs},Pairs P is vs->Pairs P' is vs
 | _,_,.nil=>.nil
 | _,_,.cons h1 h2=>.cons (hp _ _ h1) (h2.mono hp)
theorem Pairs.len {P}:∀{is vs},Pairs P is vs->vs.length=is.length
 | _,_,.nil=>rfl
 | _,_,.cons _ h2=>by rw[Jf,Jf,h2.len]
theorem Pairs.at {K H f}:∀{is vs},Pairs (fun i v=>At K H (f i) v) is vs->az K H (is.map f) vs
 | _,_,.nil=>bq.mpr rfl
 | _,_,.cons h1 h2=>ba.mpr ⟨_,_,rfl,h1,h2.at⟩
theorem Pairs.eq {f}:∀{is vs},Pairs (fun i v=>v=f i) is vs->vs=is.map f
 | _,_,.nil=>rfl
 | _,_,.cons h1 h2=>by rw[W5,h1,h2.eq]
theorem range_getD {α} (l) (d:α):(List.range l.length).map (fun i=>l.getD i d)=l:=by
 refine List.ext_getElem (by simp) fun i h1 h2=>?_;simp[List.getD_eq_getElem?_getD,h2]
theorem jI {α β}(l:List α) (d:α) (g:α->β):(List.range l.length).map (fun i=>g (l.getD i d))=l.map g:=by
 conv=>rhs;rw[<-range_getD l d]
 rw[List.map_map];rfl
def wo (H:Hp) (D:Addr):Hp:=fun p=>if p=D then none else H p
theorem oZ {H D p}(h:p≠D):wo H D p=H p:=IY h
theorem du (H D):au (wo H D) H:=fun p o e=>by
 unfold wo at e;split at e
 ·cases e
 ·exact e
theorem fq {H H'} (D) (s:au H H'):au (wo H D) (wo H' D):=fun p o e=>by
 unfold wo at e ⊢;split at e
 ·cases e
 ·rename_i h;rw[IY h];exact s _ _ e
theorem lP (H D o):wo (WX H D o) D=wo H D:=by
 funext p;unfold wo;split
 ·rfl
 ·rename_i h;rw[aB h]
theorem pT {H H' D}(h:H D=none) (s:au H H'):au H (wo H' D):=fun p o e=>by
 rw[oZ (cE e h)];exact s _ _ e
section
variable {K:Fg06}{H:Hp}{D':Addr}
theorem fh.wo {p vs l}(hD:H D'=some (.lst l)) (h:fh K H p vs):fh K (GS.wo H D') p vs:=by
 rcases h with (h | ⟨o,h⟩) | h
 ·refine .inl (.inl ?_);rw[oZ (cE h hD)];exact h
 ·refine .inl (.inr ⟨o,?_⟩);rw[oZ (cE h hD)];exact h
 ·exact .inr h
mutual
theorem At.wo {l}(hD:H D'=some (.lst l)):∀d v,At K H d v->At K (GS.wo H D') d v
 | .bj,_,h=>cB.mpr (cB.mp h)
 | .bl _,_,h=>cL.mpr (cL.mp h)
 | .int _,_,h=>bc.mpr (bc.mp h)
 | .str _,_,h=>av.mpr (av.mp h)
 | .tup ds,_,h=>by
  obtain⟨p,vs,rfl,h1,h2⟩:=aX.mp h;exact aX.mpr ⟨p,vs,rfl,fh.wo hD h1,az.wo hD ds vs h2⟩
theorem az.wo {l}(hD:H D'=some (.lst l)):∀ds vs,az K H ds vs->az K (GS.wo H D') ds vs
 | [],_,h=>bq.mpr (bq.mp h)
 | d::ds,_,h=>by
  obtain⟨v,r,rfl,h1,h2⟩:=ba.mp h;exact ba.mpr ⟨v,r,rfl,At.wo hD d v h1,az.wo hD ds r h2⟩
end
end
theorem cq {J:It}{tc:TT}{te:TE}{H:Hp}{R:Addr->Hp->Prop}{vs:List V}(n:Nat) (item:Nat->V) (b:Nat->Bool) (Pv:Nat->V->Hp->Prop) (VM:∀i v H H',au H H'->Pv i v H->Pv i v H') (hn:n<=1000000)
  (hstop:∀H',au H H'->J.stop n H') (hgo:∀i H',i < n->au H H'->J.go i H') (hyld:∀i H1 x H2,i < n->au H H1->J.tT i H1 x H2->x=item i/\H2=H1)
  (Ta:∀i H1 (Q':Bool->Hp->Prop),i < n->au H H1->(∀H2,au H1 H2->Q' (b i) H2)->tc (some (item i)::vs.map some) H1 Q')
  (S9:∀i H1 D l (Q':VK),i < n->b i=true->au H H1->H D=none->H1 D=some (.lst l)->(∀v H2,au H1 H2->Pv i v (wo H2 D)->Q' v H2)->te (some (item i)::vs.map some) H1 Q')
  (q:∀D H' ys,H D=none->au H H'->H' D=some (.lst ys)->Pairs (fun i v=>Pv i v (wo H' D)) ((List.range n).filter b) ys->R D H'):
  ∀D,H D=none->∃W:Nat->Nat->List V->Hp->Prop,(∃m,W 0 m [] (WX H D (.lst [])))/\∀i m ys H,W i m ys H->
   (J.stop i H/\R D H)\/(J.go i H/\∀x H' (ox:List (Option V)),ox.length=1->J.tT i H x H'->j7 0 x (ox++vs.map some) H' fun σ2 H2=>∃K1,K1.length=1/\σ2=K1++vs.map some/\tc σ2 H2 fun b H3=>
    if b=true then te σ2 H3 fun v H4=>H4 D=some (.lst ys)/\ys.length < sizeLine/\∃m',m' < m/\W (i+1) m' (ys++[v]) (WX H4 D (.lst (ys++[v]))) else ∃m',m' < m/\W (i+1) m' ys H3):=by
 intro D hD;refine⟨fun i m ys H'=>m=n - i/\i<=n/\au H H'/\H' D=some (.lst ys)/\Pairs (fun i v=>Pv i v (wo H' D)) ((List.range i).filter b) ys,⟨n,rfl,Jr _,ae hD _,ao,.nil⟩,?_⟩;rintro i m ys H1 ⟨rfl,hi,sH,KI,hP⟩;by_cases JR:i < n
 ·refine .inr ⟨hgo i H1 JR sH,fun x H' ox Oj hy=>?_⟩;obtain⟨rfl,rfl⟩:=hyld i H1 x H' JR sH hy;obtain⟨o,rfl⟩:∃o,ox=[o]:=by
   match ox,Oj with
   | [o],_=>exact⟨o,rfl⟩
  refine⟨[some (item i)],rfl,rfl,Ta i _ _ JR sH fun H2 s2=>?_⟩;have hl:=hP.len;have JY:((List.range i).filter b).length<=i:=IV (List.length_filter_le ..) (by simp);have er:(List.range (i+1)).filter b=(List.range i).filter b++(if b i=true then [i] else []):=by
   rw[List.range_succ,List.filter_append,List.filter_cons,List.filter_nil]
  cases hb:b i with
  | false=>
   refine aY ⟨n - (i+1),by omega,rfl,JR,sH.trans s2,s2 _ _ KI,?_⟩;rw[er,hb,IY Jd,Js];exact hP.mono fun j v z=>VM _ _ _ _ (fq D s2) z
  | true=>
   refine bE (S9 i H2 D ys _ JR hb (sH.trans s2) hD (s2 _ _ KI) fun v H3 s3 hv=>?_);have s4:=s2.trans s3;refine⟨s4 _ _ KI,Ju (Jz _) (small (n:=ys.length+1) (by omega)),n - (i+1),by omega,rfl,JR,qZ (sH.trans s4) hD _,ao,?_⟩;rw[er,hb,IZ rfl,lP];exact(hP.mono fun j v z=>VM _ _ _ _ (fq D s4) z).snoc hv
 ·have e:i=n:=by omega
  subst e;exact .inl ⟨hstop H1 sH,q D H1 ys hD sH KI hP⟩
section
variable {K:Fg06}{H:Hp}{a:Addr}{xs:List V}
theorem gb (h:bf K H a xs):∀H',au H H'->(z7 K a).stop xs.length H':=fun H' s=>⟨xs,s.seq h,IW _⟩
theorem ja (h:bf K H a xs):∀i H',i < xs.length->au H H'->(z7 K a).go i H':=fun i H' hi s=>⟨xs,xs[i],s.seq h,IM hi⟩
theorem gL (h:bf K H a xs):∀i H1 x H2,i < xs.length->au H H1->(z7 K a).tT i H1 x H2->x=xs.getD i .bj/\H2=H1:=fun i H1 x H2 hi s hy=>by
 obtain⟨e,hy⟩:=hy;refine⟨?_,e⟩;rw[IP,hy xs (s.seq h)];rfl
theorem gZ (h:fh K H a xs):∀H',au H H'->(AV K a).stop xs.length H':=fun H' s=>⟨xs,au.lU s h,IW _⟩
theorem km (h:fh K H a xs):∀i H',i < xs.length->au H H'->(AV K a).go i H':=fun i H' hi s=>⟨xs,xs[i],au.lU s h,IM hi⟩
theorem i9 (h:fh K H a xs):∀i H1 x H2,i < xs.length->au H H1->(AV K a).tT i H1 x H2->x=xs.getD i .bj/\H2=H1:=fun i H1 x H2 hi s hy=>by
 obtain⟨e,hy⟩:=hy;refine⟨?_,e⟩;rw[IP,hy xs (au.lU s h)];rfl
end
noncomputable instance decD:DecidableEq D:=fun a b=>Classical.propDecidable (a=b)
mutual
def nb:D->Bool
 | .bl _=>false
 | .tup xs=>AE xs
 | _=>true
def AE:List D->Bool
 | []=>true
 | x::xs=>nb x&&AE xs
end
mutual
theorem yy:∀d e,nb d=true->nb e=true->bP d e=true->d=e
 | .bj,.bj,_,_,_=>rfl
 | .bj,.bl b,_,h,_=>by rw[nb] at h;cases h
 | .bj,.int i,_,_,z=>by rw[iz] at z;cases z
 | .bj,.str x,_,_,z=>by rw[iw] at z;cases z
 | .bj,.tup xs,_,_,z=>by rw[iu] at z;cases z
 | .bl b,_,h,_,_=>by rw[nb] at h;cases h
 | .int i,.bj,_,_,z=>by rw[iD] at z;cases z
 | .int i,.bl b,_,h,_=>by rw[nb] at h;cases h
 | .int i,.int j,_,_,z=>by rw[bP] at z;rw[eq_of_beq z]
 | .int i,.str x,_,_,z=>by rw[iB] at z;cases z
 | .int i,.tup xs,_,_,z=>by rw[iA] at z;cases z
 | .str i,.bj,_,_,z=>by rw[iq] at z;cases z
 | .str i,.bl b,_,h,_=>by rw[nb] at h;cases h
 | .str i,.int j,_,_,z=>by rw[ir] at z;cases z
 | .str i,.str x,_,_,z=>by rw[bP] at z;rw[eq_of_beq z]
 | .str i,.tup xs,_,_,z=>by rw[ip] at z;cases z
 | .tup i,.bj,_,_,z=>by rw[ik] at z;cases z
 | .tup i,.bl b,_,h,_=>by rw[nb] at h;cases h
 | .tup i,.int j,_,_,z=>by rw[il] at z;cases z
 | .tup i,.str x,_,_,z=>by rw[ij] at z;cases z
 | .tup xs,.tup ys,h,g,z=>by
  rw[nb] at h g;rw[bP] at z;rw[uN xs ys h g z]
theorem uN:∀ds es,AE ds=true->AE es=true->fv ds es=true->ds=es
 | [],[],_,_,_=>rfl
 | [],e::es,_,_,z=>by rw[fv] at z;cases z;all_goals nofun
 | d::ds,[],_,_,z=>by rw[fv] at z;cases z;all_goals nofun
 | d::ds,e::es,h,g,z=>by
  rw[AE,Xb] at h g;rw[fv,Xb] at z;rw[yy d e h.1 g.1 z.1,uN ds es h.2 g.2 z.2]
end
theorem uO {d e}(hd:nb d=true) (he:nb e=true):bP d e=decide (d=e):=by
 by_cases h:d=e
 ·rw[IL h,h,bo]
 ·rw[IK h];cases z:bP d e with
  | false=>rfl
  | true=>exact Xc (yy d e hd he z) h
structure El (d:D):Prop where
 nb:nb d=true
 dep:dep d<=40
theorem El.int (i):El (.int i):=⟨by rw[GS.nb];all_goals nofun,by rw[fP];exact Jr _⟩
theorem El.str (x):El (.str x):=⟨by rw[GS.nb];all_goals nofun,by rw[cy];exact Jr _⟩
inductive cA (K:Fg06) (H:Hp):List (List D)->List V->Prop
 | nil:cA K H [] []
 | cons {ds WN v vs}:dQ K H ds v->cA K H WN vs->cA K H (ds::WN) (v::vs)
section
variable {K:Fg06}{H H':Hp}
theorem cA.same (s:au H H'):∀{WN vs},cA K H WN vs->cA K H' WN vs
 | _,_,.nil=>.nil
 | _,_,.cons h1 h2=>.cons (h1.same s) (h2.same s)
theorem cA.len:∀{WN vs},cA K H WN vs->vs.length=WN.length
 | _,_,.nil=>rfl
 | _,_,.cons _ h2=>by rw[Jf,Jf,h2.len]
theorem cA.get:∀{WN:List (List D)}{vs:List V}{i:Nat}{v:V},cA K H WN vs->vs[i]?=some v->∃ds,WN[i]?=some ds/\dQ K H ds v
 | _,_,i,_,.nil,e=>by simp at e
 | _,_,0,_,.cons h1 _,e=>by simp at e;subst e;exact⟨_,rfl,h1⟩
 | _,_,i+1,_,.cons _ h2,e=>by
  obtain⟨ds,a,b⟩:=cA.get h2 (i:=i) (by simpa using e);exact⟨ds,by simpa using a,b⟩
theorem cA.append:∀{WN WS vs ws},cA K H WN vs->cA K H WS ws->cA K H (WN++WS) (vs++ws)
 | _,_,_,_,.nil,g=>g
 | _,_,_,_,.cons h1 h2,g=>.cons h1 (h2.append g)
theorem cA.take:∀n {WN vs},cA K H WN vs->cA K H (WN.take n) (vs.take n)
 | 0,_,_,_=>.nil
 | n+1,_,_,.nil=>.nil
 | n+1,_,_,.cons h1 h2=>.cons h1 (h2.take n)
theorem cA.drop:∀n {WN vs},cA K H WN vs->cA K H (WN.drop n) (vs.drop n)
 | 0,_,_,h=>h
 | n+1,_,_,.nil=>.nil
 | n+1,_,_,.cons _ h2=>h2.drop n
theorem Pairs.rows {K H f}:∀{is vs},Pairs (fun i v=>dQ K H (f i) v) is vs->cA K H (is.map f) vs
 | _,_,.nil=>.nil
 | _,_,.cons h1 h2=>.cons h1 h2.rows
theorem lj {α β:Type}(l:List α) (d:α) (p:α->Bool) (g:α->β):((List.range l.length).filter fun i=>p (l.getD i d)).map (fun i=>g (l.getD i d))=(l.filter p).map g:=by
 conv=>rhs;rw[<-range_getD l d]
 rw[List.filter_map,List.map_map];rfl
structure cF where
 F:Addr
 G:Addr
 M:Addr
 Kd:Addr
 O:Addr
 Gr:Addr
 Vw:Addr
 W:Addr
structure mJ (K:Fg06) (D:Addr):Prop where
 hg:PySem.W.plainGet K D "__class__"=true
 hd:PySem.W.hasDictIn K D=true
 ha:PySem.W.findIn K (.ref D) "__class__"=some (some (.builtin "object.__class__"))
 hn:PySem.W.specialIn K (.builtin "object.__class__") "__get__"=some (some (.builtin "getset_descriptor.__get__"))
 tk:PySem.W.takesIn K (.builtin "object.__class__")=some true
 hm:PySem.W.mroIn K D (.type "object")=some true
structure qD (K:Fg06) (c:cF) (C:Addr) (f g m k o r v:Bool):Prop where
 tF:PySem.W.kitOne K (.ref c.F) (.ref C)=some f
 tG:PySem.W.kitOne K (.ref c.G) (.ref C)=some g
 tM:PySem.W.kitOne K (.ref c.M) (.ref C)=some m
 tK:PySem.W.kitOne K (.ref c.Kd) (.ref C)=some k
 tO:PySem.W.kitOne K (.ref c.O) (.ref C)=some o
 tR:PySem.W.kitOne K (.ref c.Gr) (.ref C)=some r
 tV:PySem.W.kitOne K (.ref c.Vw) (.ref C)=some v
 tN:PySem.W.kitOne K (.type "NoneType") (.ref C)=some false
structure iT (K:Fg06) (c:cF):Prop where
 kc:uZ K c.Kd
 k1:NoAttr K c.Kd "name"
 k2:NoAttr K c.Kd "order"
 k3:NoAttr K c.Kd "fields"
 k4:NoAttr K c.Kd "is_given"
 wc:uZ K c.W
 w1:NoAttr K c.W "lines"
 w2:NoAttr K c.W "left"
 w3:NoAttr K c.W "things"
 w4:NoAttr K c.W "given"
 gc:uZ K c.G
 g1:NoAttr K c.G "name"
 oc:uZ K c.O
 o1:NoAttr K c.O "kind"
 o2:NoAttr K c.O "fields"
 fc:uZ K c.F
 f1:NoAttr K c.F "name"
 f2:NoAttr K c.F "params"
 f3:NoAttr K c.F "defaults"
 f4:NoAttr K c.F "code"
 f5:NoAttr K c.F "around"
 f6:NoAttr K c.F "gives"
 mc:uZ K c.M
 m1:NoAttr K c.M "target"
 m2:NoAttr K c.M "owner"
 rc:uZ K c.Gr
 r1:NoAttr K c.Gr "name"
 r2:NoAttr K c.Gr "frame"
 r3:NoAttr K c.Gr "state"
 r4:NoAttr K c.Gr "many"
 r5:NoAttr K c.Gr "handed"
 vc:uZ K c.Vw
 v1:NoAttr K c.Vw "kind"
 v2:NoAttr K c.Vw "owner"
 iF:mJ K c.F
 iG:mJ K c.G
 iM:mJ K c.M
 iK:mJ K c.Kd
 iO:mJ K c.O
 iR:mJ K c.Gr
 iV:mJ K c.Vw
 tF:qD K c c.F true false false false false false false
 tG:qD K c c.G false true false false false false false
 tM:qD K c c.M false false true false false false false
 tK:qD K c c.Kd false false false true false false false
 tO:qD K c c.O false false false false true false false
 tR:qD K c c.Gr false false false false false true false
def HH (K:Fg06):List V->Hp->VK->Prop:=fun xs H Q=>∃x C b,xs=[x,.ref C]/\((∃p D dx fs,x=.ref p/\H p=some (.ins D dx fs)/\mJ K D/\PySem.W.kitOne K (.ref D) (.ref C)=some b)\/(x=.bj/\PySem.W.kitOne K (.type "NoneType") (.ref C)=some b))/\Q (.bl b) H
theorem cQ {X}:gm X (.builtin "isinstance") (HH X.K):=by
 intro WG s σ H xs us Q I r h;obtain⟨x,C,b,rfl,hx,q⟩:=h;obtain⟨u,w',rfl,r1,r2⟩:=vals2 r;cases r2;rcases hx with ⟨p,D,dx,fs,rfl,hp,o,hk⟩ | ⟨rfl,hk⟩
 ·cases (show u=Value.ref p from r1);obtain⟨mA,hO,_⟩:=qj I.cP hp;obtain⟨od,hI,_⟩:=hO.look;exact PySem.W.kia_one (PySem.W.kitx_own (ox:=PySem.W.instObj D dx) (od:=od) o.hg o.hd o.ha o.hn o.tk o.hm) I.sU hI hk (fun z=>nomatch z) fun tk=>⟨.bl b,H,I.tok _,rfl,q⟩
 ·cases (show u=Value.none from r1);exact PySem.W.kia_one PySem.W.kitx_none I.sU True.intro hk (fun z=>nomatch z) fun tk=>⟨.bl b,H,I.tok _,rfl,q⟩
def zS:HO->Bool
 | .tup _=>true
 | .mB _ _=>true
 | _=>false
def Fx (H H':Hp):Prop:=∀p o,H p=some o->zS o=true->H' p=some o
theorem au.fx {H H'}(s:au H H'):Fx H H':=fun p o e _=>s p o e
theorem Fx.trans {H H1 H2}(a:Fx H H1) (b:Fx H1 H2):Fx H H2:=fun p o e h=>b p o (a p o e h) h
theorem Fx.put {H p o o'}(h:H p=some o) (e:zS o=false):Fx H (WX H p o'):=fun q u eq z=>by
 rw[aB (fun y=>by rw[y,h] at eq;cases eq;rw[e] at z;cases z)];exact eq
def bC (l:Addr) (H H':Hp):Prop:=∀p o,p≠l->H p=some o->H' p=some o
theorem bC.fx {l H H' o'}(b:bC l H H') (h:H l=some o') (e':zS o'=false):Fx H H':=fun p o e z=>b p o (fun y=>by rw[y,h] at e;cases e;rw[e'] at z;cases z) e
theorem au.but {H H'} (l) (s:au H H'):bC l H H':=fun p o _ e=>s p o e
theorem bC.trans {l H H1 H2}(a:bC l H H1) (b:bC l H1 H2):bC l H H2:=fun p o n e=>b p o n (a p o n e)
theorem bC.put {l} (H o):bC l H (WX H l o):=fun p u n e=>by rw[aB n];exact e
theorem Fx.lU {p vs}(s:Fx H H') (h:fh K H p vs):fh K H' p vs:=by
 rcases h with (h | ⟨o,h⟩) | h
 ·exact .inl (.inl (s _ _ h rfl))
 ·exact .inl (.inr ⟨o,s _ _ h rfl⟩)
 ·exact .inr h
mutual
theorem At.fx (s:Fx H H'):∀d v,At K H d v->At K H' d v
 | .bj,_,h=>cB.mpr (cB.mp h)
 | .bl _,_,h=>cL.mpr (cL.mp h)
 | .int _,_,h=>bc.mpr (bc.mp h)
 | .str _,_,h=>av.mpr (av.mp h)
 | .tup ds,_,h=>by
  obtain⟨p,vs,rfl,h1,h2⟩:=aX.mp h;exact aX.mpr ⟨p,vs,rfl,Fx.lU s h1,az.fx s ds vs h2⟩
theorem az.fx (s:Fx H H'):∀ds vs,az K H ds vs->az K H' ds vs
 | [],_,h=>bq.mpr (bq.mp h)
 | d::ds,_,h=>by
  obtain⟨v,r,rfl,h1,h2⟩:=ba.mp h;exact ba.mpr ⟨v,r,rfl,At.fx s d v h1,az.fx s ds r h2⟩
end
end
def aQ (i:Nat):D:=.tup [.str "thing",.int (i:Nat)]
def da:D:=.tup [.str "none"]
def kF:D:=.tup [.str "fault",.str "KindFault"]
def GQ (v1 vo v3 v4:V):List (Str×V):=[("name",v1),("order",vo),("fields",v3),("is_given",v4)]
def HW (v1 v2:V):List (Str×V):=[("kind",v1),("fields",v2)]
def Du (v1 v2 v3 v4 v5 v6:V):List (Str×V):=[("name",v1),("params",v2),("defaults",v3),("code",v4),("around",v5),("gives",v6)]
def Ig (v1 v2:V):List (Str×V):=[("target",v1),("owner",v2)]
def qF (st:Str) (m h:Int):List (Str×V):=[("name",.str "count"),("frame",.bj),("state",.str st),("many",.int m),("handed",.int h)]
structure sj where
 nm:Str
 np:Nat
 df:List D
 cd:V
 ar:V
 gv:V
inductive Th where
 | kL (n:Str)
 | kd (nm:Str) (ns:List Nat) (d:Addr) (fs:List (Str×D))
 | ob (k:Nat) (d:Addr) (fs:List (Str×D))
 | fn (f:sj)
 | mt (t o:Nat)
 | gr (st:Str) (m h:Int)
 | vw
def gB (K:Fg06) (H:Hp) (d:Addr) (fs:List (Str×D)):Prop:=∃WI,H d=some (.dK WI)/\WI.length<=fs.length/\∀n,(fs.lookup n=none/\fQ WI (.inr n:Key)=none)\/∃dd v,fs.lookup n=some dd/\fQ WI (.inr n:Key)=some v/\At K H dd v
def kI (K:Fg06) (c:cF) (H:Hp):Th->Addr->Prop
 | .kL n,p=>∃dx,H p=some (.ins c.G dx [("name",.str n)])
 | .kd nm ns d fs,p=>∃dx vo v4,H p=some (.ins c.Kd dx (GQ (.str nm) vo (.ref d) v4))/\At K H (.tup (ns.map aQ)) vo/\gB K H d fs
 | .ob k d fs,p=>∃dx v1,H p=some (.ins c.O dx (HW v1 (.ref d)))/\At K H (aQ k) v1/\gB K H d fs
 | .fn f,p=>∃dx v3,H p=some (.ins c.F dx (Du (.str f.nm) (.int (f.np:Nat)) v3 f.cd f.ar f.gv))/\At K H (.tup f.df) v3
 | .mt t o,p=>∃dx v1 v2,H p=some (.ins c.M dx (Ig v1 v2))/\At K H (aQ t) v1/\At K H (aQ o) v2
 | .gr st m h,p=>∃dx,H p=some (.ins c.Gr dx (qF st m h))
 | .vw,p=>∃dx fs,H p=some (.ins c.Vw dx fs)
def vX:Th->Option Addr
 | .kd _ _ d _=>some d
 | .ob _ d _=>some d
 | _=>none
theorem gB.keep {K H H' d fs}(e:H' d=H d) (f:Fx H H') (h:gB K H d fs):gB K H' d fs:=by
 obtain⟨WI,h1,h2,h3⟩:=h;exact⟨WI,e.trans h1,h2,fun n=>(h3 n).imp id fun⟨dd,v,a,b,c⟩=>⟨dd,v,a,b,At.fx f _ _ c⟩⟩
theorem gB.dict {K H d fs}(h:gB K H d fs):∃WI,H d=some (.dK WI):=let ⟨WI,h1,_⟩:=h;⟨WI,h1⟩
theorem kI.dict {K c H o p d}(h:kI K c H o p) (e:vX o=some d):∃WI,H d=some (.dK WI):=by
 cases o with
 | kd nm ns d' fs=>cases e;obtain⟨_,_,_,_,_,h⟩:=h;exact h.dict
 | ob k d' fs=>cases e;obtain⟨_,_,_,_,h⟩:=h;exact h.dict
 | _=>cases e
theorem kI.ins {K c H o p}(h:kI K c H o p):∃C dx fs,H p=some (.ins C dx fs):=by
 cases o with
 | kL n=>obtain⟨dx,e⟩:=h;exact⟨_,_,_,e⟩
 | kd nm ns d fs=>obtain⟨dx,_,_,e,_⟩:=h;exact⟨_,_,_,e⟩
 | ob k d fs=>obtain⟨dx,_,e,_⟩:=h;exact⟨_,_,_,e⟩
 | fn f=>obtain⟨dx,_,e,_⟩:=h;exact⟨_,_,_,e⟩
 | mt t o=>obtain⟨dx,_,_,e,_⟩:=h;exact⟨_,_,_,e⟩
 | gr st m h'=>obtain⟨dx,e⟩:=h;exact⟨_,_,_,e⟩
 | vw=>obtain⟨dx,_,e⟩:=h;exact⟨_,_,_,e⟩
theorem kI.keep {K c H H' o p}(e:H' p=H p) (f:Fx H H') (ed:∀d,vX o=some d->H' d=H d) (h:kI K c H o p):kI K c H' o p:=by
 cases o with
 | kL n=>obtain⟨dx,h⟩:=h;exact⟨dx,e.trans h⟩
 | kd nm ns d fs=>obtain⟨dx,_,_,h,a,b⟩:=h;exact⟨dx,_,_,e.trans h,At.fx f _ _ a,b.keep (ed d rfl) f⟩
 | ob k d fs=>obtain⟨dx,_,h,a,b⟩:=h;exact⟨dx,_,e.trans h,At.fx f _ _ a,b.keep (ed d rfl) f⟩
 | fn g=>obtain⟨dx,_,h,a⟩:=h;exact⟨dx,_,e.trans h,At.fx f _ _ a⟩
 | mt t o=>obtain⟨dx,_,_,h,a,b⟩:=h;exact⟨dx,_,_,e.trans h,At.fx f _ _ a,At.fx f _ _ b⟩
 | gr st m h'=>obtain⟨dx,h⟩:=h;exact⟨dx,e.trans h⟩
 | vw=>obtain⟨dx,fs,h⟩:=h;exact⟨dx,fs,e.trans h⟩
def wF (a b:V) (l g:Addr):List (Str×V):=[("lines",a),("left",b),("things",.ref l),("given",.ref g)]
def uY (K:Fg06) (H:Hp) (g:Addr) (gv:List (Str×Nat)):Prop:=∃WI,H g=some (.dK WI)/\WI.length<=gv.length/\(∀n i,(n,i)∈gv->∃v,fQ WI (.inr n)=some v/\At K H (aQ i) v)/\∀n,(∀i,(n,i)∉gv)->fQ WI (.inr n)=none
theorem uY.keep {K H H' g gv}(e:H' g=H g) (f:Fx H H') (h:uY K H g gv):uY K H' g gv:=by
 obtain⟨WI,h1,hl,h2,h3⟩:=h;exact⟨WI,e.trans h1,hl,fun n i e=>let ⟨v,a,b⟩:=h2 n i e;⟨v,a,At.fx f _ _ b⟩,h3⟩
def tQ (os:List Th) (d:Addr):Prop:=∃(i:Nat) (o:Th),os[i]?=some o/\vX o=some d
structure Wp where
 W:Addr
 l:Addr
 g:Addr
 n:Addr
 f:Addr
structure cG (K:Fg06) (c:cF) (H:Hp) (w:Wp) (ps:List Addr) (os:List Th) (gv:List (Str×Nat)) (ln:List Str) (lf:List Int):Prop where
 wo:∃dx,H w.W=some (.ins c.W dx (wF (.ref w.n) (.ref w.f) w.l w.g))
 t:H w.l=some (.lst (ps.map V.ref))
 hn:H w.n=some (.lst (ln.map V.str))
 hf:H w.f=some (.lst (lf.map V.int))
 n1:w.l≠w.n
 n2:w.l≠w.f
 n3:w.n≠w.f
 n:ps.length=os.length
 nd:ps.Nodup
 o:∀(i:Nat) p o,ps[i]?=some p->os[i]?=some o->kI K c H o p
 dn:∀(i j:Nat) a b d,os[i]?=some a->os[j]?=some b->vX a=some d->vX b=some d->i=j
 dg:¬tQ os w.g
 v:uY K H w.g gv
theorem getElem?_snoc {α:Type}{xs:List α}{x y:α}{i:Nat}(h:(xs++[x])[i]?=some y):xs[i]?=some y\/(i=xs.length/\y=x):=by
 by_cases hi:i < xs.length
 ·rw[JB hi] at h;exact .inl h
 ·have hl:=(Jn.mp h).1;rw[IJ,Jy] at hl;have ei:i=xs.length:=by omega
  subst ei;rw[Jj (IW _),Nat.sub_self] at h;cases h;exact .inr ⟨rfl,rfl⟩
theorem bD {α:Type}{xs:List α}{x:α}:(xs++[x])[xs.length]?=some x:=by rw[Jj (IW _),Nat.sub_self];rfl
theorem aE {α:Type}{xs:List α}{i:Nat}{x:α}(h:xs[i]?=some x):i < xs.length:=(Jn.mp h).1
theorem tQ.snoc {os o d}(h:tQ (os++[o]) d):tQ os d\/vX o=some d:=by
 obtain⟨i,a,e,ed⟩:=h;rcases getElem?_snoc e with e | ⟨_,rfl⟩
 ·exact .inl ⟨i,a,e,ed⟩
 ·exact .inr ed
theorem tQ.set {os i o o' d}(e0:os[i]?=some o) (ed:vX o'=vX o) (h:tQ (os.set i o') d):tQ os d:=by
 obtain⟨j,a,e,e2⟩:=h;by_cases hj:j=i
 ·subst hj;rw[IT (aE e0)] at e;cases e;exact⟨j,o,e0,ed▸e2⟩
 ·rw[IQ (W3 hj)] at e;exact⟨j,a,e,e2⟩
section
variable {K:Fg06}{c:cF}{H H':Hp}{w:Wp}{ps:List Addr}{os:List Th}{gv:List (Str×Nat)}{ln:List Str}{lf:List Int}
theorem cG.at (h:cG K c H w ps os gv ln lf){i:Nat} {o}(e:os[i]?=some o):∃p,ps[i]?=some p/\kI K c H o p:=by
 have hi:i < ps.length:=by rw[h.n];exact(Jn.mp e).1
 have e1:ps[i]?=some ps[i]:=IM hi;exact⟨_,e1,h.o i _ o e1 e⟩
theorem cG.in (h:cG K c H w ps os gv ln lf){p:Addr}(m:p∈ps):∃C dx fs,H p=some (.ins C dx fs):=by
 obtain⟨i,hi,e⟩:=JG m;have h2:i < os.length:=by rw[<-h.n];exact hi
 exact(h.o i p os[i] (by rw[IM hi,e]) (IM h2)).ins
theorem cG.fresh (h:cG K c H w ps os gv ln lf){p:Addr}(e:H p=none):p∉ps:=fun m=>by
 obtain⟨_,_,_,e'⟩:=h.in m;rw[e] at e';cases e'
theorem cG.wd (h:cG K c H w ps os gv ln lf){d:Addr}(m:tQ os d):∃WI,H d=some (.dK WI):=by
 obtain⟨i,o,e,ed⟩:=m;obtain⟨p,_,ho⟩:=h.at e;exact ho.dict ed
theorem cG.freshD (h:cG K c H w ps os gv ln lf){d:Addr}(e:H d=none):¬tQ os d:=fun m=>by
 obtain⟨_,e'⟩:=h.wd m;rw[e] at e';cases e'
theorem cG.keep (h:cG K c H w ps os gv ln lf) (k:∀p o,H p=some o->(∀xs,o=.lst xs->p=w.l\/p=w.n\/p=w.f)->(∀WI,o=.dK WI->p=w.g\/tQ os p)->(∀C dx fs,o=.ins C dx fs->p=w.W\/p∈ps)->zS o=true\/(∃xs,o=.lst xs)\/(∃WI,o=.dK WI)\/(∃C dx fs,o=.ins C dx fs)->H' p=some o):cG K c H' w ps os gv ln lf:=by
 have f:Fx H H':=fun p o e z=>k p o e (fun xs y=>by rw[y] at z;cases z) (fun WI y=>by rw[y] at z;cases z) (fun _ _ _ y=>by rw[y] at z;cases z) (.inl z);have kl:∀{p xs},H p=some (.lst xs)->(p=w.l\/p=w.n\/p=w.f)->H' p=some (.lst xs):=fun e z=>k _ _ e (fun _ _=>z) (fun _ y=>nomatch y) (fun _ _ _ y=>nomatch y) (.inr (.inl ⟨_,rfl⟩));have ki:∀{p C dx fs},H p=some (.ins C dx fs)->(p=w.W\/p∈ps)->H' p=some (.ins C dx fs):=fun e z=>k _ _ e (fun _ y=>nomatch y) (fun _ y=>nomatch y) (fun _ _ _ _=>z) (.inr (.inr (.inr ⟨_,_,_,rfl⟩)));have kd:∀{p WI},H p=some (.dK WI)->(p=w.g\/tQ os p)->H' p=some (.dK WI):=fun e z=>k _ _ e (fun _ y=>nomatch y) (fun _ _=>z) (fun _ _ _ y=>nomatch y) (.inr (.inr (.inl ⟨_,rfl⟩)));obtain⟨⟨dx,h1⟩,h2,ha,hb,q1,q2,q3,h3,h4,h5,h6,h7,h8⟩:=h;refine⟨⟨dx,ki h1 (.inl rfl)⟩,kl h2 (.inl rfl),kl ha (.inr (.inl rfl)),kl hb (.inr (.inr rfl)),q1,q2,q3,h3,h4,fun i p o e1 e2=>?_,h6,h7,h8.keep ?_ f⟩
 ·have ho:=h5 i p o e1 e2;obtain⟨C,dx,fs,e⟩:=ho.ins;refine ho.keep (by rw[ki e (.inr (IX e1)),e]) f fun d ed=>?_;obtain⟨WI,e'⟩:=ho.dict ed;rw[kd e' (.inr ⟨i,o,e2,ed⟩),e']
 ·obtain⟨WI,e,_⟩:=h8;rw[kd e (.inl rfl),e]
theorem cG.same (s:au H H') (h:cG K c H w ps os gv ln lf):cG K c H' w ps os gv ln lf:=h.keep fun p o e _ _ _ _=>s p o e
theorem cG.Iu (h:cG K c H w ps os gv ln lf){d:Addr}{xs:List V}(e:H d=some (.lst xs)) (m1:w.l≠d) (m2:w.n≠d) (m3:w.f≠d) (b:bC d H H'):cG K c H' w ps os gv ln lf:=h.keep fun p u e1 e2 _ _ _=>by
 refine b _ _ (fun y=>?_) e1;rw[y,e] at e1;cases e1;rcases e2 _ rfl with z | z | z
 ·exact m1 (z.symm.trans y)
 ·exact m2 (z.symm.trans y)
 ·exact m3 (z.symm.trans y)
theorem cG.lst (h:cG K c H w ps os gv ln lf){d:Addr}{xs:List V}{o:HO}(e:H d=some (.lst xs)) (m1:w.l≠d) (m2:w.n≠d) (m3:w.f≠d):cG K c (WX H d o) w ps os gv ln lf:=h.Iu e m1 m2 m3 (bC.put H o)
theorem cG.say (h:cG K c H w ps os gv ln lf) (Kn:List Str):cG K c (WX H w.n (.lst (Kn.map V.str))) w ps os gv Kn lf:=by
 have hn:=h.hn;have b:bC w.n H (WX H w.n (.lst (Kn.map V.str))):=bC.put _ _;have f:Fx H (WX H w.n (.lst (Kn.map V.str))):=Fx.put hn rfl;obtain⟨⟨dx,h1⟩,h2,ha,hb,q1,q2,q3,h3,h4,h5,h6,h7,h8⟩:=h;refine⟨⟨dx,b _ _ (fun y=>by rw[y,hn] at h1;cases h1) h1⟩,b _ _ q1 h2,ao,b _ _ (W3 q3) hb,q1,q2,q3,h3,h4,fun i p o e1 e2=>?_,h6,h7,h8.keep ?_ f⟩
 ·have ho:=h5 i p o e1 e2;obtain⟨C,dx,fs,e⟩:=ho.ins;refine ho.keep (aB (fun y=>by rw[y,hn] at e;cases e)) f fun d ed=>aB fun y=>?_;obtain⟨WI,e'⟩:=ho.dict ed;rw[y,hn] at e';cases e'
 ·obtain⟨WI,e,_⟩:=h8;exact aB fun y=>by rw[y,hn] at e;cases e
theorem cG.take (h:cG K c H w ps os gv ln lf) (J9:List Int):cG K c (WX H w.f (.lst (J9.map V.int))) w ps os gv ln J9:=by
 have hn:=h.hf;have b:bC w.f H (WX H w.f (.lst (J9.map V.int))):=bC.put _ _;have f:Fx H (WX H w.f (.lst (J9.map V.int))):=Fx.put hn rfl;obtain⟨⟨dx,h1⟩,h2,ha,hb,q1,q2,q3,h3,h4,h5,h6,h7,h8⟩:=h;refine⟨⟨dx,b _ _ (fun y=>by rw[y,hn] at h1;cases h1) h1⟩,b _ _ q2 h2,b _ _ q3 ha,ao,q1,q2,q3,h3,h4,fun i p o e1 e2=>?_,h6,h7,h8.keep ?_ f⟩
 ·have ho:=h5 i p o e1 e2;obtain⟨C,dx,fs,e⟩:=ho.ins;refine ho.keep (aB (fun y=>by rw[y,hn] at e;cases e)) f fun d ed=>aB fun y=>?_;obtain⟨WI,e'⟩:=ho.dict ed;rw[y,hn] at e';cases e'
 ·obtain⟨WI,e,_⟩:=h8;exact aB fun y=>by rw[y,hn] at e;cases e
theorem cG.add (h:cG K c H w ps os gv ln lf){o:Th}{p:Addr}(hp:p∉ps) (ho:kI K c H o p) (hd:∀d,vX o=some d->d≠w.g/\¬tQ os d):cG K c (WX H w.l (.lst (ps.map V.ref++[.ref p]))) w (ps++[p]) (os++[o]) gv ln lf:=by
 obtain⟨⟨dx,h1⟩,h2,ha,hb,q1,q2,q3,h3,h4,h5,h6,h7,h8⟩:=h;have f:Fx H (WX H w.l (.lst (ps.map V.ref++[.ref p]))):=Fx.put h2 rfl;have kp:∀{q o'},kI K c H o' q->kI K c (WX H w.l (.lst (ps.map V.ref++[.ref p]))) o' q:=fun {q o'} z=>by
  obtain⟨C,dx,fs,e'⟩:=z.ins;refine z.keep (aB (fun y=>by rw[y,h2] at e';cases e')) f fun d ed=>aB fun y=>?_;obtain⟨WI,e2⟩:=z.dict ed;rw[y,h2] at e2;cases e2
 refine⟨⟨dx,by rw[aB (cE h1 h2)];exact h1⟩,by rw[ao,Jt];rfl,by rw[aB (W3 q1)];exact ha,by rw[aB (W3 q2)];exact hb,q1,q2,q3,by rw[IJ,IJ,h3];rfl,?_,fun i q o' e1 e2=>?_,fun i j x y d e1 e2 e3 e4=>?_,fun z=>?_,h8.keep (aB fun y=>?_) f⟩
 ·rw[List.nodup_append];refine⟨h4,(by simp),fun x hx y hy=>?_⟩;rw[W7.mp hy];exact fun z=>hp (z▸hx)
 ·rcases getElem?_snoc e1 with e1 | ⟨rfl,rfl⟩
  ·have hi:i < os.length:=by rw[<-h3];exact aE e1
   rw[JB hi] at e2;exact kp (h5 i q o' e1 e2)
  ·rw[h3,bD] at e2;cases e2;exact kp ho
 ·rcases getElem?_snoc e1 with u1 | ⟨u1,v1⟩<;>rcases getElem?_snoc e2 with u2 | ⟨u2,v2⟩
  ·exact h6 i j x y d u1 u2 e3 e4
  ·exact Xc ⟨i,x,u1,e3⟩ (hd d (v2▸e4)).2
  ·exact Xc ⟨j,y,u2,e4⟩ (hd d (v1▸e3)).2
  ·rw[u1,u2]
 ·rcases z.snoc with z | z
  ·exact h7 z
  ·exact(hd w.g z).1 rfl
 ·obtain⟨WI,h8,_⟩:=h8;rw[y,h2] at h8;cases h8
theorem cG.put (h:cG K c H w ps os gv ln lf){i k:Nat} {d fs JM}(eo:os[i]?=some (.ob k d fs)) {o}(hf:gB K (WX H d o) d JM):cG K c (WX H d o) w ps (os.set i (.ob k d JM)) gv ln lf:=by
 have Rz:tQ os d:=⟨i,_,eo,rfl⟩;obtain⟨WI,hd⟩:=h.wd Rz;obtain⟨⟨dw,h1⟩,h2,ha,hb,q1,q2,q3,h3,h4,h5,h6,h7,h8⟩:=h;have f:Fx H (WX H d o):=Fx.put hd rfl;have hi:=aE eo;have kl:∀{q xs},H q=some (.lst xs)->WX H d o q=some (.lst xs):=fun e=>by rw[aB (fun y=>by rw[y,hd] at e;cases e)];exact e
 refine⟨⟨dw,by rw[aB (fun y=>by rw[y,hd] at h1;cases h1)];exact h1⟩,kl h2,kl ha,kl hb,q1,q2,q3,by rw[Jk,h3],h4,fun j q o' e1 e2=>?_,fun j1 j2 x y d' e1 e2 e3 e4=>?_,fun z=>h7 (tQ.set (o':=.ob k d JM) eo rfl z),h8.keep (aB fun y=>h7 (y▸Rz)) f⟩
 ·by_cases hj:j=i
  ·subst hj;rw[IT hi] at e2;cases e2;obtain⟨dx,v1,e3,e4,_⟩:=h5 j q _ e1 eo;exact⟨dx,v1,by rw[aB (fun y=>by rw[y,hd] at e3;cases e3)];exact e3,At.fx f _ _ e4,hf⟩
  ·rw[IQ (W3 hj)] at e2;have ho:=h5 j q o' e1 e2;obtain⟨C,dx,fs,e⟩:=ho.ins;exact ho.keep (aB fun y=>by rw[y,hd] at e;cases e) f fun d' ed=>aB fun y=>hj (h6 j i o' _ d e2 eo (y▸ed) rfl)
 ·have kd:∀{j:Nat}{x:Th},(os.set i (.ob k d JM))[j]?=some x->∃x',os[j]?=some x'/\vX x'=vX x:=fun {j x} e=>by
   by_cases hj:j=i
   ·subst hj;rw[IT hi] at e;cases e;exact⟨_,eo,rfl⟩
   ·rw[IQ (W3 hj)] at e;exact⟨x,e,rfl⟩
  obtain⟨x',u1,u2⟩:=kd e1;obtain⟨y',u3,u4⟩:=kd e2;exact h6 j1 j2 x' y' d' u1 u3 (u2.trans e3) (u4.trans e4)
theorem cG.F6 (h:cG K c H w ps os gv ln lf) (nW:c.W≠c.Gr){i:Nat} {p dx st st'}{m m' h0 h':Int}(ep:ps[i]?=some p) (eo:os[i]?=some (.gr st m h0)) (e:H p=some (.ins c.Gr dx (qF st m h0))):
  cG K c (WX H p (.ins c.Gr dx (qF st' m' h'))) w ps (os.set i (.gr st' m' h')) gv ln lf:=by
 obtain⟨⟨dw,h1⟩,h2,ha,hb,q1,q2,q3,h3,h4,h5,h6,h7,h8⟩:=h;have f:Fx H (WX H p (.ins c.Gr dx (qF st' m' h'))):=Fx.put e rfl;have hi:=aE eo;have kl:∀{q xs},H q=some (.lst xs)->WX H p (.ins c.Gr dx (qF st' m' h')) q=some (.lst xs):=fun e'=>by rw[aB (fun y=>by rw[y,e] at e';cases e')];exact e'
 have un:∀{j:Nat}{x:Th}{d:Addr},(os.set i (.gr st' m' h'))[j]?=some x->vX x=some d->os[j]?=some x:=fun {j x d} e1 e2=>by
  by_cases hj:j=i
  ·subst hj;rw[IT hi] at e1;cases e1;cases e2
  ·rw[IQ (W3 hj)] at e1;exact e1
 refine⟨⟨dw,by rw[aB (fun y=>by rw[y,e] at h1;injection h1 with h1;injection h1 with h1;exact nW h1.symm)];exact h1⟩,kl h2,kl ha,kl hb,q1,q2,q3,by rw[Jk,h3],h4,fun j q o' e1 e2=>?_,fun j1 j2 x y d e1 e2 e3 e4=>h6 j1 j2 x y d (un e1 e3) (un e2 e4) e3 e4,fun⟨j,x,e1,e2⟩=>h7 ⟨j,x,un e1 e2,e2⟩,h8.keep (aB fun y=>?_) f⟩
 ·by_cases hj:j=i
  ·subst hj;rw[ep] at e1;cases e1;rw[IT hi] at e2;cases e2;exact⟨dx,ao⟩
  ·rw[IQ (W3 hj)] at e2;have ho:=h5 j q o' e1 e2;refine ho.keep (aB fun y=>hj ?_) f fun d ed=>aB fun y=>?_
   ·subst y;exact(List.getElem?_inj (aE e1) h4).mp (e1.trans ep.symm)
   ·obtain⟨WI,e'⟩:=ho.dict ed;rw[y,e] at e';cases e'
 ·obtain⟨WI,h8,_⟩:=h8;rw[y,e] at h8;cases h8
end
def Vd (os:List Th) (d:D):Prop:=(∃k r,d=.tup (.str k::r)/\(k="thing"->∃i:Nat,r=[.int (i:Nat)]/\i < os.length))/\dep d<=1
theorem hJ (i):dep (aQ i)=1:=by
 unfold aQ;rw[GS.dep,bM,bM,bM,cy,fP];rfl
def ft (os:List Th):D->Option Th
 | .tup [.str k,.int i]=>if k="thing"/\0<=i then os[i.toNat]? else none
 | _=>none
theorem bw (os i):ft os (aQ i)=os[i]?:=by
 show(if("thing":Str)="thing"/\(0:Int)<=(i:Nat) then os[((i:Nat):Int).toNat]? else none)=_;rw[IZ ⟨rfl,by omega⟩,Int.toNat_natCast]
theorem jq (os:List Th){k:Str}(r:List D) (h:k≠"thing"):ft os (.tup (.str k::r))=none:=by
 unfold ft;split
 ·rename_i k' i e;injection e with e;injection e with e1 e2;injection e1 with e1;subst e1;rw[IY (fun z=>h z.1)]
 ·rfl
theorem Vd.th {os i}(h:i < os.length):Vd os (aQ i):=⟨⟨_,_,rfl,fun _=>⟨i,rfl,h⟩⟩,by rw[hJ];exact IW _⟩
theorem Vd.no {os:List Th}{k:Str}{r:List D}(h:k≠"thing") (hd:dep (.tup (.str k::r))<=1):Vd os (.tup (.str k::r)):=⟨⟨_,_,rfl,fun z=>Xc z h⟩,hd⟩
theorem Vd.da {os}:Vd os da:=Vd.no (by decide +kernel) (by decide +kernel)
theorem Vd.mono {os JI d}(l:os.length<=JI.length) (h:Vd os d):Vd JI d:=by
 obtain⟨⟨k,r,e,h⟩,hd⟩:=h;exact⟨⟨k,r,e,fun z=>let ⟨i,a,b⟩:=h z;⟨i,a,Ju b l⟩⟩,hd⟩
theorem Vd.cases {os:List Th}{d:D}(h:Vd os d):(∃i,d=aQ i/\i < os.length)\/(∃k r,d=.tup (.str k::r)/\k≠"thing"/\ft os d=none):=by
 obtain⟨⟨k,r,e,h⟩,_⟩:=h;by_cases hk:k="thing"
 ·obtain⟨i,rfl,hi⟩:=h hk;exact .inl ⟨i,by rw[e,hk];rfl,hi⟩
 ·exact .inr ⟨k,r,e,hk,by rw[e];exact jq os r hk⟩
structure oK (os:List Th):Prop where
 k:∀(i:Nat) nm ns d fs,os[i]?=some (.kd nm ns d fs)->(∀n∈ns,∃Lc LZ d' JM,os[n]?=some (.kd Lc LZ d' JM))/\∀n dd,fs.lookup n=some dd->Vd os dd
 o:∀(i k:Nat) d fs,os[i]?=some (.ob k d fs)->(∃nm ns d' JM,os[k]?=some (.kd nm ns d' JM))/\∀n dd,fs.lookup n=some dd->Vd os dd
 m:∀(i t o:Nat),os[i]?=some (.mt t o)->(∃f,os[t]?=some (.fn f))/\o < os.length
abbrev xJ:Stmt:=cj 64
abbrev B3:Stmt:=cj 65
section
variable {P:Program}{w:World}{K:Fg06}{mg:Str->Option Value}{base:Heap}{f:Addr}{fd:FuncData}
inductive mQ (K:Fg06) (vs:List V) (H:Hp) (Q:VK) (E:XK):Prop
 | mk x y d e:vs=[x,y]->At K H d x->At K H e y->El d->El e->Q (.bl (decide (d=e))) H->mQ K vs H Q E
theorem yf {d}(h:El d):PySem.W.kitOne K (.type (GZ d)) (.type "bool")=some false:=by
 cases d with
 | bl b=>have:=h.nb;rw[GS.nb] at this;cases this
 | _=>rfl
theorem Ha:aS ["one","other"] ["one","other"] (aw xJ):=fE
theorem FA (g:Glb9 mg) (F:eg K "is_same" "is_same" xJ f fd):bK P w K mg base eh 1 f fd ["one","other"] (mQ K):=by
 refine F.fw Ha fun WK A outer s H vs Q E hr h=>?_;obtain⟨x,y,d,e,rfl,hx,hy,hd,he,q⟩:=h;refine⟨_,aq (aD (cT (ib bL (aJ pO rfl g.i8 gi (bF (pv 0) (fY (v:=.ty "bool") rfl g.AH yI rfl))) (aJ pO rfl g.i8 gi (bF (pv 1) (fY (v:=.ty "bool") rfl g.AH yI rfl)))) (cZ (ib (xO hr) (pv 0) (pv 1))))),?_⟩;refine⟨_,rfl,x,"bool",d,false,rfl,hx,yf hd,_,rfl,y,"bool",e,false,rfl,hy,yf he,rfl,_,rfl,?_⟩;refine bE ⟨_,rfl,_,rfl,d,e,hx,hy,IV hd.dep (by decide),?_⟩;rw[uO hd.nb he.nb];exact q
inductive wZ (K:Fg06) (vs:List V) (H:Hp) (Q:VK) (E:XK):Prop
 | mk x r d ds:vs=[x,r]->At K H d x->El d->dQ K H ds r->(∀e∈ds,El e)->ds.length<=1000->(∀H',au H H'->Q (.bl (decide (d∈ds.tail))) H')->wZ K vs H Q E
theorem EN:aS ["thing","row"] ["thing","row"] (aw B3):=fE
theorem lI {xs}:jg xs (some 1) none=xs.tail:=by
 unfold jg;rw[show((1:Int))=((1:Nat):Int) from rfl,HT.mU,HT.lh];cases xs with
 | nil=>rfl
 | cons x xs=>
  rw[Jf,Nat.min_eq_left (by omega)];simp
theorem az.tail {K H}:∀{ds vs},az K H ds vs->az K H ds.tail vs.tail
 | [],vs,h=>by rw[bq.mp h];exact bq.mpr rfl
 | d::ds,vs,h=>by obtain⟨v,r,rfl,_,h2⟩:=ba.mp h;exact h2
theorem CM (g:Glb9 mg) (F:eg K "is_behind_head" "is_behind_head" B3 f fd) (dS:Def P w K mg base "is_same" ["one","other"] 1 (mQ K)):bK P w K mg base eh 2 f fd ["thing","row"] (wZ K):=by
 refine F.fw EN fun WK A outer s H vs Q E hr h=>?_;obtain⟨x,r,d,ds,rfl,hx,hd,hrw,Kj,hl,q⟩:=h;refine⟨_,aq (aD (aJ (oG rfl) rfl g.Dg yJ (cw (.mk (L2.dH (cl:=[("thing",s.heap.objs.size+1)]) (Xs:=["one"]) (Nf:=["thing"]) (js:=[0]) ?k rfl (LI.out (Fg (cx (bR k9 (pv 1) (bZ ah) ck)) (ee (bR Et (pv 1) (bZ ah) ck)))) (fun C s0 H0 fp=>LG.out (i6 0 (show(["one","thing"]:List Str).Nodup by decide +kernel))) (fun C s0 H0 fp=>d6) (fun C s0 H0 fp=>LE.out (bX dS (bF (pv 1) (pv 0))))))))),?main⟩
 case k=>exact tI
 case main=>
  obtain⟨p,vs,rfl,hq,hA⟩:=hrw;rcases hq with hq | hq
  case' inl=>
   refine .inl ⟨_,rfl,1,rfl,p,vs,rfl,hq,fun t ht=>?_⟩;rw[lI];have s1:au H _:=ae ht (.lst vs.tail);have j0:bf K _ t vs.tail:=bf.of (ao (H:=H) (a:=t) (o:=.lst vs.tail));have j1:=gb j0;have j2:=ja j0;have j3:=gL j0;refine⟨t,rfl,⟨_,j0⟩,?_⟩
  case' inr=>
   refine .inr ⟨_,rfl,1,rfl,p,vs,rfl,hq,fun t H1 s1 j0=>?_⟩;rw[lI] at j0;replace j0:fh K H1 t vs.tail:=j0;have j1:=gZ j0;have j2:=km j0;have j3:=i9 j0;refine⟨t,rfl,⟨_,j0⟩,?_⟩
  all_goals
   have VT:=az.same s1 _ _ hA.tail;have lu:=VT.len;have lt:ds.tail.length<=ds.length:=by simp
   refine⟨[x],⟨rfl,fun j i h=>?_⟩,cq (vs:=[x]) (tc:=gx) vs.tail.length (fun i=>vs.tail.getD i .bj) (fun _=>true) (fun i v _=>v=.bl (decide (d=ds.tail.getD i .bj))) (fun _ _ _ _ _ z=>z) (by omega) j1 j2 j3 (fun i H2 Q' hi s2 k=>k H2 (au.refl _)) (fun i H2 D l Q' hi _ s2 _ _ k=>?_) fun D H2 ys hD s2 JY hP=>?_⟩
   ·match j,h with
    | 0,h=>cases h;exact⟨_,rfl,rfl⟩
    | j+1,h=>simp at h
   ·have LN:i < ds.tail.length:=by omega
    obtain⟨v',Ld,Nl⟩:=az.get (i:=i) VT (d:=ds.tail[i]) (by simp[LN]);have eu:vs.tail.getD i .bj=v':=by rw[IP,Ld];rfl
    have ed:ds.tail.getD i .bj=ds.tail[i]:=by rw[IP,IM LN];rfl
    refine⟨_,rfl,_,rfl,x,_,d,ds.tail[i],rfl,At.same (s1.trans s2) _ _ hx,At.same s2 _ _ (eu▸Nl),hd,Kj _ (List.mem_of_mem_tail (List.getElem_mem LN)),k _ H2 (au.refl _) (by rw[ed])⟩
   ·have e:=hP.eq;rw[JF.mpr (fun _ _=>rfl),lu,jI ds.tail .bj (fun e=>V.bl (decide (d=e)))] at e;refine⟨D,ds.tail.map fun e=>decide (d=e),rfl,bf.of (by rw[JY,e,List.map_map];rfl),?_⟩;have e2:(ds.tail.map fun e=>decide (d=e)).any id=decide (d∈ds.tail):=by
     rw[List.any_map];refine Bool.eq_iff_iff.mpr ?_;rw[List.any_eq_true,decide_eq_true_iff];exact⟨fun⟨e,he,z⟩=>(Jl z:d=e)▸he,fun z=>⟨d,z,IL rfl⟩⟩
    rw[e2];exact q _ (s1.trans s2)
abbrev xM:Stmt:=cj 66
abbrev HL:Stmt:=cj 67
abbrev BX:Stmt:=cj 68
structure jC (WN:List (List D)):Prop where
 el:∀ds∈WN,∀e∈ds,El e
 len:∀ds∈WN,ds.length<=1000
 many:WN.length<=1000
inductive sF (K:Fg06) (vs:List V) (H:Hp) (Q:VK) (E:XK):Prop
 | mk p WQ WN:vs=[.ref p]->bf K H p WQ->cA K H WN WQ->jC WN->(∀ds∈WN,ds≠[])->((∀i H',au H H'->i < WN.length->jy WN i=true->(∀j,j < i->jy WN j=false)->Q (.int (i:Nat)) H'))->((∀H',au H H'->(∀i,i < WN.length->jy WN i=false)->Q .bj H'))->sF K vs H Q E
theorem pV:aS ["rows","place","row","others"] ["rows"] (aw xM):=fE
theorem yA {xs} (i):jg xs none (some (i:Nat))=xs.take i:=by
 unfold jg;rw[HT.mU,HT.lh,List.drop_zero,Nat.sub_zero];rcases Nat.le_total i xs.length with h | h
 ·rw[Nat.min_eq_left h]
 ·rw[Nat.min_eq_right h,List.take_of_length_le (IW _),List.take_of_length_le h]
theorem yC {xs} (i):jg xs (some (i:Nat)) none=xs.drop i:=by
 unfold jg;rw[HT.mU,HT.lh];rcases Nat.le_total i xs.length with h | h
 ·rw[Nat.min_eq_left h];exact List.take_of_length_le (by simp)
 ·rw[Nat.min_eq_right h,Nat.sub_self,List.take_zero,List.drop_eq_nil_of_le h]
theorem Gq {u:V}{r:List V}:j4 (u::r) 0=some u:=by
 have h:sX (u::r).length 0=some 0:=by unfold sX;simp
 unfold j4;rw[h];rfl
theorem dQ.head {H:Hp}{d:D}{ds:List D}{v:V}(h:dQ K H (d::ds) v):∃u,At K H d u/\∀Q:VK,Q u H->E8 K v (.int 0) H Q:=by
 obtain⟨p,vs,rfl,hq,hA⟩:=h;obtain⟨u,r,rfl,h1,h2⟩:=ba.mp hA;refine⟨u,h1,fun Q q=>?_⟩;rcases hq with hq | hq
 ·exact .inl ⟨p,_,0,u,rfl,rfl,hq,Gq,q⟩
 ·exact .inr (.inl ⟨p,_,0,u,rfl,rfl,hq,Gq,q⟩)
theorem zF (g:Glb9 mg) (F:eg K "place_of_free" "place_of_free" xM f fd) (dB:Def P w K mg base "is_behind_head" ["thing","row"] 2 (wZ K)):bK P w K mg base eh 3 f fd ["rows"] (sF K):=by
 refine F.fw pV fun WK A outer s H vs Q E hr h=>?_;obtain⟨p,WQ,WN,rfl,hp,hR,cP,JJ,qi,qn⟩:=h;refine⟨_,ag (d9 Ji rfl (.mk (L2.zm rfl g.FT (LA.out (cw (pv 0))))) (gW rfl (ef (i6 1 pV.nd) (ef (i6 2 pV.nd) fX)))
   (ag (dD 3 pV.nd (aH pX (bR k9 (pv 0) ck (bZ (pv 1))) (bR k9 (pv 0) (bZ (aH fR (pv 1) ah)) ck)))
   (aq (br (fb (bT (aJ (oG rfl) rfl g.Dg yJ (cw (.mk (L2.dH (cl:=[("row",s.heap.objs.size+1)]) (Xs:=["other"]) (Nf:=["row"]) (js:=[2]) ?k rfl (LI.out (cx (pv 3))) (fun C s0 H0 fp=>LG.out (i6 0 (show(["other","row"]:List Str).Nodup by decide +kernel))) (fun C s0 H0 fp=>d6) (fun C s0 H0 fp=>LE.out (bX dB (bF (fV (r:=E8 K) sW (pv 1) ah (fun _ _=>rfl)) (pv 0)))))))))) (aq (aD (pv 1))) aP))))
  (aq (aD bV)),?main⟩
 case k=>exact tI
 case main=>
  have lR:=hR.len;refine⟨_,rfl,p,rfl,⟨WQ,hp⟩,yu (K:=K) (a:=p) (xs:=WQ) (fun i σ H'=>(∃o1 o2 o3,σ=[some (.ref p),o1,o2,o3])/\au H H'/\∀j,j < i->jy WN j=false) ⟨⟨_,_,_,rfl⟩,au.refl _,fun j hj=>Xc hj (Nat.not_lt_zero _)⟩ (fun i σ H' _ h=>h.2.1.seq hp) ?turn ?stop⟩
  case stop=>
   rintro σ H' ⟨⟨o1,o2,o3,rfl⟩,sH,hn⟩;exact qn H' sH fun i hi=>hn i (by omega)
  case turn=>
   rintro i x σ H' T hx ⟨⟨o1,o2,o3,rfl⟩,sH,hn⟩ hT;have hi:i < WQ.length:=(Jn.mp hx).1;obtain⟨ds,Kj,hrow⟩:=hR.get hx;have Kh:ds∈WN:=IX Kj;have t1:au H' (WX H' T (.tup [.int (i:Nat),x])):=ae hT _;have sq:fh K (WX H' T (.tup [.int (i:Nat),x])) T [.int (i:Nat),x]:=fh.of ao;revert t1 sq;generalize WX H' T (.tup [.int (i:Nat),x])=H2;intro t1 sq;have s2:=sH.trans t1;refine⟨T,_,rfl,sq,rfl,_,_,rfl,_,_,rfl,rfl,?_⟩;refine⟨_,rfl,_,rfl,i,rfl,p,WQ,rfl,s2.seq hp,fun p1 Nu=>?_⟩;rw[yA];have t2:au H2 (WX H2 p1 (.lst (WQ.take i))):=ae Nu _;have Kt:WX H2 p1 (.lst (WQ.take i)) p1=some (.lst (WQ.take i)):=ao;generalize WX H2 p1 (.lst (WQ.take i))=H3 at t2 Kt ⊢;refine⟨_,rfl,_,rfl,_,_,rfl,rfl,_,rfl,p,WQ,rfl,(s2.trans t2).seq hp,fun p2 L1=>?_⟩;rw[show((i:Nat):Int)+1=((i+1:Nat):Int) from rfl,yC];have t3:au H3 (WX H3 p2 (.lst (WQ.drop (i+1)))):=ae L1 _;have JY:WX H3 p2 (.lst (WQ.drop (i+1))) p2=some (.lst (WQ.drop (i+1))):=ao;generalize WX H3 p2 (.lst (WQ.drop (i+1)))=H4 at t3 JY ⊢;have Nx:=cP.many;refine⟨p1,p2,_,_,rfl,rfl,t3 _ _ Kt,JY,?_,fun p3 RK=>?_⟩
   ·rw[W6,List.length_drop];exact small (by omega)
   have t4:au H4 (WX H4 p3 (.lst (WQ.take i++WQ.drop (i+1)))):=ae RK _;have O7:WX H4 p3 (.lst (WQ.take i++WQ.drop (i+1))) p3=some (.lst (WQ.take i++WQ.drop (i+1))):=ao;generalize WX H4 p3 (.lst (WQ.take i++WQ.drop (i+1)))=H5 at t4 O7 ⊢;have s5:au H H5:=((s2.trans t2).trans t3).trans t4;have hO:=((hR.take i).append (hR.drop (i+1))).same s5;generalize hov:WQ.take i++WQ.drop (i+1)=ov at O7 hO;generalize MH:WN.take i++WN.drop (i+1)=od at hO;have lO:=hO.len;have lod:od.length<=1000:=by rw[<-MH,IJ,W6,List.length_drop];omega
   have memO:∀ds∈od,ds∈WN:=fun ds h=>by
    rw[<-MH] at h;rcases Jm.mp h with h | h
    ·exact List.mem_of_mem_take h
    ·exact List.mem_of_mem_drop h
   obtain⟨c,cs,rfl⟩:∃c cs,ds=c::cs:=by
    cases ds with
    | nil=>exact Xc rfl (JJ _ Kh)
    | cons c cs=>exact⟨c,cs,rfl⟩
   have j0:bf K H5 p3 ov:=bf.of O7;refine⟨_,rfl,p3,rfl,⟨_,j0⟩,[x],⟨rfl,fun j i h=>?_⟩,cq (vs:=[x]) (tc:=gx) ov.length (fun i=>ov.getD i .bj) (fun _=>true) (fun i v _=>v=.bl (decide (c∈(od.getD i []).tail))) (fun _ _ _ _ _ z=>z) (by omega) (gb j0) (ja j0) (gL j0) (fun i H2 Q' hi s2 k=>k H2 (au.refl _)) (fun j H6 D l Q' hj _ s6 _ _ k=>?_) fun D H6 ys hD s6 Ot hP=>?_⟩
   ·match j,h with
    | 0,h=>cases h;exact⟨_,rfl,rfl⟩
    | j+1,h=>simp at h
   ·obtain⟨es,KQ,Lg⟩:=hO.get (i:=j) (v:=ov[j]) (by simp[hj]);have eo:ov.getD j .bj=ov[j]:=by rw[IP,IM hj];rfl
    have ed:od.getD j []=es:=by rw[IP,KQ];rfl
    obtain⟨u,hu,ku⟩:=(hrow.same (s5.trans s6)).head;refine⟨_,rfl,ku _ ?_⟩;refine⟨_,rfl,u,_,c,es,rfl,hu,cP.el _ Kh _ II,(by rw[eo];exact Lg.same s6),cP.el _ (memO _ (IX KQ)),cP.len _ (memO _ (IX KQ)),fun H7 s7=>k _ H7 s7 (by rw[ed])⟩
   ·have e:=hP.eq;rw[JF.mpr (fun _ _=>rfl),lO,jI od [] (fun r=>V.bl (decide (c∈r.tail)))] at e;refine⟨D,od.map fun r=>decide (c∈r.tail),rfl,bf.of (by rw[Ot,e,List.map_map];rfl),?_⟩;have e2:(od.map fun r=>decide (c∈r.tail)).any id=cK c od:=by rw[List.any_map];rfl
    have e3:jy WN i=!cK c od:=by rw[jy,Kj,<-MH]
    rw[e2];have s7:au H H6:=s5.trans s6;cases hb:cK c od with
    | false=>exact⟨false,rfl,⟨_,rfl,qi i H6 s7 (by omega) (by rw[e3,hb];rfl) hn⟩⟩
    | true=>exact⟨true,rfl,⟨⟨_,_,_,rfl⟩,s7,fun j hj=>by
      by_cases z:j=i
      ·rw[z,e3,hb];rfl
      ·exact hn j (by omega)⟩⟩
def HF (K:Fg06):V->Option Int->Option Int->Hp->VK->Prop:=fun x lo hi H Q=>Bw K x lo hi H Q\/Bv K x lo hi H Q
def E6 (K:Fg06):List V->Hp->VK->Prop:=fun xs H Q=>∃p ys,xs=[V.ref p]/\(bf K H p ys\/fh K H p ys)/\Q (V.int ys.length) H
inductive A7 (K:Fg06) (vs:List V) (H:Hp) (Q:VK) (E:XK):Prop
 | mk p x WQ WN d gh gl:vs=[.ref p,x]->bf K H p WQ->H gh=some (.lst gl)->cA K (wo H gh) WN WQ->jC WN->(∀ds∈WN,ds≠[])->At K H d x->El d->(∀q H' ws,au H H'->q≠gh->H' q=some (.lst ws)->cA K (wo H' gh) (mw (WN.map (d5 d))) ws->Q (.ref q) H')->A7 K vs H Q E
theorem Ew:aS ["rows","head","shorter"] ["rows","head"] (aw HL):=fE
section
variable {H:Hp}{D0 D1:Addr}{l:List V}
theorem Aa (h:H D1=some (.lst l)):wo H D0 D1=some (.lst l)\/wo H D0 D1=none:=by
 unfold wo;split
 ·exact .inr rfl
 ·exact .inl h
theorem wu {H D1}(h:H D1=none):wo H D1=H:=by
 funext p;unfold wo;split
 ·rename_i z;rw[z,h]
 ·rfl
theorem fh.GC {p vs}(hD:H D1=some (.lst l)) (h:fh K (GS.wo H D0) p vs):fh K (GS.wo (GS.wo H D0) D1) p vs:=by
 rcases Aa (D0:=D0) hD with z | z
 ·exact fh.wo z h
 ·rw[wu z];exact h
theorem az.GC (hD:H D1=some (.lst l)) (ds vs) (h:az K (GS.wo H D0) ds vs):az K (GS.wo (GS.wo H D0) D1) ds vs:=by
 rcases Aa (D0:=D0) hD with z | z
 ·exact az.wo z _ _ h
 ·rw[wu z];exact h
end
theorem dQ.rest {H ds v}(h:dQ K H ds v) (Q) (hq:∀u H',au H H'->(∀D l D' l',H D=some (.lst l)->H D'=some (.lst l')->dQ K (wo (wo H' D) D') ds.tail u)->Q u H'):(Bw K v (some 1) none H Q)\/(Bv K v (some 1) none H Q):=by
 obtain⟨p,vs,rfl,hs,hA⟩:=h;rcases hs with hs | hs
 ·refine .inl ⟨p,vs,rfl,hs,fun t ht=>?_⟩;rw[lI];have s1:au H (WX H t (.lst vs.tail)):=ae ht _;refine hq _ _ s1 fun D l D' l' hD MS=>?_;have ne:t≠D:=cE ht hD;have ne':t≠D':=fun z=>by rw[<-z,ht] at MS;cases MS
  refine⟨t,_,rfl,.inl (bf.of (by rw[oZ ne',oZ ne];exact ao)),?_⟩;have a1:=az.wo (D':=D) (s1 _ _ hD) _ _ (az.same s1 _ _ hA.tail);exact az.GC (s1 _ _ MS) _ _ a1
 ·refine .inr ⟨p,vs,rfl,hs,fun t H1 s1 ht=>?_⟩;rw[lI] at ht;exact hq _ _ s1 fun D l D' l' hD MS=>⟨t,_,rfl,.inr (fh.GC (s1 _ _ MS) (fh.wo (s1 _ _ hD) ht)),az.GC (s1 _ _ MS) _ _ (az.wo (s1 _ _ hD) _ _ (az.same s1 _ _ hA.tail))⟩
theorem dQ.count {H ds v}(h:dQ K H ds v):∃p ys,v=.ref p/\(bf K H p ys\/fh K H p ys)/\ys.length=ds.length:=by
 obtain⟨p,vs,rfl,hs,hA⟩:=h;exact⟨p,vs,rfl,hs,hA.len⟩
theorem Fm (g:Glb9 mg) (F:eg K "without_head" "without_head" HL f fd) (dS:Def P w K mg base "is_same" ["one","other"] 1 (mQ K)):bK P w K mg base eh 2 f fd ["rows","head"] (A7 K):=by
 refine F.fw Ew fun WK A outer s H vs Q E hr h=>?_;obtain⟨p,x,WQ,WN,d,gh,gl,rfl,hp,Vr,hR,cP,JJ,hx,hd,q⟩:=h;refine⟨_,ag (.mk (L2.cM (iy:=2) (cl:=[("head",s.heap.objs.size+1)]) (Xs:=["row"]) (Nf:=["head"]) (js:=[1]) ?k rfl (LI.out (cx (pv 0))) (fun C s0 H0 fp=>LG.out (i6 0 (show(["row","head"]:List Str).Nodup by decide +kernel))) (fun C s0 H0 fp=>d6) (fun C s0 H0 fp=>LE.out (bx (bT (bX dS (bF (fV (r:=E8 K) sW (pv 0) ah (fun _ _=>rfl)) (pv 1)))) (bR (r:=HF K) (wk.or k9 Et) (pv 0) (bZ ah) ck) (pv 0))) Ew.nd rfl (Or.inl rfl)))
  (aq (aD (.mk (L2.dH (cl:=[]) (Xs:=["row"]) (Nf:=[]) (js:=[]) ?k2 rfl (LI.out (cx (pv 2))) (fun C s0 H0 fp=>LG.out (i6 0 (show(["row"]:List Str).Nodup by decide +kernel))) (fun C s0 H0 fp=>gq (LT.out (cR gy (aJ (r:=E6 K) aU rfl g.fJ cX (cw (pv 0))) ah))) (fun C s0 H0 fp=>LE.out (pv 0)))))),?main⟩
 case k=>exact tI
 case k2=>
  refine⟨rfl,by decide +kernel,rfl,by decide +kernel,fun y c h=>by simp at h,fun y hy=>?_,rfl,fun j y h=>by simp at h⟩;have M4:([(".0",.local),("row",.local),("len",.globalImplicit)]:List (Str×NameKind)).lookup y=some .cell\/([(".0",.local),("row",.local),("len",.globalImplicit)]:List (Str×NameKind)).lookup y=some .free:=hy;rcases M4 with z | z
  ·have m:=Je z;simp at m
  ·have m:=Je z;simp at m
 case main=>
  have lR:=hR.len;have Nx:=cP.many;refine⟨_,rfl,p,rfl,⟨_,hp⟩,[x],⟨rfl,fun j i h=>?_⟩,cq (vs:=[x]) (tc:=gx) WQ.length (fun i=>WQ.getD i .bj) (fun _=>true) (fun i v H'=>dQ K (wo H' gh) (d5 d (WN.getD i [])) v) (fun _ _ _ _ s z=>z.same (fq gh s)) (by omega) (gb hp) (ja hp) (gL hp) (fun i H2 Q' hi s2 k=>k H2 (au.refl _)) (fun j H6 D l Q' hj _ s6 hD KI k=>?_) fun D H6 ys hD s6 Ot hP=>?_⟩
  ·match j,h with
   | 0,h=>cases h;exact⟨_,rfl,rfl⟩
   | j+1,h=>simp at h
  ·obtain⟨es,KQ,Lg⟩:=hR.get (i:=j) (v:=WQ[j]) (by simp[hj]);have eo:WQ.getD j .bj=WQ[j]:=by rw[IP,IM hj];rfl
   have ed:WN.getD j []=es:=by rw[IP,KQ];rfl
   have Kh:es∈WN:=IX KQ;rw[ed] at k;rw[eo];obtain⟨c,cs,rfl⟩:∃c cs,es=c::cs:=by
    cases es with
    | nil=>exact Xc rfl (JJ _ Kh)
    | cons c cs=>exact⟨c,cs,rfl⟩
   have Vb:=(Lg.same (du H gh)).same s6;obtain⟨u,hu,ku⟩:=Vb.head;refine⟨_,rfl,ku _ ?_⟩;refine⟨_,rfl,u,x,c,d,rfl,hu,At.same s6 _ _ hx,cP.el _ Kh _ II,hd,_,rfl,?_⟩;by_cases hc:c=d
   ·rw[IL hc];refine bE ⟨_,rfl,1,rfl,Vb.rest _ fun u' H7 s7 w7=>k _ _ s7 ?_⟩;rw[d5,IZ hc];exact w7 D l gh gl KI (s6 _ _ Vr)
   ·rw[IK hc];refine aY ⟨_,rfl,k _ _ (au.refl _) ?_⟩;rw[d5,IY hc];exact Lg.same (fq gh (pT hD s6))
  ·have La:=(hP.mono (fun i v z=>dQ.same (fq gh (du H6 D)) z)).rows;rw[JF.mpr (fun _ _=>rfl),lR,jI WN [] (d5 d)] at La;have lY:=La.len;rw[IU] at lY;have j0:bf K H6 D ys:=bf.of Ot;generalize hEs:WN.map (d5 d)=WS at La q;have lE:WS.length=WN.length:=by rw[<-hEs,IU]
   refine⟨_,rfl,D,rfl,⟨_,j0⟩,[],⟨rfl,fun j i h=>by simp at h⟩,cq (vs:=[]) ys.length (fun i=>ys.getD i .bj) (fun i=>!(WS.getD i []).isEmpty) (fun i v H'=>dQ K (wo H' gh) (WS.getD i []) v) (fun _ _ _ _ s z=>z.same (fq gh s)) (by omega) (gb j0) (ja j0) (gL j0) (fun j H7 Q' hj s7 k=>?_) (fun j H7 D' l Q' hj _ s7 QT _ k=>?_) fun D' H7 zs QT s7 Tg QP=>?_⟩
   ·obtain⟨es,KQ,Lg⟩:=La.get (i:=j) (v:=ys[j]) (by simp[hj]);have eo:ys.getD j .bj=ys[j]:=by rw[IP,IM hj];rfl
    have ed:WS.getD j []=es:=by rw[IP,KQ];rfl
    rw[ed] at k;rw[eo];obtain⟨pr,vr,er,hq,lr⟩:=((Lg.same (du H6 gh)).same s7).count;rw[er];refine⟨_,rfl,pr,vr,rfl,hq,_,_,rfl,rfl,?_⟩;rw[lr];have e:decide ((0:Int) < (es.length:Nat))=!es.isEmpty:=by
     cases es with
     | nil=>rfl
     | cons a b=>rw[IL];rfl;rw[Jf];omega
    exact⟨_,Xd V.bl e,k H7 (au.refl _)⟩
   ·obtain⟨es,KQ,Lg⟩:=La.get (i:=j) (v:=ys[j]) (by simp[hj]);have eo:ys.getD j .bj=ys[j]:=by rw[IP,IM hj];rfl
    have ed:WS.getD j []=es:=by rw[IP,KQ];rfl
    rw[ed] at k;rw[eo];exact⟨_,rfl,k _ _ (au.refl _) (Lg.same (fq gh (pT QT s7)))⟩
   ·have hF:=(QP.mono (fun i v z=>dQ.same (fq gh (du H7 D')) z)).rows;have e:((List.range ys.length).filter fun i=>!(WS.getD i []).isEmpty).map (fun i=>WS.getD i [])=mw WS:=by
     have:=lj WS [] (fun r=>!r.isEmpty) id;rw[List.map_id] at this;rw[show ys.length=WS.length by omega];exact this
    rw[e] at hF;exact q D' H7 zs (s6.trans s7) (cE QT (s6 _ _ Vr)) Tg hF
end
section
variable {P:Program}{w:World}{K:Fg06}{mg:Str->Option Value}{base:Heap}{f:Addr}{fd:FuncData}
inductive wW (K:Fg06) (vs:List V) (H:Hp) (Q:VK) (E:XK):Prop
 | mk p WQ WN:vs=[.ref p]->bf K H p WQ->cA K H WN WQ->jC WN->(∀ds∈WN,ds.Nodup)->oO WN<=100000->((∀H',au H H'->GS.mg WN=none->Q .bj H'))->((∀q H' ws l,au H H'->GS.mg WN=some l->H q=none->H' q=some (.lst ws)->az K H' l ws->Q (.ref q) H'))->wW K vs H Q E
theorem Iv {α:Type}{xs:List α}{i:Nat}{x:α}(h:xs[i]?=some x):j4 xs (i:Nat)=some x:=by
 have hi:=(Jn.mp h).1;have e:sX xs.length (i:Nat)=some i:=by
  unfold sX;rw[IZ (by omega),IZ (by omega)];rw[Int.toNat_natCast]
 unfold j4;rw[e];exact h
theorem pz:aS ["rows","waiting","order","place","head"] ["rows"] (aw BX):=fE
theorem AW (H D o):au (wo H D) (WX H D o):=fun p u e=>by
 unfold wo at e;split at e
 ·cases e
 ·rename_i h;rw[aB h];exact e
theorem jC.sub {WN WS}(h:jC WN) (hs:∀r∈WS,∃q∈WN,r.Sublist q) (hl:WS.length<=WN.length):jC WS:=
 ⟨fun ds hd e he=>let ⟨q,hq,z⟩:=hs ds hd;h.el q hq e (z.subset he),fun ds hd=>let ⟨q,hq,z⟩:=hs ds hd;IV z.length_le (h.len q hq),IV hl h.many⟩
structure Left (WN:List (List D)):Prop where
 ok:jC WN
 ne:∀ds∈WN,ds≠[]
 nd:∀ds∈WN,ds.Nodup
theorem pZ {WN:List (List D)}{r:List D}:r∈mw WN↔r∈WN/\r≠[]:=by
 unfold mw;rw[JC];constructor
 ·rintro⟨a,b⟩;exact⟨a,fun z=>by rw[z] at b;cases b⟩
 ·rintro⟨a,b⟩;refine⟨a,?_⟩;cases r with
  | nil=>exact Xc rfl b
  | cons x xs=>rfl
theorem Left.of {WN}(h:jC WN) (hn:∀ds∈WN,ds.Nodup):Left (mw WN):=
 ⟨h.sub (fun r hr=>⟨r,(pZ.mp hr).1,List.Sublist.refl _⟩) (List.length_filter_le ..),fun ds hd=>(pZ.mp hd).2,fun ds hd=>hn _ (pZ.mp hd).1⟩
theorem Left.next {WN}(h:Left WN) (c):Left (mw (WN.map (d5 c))):=by
 refine Left.of (h.ok.sub (fun r hr=>?_) (by rw[IU];exact IW _)) fun r hr=>?_
 ·obtain⟨q,hq,rfl⟩:=JD.mp hr;exact⟨q,hq,pB c q⟩
 ·obtain⟨q,hq,rfl⟩:=JD.mp hr;exact rf (h.nd q hq)
theorem CG (g:Glb9 mg) (F:eg K "merged" "merged" BX f fd) (dF:Def P w K mg base "place_of_free" ["rows"] 3 (sF K)) (dW:Def P w K mg base "without_head" ["rows","head"] 2 (A7 K)):bK P w K mg base eh 4 f fd ["rows"] (wW K):=by
 refine F.fw pz fun WK A outer s H vs Q E hr h=>?_;obtain⟨p,WQ,WN,rfl,hp,hR,cP,Lq,htot,qn,qs⟩:=h;refine⟨_,ag (.mk (L2.cM (iy:=1) (cl:=[]) (Xs:=["row"]) (Nf:=[]) (js:=[]) ?k rfl (LI.out (cx (pv 0))) (fun C s0 H0 fp=>LG.out (i6 0 (show(["row"]:List Str).Nodup by decide +kernel))) (fun C s0 H0 fp=>gq (LT.out (cR gy (aJ (r:=E6 K) aU rfl g.fJ cX (cw (pv 0))) ah))) (fun C s0 H0 fp=>LE.out (pv 0)) pz.nd rfl (Or.inl rfl)))
  (ag (dD 2 pz.nd (bB cJ))
  (ag (fH Ji (cR gy (aJ aU rfl g.fJ cX (cw (pv 1))) ah)
   (ag (dD 3 pz.nd (bX dF (cw (pv 1))))
   (ag (br (cR jx (pv 3) bV) (aq (aD bV)) aP)
   (ag (dD 4 pz.nd (fV (r:=E8 K) sW (ff K (pv 1) (pv 3)) ah (fun _ _=>rfl)))
   (ag (bW (dZ Jo Jp Jq cp (pv 2) (cw (pv 4))))
   (aq (dD 1 pz.nd (bX dW (bF (pv 1) (pv 4))))))))))
  (aq (aD (pv 2))))),?main⟩
 case k=>
  refine⟨rfl,by decide +kernel,rfl,by decide +kernel,fun y c h=>by simp at h,fun y hy=>?_,rfl,fun j y h=>by simp at h⟩;have M4:([(".0",.local),("row",.local),("len",.globalImplicit)]:List (Str×NameKind)).lookup y=some .cell\/([(".0",.local),("row",.local),("len",.globalImplicit)]:List (Str×NameKind)).lookup y=some .free:=hy;rcases M4 with z | z
  ·have m:=Je z;simp at m
  ·have m:=Je z;simp at m
 case main=>
  have lR:=hR.len;have Nx:=cP.many;refine⟨_,rfl,p,rfl,⟨_,hp⟩,[],⟨rfl,fun j i h=>by simp at h⟩,cq (vs:=[]) WQ.length (fun i=>WQ.getD i .bj) (fun i=>!(WN.getD i []).isEmpty) (fun i v H'=>dQ K H' (WN.getD i []) v) (fun _ _ _ _ s z=>z.same s) (by omega) (gb hp) (ja hp) (gL hp) (fun j H7 Q' hj s7 k=>?_) (fun j H7 D' l Q' hj _ s7 QT _ k=>?_) fun wl H1 zs Ry s1 Kt hP1=>?_⟩
  ·obtain⟨es,KQ,Lg⟩:=hR.get (i:=j) (v:=WQ[j]) (by simp[hj]);have eo:WQ.getD j .bj=WQ[j]:=by rw[IP,IM hj];rfl
   have ed:WN.getD j []=es:=by rw[IP,KQ];rfl
   rw[ed] at k;rw[eo];obtain⟨pr,vr,er,hq,lr⟩:=(Lg.same s7).count;rw[er];refine⟨_,rfl,pr,vr,rfl,hq,_,_,rfl,rfl,?_⟩;rw[lr];have e:decide ((0:Int) < (es.length:Nat))=!es.isEmpty:=by
    cases es with
    | nil=>rfl
    | cons a b=>rw[IL];rfl;rw[Jf];omega
   exact⟨_,Xd V.bl e,k H7 (au.refl _)⟩
  ·obtain⟨es,KQ,Lg⟩:=hR.get (i:=j) (v:=WQ[j]) (by simp[hj]);have eo:WQ.getD j .bj=WQ[j]:=by rw[IP,IM hj];rfl
   have ed:WN.getD j []=es:=by rw[IP,KQ];rfl
   rw[ed] at k;rw[eo];exact⟨_,rfl,k _ _ (au.refl _) (Lg.same (pT QT s7))⟩
  have hF:=(hP1.mono (fun i v z=>dQ.same (du H1 wl) z)).rows;have e:((List.range WQ.length).filter fun i=>!(WN.getD i []).isEmpty).map (fun i=>WN.getD i [])=mw WN:=by
   have:=lj WN [] (fun r=>!r.isEmpty) id;rw[List.map_id] at this;rw[lR];exact this
  rw[e] at hF;have MQ:=Left.of cP Lq;have RL:GS.mg WN=(GS.mg (mw WN)).map ([]++·):=by rw[xW];cases GS.mg WN<;>rfl
  have U8:oO (mw WN)<=100000:=by rw[jN];exact htot
  generalize mw WN=QX at hF MQ RL U8;refine⟨by show 0<=sizeLine;exact Jr _,fun ol Nv=>?_⟩;have Qm:H ol=none:=s1.free Nv;have nwo:wl≠ol:=cE Kt Nv;have sA:au H (wo (WX H1 ol (.lst [])) ol):=by rw[lP];exact pT Qm s1
  have rA:cA K (wo (WX H1 ol (.lst [])) ol) QX zs:=by rw[lP,wu Nv];exact hF
  have oA:WX H1 ol (.lst []) ol=some (.lst []):=ao;have wA:WX H1 ol (.lst []) wl=some (.lst zs):=by rw[aB nwo];exact Kt
  generalize WX H1 ol (.lst [])=H2 at sA rA oA wA ⊢;refine⟨fun m σ H'=>∃(wl:Addr) (zs us:List V) (WS:List (List D)) (os:List D) (o3 o4:Option V),σ=[some (.ref p),some (.ref wl),some (.ref ol),o3,o4]/\wl≠ol/\au H (wo H' ol)/\H' wl=some (.lst zs)/\H' ol=some (.lst us)/\cA K (wo H' ol) WS zs/\az K (wo H' ol) os us/\Left WS/\GS.mg WN=(GS.mg WS).map (os++·)/\m=oO WS/\oO WS+os.length<=100000,⟨_,wl,zs,[],QX,[],none,none,rfl,nwo,sA,wA,oA,rA,bq.mpr rfl,MQ,RL,rfl,by simpa using U8⟩,?_⟩;rintro m σ H3 ⟨wl,zs,us,WS,os,o3,o4,rfl,nwo,sA,wA,oA,rA,aA,hL,hm,rfl,hto⟩;have lz:=rA.len;refine⟨_,rfl,wl,zs,rfl,.inl (bf.of wA),_,_,rfl,rfl,?_⟩;have s3:au H H3:=sA.trans (du H3 ol);have rH:=rA.same (du H3 ol);by_cases he:WS=[]
  ·subst he;have e0:zs.length=0:=by rw[lz];rfl
   rw[e0];refine⟨false,rfl,aY ⟨_,rfl,qs ol H3 us os s3 ?_ Qm oA (az.same (du H3 ol) _ _ aA)⟩⟩;rw[hm,uC rfl,Option.map_some,Js]
  have Qi:0 < zs.length:=by
   rw[lz];cases WS with
   | nil=>exact Xc rfl he
   | cons a b=>exact Nat.succ_pos _
  have hna:¬WS.all List.isEmpty=true:=fun z=>by
   cases WS with
   | nil=>exact he rfl
   | cons a b=>
    rw[List.all_cons,Xb] at z;exact hL.ne a II (List.isEmpty_iff.mp z.1)
  have Vh:∀r∈WS,r≠[]/\r.Nodup:=fun r hr=>⟨hL.ne r hr,hL.nd r hr⟩;refine⟨true,Xd V.bl (IL (by omega)),bE ⟨_,fun σ' H' h=>h,?_⟩⟩;refine⟨_,rfl,wl,zs,WS,rfl,bf.of wA,rH,hL.ok,hL.ne,fun i H4 s4 hi ho hn=>?_,fun H4 s4 hn=>?_⟩
  rotate_left
  ·refine⟨_,rfl,rfl,true,rfl,bE (qn H4 (s3.trans s4) ?_)⟩;rw[hm,xU hna (vT Vh hn)];rfl
  refine⟨_,rfl,rfl,false,rfl,aY ?_⟩;have Vo:i < zs.length:=by omega
  obtain⟨es,KQ,RH⟩:=rH.get (i:=i) (v:=zs[i]) (by simp[Vo]);obtain⟨c,cs,rfl⟩:∃c cs,es=c::cs:=by
   cases es with
   | nil=>exact Xc rfl (hL.ne _ (IX KQ))
   | cons c cs=>exact⟨c,cs,rfl⟩
  have Kh:=IX KQ;obtain⟨more,hf⟩:=tw Vh KQ ho hn;obtain⟨u,hu,ku⟩:=(RH.same s4).head;have ai:j4 zs (i:Nat)=some zs[i]:=Iv (IM Vo);refine⟨_,rfl,_,rfl,⟨wl,zs,i,zs[i],rfl,rfl,bf.of (s4 _ _ wA),ai,ku _ ?_⟩⟩;have wA4:=s4 _ _ wA;have Rj:=s4 _ _ oA;have WM:=aA.len;refine⟨_,rfl,.inl ⟨rfl,us,bf.of Rj⟩,_,rfl,ol,us,u,rfl,rfl,Rj,Ju (Jz _) (small (n:=us.length+1) (by omega)),?_⟩;have w5:cA K (wo (WX H4 ol (.lst (us++[u]))) ol) WS zs:=by rw[lP];exact rA.same (fq ol s4)
  have a5:az K (wo (WX H4 ol (.lst (us++[u]))) ol) (os++[c]) (us++[u]):=by
   rw[lP];exact(az.same (fq ol s4) _ _ aA).append (ba.mpr ⟨_,_,rfl,At.wo Rj _ _ hu,bq.mpr rfl⟩)
  have U4:At K (WX H4 ol (.lst (us++[u]))) c u:=At.same (AW H4 ol _) _ _ (At.wo Rj _ _ hu);have SE:WX H4 ol (.lst (us++[u])) ol=some (.lst (us++[u])):=ao;have Uo:WX H4 ol (.lst (us++[u])) wl=some (.lst zs):=by rw[aB nwo];exact wA4
  have Uw:au H (wo (WX H4 ol (.lst (us++[u]))) ol):=by rw[lP];exact sA.trans (fq ol s4)
  generalize WX H4 ol (.lst (us++[u]))=H5 at w5 a5 U4 SE Uo Uw ⊢;have hcf:c∈fW WS:=by rw[hf];exact II
  have JR:=i5 c (JC.mp hcf).1;refine⟨_,rfl,_,rfl,wl,u,zs,WS,c,ol,us++[u],rfl,bf.of Uo,SE,w5,hL.ok,hL.ne,U4,hL.ok.el _ Kh _ II,fun q H6 ws s6 hq hq6 Tv=>?_⟩;refine⟨oO (mw (WS.map (d5 c))),by rw[jN];exact JR,q,ws,us++[u],mw (WS.map (d5 c)),os++[c],_,_,rfl,hq,Uw.trans (fq ol s6),hq6,s6 _ _ SE,Tv,az.same (fq ol s6) _ _ a5,hL.next c,?_,rfl,?_⟩
  ·rw[hm,qb hf,xW,Option.map_map];refine congrFun (Xd Option.map (funext fun l=>?_)) _;show os++c::l=os++[c]++l;rw[List.append_assoc];rfl
  ·rw[jN,IJ,Jy];omega
end
end GS
namespace GS
section
variable {α:Type} [DecidableEq α]
def cnt (d:α) (l:List α):Nat:=l.countP fun e=>decide (e=d)
theorem cnt_cons (d a:α) (l):cnt d (a::l)=cnt d l+if a=d then 1 else 0:=by
 unfold cnt;rw[List.countP_cons];by_cases h:a=d
 ·simp[h]
 ·simp[h]
theorem rS {d:α}:∀{l:List α},d∉l->cnt d l=0
 | [],_=>rfl
 | a::l,h=>by
  rw[cnt_cons,rS (fun z=>h (IH _ z)),IY (fun z=>h (by rw[z];exact II))]
theorem pM {d:α}:∀{l:List α},l.Nodup->cnt d l<=1
 | [],_=>Jr _
 | a::l,h=>by
  rw[List.nodup_cons] at h;rw[cnt_cons];by_cases e:a=d
  ·rw[IZ e,rS (e▸h.1)];exact IW _
  ·rw[IY e];exact pM h.2
end
theorem vD {α β:Type}{f:α->β}(hf:∀x y,f x=f y->x=y){l:List α}:(l.map f).Nodup↔l.Nodup:=by
 induction l with
 | nil=>simp
 | cons a l ih=>
  rw[W5,List.nodup_cons,List.nodup_cons,ih];refine and_congr_left fun _=>not_congr ?_;rw[JD];exact⟨fun⟨x,hx,e⟩=>hf _ _ e▸hx,fun h=>⟨a,h,rfl⟩⟩
end GS
set_option maxRecDepth 100000
set_option maxHeartbeats 4000000
namespace GS
open PySem PyProof.Rows
open L2 hiding ah jd bV ak pv bz fY aH ju eJ cZ cT jv bx fV ck bZ bR cJ bI bB aI fI aJ bS dZ fg bT fb cv cY cS eY gs fX ef gW cx ee cg aD bW iI iJ br fH d9 aP ag aq
open L3
def mz (i:Nat):Stmt->Stmt
 | .ClassDef _ _ _ body _ _ _ _ _ _ _=>body.getD i (.Pass ⟨0,0,0,0⟩)
 | _=>.Pass ⟨0,0,0,0⟩
theorem bu {f g v x r}(h:g≠f):di f v ((g,x)::r)=(g,x)::di f v r:=IY h
section
variable {P:Program}{w:World}{K:Fg06}{mg:Str->Option Value}{base:Heap}{f:Addr}{fd:FuncData}
abbrev zA:Stmt:=(mz 0 (cj 5))
inductive xg (C:Addr) (vs:List V) (H:Hp) (Q:VK) (E:XK):Prop
 | mk x dx v1 v2 v3 v4 v5 v6:vs=[.ref x,v1,v2,v3,v4,v5,v6]->H x=some (.ins C dx [])->(∀H',(∀p,p≠x->H' p=H p)->H' x=some (.ins C dx [("name",v1),("params",v2),("defaults",v3),("code",v4),("around",v5),("gives",v6)])->Q .bj H')->xg C vs H Q E
theorem ET:aS ["self","name","params","defaults","code","around","gives"] ["self","name","params","defaults","code","around","gives"] (aw zA):=fE
theorem CS {c}(z:iT K c) (F:eg K "__init__" "Function.__init__" zA f fd):bK P w K mg base eh 1 f fd ["self","name","params","defaults","code","around","gives"] (xg c.F):=by
 refine F.fw ET fun WK A outer s H vs Q E hr h=>?_;obtain⟨x,dx,v1,v2,v3,v4,v5,v6,rfl,hx,q⟩:=h;refine⟨_,(ag (L3.cD (pv 0) (pv 1))
   (ag (L3.cD (pv 0) (pv 2))
   (ag (L3.cD (pv 0) (pv 3))
   (ag (L3.cD (pv 0) (pv 4))
   (ag (L3.cD (pv 0) (pv 5))
   (aq (L3.cD (pv 0) (pv 6)))))))),?_⟩
 have e1:di "name" v1 ([]:List (Str×V))=([("name",v1)]:List (Str×V)):=by rfl
 have e2:di "params" v2 ([("name",v1)]:List (Str×V))=([("name",v1),("params",v2)]:List (Str×V)):=by rw[bu (by decide +kernel)];rfl
 have e3:di "defaults" v3 ([("name",v1),("params",v2)]:List (Str×V))=([("name",v1),("params",v2),("defaults",v3)]:List (Str×V)):=by rw[bu (by decide +kernel),bu (by decide +kernel)];rfl
 have e4:di "code" v4 ([("name",v1),("params",v2),("defaults",v3)]:List (Str×V))=([("name",v1),("params",v2),("defaults",v3),("code",v4)]:List (Str×V)):=by rw[bu (by decide +kernel),bu (by decide +kernel),bu (by decide +kernel)];rfl
 have e5:di "around" v5 ([("name",v1),("params",v2),("defaults",v3),("code",v4)]:List (Str×V))=([("name",v1),("params",v2),("defaults",v3),("code",v4),("around",v5)]:List (Str×V)):=by rw[bu (by decide +kernel),bu (by decide +kernel),bu (by decide +kernel),bu (by decide +kernel)];rfl
 have e6:di "gives" v6 ([("name",v1),("params",v2),("defaults",v3),("code",v4),("around",v5)]:List (Str×V))=([("name",v1),("params",v2),("defaults",v3),("code",v4),("around",v5),("gives",v6)]:List (Str×V)):=by rw[bu (by decide +kernel),bu (by decide +kernel),bu (by decide +kernel),bu (by decide +kernel),bu (by decide +kernel)];rfl
 refine⟨_,rfl,_,rfl,x,c.F,dx,_,rfl,hx,z.fc,z.f1,by decide,?_⟩;rw[e1];refine⟨_,rfl,_,rfl,x,c.F,dx,_,rfl,ao,z.fc,z.f2,Ju (Jz 1) (by decide),?_⟩;rw[e2];refine⟨_,rfl,_,rfl,x,c.F,dx,_,rfl,ao,z.fc,z.f3,Ju (Jz 2) (by decide),?_⟩;rw[e3];refine⟨_,rfl,_,rfl,x,c.F,dx,_,rfl,ao,z.fc,z.f4,Ju (Jz 3) (by decide),?_⟩;rw[e4];refine⟨_,rfl,_,rfl,x,c.F,dx,_,rfl,ao,z.fc,z.f5,Ju (Jz 4) (by decide),?_⟩;rw[e5];refine⟨_,rfl,_,rfl,x,c.F,dx,_,rfl,ao,z.fc,z.f6,Ju (Jz 5) (by decide),?_⟩;rw[e6];exact q _ (fun p hp=>by rw[aB hp,aB hp,aB hp,aB hp,aB hp,aB hp]) ao
abbrev zx:Stmt:=(mz 0 (cj 6))
inductive xa (C:Addr) (vs:List V) (H:Hp) (Q:VK) (E:XK):Prop
 | mk x dx v1:vs=[.ref x,v1]->H x=some (.ins C dx [])->(∀H',(∀p,p≠x->H' p=H p)->H' x=some (.ins C dx [("name",v1)])->Q .bj H')->xa C vs H Q E
theorem EO:aS ["self","name"] ["self","name"] (aw zx):=fE
theorem CN {c}(z:iT K c) (F:eg K "__init__" "Given.__init__" zx f fd):bK P w K mg base eh 1 f fd ["self","name"] (xa c.G):=by
 refine F.fw EO fun WK A outer s H vs Q E hr h=>?_;obtain⟨x,dx,v1,rfl,hx,q⟩:=h;refine⟨_,(aq (L3.cD (pv 0) (pv 1))),?_⟩;have e1:di "name" v1 ([]:List (Str×V))=([("name",v1)]:List (Str×V)):=by rfl
 refine⟨_,rfl,_,rfl,x,c.G,dx,_,rfl,hx,z.gc,z.g1,by decide,?_⟩;rw[e1];exact q _ (fun p hp=>by rw[aB hp]) ao
abbrev zv:Stmt:=(mz 0 (cj 8))
inductive wX (C:Addr) (vs:List V) (H:Hp) (Q:VK) (E:XK):Prop
 | mk x dx v1 v2 v3 v4:vs=[.ref x,v1,v2,v3,v4]->H x=some (.ins C dx [])->(∀H',(∀p,p≠x->H' p=H p)->H' x=some (.ins C dx [("name",v1),("order",v2),("fields",v3),("is_given",v4)])->Q .bj H')->wX C vs H Q E
theorem EJ:aS ["self","name","order","fields","is_given"] ["self","name","order","fields","is_given"] (aw zv):=fE
theorem CI {c}(z:iT K c) (F:eg K "__init__" "Kind.__init__" zv f fd):bK P w K mg base eh 1 f fd ["self","name","order","fields","is_given"] (wX c.Kd):=by
 refine F.fw EJ fun WK A outer s H vs Q E hr h=>?_;obtain⟨x,dx,v1,v2,v3,v4,rfl,hx,q⟩:=h;refine⟨_,(ag (L3.cD (pv 0) (pv 1))
   (ag (L3.cD (pv 0) (pv 2))
   (ag (L3.cD (pv 0) (pv 3))
   (aq (L3.cD (pv 0) (pv 4)))))),?_⟩
 have e1:di "name" v1 ([]:List (Str×V))=([("name",v1)]:List (Str×V)):=by rfl
 have e2:di "order" v2 ([("name",v1)]:List (Str×V))=([("name",v1),("order",v2)]:List (Str×V)):=by rw[bu (by decide +kernel)];rfl
 have e3:di "fields" v3 ([("name",v1),("order",v2)]:List (Str×V))=([("name",v1),("order",v2),("fields",v3)]:List (Str×V)):=by rw[bu (by decide +kernel),bu (by decide +kernel)];rfl
 have e4:di "is_given" v4 ([("name",v1),("order",v2),("fields",v3)]:List (Str×V))=([("name",v1),("order",v2),("fields",v3),("is_given",v4)]:List (Str×V)):=by rw[bu (by decide +kernel),bu (by decide +kernel),bu (by decide +kernel)];rfl
 refine⟨_,rfl,_,rfl,x,c.Kd,dx,_,rfl,hx,z.kc,z.k1,by decide,?_⟩;rw[e1];refine⟨_,rfl,_,rfl,x,c.Kd,dx,_,rfl,ao,z.kc,z.k2,Ju (Jz 1) (by decide),?_⟩;rw[e2];refine⟨_,rfl,_,rfl,x,c.Kd,dx,_,rfl,ao,z.kc,z.k3,Ju (Jz 2) (by decide),?_⟩;rw[e3];refine⟨_,rfl,_,rfl,x,c.Kd,dx,_,rfl,ao,z.kc,z.k4,Ju (Jz 3) (by decide),?_⟩;rw[e4];exact q _ (fun p hp=>by rw[aB hp,aB hp,aB hp,aB hp]) ao
abbrev zt:Stmt:=(mz 0 (cj 9))
inductive wR (C:Addr) (vs:List V) (H:Hp) (Q:VK) (E:XK):Prop
 | mk x dx v1 v2:vs=[.ref x,v1,v2]->H x=some (.ins C dx [])->(∀H',(∀p,p≠x->H' p=H p)->H' x=some (.ins C dx [("kind",v1),("fields",v2)])->Q .bj H')->wR C vs H Q E
theorem EG:aS ["self","kind","fields"] ["self","kind","fields"] (aw zt):=fE
theorem CB {c}(z:iT K c) (F:eg K "__init__" "Object.__init__" zt f fd):bK P w K mg base eh 1 f fd ["self","kind","fields"] (wR c.O):=by
 refine F.fw EG fun WK A outer s H vs Q E hr h=>?_;obtain⟨x,dx,v1,v2,rfl,hx,q⟩:=h;refine⟨_,(ag (L3.cD (pv 0) (pv 1))
   (aq (L3.cD (pv 0) (pv 2)))),?_⟩
 have e1:di "kind" v1 ([]:List (Str×V))=([("kind",v1)]:List (Str×V)):=by rfl
 have e2:di "fields" v2 ([("kind",v1)]:List (Str×V))=([("kind",v1),("fields",v2)]:List (Str×V)):=by rw[bu (by decide +kernel)];rfl
 refine⟨_,rfl,_,rfl,x,c.O,dx,_,rfl,hx,z.oc,z.o1,by decide,?_⟩;rw[e1];refine⟨_,rfl,_,rfl,x,c.O,dx,_,rfl,ao,z.oc,z.o2,Ju (Jz 1) (by decide),?_⟩;rw[e2];exact q _ (fun p hp=>by rw[aB hp,aB hp]) ao
abbrev zr:Stmt:=(mz 0 (cj 11))
inductive wJ (C:Addr) (vs:List V) (H:Hp) (Q:VK) (E:XK):Prop
 | mk x dx v1 v2:vs=[.ref x,v1,v2]->H x=some (.ins C dx [])->(∀H',(∀p,p≠x->H' p=H p)->H' x=some (.ins C dx [("kind",v1),("owner",v2)])->Q .bj H')->wJ C vs H Q E
theorem Ey:aS ["self","kind","owner"] ["self","kind","owner"] (aw zr):=fE
theorem Cn {c}(z:iT K c) (F:eg K "__init__" "View.__init__" zr f fd):bK P w K mg base eh 1 f fd ["self","kind","owner"] (wJ c.Vw):=by
 refine F.fw Ey fun WK A outer s H vs Q E hr h=>?_;obtain⟨x,dx,v1,v2,rfl,hx,q⟩:=h;refine⟨_,(ag (L3.cD (pv 0) (pv 1))
   (aq (L3.cD (pv 0) (pv 2)))),?_⟩
 have e1:di "kind" v1 ([]:List (Str×V))=([("kind",v1)]:List (Str×V)):=by rfl
 have e2:di "owner" v2 ([("kind",v1)]:List (Str×V))=([("kind",v1),("owner",v2)]:List (Str×V)):=by rw[bu (by decide +kernel)];rfl
 refine⟨_,rfl,_,rfl,x,c.Vw,dx,_,rfl,hx,z.vc,z.v1,by decide,?_⟩;rw[e1];refine⟨_,rfl,_,rfl,x,c.Vw,dx,_,rfl,ao,z.vc,z.v2,Ju (Jz 1) (by decide),?_⟩;rw[e2];exact q _ (fun p hp=>by rw[aB hp,aB hp]) ao
abbrev zu:Stmt:=(mz 0 (cj 7))
inductive wV (C:Addr) (vs:List V) (H:Hp) (Q:VK) (E:XK):Prop
 | mk x dx v1 v2:vs=[.ref x,v1,v2]->H x=some (.ins C dx [])->(∀H',(∀p,p≠x->H' p=H p)->H' x=some (.ins C dx [("target",v1),("owner",v2)])->Q .bj H')->wV C vs H Q E
theorem EI:aS ["self","target","owner"] ["self","target","owner"] (aw zu):=fE
theorem CF {c}(z:iT K c) (F:eg K "__init__" "Method.__init__" zu f fd):bK P w K mg base eh 1 f fd ["self","target","owner"] (wV c.M):=by
 refine F.fw EI fun WK A outer s H vs Q E hr h=>?_;obtain⟨x,dx,v1,v2,rfl,hx,q⟩:=h;refine⟨_,(ag (L3.cD (pv 0) (pv 1))
   (aq (L3.cD (pv 0) (pv 2)))),?_⟩
 have e1:di "target" v1 ([]:List (Str×V))=([("target",v1)]:List (Str×V)):=by rfl
 have e2:di "owner" v2 ([("target",v1)]:List (Str×V))=([("target",v1),("owner",v2)]:List (Str×V)):=by rw[bu (by decide +kernel)];rfl
 refine⟨_,rfl,_,rfl,x,c.M,dx,_,rfl,hx,z.mc,z.m1,by decide,?_⟩;rw[e1];refine⟨_,rfl,_,rfl,x,c.M,dx,_,rfl,ao,z.mc,z.m2,Ju (Jz 1) (by decide),?_⟩;rw[e2];exact q _ (fun p hp=>by rw[aB hp,aB hp]) ao
abbrev zy:Stmt:=(mz 0 (cj 10))
inductive xb (C:Addr) (vs:List V) (H:Hp) (Q:VK) (E:XK):Prop
 | mk x dx v1 v2 v3:vs=[.ref x,v1,v2,v3]->H x=some (.ins C dx [])->(∀H',(∀p,p≠x->H' p=H p)->H' x=some (.ins C dx [("name",v1),("frame",v2),("state",.str "new"),("many",v3),("handed",.int 0)])->Q .bj H')->xb C vs H Q E
theorem ER:aS ["self","name","frame","many"] ["self","name","frame","many"] (aw zy):=fE
theorem CO {c}(z:iT K c) (F:eg K "__init__" "Giver.__init__" zy f fd):bK P w K mg base eh 1 f fd ["self","name","frame","many"] (xb c.Gr):=by
 refine F.fw ER fun WK A outer s H vs Q E hr h=>?_;obtain⟨x,dx,v1,v2,v3,rfl,hx,q⟩:=h;refine⟨_,(ag (L3.cD (pv 0) (pv 1))
   (ag (L3.cD (pv 0) (pv 2))
   (ag (L3.cD (pv 0) ak)
   (ag (L3.cD (pv 0) (pv 3))
   (aq (L3.cD (pv 0) ah)))))),?_⟩
 have e1:di "name" (v1) ([]:List (Str×V))=([("name",v1)]:List (Str×V)):=by rfl
 have e2:di "frame" (v2) ([("name",v1)]:List (Str×V))=([("name",v1),("frame",v2)]:List (Str×V)):=by rw[bu (by decide +kernel)];rfl
 have e3:di "state" (.str "new") ([("name",v1),("frame",v2)]:List (Str×V))=([("name",v1),("frame",v2),("state",.str "new")]:List (Str×V)):=by rw[bu (by decide +kernel),bu (by decide +kernel)];rfl
 have e4:di "many" (v3) ([("name",v1),("frame",v2),("state",.str "new")]:List (Str×V))=([("name",v1),("frame",v2),("state",.str "new"),("many",v3)]:List (Str×V)):=by rw[bu (by decide +kernel),bu (by decide +kernel),bu (by decide +kernel)];rfl
 have e5:di "handed" (.int 0) ([("name",v1),("frame",v2),("state",.str "new"),("many",v3)]:List (Str×V))=([("name",v1),("frame",v2),("state",.str "new"),("many",v3),("handed",.int 0)]:List (Str×V)):=by rw[bu (by decide +kernel),bu (by decide +kernel),bu (by decide +kernel),bu (by decide +kernel)];rfl
 refine⟨_,rfl,_,rfl,x,c.Gr,dx,_,rfl,hx,z.rc,z.r1,by decide,?_⟩;rw[e1];refine⟨_,rfl,_,rfl,x,c.Gr,dx,_,rfl,ao,z.rc,z.r2,Ju (Jz 1) (by decide),?_⟩;rw[e2];refine⟨_,rfl,x,c.Gr,dx,_,rfl,ao,z.rc,z.r3,Ju (Jz 2) (by decide),?_⟩;rw[e3];refine⟨_,rfl,_,rfl,x,c.Gr,dx,_,rfl,ao,z.rc,z.r4,Ju (Jz 3) (by decide),?_⟩;rw[e4];refine⟨_,rfl,x,c.Gr,dx,_,rfl,ao,z.rc,z.r5,Ju (Jz 4) (by decide),?_⟩;rw[e5];exact q _ (fun p hp=>by rw[aB hp,aB hp,aB hp,aB hp,aB hp]) ao
end
abbrev Cg:Stmt:=cj 13
abbrev HN:Stmt:=cj 14
abbrev HS:Stmt:=cj 15
abbrev B2:Stmt:=cj 20
abbrev B0:Stmt:=cj 25
theorem oC (x y):decide (V.str x=V.str y)=decide (x=y):=decide_eq_decide.mpr ⟨V.str.inj,fun e=>by rw[e]⟩
theorem gg {x y}(h:x≠y):decide (V.str x=V.str y)=false:=IK fun z=>h (V.str.inj z)
theorem bO {b:Bool}{A B:Prop}(h1:b=true->A) (h2:b=false->B):if b=true then A else B:=by
 cases b with
 | true=>exact bE (h1 rfl)
 | false=>exact aY (h2 rfl)
def xD (K:Fg06):R2:=fun x y H Q=>∃i ds d,y=.int (i:Nat)/\At K H (.tup ds) x/\ds[i]?=some d/\∀v,At K H d v->Q v H
theorem ixD {X}:yQ X (xD X.K):=by
 intro value slice WG s σ H x y v u Q I rx ry h hs;obtain⟨i,ds,d,rfl,hx,hd,q⟩:=h;obtain⟨p,vs,w,rfl,h2,h3,h4⟩:=At.ix (i:=i) hx hd;exact yg value slice WG s σ H _ _ v u Q I rx ry ⟨p,vs,_,w,rfl,rfl,h2,h3,q w h4⟩ hs
theorem bg {X e te n j p pos}(he:LE X e te):LE X (.Subscript e (.Constant (.int n) j p) pos) (tY (xD X.K) te (tC (.int n))):=fV ixD he ah (fun _ _=>rfl)
theorem jH (a b l g):(wF a b l g).lookup ("things":Str)=some (.ref l):=rfl
theorem kT (a b l g):(wF a b l g).lookup ("given":Str)=some (.ref g):=rfl
theorem me (a b c d):(GQ a b c d).lookup ("order":Str)=some b:=rfl
theorem rg (a b):(HW a b).lookup ("kind":Str)=some a:=rfl
theorem nU (a b):(HW a b).lookup ("fields":Str)=some b:=rfl
theorem rB (a b c d):(GQ a b c d).lookup ("name":Str)=some a:=rfl
theorem sT (a b c d):(GQ a b c d).lookup ("fields":Str)=some c:=rfl
theorem az.fu {K H a x}(h:At K H a x):az K H [a] [x]:=ba.mpr ⟨x,[],rfl,h,bq.mpr rfl⟩
theorem aZ {K H a b x y}(h:At K H a x) (h2:At K H b y):az K H [a,b] [x,y]:=ba.mpr ⟨x,_,rfl,h,az.fu h2⟩
theorem kJ {K H a b c x y z}(h:At K H a x) (h2:At K H b y) (h3:At K H c z):az K H [a,b,c] [x,y,z]:=ba.mpr ⟨x,_,rfl,h,aZ h2 h3⟩
theorem tW {i j}(h:aQ i=aQ j):i=j:=by
 unfold aQ at h;injection h with h;injection h with _ h;injection h with h _;injection h with h;exact Int.ofNat.inj h
def TV (K:Fg06) (c:cF) (H:Hp) (ps:List Addr) (os:List Th) (d:D) (v:V):Prop:=(ft os d=none/\v=.bj)\/∃i p o,d=aQ i/\ft os d=some o/\ps[i]?=some p/\os[i]?=some o/\v=.ref p/\kI K c H o p
def nA (f g m k o r v:Bool):Option Th->Bool
 | none=>false
 | some (.fn _)=>f
 | some (.kL _)=>g
 | some (.mt ..)=>m
 | some (.kd ..)=>k
 | some (.ob ..)=>o
 | some (.gr ..)=>r
 | some .vw=>v
section
variable {K:Fg06}{c:cF}{H:Hp}{ps:List Addr}{os:List Th}{d:D}{v:V}
theorem TV.th {i o}(e:os[i]?=some o) (t:TV K c H ps os (aQ i) v):∃p,ps[i]?=some p/\v=.ref p/\kI K c H o p:=by
 rcases t with ⟨h,_⟩ | ⟨j,p,o',h1,h2,h3,h4,h5,h6⟩
 ·rw[bw,e] at h;cases h
 ·have:=tW h1;subst this;rw[e] at h4;cases h4;exact⟨p,h3,h5,h6⟩
theorem TV.is (z:iT K c) (t:TV K c H ps os d v) {C f g m k o r w}(kt:qD K c C f g m k o r w):(∃p D dx fs,v=.ref p/\H p=some (.ins D dx fs)/\mJ K D/\PySem.W.kitOne K (.ref D) (.ref C)=some (nA f g m k o r w (ft os d)))\/(v=.bj/\PySem.W.kitOne K (.type "NoneType") (.ref C)=some (nA f g m k o r w (ft os d))):=by
 rcases t with ⟨h,e⟩ | ⟨j,p,o',h1,h2,h3,h4,h5,h6⟩
 ·rw[h];exact .inr ⟨e,kt.tN⟩
 ·rw[h2];obtain⟨C,dx,fs,h,i,a⟩:∃C dx fs,H p=some (.ins C dx fs)/\mJ K C/\PySem.W.kitOne K (.ref C) (.ref _)=some (nA f g m k o r w (some o')):=by
   cases o' with
   | fn n=>obtain⟨dx,_,h,_⟩:=h6;exact⟨_,_,_,h,z.iF,kt.tF⟩
   | kL n=>obtain⟨dx,h⟩:=h6;exact⟨_,_,_,h,z.iG,kt.tG⟩
   | kd nm ns d fs=>obtain⟨dx,_,_,h,_⟩:=h6;exact⟨_,_,_,h,z.iK,kt.tK⟩
   | ob n d fs=>obtain⟨dx,_,h,_⟩:=h6;exact⟨_,_,_,h,z.iO,kt.tO⟩
   | mt t o=>obtain⟨dx,_,_,h,_⟩:=h6;exact⟨_,_,_,h,z.iM,kt.tM⟩
   | gr st m h'=>obtain⟨dx,h⟩:=h6;exact⟨_,_,_,h,z.iR,kt.tR⟩
   | vw=>obtain⟨dx,_,h⟩:=h6;exact⟨_,_,_,h,z.iV,kt.tV⟩
  exact .inl ⟨p,C,dx,fs,h5,h,i,a⟩
end
section
variable {P:Program}{w:World}{K:Fg06}{mg:Str->Option Value}{base:Heap}{f:Addr}{fd:FuncData}{c:cF}
inductive k6 (K:Fg06) (c:cF) (vs:List V) (H:Hp) (Q:VK) (E:XK):Prop
 | mk wp ps os gv ln lf o p:vs=[.ref wp.W,.ref p]->cG K c H wp ps os gv ln lf->kI K c H o p->p∉ps->((∀d,vX o=some d->d≠wp.g/\¬tQ os d))->os.length<=1000->(∀r H',bC wp.l H H'->cG K c H' wp (ps++[p]) (os++[o]) gv ln lf->At K H' (aQ os.length) r->Q r H')->k6 K c vs H Q E
theorem E1:aS ["world","thing"] ["world","thing"] (aw Cg):=fE
theorem C8 (g:Glb9 mg) (z:iT K c) (F:eg K "added" "added" Cg f fd):bK P w K mg base eh 1 f fd ["world","thing"] (k6 K c):=by
 refine F.fw E1 fun WK A outer s H vs Q E hr h=>?_;obtain⟨wp,ps,os,gv,ln,lf,o,p,rfl,hw,hv,hp,hk,hl,q⟩:=h;refine⟨_,ag (bW (dZ Jo Jp Jq cp (L3.bA (pv 0)) (cw (pv 1))))
  (aq (aD (aI (bF ak (aH iL (aJ aU rfl g.fJ cX (cw (L3.bA (pv 0)))) ah))))),?_⟩
 obtain⟨dx,h1⟩:=hw.wo;have h2:=hw.t;have h3:=hw.n;refine⟨_,rfl,wp.W,c.W,dx,_,_,rfl,h1,z.wc,z.w3,jH ..,.inl ⟨rfl,_,bf.of h2⟩,_,rfl,wp.l,_,.ref p,rfl,rfl,h2,cm (by rw[IU];omega),?_⟩;have S4:=hw.add hp hv hk;have hb:bC wp.l H (WX H wp.l (.lst (ps.map V.ref++[.ref p]))):=bC.put H _;have VU:WX H wp.l (.lst (ps.map V.ref++[.ref p])) wp.l=some (.lst (ps.map V.ref++[.ref p])):=ao;generalize WX H wp.l (.lst (ps.map V.ref++[.ref p]))=H1 at S4 hb VU ⊢;obtain⟨Lv,TM⟩:=S4.wo;refine⟨_,rfl,wp.W,c.W,Lv,_,_,rfl,TM,z.wc,z.w3,jH ..,wp.l,_,rfl,.inl (bf.of VU),_,_,rfl,rfl,?_⟩;refine⟨eX,fun t ht=>?_⟩;have s1:au H1 (WX H1 t (.tup [.str "thing",.int (((ps.map V.ref++[V.ref p]).length:Nat) - 1)])):=ae ht _;refine q _ _ (hb.trans (au.but wp.l s1)) (S4.same s1) (At.new ht (aZ (av.mpr rfl) (bc.mpr (Xd V.int ?_))));rw[IJ,Jy,IU,h3];omega
inductive iH (K:Fg06) (c:cF) (vs:List V) (H:Hp) (Q:VK) (E:XK):Prop
 | mk wp ps os gv ln lf x d:vs=[.ref wp.W,x]->cG K c H wp ps os gv ln lf->At K H d x->Vd os d->(∀v,TV K c H ps os d v->Q v H)->iH K c vs H Q E
theorem G7:aS ["world","a"] ["world","a"] (aw HN):=fE
theorem Fq (z:iT K c) (F:eg K "thing_of" "thing_of" HN f fd):bK P w K mg base eh 1 f fd ["world","a"] (iH K c):=by
 refine F.fw G7 fun WK A outer s H vs Q E hr h=>?_;obtain⟨wp,ps,os,gv,ln,lf,x,d,rfl,hw,hx,⟨⟨k,r,rfl,hv⟩,_⟩,q⟩:=h;refine⟨_,aq (aD (bx (cR bL (bg (pv 1)) ak) (ff K (L3.bA (pv 0)) (bg (pv 1))) bV)),?_⟩;obtain⟨dx,h1⟩:=hw.wo;refine⟨_,rfl,0,_,_,rfl,hx,rfl,fun yk Ln=>?_⟩;rw[av.mp Ln];refine⟨rfl,_,rfl,?_⟩;rw[oC];by_cases hk:k="thing"
 ·obtain⟨i,rfl,hi⟩:=hv hk;subst hk;rw[IL rfl];obtain⟨p,ep,hp⟩:=hw.at (IM hi);refine bE ⟨_,rfl,wp.W,c.W,dx,_,_,rfl,h1,z.wc,z.w3,jH ..,_,rfl,1,_,_,rfl,hx,rfl,fun yi hyi=>?_⟩;rw[bc.mp hyi];refine⟨wp.l,_,i,.ref p,rfl,rfl,bf.of hw.t,aC (by rw[I0,ep];rfl),q _ (.inr ⟨i,p,_,rfl,?_,ep,IM hi,rfl,hp⟩)⟩;exact(bw os i).trans (IM hi)
 ·rw[IK hk];exact aY (q _ (.inl ⟨jq os r hk,rfl⟩))
inductive qU (K:Fg06) (c:cF) (vs:List V) (H:Hp) (Q:VK) (E:XK):Prop
 | mk wp ps os gv ln lf n:vs=[.ref wp.W,.str n]->cG K c H wp ps os gv ln lf->(((∃i,(n,i)∈gv/\∀v,At K H (aQ i) v->Q v H)\/((∀i,(n,i)∉gv)/\Q .bj H)))->qU K c vs H Q E
theorem G9:aS ["world","name"] ["world","name"] (aw HS):=fE
theorem Fz (z:iT K c) (F:eg K "known" "known" HS f fd):bK P w K mg base eh 1 f fd ["world","name"] (qU K c):=by
 refine F.fw G9 fun WK A outer s H vs Q E hr h=>?_;obtain⟨wp,ps,os,gv,ln,lf,n,rfl,hw,q⟩:=h;refine⟨_,aq (aD (.mk (L2.rb (fz hr) (LE.out (L3.bA (pv 0))) (LE.out (pv 1)) ⟨rfl,rfl,rfl,rfl⟩))),?_⟩;obtain⟨dx,h1⟩:=hw.wo;obtain⟨WI,hk,_,hv,J8⟩:=hw.v;refine⟨_,rfl,wp.W,c.W,dx,_,_,rfl,h1,z.wc,z.w4,kT ..,wp.g,rfl,.inl ⟨WI,.inl hk⟩,_,rfl,_,gC.k (k:=.inr n) hk,?_⟩;rcases q with ⟨i,hn,q⟩ | ⟨hn,q⟩
 ·obtain⟨v,e,hA⟩:=hv n i hn;rw[e];exact q v hA
 ·rw[J8 n hn];exact q
inductive qV (K:Fg06) (c:cF) (f g m k o r v:Bool) (vs:List V) (H:Hp) (Q:VK) (E:XK):Prop
 | mk wp ps os gv ln lf x d:vs=[.ref wp.W,x]->cG K c H wp ps os gv ln lf->At K H d x->Vd os d->Q (.bl (nA f g m k o r v (ft os d))) H->qV K c f g m k o r v vs H Q E
theorem EM:aS ["world","a"] ["world","a"] (aw B2):=fE
theorem CL (g:Glb9 mg) (z:iT K c) (hK:mg "Kind"=some (.ref c.Kd)) (F:eg K "is_class" "is_class" B2 f fd) (dT:Def P w K mg base "thing_of" ["world","a"] 1 (iH K c)):bK P w K mg base eh 2 f fd ["world","a"] (qV K c false false false true false false false):=by
 refine F.fw EM fun WK A outer s H vs Q E hr h=>?_;obtain⟨wp,ps,os,gv,ln,lf,x,d,rfl,hw,hx,hv,q⟩:=h;refine⟨_,aq (aD (aJ cQ rfl g.i8 gi (bF (bX dT (bF (pv 0) (pv 1))) (bz (v:=.ref c.Kd) rfl hK rfl)))),?_⟩;exact⟨_,rfl,_,rfl,wp,ps,os,gv,ln,lf,x,d,rfl,hw,hx,hv,fun v t=>⟨_,c.Kd,_,rfl,t.is z z.tK,q⟩⟩
theorem EL:aS ["world","a"] ["world","a"] (aw B0):=fE
theorem CK (g:Glb9 mg) (z:iT K c) (hG:mg "Giver"=some (.ref c.Gr)) (F:eg K "is_giver" "is_giver" B0 f fd) (dT:Def P w K mg base "thing_of" ["world","a"] 1 (iH K c)):bK P w K mg base eh 2 f fd ["world","a"] (qV K c false false false false false true false):=by
 refine F.fw EL fun WK A outer s H vs Q E hr h=>?_;obtain⟨wp,ps,os,gv,ln,lf,x,d,rfl,hw,hx,hv,q⟩:=h;refine⟨_,aq (aD (aJ cQ rfl g.i8 gi (bF (bX dT (bF (pv 0) (pv 1))) (bz (v:=.ref c.Gr) rfl hG rfl)))),?_⟩;exact⟨_,rfl,_,rfl,wp,ps,os,gv,ln,lf,x,d,rfl,hw,hx,hv,fun v t=>⟨_,c.Gr,_,rfl,t.is z z.tR,q⟩⟩
abbrev B4:Stmt:=cj 16
abbrev B5:Stmt:=cj 17
abbrev HR:Stmt:=cj 18
abbrev BW:Stmt:=cj 19
abbrev B1:Stmt:=cj 21
abbrev BU:Stmt:=cj 22
abbrev HM:Stmt:=cj 23
abbrev Cc:Stmt:=cj 24
abbrev BO:Stmt:=cj 27
abbrev BN:Stmt:=cj 28
theorem yH:bootBuiltins "dict"=some (.type "dict"):=by decide +kernel
theorem nQ {X k}(hr:dY k X.A):gQ X (compareOp .In) (Fb X false):=by
 intro WG s σ H x y v u Q I rx ry h;obtain⟨d,ds,hx,hy,hd,q⟩:=h;obtain⟨p,xs,rfl,hq,ha⟩:=aX.mp hy;cases ry;obtain⟨WJ,r,pl,hz⟩:=I.tuple hq;obtain⟨f,f1,f2⟩:=xY I rx hx ha r X.A.in1 (fun e he=>by have:=hr.units;have:=hd e he;show X.A.units+1+_ < _;omega);refine SeqAt.in_tupleAt f pl (fun w hw=>f1 w (by simpa using hw)) ⟨.bl _,H,I,rfl,?_⟩;rw[show WJ.toArray.any f=WJ.any f by simp,f2];exact q
def BA:List V->Hp->VK->Prop:=fun xs H Q=>∃p WI,xs=[.ref p]/\H p=some (.dK WI)/\∀l,H l=none->Q (.ref l) (WX H l (.dK WI))
theorem tL {X}:gm X (.type "dict") BA:=by
 intro WG s σ H xs us Q I r h;obtain⟨p,WI,rfl,hp,q⟩:=h;obtain⟨u,rfl,ru⟩:=vals1 r;cases ru;obtain⟨hz,hs,vs,RN,hd⟩:=(show eG X.prog X.w H s.heap p (.dK WI) from I.cP p _ hp);have hl:WI.length=vs.length:=RN.length;refine kt_call_dict hs hd (by omega) fun h' Mu Lo=>?_;have keep:∀b o,s.heap.get? b=some o->h'.get? b=some o:=fun b o e=>(Lo.2 b (Jx (Jw e))).trans (Jc _ e);refine⟨.ref s.heap.objs.size,_,I.laid (t':=s.toks) (o:=.dK WI) keep (IW _) ⟨hz,?_,vs,RN,Mu⟩,rfl,q _ (I.cP.fresh (IW _))⟩;exact beq_false_of_ne (Nat.ne_of_gt I.big)
theorem gu {H1 C x dx}(hx:H1 x=none) (hd:H1 dx=none) (JJ:dx≠x):au H1 (WX (WX H1 dx (.own x)) x (.ins C dx []))/\WX (WX H1 dx (.own x)) x (.ins C dx []) x=some (.ins C dx []):=by
 refine⟨(ae hd _).trans (ae ?_ _),ao⟩;rw[aB (W3 JJ)];exact hx
theorem none_of {H H' p}(s:au H H') (h:H' p=none):H p=none:=by
 cases e:H p with
 | none=>rfl
 | some o=>rw[s _ _ e] at h;cases h
theorem fk {X e t t'}(h:LE X e t) (hi:∀σ H Q,t' σ H Q->t σ H Q):LE X e t':=.mk fun WG s σ H Q I q=>h.out WG s σ H Q I (hi σ H Q q)
theorem tE (i j):bP (aQ i) (aQ j)=decide (i=j):=by
 by_cases h:i=j
 ·rw[h,bo,IL rfl]
 ·rw[IK h];unfold aQ;simp only[bP,fv];simp;omega
def TreeG (K:Fg06) (mg:Str->Option Value) (x:Str) (ds:List D):Prop:=∃p vs,mg x=some (.ref p)/\∀H,fh K H p vs/\az K H ds vs
def oU:Option Th->Bool
 | some (.kd _ ns _ _)=>decide (9∈ns)
 | _=>false
theorem oo (a b c d e g):(Du a b c d e g).lookup ("name":Str)=some a:=rfl
theorem om (a b c d e g):(Du a b c d e g).lookup ("params":Str)=some b:=rfl
theorem gM (a b c d e g):(Du a b c d e g).lookup ("defaults":Str)=some c:=rfl
theorem yv (a b c d e g):(Du a b c d e g).lookup ("code":Str)=some d:=rfl
theorem tD (a b c d e g):(Du a b c d e g).lookup ("around":Str)=some e:=rfl
theorem vU (a b c d e g):(Du a b c d e g).lookup ("gives":Str)=some g:=rfl
theorem nV (a b):(Ig a b).lookup ("target":Str)=some a:=rfl
theorem vG (a b):(Ig a b).lookup ("owner":Str)=some b:=rfl
theorem ym (st m h):(qF st m h).lookup ("name":Str)=some (.str "count"):=rfl
theorem vR (st m h):(qF st m h).lookup ("state":Str)=some (.str st):=rfl
theorem yn (st m h):(qF st m h).lookup ("many":Str)=some (.int m):=rfl
theorem oi (st m h):(qF st m h).lookup ("handed":Str)=some (.int h):=rfl
theorem zQ (st st' m h):di "state" (.str st') (qF st m h)=qF st' m h:=by
 unfold qF;rw[bu (by decide +kernel),bu (by decide +kernel)];rfl
theorem Ds (st m h h'):di "handed" (.int h') (qF st m h)=qF st m h':=by
 unfold qF;rw[bu (by decide +kernel),bu (by decide +kernel),bu (by decide +kernel),bu (by decide +kernel)];rfl
def jE (c:cF) (wp:Wp) (H H':Hp):Prop:=∀p o,H p=some o->p≠wp.l->p≠wp.n->p≠wp.f->(∀dx fs,o≠.ins c.Gr dx fs)->H' p=some o
theorem jE.trans {c wp H H' H''}(a:jE c wp H H') (b:jE c wp H' H''):jE c wp H H'':=fun p o e h1 h2 h3 h4=>b p o (a p o e h1 h2 h3 h4) h1 h2 h3 h4
theorem au.chg {c wp H H'}(s:au H H'):jE c wp H H':=fun p o e _ _ _ _=>s p o e
theorem bC.chg {c wp H H'}(s:bC wp.l H H'):jE c wp H H':=fun p o e h _ _ _=>s p o h e
theorem jE.fx {K c wp H H' ps os gv ln lf}(h:cG K c H wp ps os gv ln lf) (s:jE c wp H H'):Fx H H':=fun p o e z=>s p o e (fun y=>by rw[y,h.t] at e;cases e;cases z) (fun y=>by rw[y,h.hn] at e;cases e;cases z) (fun y=>by rw[y,h.hf] at e;cases e;cases z) (fun dx fs y=>by rw[y] at z;cases z)
theorem jE.gr {c wp H p dx fs o}(e:H p=some (.ins c.Gr dx fs)):jE c wp H (WX H p o):=fun q u e1 _ _ _ h=>by
 rw[aB (fun y=>?_)];exact e1;rw[y,e] at e1;cases e1;exact h _ _ rfl
def oW:List (Str×D):=[("word",da),("cause",da),("context",da)]
def eB (b:Bool):List (Str×D):=if b then oW else []
def fldN:List Str:=["word","cause","context"]
def fK (a b e:V):List (Key×V):=[(.inr "word",a),(.inr "cause",b),(.inr "context",e)]
theorem gB.nil {K H d}(e:H d=some (.dK [])):gB K H d []:=⟨[],e,Jr _,fun n=>.inl ⟨rfl,rfl⟩⟩
theorem bG {α}(n m:Str) (x:α) (r:List (Str×α)):((m,x)::r).lookup n=if m=n then some x else r.lookup n:=by
 rw[List.lookup_cons];by_cases h:m=n
 ·rw[IZ h,h,beq_self_eq_true]
 ·rw[IY h,beq_false_of_ne (W3 h)]
theorem lQ (n m v r):fQ ((.inr m,v)::r) (.inr n:Key)=if m=n then some v else fQ r (.inr n:Key):=by
 by_cases h:m=n
 ·rw[IZ h,eU (p:=((.inr m:Key),v)) (by show(Sum.inr m:Key)=_;rw[h])]
 ·rw[IY h,eV (p:=((.inr m:Key),v)) (fun z=>h (Sum.inr.inj z))]
theorem gB.three {K:Fg06}{H:Hp}{d:Addr}{a b e:V}(h:H d=some (.dK (fK a b e))) (h1:At K H da a) (h2:At K H da b) (h3:At K H da e):gB K H d oW:=by
 refine⟨_,h,IW 3,fun n=>?_⟩;unfold oW fK;rw[bG,bG,bG,lQ,lQ,lQ];by_cases e1:"word"=n
 ·exact .inr ⟨da,a,by rw[IZ e1],by rw[IZ e1],h1⟩
 by_cases e2:"cause"=n
 ·exact .inr ⟨da,b,by rw[IY e1,IZ e2],by rw[IY e1,IZ e2],h2⟩
 by_cases e3:"context"=n
 ·exact .inr ⟨da,e,by rw[IY e1,IY e2,IZ e3],by rw[IY e1,IY e2,IZ e3],h3⟩
 exact .inl ⟨by rw[IY e1,IY e2,IY e3];rfl,by rw[IY e1,IY e2,IY e3];rfl⟩
theorem gB.put {K:Fg06}{H:Hp}{d:Addr}{fs:List (Str×D)}(h:gB K H d fs){n:Str}{dd:D}{v:V}(hv:At K H dd v):∃WI,H d=some (.dK WI)/\WI.length<=fs.length/\gB K (WX H d (.dK (WZ WI (.inr n:Key) v))) d ((n,dd)::fs):=by
 obtain⟨WI,h1,h2,h3⟩:=h;have f:Fx H (WX H d (.dK (WZ WI (.inr n:Key) v))):=Fx.put h1 rfl;refine⟨WI,h1,h2,_,ao,?_,fun m=>?_⟩
 ·have:=gz WI (.inr n:Key) v;rw[Jf];omega
 ·rw[bG,kU];by_cases e:n=m
  ·rw[IZ e,IZ (by rw[e])];exact .inr ⟨_,_,rfl,rfl,At.fx f _ _ hv⟩
  ·rw[IY e,IY (fun z=>e (Sum.inr.inj z).symm)];exact(h3 m).imp id fun⟨dd,v,a,b,c⟩=>⟨dd,v,a,b,At.fx f _ _ c⟩
inductive ug (K:Fg06) (c:cF) (vs:List V) (H:Hp) (Q:VK) (E:XK):Prop
 | mk wp ps os gv ln lf nm v2 v4 d ns fs:vs=[.ref wp.W,.str nm,v2,.ref d,v4]->cG K c H wp ps os gv ln lf->os.length<=1000->dQ K H (ns.map aQ) v2->ns.length<=1000->gB K H d fs->(∀r H' p d',H d'=none->bC wp.l H H'->cG K c H' wp (ps++[p]) (os++[.kd nm (os.length::ns) d' fs]) gv ln lf->At K H' (aQ os.length) r->Q r H')->ug K c vs H Q E
inductive Ed (K:Fg06) (σ:L2.St) (H:Hp) (Q:VK):Prop
 | mk x5 x2 d ds:σ[5]?=some (some x5)->σ[2]?=some (some x2)->At K H d x5->dQ K H ds x2->ds.length<=1000->(∀v H',au H H'->At K H' (.tup (d::ds)) v->Q v H')->Ed K σ H Q
theorem An:aS ["world","name","behind","fields","is_given","own"] ["world","name","behind","fields","is_given"] (aw BW):=fE
theorem CD (g:Glb9 mg) (z:iT K c) (M:jD P w K mg base "Kind" c.Kd ["self","name","order","fields","is_given"] 1 (wX c.Kd)) (F:eg K "new_class" "new_class" BW f fd) (dA:Def P w K mg base "added" ["world","thing"] 1 (k6 K c)):bK P w K mg base eh 3 f fd ["world","name","behind","fields","is_given"] (ug K c):=by
 refine F.fw An fun WK A outer s H vs Q E hr h=>?_;obtain⟨wp,ps,os,gv,ln,lf,nm,v2,v4,d,ns,fs,rfl,hw,hl,hb,hn,⟨WI,hd,Vl,Ma⟩,q⟩:=h;refine⟨_,ag (dD 5 An.nd (aI (bF ak (aJ aU rfl g.fJ cX (cw (L3.bA (pv 0)))))))
  (aq (aD (bX dA (bF (pv 0) (L3.j5 M hr (by decide) rfl (lV (pv 1) (fk (t':=Ed K) (aH zC (aI (cw (pv 5))) (bS gw rfl g.p7 nq (cw (pv 2)))) ?cat) (bS tL rfl g.AG yH (cw (pv 3))) (pv 4))))))),?main⟩
 case cat=>
  rintro σ H Q ⟨x5,x2,d,ds,e5,e2,h5,Lg,hl,q⟩;refine⟨x5,e5,jY,fun p hp=>?_⟩;have s1:au H (WX H p (.tup [x5])):=ae hp _;have a1:fh K (WX H p (.tup [x5])) p [x5]:=fh.of ao;generalize WX H p (.tup [x5])=H1 at s1 a1 ⊢;obtain⟨pb,vb,rfl,hq,hA⟩:=Lg;have lb:=hA.len;have fin:∀b H2,au H1 H2->fh K H2 b vb->Ax K (.ref p) (.ref b) H2 Q:=fun b H2 s2 hb=>by
   have JU:=s1.trans s2;refine⟨p,b,[x5],vb,rfl,rfl,au.lU s2 a1,hb,by simp,small (by rw[Jy];omega),fun e=>?_,fun e r hr=>?_⟩
   ·subst e;have ed:ds=[]:=W8.mp (by simpa using lb.symm);subst ed;exact q _ _ JU (aX.mpr ⟨p,_,rfl,au.lU s2 a1,az.fu (At.same JU _ _ h5)⟩)
   ·have s3:au H2 (WX H2 r (.tup ([x5]++vb))):=ae hr _;exact q _ _ (JU.trans s3) (aX.mpr ⟨r,_,rfl,fh.of ao,ba.mpr ⟨_,_,rfl,At.same (JU.trans s3) _ _ h5,az.same (JU.trans s3) _ _ hA⟩⟩)
  refine⟨_,e2,pb,vb,rfl,?_⟩;rcases hq with hq | hq
  ·exact .inl ⟨s1.seq hq,fun b hb=>fin b _ (ae hb _) (fh.of ao)⟩
  ·exact .inr ⟨au.lU s1 hq,fin pb H1 (au.refl _) (au.lU s1 hq)⟩
 case main=>
  obtain⟨dx,h1⟩:=hw.wo;have h2:=hw.t;have h3:(ps.map V.ref).length=os.length:=by rw[IU];exact hw.n
  refine⟨_,rfl,wp.W,c.W,dx,_,_,rfl,h1,z.wc,z.w3,jH ..,wp.l,_,rfl,.inl (bf.of h2),eX,fun p hp=>?_⟩;have s1:au H (WX H p (.tup [.str "thing",.int ((ps.map V.ref).length:Nat)])):=ae hp _;have a1:At K (WX H p (.tup [.str "thing",.int ((ps.map V.ref).length:Nat)])) (aQ os.length) (.ref p):=At.new hp (aZ (av.mpr rfl) (bc.mpr (by rw[h3])));revert s1 a1;generalize WX H p (.tup [.str "thing",.int ((ps.map V.ref).length:Nat)])=H1;intro s1 a1;refine⟨_,rfl,_,rfl,_,_,aQ os.length,ns.map aQ,rfl,rfl,a1,hb.same s1,by rw[IU];exact hn,fun vo H2 s2 Kf=>?_⟩;have JU:=s1.trans s2;refine⟨_,rfl,d,WI,rfl,JU _ _ hd,fun dn Pc=>?_⟩;have s3:au H2 (WX H2 dn (.dK WI)):=ae Pc _;have n3:WX H2 dn (.dK WI) dn=some (.dK WI):=ao;have OC:H dn=none:=none_of JU Pc;generalize WX H2 dn (.dK WI)=H3 at s3 n3 ⊢;have LB:=JU.trans s3;refine⟨_,rfl,fun x Lv hx Mt JJ=>?_⟩;obtain⟨s4,c4⟩:=gu (C:=c.Kd) hx Mt JJ;generalize WX (WX H3 Lv (.own x)) x (.ins c.Kd Lv [])=H4 at s4 c4 ⊢;refine⟨x,Lv,.str nm,vo,.ref dn,v4,rfl,c4,fun H5 hB SW=>⟨rfl,?_⟩⟩;have s5:au H3 H5:=fun p o e=>by
   rw[hB p (cE e hx)];exact s4 _ _ e
  have K0:=LB.trans s5;refine⟨wp,ps,os,gv,ln,lf,.kd nm (os.length::ns) dn fs,x,rfl,hw.same K0,⟨Lv,vo,v4,SW,At.same (s3.trans s5) _ _ Kf,WI,s5 _ _ n3,Vl,fun n=>(Ma n).imp id fun⟨dd,v,a,b,c⟩=>⟨dd,v,a,b,At.same K0 _ _ c⟩⟩,(hw.same LB).fresh hx,fun d' e=>?_,hl,fun r H6 b6 w6 a6=>q r H6 x dn OC ((au.but wp.l K0).trans b6) w6 a6⟩;cases e;exact⟨fun y=>(by obtain⟨kv,e,_⟩:=hw.v;rw[<-y,OC] at e;cases e),hw.freshD OC⟩
inductive xc (K:Fg06) (c:cF) (vs:List V) (H:Hp) (Q:VK) (E:XK):Prop
 | mk wp ps os gv ln lf nm np df v3 v4 v5 v6:vs=[.ref wp.W,.str nm,.int (np:Nat),v3,v4,v5,v6]->cG K c H wp ps os gv ln lf->os.length<=1000->At K H (.tup df) v3->(∀r H' p,bC wp.l H H'->cG K c H' wp (ps++[p]) (os++[.fn ⟨nm,np,df,v4,v5,v6⟩]) gv ln lf->At K H' (aQ os.length) r->Q r H')->xc K c vs H Q E
theorem ES:aS ["world","name","params","defaults","code","around","gives"] ["world","name","params","defaults","code","around","gives"] (aw B4):=fE
theorem CP (M:jD P w K mg base "Function" c.F ["self","name","params","defaults","code","around","gives"] 1 (xg c.F)) (F:eg K "function" "function" B4 f fd) (dA:Def P w K mg base "added" ["world","thing"] 1 (k6 K c)):bK P w K mg base eh 3 f fd ["world","name","params","defaults","code","around","gives"] (xc K c):=by
 refine F.fw ES fun WK A outer s H vs Q E hr h=>?_;obtain⟨wp,ps,os,gv,ln,lf,nm,np,df,v3,v4,v5,v6,rfl,hw,hl,Ls,q⟩:=h;refine⟨_,aq (aD (bX dA (bF (pv 0) (L3.j5 M hr (by decide) rfl (bI (pv 1) (bI (pv 2) (lV (pv 3) (pv 4) (pv 5) (pv 6)))))))),?_⟩;refine⟨_,rfl,_,rfl,_,rfl,_,rfl,_,rfl,_,rfl,_,rfl,fun x dx hx Mt JJ=>?_⟩;obtain⟨s1,c1⟩:=gu (C:=c.F) hx Mt JJ;generalize WX (WX H dx (.own x)) x (.ins c.F dx [])=H1 at s1 c1 ⊢;refine⟨x,dx,_,_,v3,v4,v5,v6,rfl,c1,fun H2 hB Kx=>⟨rfl,?_⟩⟩;have s2:au H H2:=fun p o e=>by
  rw[hB p (cE e hx)];exact s1 _ _ e
 exact⟨wp,ps,os,gv,ln,lf,.fn ⟨nm,np,df,v4,v5,v6⟩,x,rfl,hw.same s2,⟨dx,v3,Kx,At.same s2 _ _ Ls⟩,hw.fresh hx,fun k e=>(nomatch e),hl,fun r H3 b3 w3 a3=>q r H3 x ((au.but wp.l s2).trans b3) w3 a3⟩
inductive xf (K:Fg06) (c:cF) (vs:List V) (H:Hp) (Q:VK) (E:XK):Prop
 | mk wp ps os gv ln lf x i (g:sj):vs=[.ref wp.W,x]->cG K c H wp ps os gv ln lf->At K H (aQ i) x->os[i]?=some (.fn g)->(∀t v3 H',au H H'->H' t=some (.tup [.str g.nm,.int (g.np:Nat),v3,g.cd,g.ar,g.gv])->At K H' (.tup g.df) v3->Q (.ref t) H')->xf K c vs H Q E
theorem Ao:aS ["world","a","thing"] ["world","a"] (aw B5):=fE
theorem CQ (z:iT K c) (F:eg K "function_of" "function_of" B5 f fd) (dT:Def P w K mg base "thing_of" ["world","a"] 1 (iH K c)):bK P w K mg base eh 2 f fd ["world","a"] (xf K c):=by
 refine F.fw Ao fun WK A outer s H vs Q E hr h=>?_;obtain⟨wp,ps,os,gv,ln,lf,x,i,g,rfl,hw,hx,ho,q⟩:=h;refine⟨_,ag (dD 2 Ao.nd (bX dT (bF (pv 0) (pv 1))))
  (aq (aD (aI (bI (L3.bA (pv 2)) (bI (L3.bA (pv 2)) (lV (L3.bA (pv 2)) (L3.bA (pv 2)) (L3.bA (pv 2)) (L3.bA (pv 2)))))))),?_⟩
 refine⟨_,rfl,_,rfl,wp,ps,os,gv,ln,lf,x,aQ i,rfl,hw,hx,Vd.th (aE ho),fun v t=>?_⟩;obtain⟨p,_,rfl,dx,v3,hp,h3⟩:=t.th ho;refine⟨_,rfl,p,c.F,dx,_,_,rfl,hp,z.fc,z.f1,oo ..,_,rfl,p,c.F,dx,_,_,rfl,hp,z.fc,z.f2,om ..,_,rfl,p,c.F,dx,_,_,rfl,hp,z.fc,z.f3,gM ..,_,rfl,p,c.F,dx,_,_,rfl,hp,z.fc,z.f4,yv ..,_,rfl,p,c.F,dx,_,_,rfl,hp,z.fc,z.f5,tD ..,_,rfl,p,c.F,dx,_,_,rfl,hp,z.fc,z.f6,vU ..,sz6,fun r hr=>?_⟩;exact q r v3 _ (ae hr _) ao (At.same (ae hr _) _ _ h3)
inductive A8 (K:Fg06) (c:cF) (vs:List V) (H:Hp) (Q:VK) (E:XK):Prop
 | mk wp ps os gv ln lf v1 v2:vs=[.ref wp.W,v1,v2]->cG K c H wp ps os gv ln lf->os.length<=1000->(∀r H' p,bC wp.l H H'->cG K c H' wp (ps++[p]) (os++[.vw]) gv ln lf->At K H' (aQ os.length) r->Q r H')->A8 K c vs H Q E
theorem G5:aS ["world","kind","owner"] ["world","kind","owner"] (aw HM):=fE
theorem Fo (M:jD P w K mg base "View" c.Vw ["self","kind","owner"] 1 (wJ c.Vw)) (F:eg K "new_view" "new_view" HM f fd) (dA:Def P w K mg base "added" ["world","thing"] 1 (k6 K c)):bK P w K mg base eh 3 f fd ["world","kind","owner"] (A8 K c):=by
 refine F.fw G5 fun WK A outer s H vs Q E hr h=>?_;obtain⟨wp,ps,os,gv,ln,lf,v1,v2,rfl,hw,hl,q⟩:=h;refine⟨_,aq (aD (bX dA (bF (pv 0) (L3.j5 M hr (by decide) rfl (bF (pv 1) (pv 2)))))),?_⟩;refine⟨_,rfl,_,rfl,_,rfl,fun x dx hx Mt JJ=>?_⟩;obtain⟨s1,c1⟩:=gu (C:=c.Vw) hx Mt JJ;generalize WX (WX H dx (.own x)) x (.ins c.Vw dx [])=H1 at s1 c1 ⊢;refine⟨x,dx,v1,v2,rfl,c1,fun H2 hB Kx=>⟨rfl,?_⟩⟩;have s2:au H H2:=fun p o e=>by
  rw[hB p (cE e hx)];exact s1 _ _ e
 exact⟨wp,ps,os,gv,ln,lf,.vw,x,rfl,hw.same s2,⟨dx,_,Kx⟩,hw.fresh hx,fun k e=>(nomatch e),hl,fun r H3 b3 w3 a3=>q r H3 x ((au.but wp.l s2).trans b3) w3 a3⟩
inductive Bb (K:Fg06) (c:cF) (vs:List V) (H:Hp) (Q:VK) (E:XK):Prop
 | mk wp ps os gv ln lf v1 v2 t o:vs=[.ref wp.W,v1,v2]->cG K c H wp ps os gv ln lf->os.length<=1000->At K H (aQ t) v1->At K H (aQ o) v2->(∀r H' p,bC wp.l H H'->cG K c H' wp (ps++[p]) (os++[.mt t o]) gv ln lf->At K H' (aQ os.length) r->Q r H')->Bb K c vs H Q E
theorem G8:aS ["world","target","owner"] ["world","target","owner"] (aw HR):=fE
theorem Fu (M:jD P w K mg base "Method" c.M ["self","target","owner"] 1 (wV c.M)) (F:eg K "new_method" "new_method" HR f fd) (dA:Def P w K mg base "added" ["world","thing"] 1 (k6 K c)):bK P w K mg base eh 3 f fd ["world","target","owner"] (Bb K c):=by
 refine F.fw G8 fun WK A outer s H vs Q E hr h=>?_;obtain⟨wp,ps,os,gv,ln,lf,v1,v2,t,o,rfl,hw,hl,ht,ho,q⟩:=h;refine⟨_,aq (aD (bX dA (bF (pv 0) (L3.j5 M hr (by decide) rfl (bF (pv 1) (pv 2)))))),?_⟩;refine⟨_,rfl,_,rfl,_,rfl,fun x dx hx Mt JJ=>?_⟩;obtain⟨s1,c1⟩:=gu (C:=c.M) hx Mt JJ;generalize WX (WX H dx (.own x)) x (.ins c.M dx [])=H1 at s1 c1 ⊢;refine⟨x,dx,v1,v2,rfl,c1,fun H2 hB Kx=>⟨rfl,?_⟩⟩;have s2:au H H2:=fun p o e=>by
  rw[hB p (cE e hx)];exact s1 _ _ e
 exact⟨wp,ps,os,gv,ln,lf,.mt t o,x,rfl,hw.same s2,⟨dx,v1,v2,Kx,At.same s2 _ _ ht,At.same s2 _ _ ho⟩,hw.fresh hx,fun k e=>(nomatch e),hl,fun r H3 b3 w3 a3=>q r H3 x ((au.but wp.l s2).trans b3) w3 a3⟩
inductive xn (K:Fg06) (c:cF) (vs:List V) (H:Hp) (Q:VK) (E:XK):Prop
 | mk wp ps os gv ln lf m:vs=[.ref wp.W,.int m]->cG K c H wp ps os gv ln lf->os.length<=1000->(∀r H' p,bC wp.l H H'->cG K c H' wp (ps++[p]) (os++[.gr "new" m 0]) gv ln lf->At K H' (aQ os.length) r->Q r H')->xn K c vs H Q E
theorem EW:aS ["world","many"] ["world","many"] (aw Cc):=fE
theorem C3 (M:jD P w K mg base "Giver" c.Gr ["self","name","frame","many"] 1 (xb c.Gr)) (F:eg K "new_count" "new_count" Cc f fd) (dA:Def P w K mg base "added" ["world","thing"] 1 (k6 K c)):bK P w K mg base eh 3 f fd ["world","many"] (xn K c):=by
 refine F.fw EW fun WK A outer s H vs Q E hr h=>?_;obtain⟨wp,ps,os,gv,ln,lf,m,rfl,hw,hl,q⟩:=h;refine⟨_,aq (aD (bX dA (bF (pv 0) (L3.j5 M hr (by decide) rfl (ia ak bV (pv 1)))))),?_⟩;refine⟨_,rfl,_,rfl,fun x dx hx Mt JJ=>?_⟩;obtain⟨s1,c1⟩:=gu (C:=c.Gr) hx Mt JJ;generalize WX (WX H dx (.own x)) x (.ins c.Gr dx [])=H1 at s1 c1 ⊢;refine⟨x,dx,_,_,_,rfl,c1,fun H2 hB Kx=>⟨rfl,?_⟩⟩;have s2:au H H2:=fun p o e=>by
  rw[hB p (cE e hx)];exact s1 _ _ e
 exact⟨wp,ps,os,gv,ln,lf,.gr "new" m 0,x,rfl,hw.same s2,⟨dx,Kx⟩,hw.fresh hx,fun k e=>(nomatch e),hl,fun r H3 b3 w3 a3=>q r H3 x ((au.but wp.l s2).trans b3) w3 a3⟩
inductive ze (K:Fg06) (c:cF) (vs:List V) (H:Hp) (Q:VK) (E:XK):Prop
 | mk wp ps os gv ln lf x d:vs=[.ref wp.W,x]->cG K c H wp ps os gv ln lf->At K H d x->Vd os d->((("Fault":Str),9):Str×Nat)∈gv->Q (.bl (oU (ft os d))) H->ze K c vs H Q E
theorem Hb:aS ["world","a"] ["world","a"] (aw B1):=fE
theorem nz (n):∀ns:List Nat,((ns.map aQ).any fun e=>bP e (aQ n))=decide (n∈ns)
 | []=>by simp
 | m::ns=>by
  rw[W5,List.any_cons,nz n ns,tE,Bool.eq_iff_iff];simp only[Bool.or_eq_true,decide_eq_true_eq,List.mem_cons];exact⟨fun h=>h.imp Eq.symm id,fun h=>h.imp Eq.symm id⟩
theorem FD (z:iT K c) (F:eg K "is_fault_class" "is_fault_class" B1 f fd) (dC:Def P w K mg base "is_class" ["world","a"] 2 (qV K c false false false true false false false)) (dK:Def P w K mg base "known" ["world","name"] 1 (qU K c)) (dT:Def P w K mg base "thing_of" ["world","a"] 1 (iH K c)):bK P w K mg base eh 3 f fd ["world","a"] (ze K c):=by
 refine F.fw Hb fun WK A outer s H vs Q E hr h=>?_;obtain⟨wp,ps,os,gv,ln,lf,x,d,rfl,hw,hx,hv,hg,q⟩:=h;refine⟨_,aq (aD (cT (bX dC (bF (pv 0) (pv 1))) (cZ (eJ (nQ hr) (bX dK (bF (pv 0) ak)) (L3.bA (bX dT (bF (pv 0) (pv 1)))) rfl)))),?_⟩;refine⟨_,rfl,_,rfl,wp,ps,os,gv,ln,lf,x,d,rfl,hw,hx,hv,_,rfl,?_⟩;have nk:nA false false false true false false false (ft os d)=false->oU (ft os d)=false:=fun e=>by
  cases ho:ft os d with
  | none=>rfl
  | some o=>rw[ho] at e;cases o<;>first | rfl | cases e
 refine bO (fun e=>?_) (fun e=>by rw[nk e] at q;exact q);refine⟨_,rfl,wp,ps,os,gv,ln,lf,"Fault",rfl,hw,.inl ⟨9,hg,fun vf LC=>?_⟩⟩;refine⟨_,rfl,_,rfl,wp,ps,os,gv,ln,lf,x,d,rfl,hw,hx,hv,fun v t=>?_⟩;rcases t with ⟨h0,_⟩ | ⟨i,p,o,h1,h2,h3,h4,rfl,h6⟩
 ·rw[h0] at e;cases e
 rw[h2] at e q;cases o with
 | kd nm ns dd fs=>
  obtain⟨dx,vo,v4,hp,ha,_⟩:=h6;refine⟨p,c.Kd,dx,_,_,rfl,hp,z.kc,z.k2,me ..,aQ 9,ns.map aQ,LC,ha,fun e he=>?_,?_⟩
  ·obtain⟨n,_,rfl⟩:=JD.mp he;rw[hJ];decide
  ·rw[IY Jd,nz];exact q
 | _=>cases e
inductive wQ (K:Fg06) (c:cF) (vs:List V) (H:Hp) (Q:VK) (E:XK):Prop
 | mk wp ps os gv ln lf x k:vs=[.ref wp.W,x]->cG K c H wp ps os gv ln lf->At K H (aQ k) x->k < os.length->((("Fault":Str),9):Str×Nat)∈gv->os.length<=1000->(∀r H' p d,H d=none->bC wp.l H H'->cG K c H' wp (ps++[p]) (os++[.ob k d (eB (oU os[k]?))]) gv ln lf->At K H' (aQ os.length) r->Q r H')->wQ K c vs H Q E
inductive sNm (K:Fg06) (c:cF) (D0:W0) (σ:L2.St) (H:Hp):Prop
 | mk wp ps os gv ln lf x k:σ=[some (.ref wp.W),some x,none]->cG K c H wp ps os gv ln lf->At K H (aQ k) x->k < os.length->((("Fault":Str),9):Str×Nat)∈gv->(∀H1 pF vF,au H H1->fh K H1 pF vF->az K H1 ((if oU os[k]? then fldN else []).map D.str) vF->D0.nx [some (.ref wp.W),some x,some (.ref pF)] H1)->sNm K c D0 σ H
theorem Am:aS ["world","kind","names"] ["world","kind"] (aw BU):=fE
theorem CA (g:Glb9 mg) (z:iT K c) (tN:TreeG K mg "NONE" [.str "none"]) (tF:TreeG K mg "FAULT_FIELDS" (fldN.map D.str)) (M:jD P w K mg base "Object" c.O ["self","kind","fields"] 1 (wR c.O)) (F:eg K "new_object" "new_object" BU f fd) (dFC:Def P w K mg base "is_fault_class" ["world","a"] 3 (ze K c)) (dA:Def P w K mg base "added" ["world","thing"] 1 (k6 K c)):bK P w K mg base eh 4 f fd ["world","kind"] (wQ K c):=by
 refine F.fw Am fun WK A outer s H vs Q E hr h=>?_;obtain⟨wp,ps,os,gv,ln,lf,x,k,rfl,hw,hx,hk,hg,hl,q⟩:=h;obtain⟨pN,vN,mN,aN⟩:=tN;obtain⟨pF,vF,mF,aF⟩:=tF;refine⟨_,ag (cu (t':=sNm K c) (dD 2 Am.nd (bx (bT (bX dFC (bF (pv 0) (pv 1)))) (bz (v:=.ref pF) rfl mF rfl) (aI cJ))) ?nm)
  (aq (aD (bX dA (bF (pv 0) (L3.j5 M hr (by decide) rfl (bF (pv 1) (bS (tJ rfl) rfl g.AG yH (cw (.mk (L2.dH (cl:=[]) (Xs:=["name"]) (Nf:=[]) (js:=[]) ?k rfl (LI.out (ee (pv 2))) (fun C s0 H0 fp=>LG.out (i6 0 (show(["name"]:List Str).Nodup by decide +kernel))) (fun C s0 H0 fp=>d6) (fun C s0 H0 fp=>LE.out (aI (bF (pv 0) (bz (v:=.ref pN) rfl mN rfl)))))))))))))),?main⟩
 case k=>exact zV
 case nm=>
  rintro D0 σ H ⟨wp,ps,os,gv,ln,lf,x,k,rfl,hw,hx,hk,hg,q⟩;refine⟨_,rfl,_,rfl,wp,ps,os,gv,ln,lf,x,aQ k,rfl,hw,hx,Vd.th hk,hg,_,rfl,?_⟩;rw[bw];cases hb:oU os[k]? with
  | true=>
   rw[hb] at q;exact bE (q H pF vF (au.refl _) (aF H).1 (aF H).2)
  | false=>
   rw[hb] at q;exact aY ⟨Jr _,fun p hp=>q _ p [] (ae hp _) (fh.of ao) (bq.mpr rfl)⟩
 case main=>
  refine⟨wp,ps,os,gv,ln,lf,x,k,rfl,hw,hx,hk,hg,fun H1 pF vF s1 sqF aF=>?_⟩;generalize eN:(if oU os[k]?=true then fldN else [])=WW at aF;have US:=aF.len;rw[IU] at US;have ln1:WW.length<=3:=by rw[<-eN];split<;>decide
  refine⟨_,rfl,_,rfl,_,rfl,pF,rfl,⟨vF,sqF⟩,[],⟨rfl,fun j i h=>(by simp at h)⟩,cq (vs:=[]) (tc:=gx) vF.length (fun i=>vF.getD i .bj) (fun _=>true) (fun i v H'=>∃(tp:Addr) (u:V),v=.ref tp/\H' tp=some (.tup [.str (WW.getD i ""),u])/\At K H' da u) (fun i v H' H'' s z=>by obtain⟨tp,u,e,h1,h2⟩:=z;exact⟨tp,u,e,s _ _ h1,At.same s _ _ h2⟩) (by omega) (gZ sqF) (km sqF) (i9 sqF) (fun i H4 Q' hi s4 k=>k H4 (au.refl _)) (fun i H4 D l' Q' hi _ s4 hD L6 k=>?_) fun gl H5 ys Vq s5 h5 hP=>?_⟩
  ·have LN:i < WW.length:=by omega
   obtain⟨v',Ld,Nl⟩:=az.get (i:=i) aF (d:=.str (WW.getD i "")) (by
    rw[I0,IP,IM LN];rfl)
   have ev:vF.getD i .bj=.str (WW.getD i ""):=by rw[IP,Ld];exact av.mp Nl
   rw[ev];refine⟨_,rfl,eX,fun tp Nt=>k _ _ (ae Nt _) ⟨tp,.ref pN,rfl,?_,?_⟩⟩
   ·rw[oZ (cE Nt L6)];exact ao
   ·exact aX.mpr ⟨pN,vN,rfl,(aN _).1,(aN _).2⟩
  rw[JF.mpr (fun _ _=>rfl)] at hP;have VN:Pairs (fun i v=>∃(tp:Addr) (u:V),v=.ref tp/\H5 tp=some (.tup [.str (WW.getD i ""),u])/\At K H5 da u) (List.range WW.length) ys:=by
   rw[<-US];refine hP.mono fun i v z=>?_;obtain⟨tp,u,e,h1,h2⟩:=z;exact⟨tp,u,e,du H5 gl _ _ h1,At.same (du H5 gl) _ _ h2⟩
  have dic:∃(qs:List Addr) (WI:List (Key×V)),ys=qs.map V.ref/\qs.length=WI.length/\WI.length<=3/\(∀(j:Nat) (a:Addr) (kv:Key×V),qs[j]?=some a->WI[j]?=some kv->H5 a=some (.tup [kV kv.1,kv.2]))/\∀(d:Addr) (H':Hp),au H5 H'->H' d=some (.dK (eL [] WI))->gB K H' d (eB (oU os[k]?)):=by
   cases hb:oU os[k]? with
   | true=>
    rw[hb,IZ rfl] at eN;subst eN;have QP:Pairs (fun i v=>∃(tp:Addr) (u:V),v=.ref tp/\H5 tp=some (.tup [.str (fldN.getD i ""),u])/\At K H5 da u) [0,1,2] ys:=VN;cases QP with | cons h0 h1=>
    cases h1 with | cons h1 h2=>
    cases h2 with | cons h2 h3=>
    cases h3;obtain⟨t0,u0,rfl,a0,b0⟩:=h0;obtain⟨t1,u1,rfl,a1,b1⟩:=h1;obtain⟨t2,u2,rfl,a2,b2⟩:=h2;refine⟨[t0,t1,t2],fK u0 u1 u2,rfl,rfl,IW 3,fun j a kv e1 e2=>?_,fun d H' s' e=>gB.three ?_ (At.same s' _ _ b0) (At.same s' _ _ b1) (At.same s' _ _ b2)⟩
    ·match j,e1,e2 with
     | 0,e1,e2=>cases e1;cases e2;exact a0
     | 1,e1,e2=>cases e1;cases e2;exact a1
     | 2,e1,e2=>cases e1;cases e2;exact a2
     | j+3,e1,e2=>cases e1
    ·rw[e];have:eL [] (fK u0 u1 u2)=fK u0 u1 u2:=by
      show WZ (WZ (WZ [] (.inr "word":Key) u0) (.inr "cause":Key) u1) (.inr "context":Key) u2=_;rfl
     rw[this]
   | false=>
    rw[hb,IY Jd] at eN;subst eN;have QP:Pairs (fun i v=>∃(tp:Addr) (u:V),v=.ref tp/\H5 tp=some (.tup [.str (([]:List Str).getD i ""),u])/\At K H5 da u) [] ys:=VN;cases QP;exact⟨[],[],rfl,rfl,Jr _,fun j a kv e1=>(by simp at e1),fun d H' s' e=>gB.nil e⟩
  obtain⟨qs,WI,rfl,lp1,Ro,Nu,Ma⟩:=dic;refine⟨gl,qs,WI,rfl,bf.of h5,lp1,fun i x kv e1 e2=>.inl (.inl (Nu i x kv e1 e2)),small (by omega),fun td U7=>?_⟩;have s7:au H5 (WX H5 td (.dK (eL [] WI))):=ae U7 _;have f7:=Ma td _ s7 ao;have d7:∃kv,WX H5 td (.dK (eL [] WI)) td=some (.dK kv):=⟨_,ao⟩;have Od:H td=none:=none_of (s1.trans s5) U7;generalize WX H5 td (.dK (eL [] WI))=H7 at s7 f7 d7 ⊢;have NY:=(s1.trans s5).trans s7;intro x1 dx JN Mt JJ;obtain⟨s8,c8⟩:=gu (C:=c.O) JN Mt JJ;generalize WX (WX H7 dx (.own x1)) x1 (.ins c.O dx [])=H8 at s8 c8 ⊢;refine⟨x1,dx,x,.ref td,rfl,c8,fun H9 hB hx9=>⟨rfl,?_⟩⟩;have s9:au H7 H9:=fun p o e=>by
   rw[hB p (cE e JN)];exact s8 _ _ e
  have NX:=NY.trans s9;obtain⟨kv7,d7⟩:=d7;refine⟨wp,ps,os,gv,ln,lf,.ob k td (eB (oU os[k]?)),x1,rfl,hw.same NX,⟨dx,x,hx9,At.same NX _ _ hx,f7.keep (by rw[s9 _ _ d7,d7]) (au.fx s9)⟩,(hw.same NY).fresh JN,fun d' e=>?_,hl,fun r H3 b3 w3 a3=>q r H3 x1 td Od ((au.but wp.l NX).trans b3) w3 a3⟩;cases e;exact⟨fun y=>(by obtain⟨kv,e,_⟩:=hw.v;rw[<-y,Od] at e;cases e),hw.freshD Od⟩
inductive ue (K:Fg06) (c:cF) (vs:List V) (H:Hp) (Q:VK) (E:XK):Prop
 | mk wp ps os gv ln lf x i st m h:vs=[.ref wp.W,x]->cG K c H wp ps os gv ln lf->At K H (aQ i) x->os[i]?=some (.gr st m h)->Q (.str st) H->ue K c vs H Q E
theorem EC:aS ["world","g"] ["world","g"] (aw BO):=fE
theorem Ct (z:iT K c) (F:eg K "state_of" "state_of" BO f fd) (dT:Def P w K mg base "thing_of" ["world","a"] 1 (iH K c)):bK P w K mg base eh 2 f fd ["world","g"] (ue K c):=by
 refine F.fw EC fun WK A outer s H vs Q E hr h=>?_;obtain⟨wp,ps,os,gv,ln,lf,x,i,st,m,hh,rfl,hw,hx,ho,q⟩:=h;refine⟨_,aq (aD (L3.bA (bX dT (bF (pv 0) (pv 1))))),?_⟩;refine⟨_,rfl,_,rfl,wp,ps,os,gv,ln,lf,x,aQ i,rfl,hw,hx,Vd.th (aE ho),fun v t=>?_⟩;obtain⟨p,_,rfl,dx,hp⟩:=t.th ho;exact⟨p,c.Gr,dx,_,_,rfl,hp,z.rc,z.r3,vR ..,q⟩
inductive wM (K:Fg06) (c:cF) (vs:List V) (H:Hp) (Q:VK) (E:XK):Prop
 | mk wp ps os gv ln lf x i st st' m h:vs=[.ref wp.W,x,.str st']->cG K c H wp ps os gv ln lf->At K H (aQ i) x->os[i]?=some (.gr st m h)->(∀H',jE c wp H H'->cG K c H' wp ps (os.set i (.gr st' m h)) gv ln lf->Q .bj H')->wM K c vs H Q E
theorem Ak:aS ["world","g","state","thing"] ["world","g","state"] (aw BN):=fE
theorem Cs (z:iT K c) (nW:c.W≠c.Gr) (F:eg K "set_state" "set_state" BN f fd) (dT:Def P w K mg base "thing_of" ["world","a"] 1 (iH K c)):bK P w K mg base eh 2 f fd ["world","g","state"] (wM K c):=by
 refine F.fw Ak fun WK A outer s H vs Q E hr h=>?_;obtain⟨wp,ps,os,gv,ln,lf,x,i,st,st',m,hh,rfl,hw,hx,ho,q⟩:=h;refine⟨_,ag (dD 3 Ak.nd (bX dT (bF (pv 0) (pv 1)))) (aq (L3.cD (pv 3) (pv 2))),?_⟩;refine⟨_,rfl,_,rfl,wp,ps,os,gv,ln,lf,x,aQ i,rfl,hw,hx,Vd.th (aE ho),fun v t=>?_⟩;obtain⟨p,ep,rfl,dx,hp⟩:=t.th ho;refine⟨_,rfl,_,rfl,p,c.Gr,dx,_,rfl,hp,z.rc,z.r3,by show 5 < 1000;decide,?_⟩;rw[zQ];exact q _ (jE.gr hp) (hw.F6 nW ep ho hp)
abbrev GL:Stmt:=mz 0 (cj 12)
def gfN:List Str:=["say","take","isa","elder","count","go","throw","shut"]
def jf:List (Str×List Str):=[("Thing",[]),("Fault",["Thing"]),("NameFault",["Fault","Thing"]),("KindFault",["Fault","Thing"]),("NoughtFault",["Fault","Thing"]),("GreatFault",["Fault","Thing"]),("FieldFault",["Fault","Thing"]),("OrderFault",["Fault","Thing"]),("EndFault",["Fault","Thing"]),("ShutFault",["Fault","Thing"]),("DeepFault",["Fault","Thing"]),("UnboundFault",["NameFault","Fault","Thing"])]
def gfD:List D:=gfN.map D.str
def gcD:List D:=jf.map fun x=>.tup [.str x.1,.tup (x.2.map D.str)]
def yO:List Str:=gfN++jf.map (·.1)
def mh (x:Str):Nat:=yO.findIdx (· == x)
def eS:List (Str×Nat):=yO.zipIdx
def bQ (ds:List Addr):List Th:=gfN.map Th.kL++(jf.zip ds).map fun x=>.kd x.1.1 ((x.1.1::x.1.2).map mh) x.2 []
theorem z0:yO.Nodup:=by decide +kernel
theorem F7:∀j,j < 12->∀e∈(jf.getD j ("",[])).2,(e,mh e)∈eS.take (8+j):=by decide +kernel
theorem F8:∀j,j < 12->mh (jf.getD j ("",[])).1=8+j:=by decide +kernel
theorem tu (j) (h:j < 12):jf[j]?=some (jf.getD j ("",[])):=by rw[IP,IM (show j < jf.length from h)];rfl
theorem tm (j) (h:j < 8):gfN[j]?=some (gfN.getD j ""):=by rw[IP,IM (show j < gfN.length from h)];rfl
theorem mZ {ds}(h:ds.length<=12):(bQ ds).length=8+ds.length:=by
 unfold bQ;rw[IJ,IU,IU,List.length_zip];show 8+min 12 ds.length=_;omega
theorem xN {ds d}(h:ds.length < 12):bQ (ds++[d])=bQ ds++[.kd (jf.getD ds.length ("",[])).1 ((8+ds.length)::(jf.getD ds.length ("",[])).2.map mh) d []]:=by
 unfold bQ;rw[List.append_assoc];congr 1;have e:jf.zip (ds++[d])=jf.zip ds++[(jf.getD ds.length ("",[]),d)]:=by
  refine List.ext_getElem? fun j=>?_;by_cases hj:j < ds.length
  ·rw[JB (by rw[List.length_zip];have:jf.length=12:=rfl;omega)];rw[List.zip_eq_zipWith,List.zip_eq_zipWith,List.getElem?_zipWith,List.getElem?_zipWith,JB hj]
  ·by_cases Ov:j=ds.length
   ·subst Ov;have l1:(jf.zip ds).length=ds.length:=by rw[List.length_zip];have:jf.length=12:=rfl;omega
    have e1:(jf.zip ds++[(jf.getD ds.length ("",[]),d)])[ds.length]?=some (jf.getD ds.length ("",[]),d):=by
     have h0:=bD (xs:=jf.zip ds) (x:=(jf.getD ds.length ("",[]),d));rw[l1] at h0;exact h0
    rw[e1,List.zip_eq_zipWith,List.getElem?_zipWith,bD,tu _ h]
   ·rw[List.getElem?_eq_none (by rw[List.length_zip,IJ,Jy];have:jf.length=12:=rfl;omega),List.getElem?_eq_none (by rw[IJ,List.length_zip,Jy];have:jf.length=12:=rfl;omega)]
 rw[e,Jt];show _++[Th.kd (jf.getD ds.length ("",[])).1 (mh (jf.getD ds.length ("",[])).1::(jf.getD ds.length ("",[])).2.map mh) d []]=_;rw[F8 _ h]
theorem Im:∀j,j < 8->eS[j]?=some (gfN.getD j "",j):=by decide +kernel
theorem Io:∀j,j < 12->eS[8+j]?=some ((jf.getD j ("",[])).1,8+j):=by decide +kernel
theorem cG.give {K c H wp ps os gv ln lf}(h:cG K c H wp ps os gv ln lf):
  ∃WI,H wp.g=some (.dK WI)/\WI.length<=gv.length/\∀v n i,At K H (aQ i) v->(∀j,(n,j)∉gv)->cG K c (WX H wp.g (.dK (WZ WI (.inr n) v))) wp ps os (gv++[(n,i)]) ln lf:=by
 obtain⟨⟨dx,h1⟩,h2,ha,hb,q1,q2,q3,h3,h4,h5,h6,hg,WI,h7,h8,h9,h10⟩:=h;refine⟨WI,h7,h8,fun v n i hv hn=>?_⟩;have f:Fx H (WX H wp.g (.dK (WZ WI (.inr n) v))):=Fx.put h7 rfl;have kl:∀{q xs},H q=some (.lst xs)->WX H wp.g (.dK (WZ WI (.inr n) v)) q=some (.lst xs):=fun e=>by rw[aB (cE e h7)];exact e
 refine⟨⟨dx,by rw[aB (cE h1 h7)];exact h1⟩,kl h2,kl ha,kl hb,q1,q2,q3,h3,h4,fun i p o e1 e2=>?_,h6,hg,_,ao,by have:=gz WI (.inr n) v;rw[IJ,Jy];omega,fun m j hm=>?_,fun m hm=>?_⟩
 ·have:=h5 i p o e1 e2;obtain⟨C,dx,fs,e'⟩:=this.ins;exact this.keep (aB (fun y=>by rw[y,h7] at e';cases e')) f fun d ed=>aB fun y=>hg ⟨i,o,e2,y▸ed⟩
 ·rcases Jm.mp hm with hm | hm
  ·obtain⟨u,e,a⟩:=h9 m j hm;refine⟨u,?_,At.fx f _ _ a⟩;rw[kU,IY (fun z=>hn j (by injection z with z;rw[<-z];exact hm))];exact e
  ·rw[W7] at hm;obtain⟨rfl,rfl⟩:=Prod.mk.inj hm;exact⟨v,by rw[kU,IZ rfl],At.fx f _ _ hv⟩
 ·rw[kU,IY (fun z=>hm i (Jh _ (by injection z with z;rw[z];exact List.mem_singleton_self _)))];exact h10 m fun j hj=>hm j (Jg _ hj)
theorem yj {j n i}(h:eS[j]?=some (n,i)):∀k,(n,k)∉eS.take j:=by
 have hz:∀m x y,eS[m]?=some (x,y)->yO[m]?=some x:=fun m x y e=>by
  unfold eS at e;rw[List.getElem?_zipIdx] at e;cases e2:yO[m]? with
  | none=>rw[e2] at e;cases e
  | some u=>rw[e2] at e;injection e with e;injection e with e _;rw[e]
 intro k hk;obtain⟨m,hm,e⟩:=JG hk;rw[W6] at hm;have e':eS[m]?=some (n,k):=by
  rw[Jn];exact⟨by omega,by rw[<-e,List.getElem_take]⟩
 have h1:=hz _ _ _ h;have h2:=hz _ _ _ e';have hj:=(Jn.mp h1).1;have:=(List.getElem?_inj hj z0).mp (h1.trans h2.symm);omega
inductive zb (K:Fg06) (c:cF) (vs:List V) (H:Hp) (Q:VK) (E:XK):Prop
 | mk x dx q xs:vs=[.ref x,.ref q]->H x=some (.ins c.W dx [])->bf K H q (xs.map V.int)->(∀H' l g n e ps ds,ds.length=12->(∀p o,p≠x->H p=some o->H' p=some o)->H l=none->H g=none->H n=none->H e=none->cG K c H' ⟨x,l,g,n,e⟩ ps (bQ ds) eS [] xs->Q .bj H')->zb K c vs H Q E
theorem zh:aS ["self","inputs","name","behind"] ["self","inputs"] (aw GL):=fE
theorem Fn (g:Glb9 mg) (z:iT K c) (tf:TreeG K mg "GIVEN_FUNCTIONS" gfD) (tc:TreeG K mg "GIVEN_CLASSES" gcD) (M:jD P w K mg base "Given" c.G ["self","name"] 1 (xa c.G)) (F:eg K "__init__" "World.__init__" GL f fd) (dA:Def P w K mg base "added" ["world","thing"] 1 (k6 K c)) (dN:Def P w K mg base "new_class" ["world","name","behind","fields","is_given"] 3 (ug K c)):bK P w K mg base eh 4 f fd ["self","inputs"] (zb K c):=by
 refine F.fw zh fun WK A outer s H vs Q E hr h=>?_;obtain⟨x,dx,qi,xs,rfl,hx,hq,q⟩:=h;obtain⟨pf,vf,mf,af⟩:=tf;obtain⟨pc,vc,mc,ac⟩:=tc;refine⟨_,ag (L3.cD (pv 0) (bB cJ))
  (ag (L3.cD (pv 0) (bS jc rfl g.nList oJ (cw (pv 1))))
  (ag (L3.cD (pv 0) (bB cJ))
  (ag (L3.cD (pv 0) (.mk L2.fI))
  (ag (d9 Ji rfl (ee (bz (v:=.ref pf) rfl mf rfl)) (i6 2 zh.nd)
   (aq (.mk (L2.mX (fz hr) (LE.out (L3.bA (pv 0))) (LE.out (pv 2)) (LE.out (bX dA (bF (pv 0) (L3.j5 M hr (by decide) rfl (cw (pv 2)))))) rfl))))
  (aq (d9 Ji rfl (ee (bz (v:=.ref pc) rfl mc rfl)) (gW rfl (ef (i6 2 zh.nd) (ef (i6 3 zh.nd) fX)))
   (aq (.mk (L2.mX (fz hr) (LE.out (L3.bA (pv 0))) (LE.out (pv 2)) (LE.out (bX dN (bI (pv 0) (lV (pv 2) (.mk (L2.dH (cl:=[("self",s.heap.objs.size+1)]) (Xs:=["elder"]) (Nf:=["self"]) (js:=[0]) ?k rfl (LI.out (ee (pv 3))) (fun C s0 H0 fp=>LG.out (i6 0 (show(["elder","self"]:List Str).Nodup by decide +kernel))) (fun C s0 H0 fp=>d6) (fun C s0 H0 fp=>LE.out (L3.eI (fz hr) (L3.uu (K:=K) rfl (pv 1)) (pv 0))))) (.mk L2.fI) jd)))) rfl)))))))))  ,?main⟩
 case k=>exact tI
 case main=>
  have nx:∀{p o}{H':Hp},bC x H H'->H' x=some o->H' p=none->H p=none:=fun {p o H'} b e1 e2=>by
   cases e:H p with
   | none=>rfl
   | some u=>
    by_cases Ve:p=x
    ·rw[Ve,e1] at e2;cases e2
    ·rw[b _ _ Ve e] at e2;cases e2
  have e1:∀v1:V,di "lines" v1 ([]:List (Str×V))=([("lines",v1)]:List (Str×V)):=fun _=>rfl;have e2:∀v1 v2:V,di "left" v2 ([("lines",v1)]:List (Str×V))=([("lines",v1),("left",v2)]:List (Str×V)):=fun _ _=>by rw[bu (by decide +kernel)];rfl
  have e3:∀v1 v2 v3:V,di "things" v3 ([("lines",v1),("left",v2)]:List (Str×V))=([("lines",v1),("left",v2),("things",v3)]:List (Str×V)):=fun _ _ _=>by rw[bu (by decide +kernel),bu (by decide +kernel)];rfl
  have e4:∀v1 v2 l g,di "given" (.ref g) ([("lines",v1),("left",v2),("things",.ref l)]:List (Str×V))=wF v1 v2 l g:=fun _ _ _ _=>by rw[bu (by decide +kernel),bu (by decide +kernel),bu (by decide +kernel)];rfl
  have pt:∀{H' o},bC x H H'->bC x H (WX H' x o):=fun b=>b.trans (bC.put _ _);refine⟨Jr _,fun p1 Nu=>?_⟩;have n1x:p1≠x:=cE Nu hx;have b1:bC x H (WX H p1 (.lst [])):=au.but x (ae Nu _);have x1:WX H p1 (.lst []) x=some (.ins c.W dx []):=ae Nu _ _ _ hx;have n1:WX H p1 (.lst []) p1=some (.lst []):=ao;generalize WX H p1 (.lst [])=H1 at b1 x1 n1 ⊢;refine⟨_,rfl,x,c.W,dx,_,rfl,x1,z.wc,z.w1,by decide,?_⟩;rw[e1];have b2:bC x H (WX H1 x (.ins c.W dx [("lines",.ref p1)])):=pt b1;have x2:WX H1 x (.ins c.W dx [("lines",.ref p1)]) x=some (.ins c.W dx [("lines",.ref p1)]):=ao;have n2:WX H1 x (.ins c.W dx [("lines",.ref p1)]) p1=some (.lst []):=by rw[aB n1x];exact n1
  generalize WX H1 x (.ins c.W dx [("lines",.ref p1)])=H2 at b2 x2 n2 ⊢;have RI:bf K H2 qi (xs.map V.int):=by
   rcases hq with (h | ⟨o,h⟩) | h
   ·exact .inl (.inl (b2 _ _ (cE h hx) h))
   ·exact .inl (.inr ⟨o,b2 _ _ (cE h hx) h⟩)
   ·exact .inr h
  refine⟨_,rfl,qi,xs.map V.int,rfl,.inl RI,fun p2 L1=>?_⟩;have hp20:H p2=none:=nx b2 x2 L1;have n2x:p2≠x:=cE L1 x2;have n12:p1≠p2:=cE n2 L1;have b3:bC x H (WX H2 p2 (.lst (xs.map V.int))):=b2.trans (au.but x (ae L1 _));have x3:WX H2 p2 (.lst (xs.map V.int)) x=some (.ins c.W dx [("lines",.ref p1)]):=ae L1 _ _ _ x2;have n3:WX H2 p2 (.lst (xs.map V.int)) p1=some (.lst []):=ae L1 _ _ _ n2;have f3:WX H2 p2 (.lst (xs.map V.int)) p2=some (.lst (xs.map V.int)):=ao;generalize WX H2 p2 (.lst (xs.map V.int))=H3 at b3 x3 n3 f3 ⊢;refine⟨_,rfl,x,c.W,dx,_,rfl,x3,z.wc,z.w2,Ju (Jz 1) (by decide),?_⟩;rw[e2];have b4:bC x H (WX H3 x (.ins c.W dx [("lines",.ref p1),("left",.ref p2)])):=pt b3;have x4:WX H3 x (.ins c.W dx [("lines",.ref p1),("left",.ref p2)]) x=some (.ins c.W dx [("lines",.ref p1),("left",.ref p2)]):=ao;have n4:WX H3 x (.ins c.W dx [("lines",.ref p1),("left",.ref p2)]) p1=some (.lst []):=by rw[aB n1x];exact n3
  have f4:WX H3 x (.ins c.W dx [("lines",.ref p1),("left",.ref p2)]) p2=some (.lst (xs.map V.int)):=by rw[aB n2x];exact f3
  generalize WX H3 x (.ins c.W dx [("lines",.ref p1),("left",.ref p2)])=H4 at b4 x4 n4 f4 ⊢;refine⟨Jr _,fun l hl=>?_⟩;have Nh:H l=none:=nx b4 x4 hl;have nlx:l≠x:=cE hl x4;have nl1:l≠p1:=cE hl n4;have PF:l≠p2:=cE hl f4;have b5:bC x H (WX H4 l (.lst [])):=b4.trans (au.but x (ae hl _));have x5:WX H4 l (.lst []) x=some (.ins c.W dx [("lines",.ref p1),("left",.ref p2)]):=ae hl _ _ _ x4;have n5:WX H4 l (.lst []) p1=some (.lst []):=ae hl _ _ _ n4;have f5:WX H4 l (.lst []) p2=some (.lst (xs.map V.int)):=ae hl _ _ _ f4;have l5:WX H4 l (.lst []) l=some (.lst []):=ao;generalize WX H4 l (.lst [])=H5 at b5 x5 n5 f5 l5 ⊢;refine⟨_,rfl,x,c.W,dx,_,rfl,x5,z.wc,z.w3,Ju (Jz 2) (by decide),?_⟩;rw[e3];have b6:bC x H (WX H5 x (.ins c.W dx [("lines",.ref p1),("left",.ref p2),("things",.ref l)])):=pt b5;have x6:WX H5 x (.ins c.W dx [("lines",.ref p1),("left",.ref p2),("things",.ref l)]) x=some (.ins c.W dx [("lines",.ref p1),("left",.ref p2),("things",.ref l)]):=ao;have n6:WX H5 x (.ins c.W dx [("lines",.ref p1),("left",.ref p2),("things",.ref l)]) p1=some (.lst []):=by rw[aB n1x];exact n5
  have f6:WX H5 x (.ins c.W dx [("lines",.ref p1),("left",.ref p2),("things",.ref l)]) p2=some (.lst (xs.map V.int)):=by rw[aB n2x];exact f5
  have l6:WX H5 x (.ins c.W dx [("lines",.ref p1),("left",.ref p2),("things",.ref l)]) l=some (.lst []):=by rw[aB nlx];exact l5
  generalize WX H5 x (.ins c.W dx [("lines",.ref p1),("left",.ref p2),("things",.ref l)])=H6 at b6 x6 n6 f6 l6 ⊢;intro gd Oy;have Tj:H gd=none:=nx b6 x6 Oy;have ngx:gd≠x:=cE Oy x6;have b7:bC x H (WX H6 gd (.dK [])):=b6.trans (au.but x (ae Oy _));have x7:WX H6 gd (.dK []) x=some (.ins c.W dx [("lines",.ref p1),("left",.ref p2),("things",.ref l)]):=ae Oy _ _ _ x6;have n7:WX H6 gd (.dK []) p1=some (.lst []):=ae Oy _ _ _ n6;have f7:WX H6 gd (.dK []) p2=some (.lst (xs.map V.int)):=ae Oy _ _ _ f6;have l7:WX H6 gd (.dK []) l=some (.lst []):=ae Oy _ _ _ l6;have g7:WX H6 gd (.dK []) gd=some (.dK []):=ao;generalize WX H6 gd (.dK [])=H7 at b7 x7 n7 f7 l7 g7 ⊢;refine⟨_,rfl,x,c.W,dx,_,rfl,x7,z.wc,z.w4,Ju (Jz 3) (by decide),?_⟩;rw[e4];have b8:bC x H (WX H7 x (.ins c.W dx (wF (.ref p1) (.ref p2) l gd))):=pt b7;have x8:WX H7 x (.ins c.W dx (wF (.ref p1) (.ref p2) l gd)) x=some (.ins c.W dx (wF (.ref p1) (.ref p2) l gd)):=ao;have n8:WX H7 x (.ins c.W dx (wF (.ref p1) (.ref p2) l gd)) p1=some (.lst []):=by rw[aB n1x];exact n7
  have f8:WX H7 x (.ins c.W dx (wF (.ref p1) (.ref p2) l gd)) p2=some (.lst (xs.map V.int)):=by rw[aB n2x];exact f7
  have l8:WX H7 x (.ins c.W dx (wF (.ref p1) (.ref p2) l gd)) l=some (.lst []):=by rw[aB nlx];exact l7
  have g8:WX H7 x (.ins c.W dx (wF (.ref p1) (.ref p2) l gd)) gd=some (.dK []):=by rw[aB ngx];exact g7
  generalize WX H7 x (.ins c.W dx (wF (.ref p1) (.ref p2) l gd))=H8 at b8 x8 n8 f8 l8 g8 ⊢;have w8:cG K c H8 (Wp.mk x l gd p1 p2) [] ((gfN.take 0).map Th.kL) (eS.take 0) [] xs:=⟨⟨dx,x8⟩,l8,n8,f8,nl1,PF,n12,rfl,List.nodup_nil,fun i v o e=>by simp at e,fun i j a b d e=>by simp at e,fun z=>(by obtain⟨i,o,e,_⟩:=z;simp at e),[],g8,Jr _,fun n i h=>by simp at h,fun n _=>rfl⟩;clear e1 e2 e3 e4 pt nx;have lf:vf.length=8:=(af H8).2.len;have lc:vc.length=12:=(ac H8).2.len;refine⟨pf,rfl,⟨vf,(af H8).1⟩,ni (K:=K) (a:=pf) (xs:=vf) (fun i σ H'=>(∃o2 o3,σ=[some (.ref x),some (.ref qi),o2,o3])/\bC x H H'/\∃ps,cG K c H' (Wp.mk x l gd p1 p2) ps ((gfN.take i).map Th.kL) (eS.take i) [] xs) ⟨⟨_,_,rfl⟩,b8,_,w8⟩ (fun i σ H' _ _=>(af H').1) ?t1 ?s1⟩
  case t1=>
   rintro i n σ H' hn ⟨⟨o2,o3,rfl⟩,bH,ps,wH⟩;have hi:i < 8:=by rw[<-lf];exact(Jn.mp hn).1
   obtain⟨v',Ld,Nl⟩:=az.get (i:=i) (af H').2 (d:=.str (gfN.getD i "")) (by
    unfold gfD;rw[I0,tm i hi];rfl)
   have en:n=.str (gfN.getD i ""):=by rw[hn] at Ld;cases Ld;exact av.mp Nl
   subst en;refine⟨_,rfl,_,rfl,fun y dy hy hdy JJ=>?_⟩;obtain⟨s1,c1⟩:=gu (C:=c.G) hy hdy JJ;generalize WX (WX H' dy (.own y)) y (.ins c.G dy [])=H1 at s1 c1 ⊢;refine⟨y,dy,_,rfl,c1,fun H2 hB KL=>⟨rfl,?_⟩⟩;have s2:au H' H2:=fun p o e=>by
    rw[hB p (cE e hy)];exact s1 _ _ e
   have ltk:((gfN.take i).map Th.kL).length=i:=by rw[IU,W6];show min i 8=i;omega
   refine⟨Wp.mk x l gd p1 p2,ps,(gfN.take i).map Th.kL,eS.take i,[],xs,.kL (gfN.getD i ""),y,rfl,wH.same s2,⟨dy,KL⟩,wH.fresh hy,fun k e=>(nomatch e),by omega,fun r H3 b3 w3 a3=>?_⟩;rw[ltk] at a3;obtain⟨WI,Ms,SI,wv⟩:=w3.give;obtain⟨TZ,h3⟩:=w3.wo;have gj:=Im i hi;refine⟨_,rfl,x,c.W,TZ,_,_,rfl,h3,z.wc,z.w4,kT ..,_,rfl,gd,_,rfl,rZ.k (k:=.inr (gfN.getD i "")) Ms ?_,⟨_,_,rfl⟩,fun p o ne e=>?_,ps++[y],?_⟩
   ·rw[W6] at SI;exact cm (by omega)
   ·rw[aB (cE e Tj)];exact b3 _ _ (cE e Nh) (s2 _ _ (bH _ _ ne e))
   ·have:=wv r _ i a3 (yj gj);rw[List.take_add_one,tm i hi,List.take_add_one,gj,Jt];exact this
  case s1=>
   rintro σ H' ⟨⟨o2,o3,rfl⟩,bH,ps,wH⟩;rw[lf] at wH;have wH:cG K c H' (Wp.mk x l gd p1 p2) ps (bQ []) (eS.take (8+0)) [] xs:=wH;refine⟨pc,rfl,⟨vc,(ac H').1⟩,ni (K:=K) (a:=pc) (xs:=vc) (fun i σ H'=>(∃o2 o3,σ=[some (.ref x),some (.ref qi),o2,o3])/\bC x H H'/\∃ps ds,ds.length=i/\cG K c H' (Wp.mk x l gd p1 p2) ps (bQ ds) (eS.take (8+i)) [] xs) ⟨⟨_,_,rfl⟩,bH,ps,[],rfl,wH⟩ (fun i σ H' _ _=>(ac H').1) ?t2 ?s2⟩
   case s2=>
    rintro σ H' ⟨⟨o2,o3,rfl⟩,bH,ps,ds,ld,wH⟩;rw[lc,List.take_of_length_le (by decide +kernel)] at wH;exact q H' l gd p1 p2 ps ds (by rw[ld,lc]) bH Nh Tj Nu hp20 wH
   case t2=>
    clear wH bH;rintro i n σ H' hn ⟨⟨o2,o3,rfl⟩,bH,ps,ds,ld,wH⟩;have hi:i < 12:=by rw[<-lc];exact(Jn.mp hn).1
    obtain⟨v',Ld,Nl⟩:=az.get (i:=i) (ac H').2 (d:=.tup [.str (jf.getD i ("",[])).1,.tup ((jf.getD i ("",[])).2.map D.str)]) (by
     unfold gcD;rw[I0,tu i hi];rfl)
    rw[hn] at Ld;cases Ld;have cP:=F7 i hi;have KP:=fun d=>xN (ds:=ds) (d:=d) (by omega);rw[ld] at KP;have gj:=Io i hi;have lb:(jf.getD i ("",[])).2.length<=3:=(show ∀j,j < 12->(jf.getD j ("",[])).2.length<=3 by decide +kernel) i hi;generalize jf.getD i ("",[])=nb at *;obtain⟨nm,bs⟩:=nb;obtain⟨ap,avs,rfl,sqa,hAa⟩:=aX.mp Nl;obtain⟨u1,r1,rfl,hu1,Ka⟩:=ba.mp hAa;obtain⟨u2,r2,rfl,hu2,Lg⟩:=ba.mp Ka;rw[bq.mp Lg] at sqa;rw[av.mp hu1] at sqa;obtain⟨bp,bvs,rfl,sqb,VR⟩:=aX.mp hu2;have lbv:=VR.len;rw[IU] at lbv;replace lbv:bvs.length=bs.length:=lbv;replace lb:bs.length<=3:=lb;refine⟨ap,_,rfl,sqa,rfl,_,_,rfl,_,_,rfl,rfl,?_⟩;obtain⟨kv0,RO,lk0,P7,_⟩:=wH.v;obtain⟨dx0,hx0⟩:=wH.wo;refine⟨_,rfl,_,rfl,_,rfl,bp,rfl,⟨bvs,sqb⟩,[.ref x],⟨rfl,fun j i h=>?_⟩,cq (vs:=[.ref x]) (tc:=gx) bvs.length (fun i=>bvs.getD i .bj) (fun _=>true) (fun i v H'=>At K H' (aQ (mh (bs.getD i ""))) v) (fun _ _ _ _ s z=>At.same s _ _ z) (by omega) (gZ sqb) (km sqb) (i9 sqb) (fun i H2 Q' hi s2 k=>k H2 (au.refl _)) (fun j H1 D l' Q' hj _ s1 _ KI k=>?_) fun D H1 ys hD s1 Kt hP=>?_⟩
    ·match j,h with
     | 0,h=>cases h;exact⟨_,rfl,rfl⟩
     | j+1,h=>simp at h
    ·have L8:j < bs.length:=by omega
     have ej:bs[j]?=some bs[j]:=IM L8;have eo:bs.getD j ""=bs[j]:=by rw[IP,ej];rfl
     obtain⟨v',Ld,hAj⟩:=az.get (i:=j) VR (d:=.str bs[j]) (by rw[I0,ej];rfl);have ev:bvs.getD j .bj=.str bs[j]:=by rw[IP,Ld];exact av.mp hAj
     rw[eo] at k;rw[ev];obtain⟨v,e,hA⟩:=P7 _ _ (cP bs[j] (List.getElem_mem L8));refine⟨_,rfl,x,c.W,dx0,_,_,rfl,s1 _ _ hx0,z.wc,z.w4,kT ..,_,rfl,gd,v,rfl,?_,k v H1 (au.refl _) (At.wo KI _ _ (At.same s1 _ _ hA))⟩;rw[<-e];exact gC.k (k:=.inr bs[j]) (s1 _ _ RO)
    ·have KW:=(hP.mono (fun i v z=>At.same (du H1 D) _ _ z)).at
     rw[JF.mpr (fun _ _=>rfl),lbv,jI bs "" (fun e=>aQ (mh e))] at KW;intro dn Pc;have s2:au H1 (WX H1 dn (.dK [])):=ae Pc _;have d2:WX H1 dn (.dK []) dn=some (.dK []):=ao;generalize WX H1 dn (.dK [])=H2 at s2 d2 ⊢;have JU:=s1.trans s2;have ltk:(bQ ds).length=8+i:=by rw[mZ (by omega),ld]
     have eT:bs.map (fun e=>aQ (mh e))=(bs.map mh).map aQ:=by rw[List.map_map];rfl
     refine⟨Wp.mk x l gd p1 p2,ps,bQ ds,eS.take (8+i),[],xs,nm,.ref D,_,dn,bs.map mh,[],rfl,wH.same JU,by omega,⟨D,ys,rfl,.inl (bf.of (s2 _ _ Kt)),?_⟩,by rw[IU];omega,gB.nil d2,fun r H3 p3 dn3 _ b3 w3 a3=>?_⟩
     ·rw[<-eT];exact az.same s2 _ _ KW
     rw[ltk] at a3 w3;obtain⟨WI,Ms,SI,wv⟩:=w3.give;obtain⟨TZ,h3⟩:=w3.wo;refine⟨_,rfl,x,c.W,TZ,_,_,rfl,h3,z.wc,z.w4,kT ..,_,rfl,gd,_,rfl,rZ.k (k:=.inr nm) Ms ?_,⟨_,_,rfl⟩,fun p o ne e=>?_,ps++[p3],ds++[dn3],by rw[IJ,ld];rfl,?_⟩
     ·rw[W6] at SI;exact cm (by omega)
     ·rw[aB (cE e Tj)];exact b3 _ _ (cE e Nh) (JU _ _ (bH _ _ ne e))
     ·have:=wv r _ (8+i) a3 (yj gj);rw[show 8+(i+1)=8+i+1 from rfl,KP,List.take_add_one,gj];exact this
end
abbrev B7:Stmt:=cj 32
abbrev B8:Stmt:=cj 33
abbrev BS:Stmt:=cj 34
abbrev B6:Stmt:=cj 36
abbrev Ce:Stmt:=cj 37
abbrev BP:Stmt:=cj 38
theorem At.jo {K H r v}(h:At K H (.tup r) v):v≠.bj:=by
 obtain⟨p,vs,rfl,_⟩:=aX.mp h;exact fun z=>nomatch z
def sS:Option Th->List (Str×D)
 | some (.kd _ _ _ fs)=>fs
 | _=>[]
def dk (os:List Th) (n:Str):List Nat->Option D
 | []=>none
 | m::ns=>match (sS os[m]?).lookup n with
  | some d=>some d
  | none=>dk os n ns
theorem dq (os n m ns):dk os n (m::ns)=match (sS os[m]?).lookup n with
  | some d=>some d
  | none=>dk os n ns:=rfl
theorem ml (os n):∀ns i,(∀j,j < i->∀m,ns[j]?=some m->(sS os[m]?).lookup n=none)->dk os n ns=dk os n (ns.drop i)
 | [],i,_=>by rw[List.drop_nil]
 | m::ns,0,_=>rfl
 | m::ns,i+1,h=>by
  rw[dq,h 0 (Nat.succ_pos _) m rfl];exact ml os n ns i fun j hj m hm=>h (j+1) (Nat.succ_lt_succ hj) m hm
inductive FR where
 | no
 | val (d:D)
 | iP (t:Nat)
def lM:D->Nat
 | .tup [_,.int i]=>i.toNat
 | _=>0
def nh (os:List Th):Option D->FR
 | none=>.no
 | some d=>match ft os d with
  | some (.fn _)=>.iP (lM d)
  | _=>.val d
def oq (os:List Th) (fs:List (Str×D)) (ns:List Nat) (n:Str):FR:=match fs.lookup n with
 | some d=>.val d
 | none=>nh os (dk os n ns)
section
variable (K:Fg06) (c:cF) (wp:Wp) (ps:List Addr) (os:List Th) (gv:List (Str×Nat)) (ln:List Str) (lf:List Int) (i:Nat) (H:Hp) (Q:VK)
def IB:FR->Prop
 | .no=>Q .bj H
 | .val d=>∀v,At K H d v->Q v H
 | .iP t=>∀r H' p,bC wp.l H H'->cG K c H' wp (ps++[p]) (os++[.mt t i]) gv ln lf->At K H' (aQ os.length) r->Q r H'
def IA:FR->Prop
 | .no=>∀r H',au H H'->At K H' (.tup [.str "fault",.str "FieldFault"]) r->Q r H'
 | .val d=>∀r H',au H H'->At K H' (.tup [.str "value",d]) r->Q r H'
 | .iP t=>∀r H' p,bC wp.l H H'->cG K c H' wp (ps++[p]) (os++[.mt t i]) gv ln lf->At K H' (.tup [.str "value",aQ os.length]) r->Q r H'
end
theorem Vd.jo {os d}(h:Vd os d):∃r,d=.tup r:=by
 obtain⟨⟨k,r,rfl,_⟩,_⟩:=h;exact⟨_,rfl⟩
theorem jr {os d o}(hv:Vd os d) (h:ft os d=some o):∃i,d=aQ i/\os[i]?=some o:=by
 obtain⟨⟨k,r,rfl,hk⟩,_⟩:=hv;by_cases e:k="thing"
 ·obtain⟨i,rfl,hi⟩:=hk e;subst e;exact⟨i,rfl,(bw os i).symm.trans h⟩
 ·rw[jq os r e] at h;cases h
section
variable {P:Program}{w:World}{K:Fg06}{mg:Str->Option Value}{base:Heap}{f:Addr}{fd:FuncData}{c:cF}
inductive xh (K:Fg06) (c:cF) (vs:List V) (H:Hp) (Q:VK) (E:XK):Prop
 | mk wp ps os gv ln lf x ns n:vs=[.ref wp.W,x,.str n]->cG K c H wp ps os gv ln lf->At K H (.tup (ns.map aQ)) x->(∀m∈ns,∃nm LZ d' JM,os[m]?=some (.kd nm LZ d' JM))->((dk os n ns=none->Q .bj H))->(∀d v,dk os n ns=some d->At K H d v->Q v H)->xh K c vs H Q E
theorem xv:aS ["world","classes","name","one","fields"] ["world","classes","name"] (aw B7):=fE
theorem CU (z:iT K c) (F:eg K "found_in" "found_in" B7 f fd) (dT:Def P w K mg base "thing_of" ["world","a"] 1 (iH K c)):bK P w K mg base eh 2 f fd ["world","classes","name"] (xh K c):=by
 refine F.fw xv fun WK A outer s H vs Q E hr h=>?_;obtain⟨wp,ps,os,gv,ln,lf,x,ns,n,rfl,hw,hx,hk,q1,q2⟩:=h;refine⟨_,(ag (d9 Ji rfl (ee (pv 1)) (i6 3 xv.nd) (ag (dD 4 xv.nd (L3.bA (bX dT (bF (pv 0) (pv 3)))))
   (aq (br (L3.BB (fz hr) (pv 2) (pv 4)) (aq (aD (L3.eI (fz hr) (pv 4) (pv 2)))) aP))))
   (aq (aD bV))),?_⟩
 obtain⟨px,xs,rfl,sq,hA⟩:=aX.mp hx;have lx:=hA.len;rw[IU] at lx;refine⟨_,rfl,px,rfl,⟨xs,sq⟩,ni (K:=K) (a:=px) (xs:=xs) (fun i σ H'=>(∃o3 o4,σ=[some (.ref wp.W),some (.ref px),some (.str n),o3,o4])/\H'=H/\∀j,j < i->∀m,ns[j]?=some m->(sS os[m]?).lookup n=none) ⟨⟨_,_,rfl⟩,rfl,fun j hj=>Xc hj (Nat.not_lt_zero _)⟩ (fun i σ H' _ h=>h.2.1▸sq) ?t ?s⟩
 case s=>
  rintro σ H' ⟨⟨o3,o4,rfl⟩,rfl,hj⟩;refine q1 ?_;rw[ml os n ns xs.length hj,List.drop_eq_nil_of_le (by omega)];rfl
 case t=>
  rintro i u σ H' hu ⟨⟨o3,o4,rfl⟩,rfl,hj⟩;have hi:i < ns.length:=by rw[<-lx];exact aE hu
  have ei:ns[i]?=some ns[i]:=IM hi;obtain⟨v',Ld,Nl⟩:=az.get (i:=i) hA (d:=aQ ns[i]) (by rw[I0,ei];rfl);rw[hu] at Ld;cases Ld;obtain⟨nm,LZ,d',JM,ho⟩:=hk ns[i] (List.getElem_mem hi);refine⟨_,rfl,_,rfl,wp,ps,os,gv,ln,lf,u,aQ ns[i],rfl,hw,Nl,Vd.th (aE ho),fun v t=>?_⟩;obtain⟨p,_,rfl,dx,vo,v4,hp,_,WI,hd,_,Ma⟩:=t.th ho;refine⟨p,c.Kd,dx,_,_,rfl,hp,z.kc,z.k3,sT ..,_,rfl,_,rfl,d',_,rfl,gC.k (k:=.inr n) hd,_,rfl,?_⟩;rcases Ma n with ⟨e1,e2⟩ | ⟨dd,v,e1,e2,hv⟩
  ·rw[e2];refine aY ⟨⟨_,_,rfl⟩,rfl,fun j Ov m hm=>?_⟩;by_cases e:j=i
   ·subst e;rw[ei] at hm;cases hm;rw[ho];exact e1
   ·exact hj j (by omega) m hm
  ·rw[e2];refine bE ⟨_,rfl,_,rfl,d',v,rfl,?_,q2 dd v ?_ hv⟩
   ·rw[<-e2];exact gC.k (k:=.inr n) hd
   ·rw[ml os n ns i hj,List.drop_eq_getElem_cons hi,dq,ho];show(match JM.lookup n with | some d=>some d | none=>_)=_;rw[e1]
inductive xi (K:Fg06) (c:cF) (vs:List V) (H:Hp) (Q:VK) (E:XK):Prop
 | mk wp ps os gv ln lf y x i ns n:vs=[.ref wp.W,y,x,.str n]->cG K c H wp ps os gv ln lf->At K H (aQ i) y->At K H (.tup (ns.map aQ)) x->(∀m∈ns,∃nm LZ d' JM,os[m]?=some (.kd nm LZ d' JM))->((∀d,dk os n ns=some d->Vd os d))->os.length<=1000->IB K c wp ps os gv ln lf i H Q (nh os (dk os n ns))->xi K c vs H Q E
theorem Aq:aS ["world","owner","classes","name","found"] ["world","owner","classes","name"] (aw B8):=fE
theorem CW (g:Glb9 mg) (z:iT K c) (hF:mg "Function"=some (.ref c.F)) (F:eg K "found_by_way" "found_by_way" B8 f fd) (dT:Def P w K mg base "thing_of" ["world","a"] 1 (iH K c)) (dF:Def P w K mg base "found_in" ["world","classes","name"] 2 (xh K c)) (dM:Def P w K mg base "new_method" ["world","target","owner"] 3 (Bb K c)):bK P w K mg base eh 4 f fd ["world","owner","classes","name"] (xi K c):=by
 refine F.fw Aq fun WK A outer s H vs Q E hr h=>?_;obtain⟨wp,ps,os,gv,ln,lf,y,x,i,ns,n,rfl,hw,hy,hx,hk,MD,hl,q⟩:=h;refine⟨_,(ag (dD 4 Aq.nd (bX dF (ia (pv 0) (pv 2) (pv 3))))
   (ag (br (LW.pt (cS (cR i7 (pv 4) bV) (cv (bT (aJ cQ rfl g.i8 gi (bF (bX dT (bF (pv 0) (pv 4))) (bz (v:=.ref c.F) rfl hF rfl))))))) (aq (aD (bX dM (ia (pv 0) (pv 4) (pv 1))))) aP)
   (aq (aD (pv 4))))),?_⟩
 refine⟨_,rfl,_,rfl,_,rfl,wp,ps,os,gv,ln,lf,x,ns,n,rfl,hw,hx,hk,fun e=>?_,fun d v e hv=>?_⟩
 ·rw[e] at q;exact⟨_,rfl,rfl,_,rfl,aY (aY ⟨_,rfl,q⟩)⟩
 ·rw[e] at q;have hd:=MD d e;obtain⟨r,er⟩:=hd.jo;have nv:decide (v=V.bj)=false:=IK (At.jo (er▸hv));refine⟨_,rfl,rfl,_,rfl,?_⟩;show if(!decide (v=V.bj))=true then _ else _
  rw[nv];refine bE ⟨_,rfl,_,rfl,wp,ps,os,gv,ln,lf,v,d,rfl,hw,hv,hd,fun u t=>?_⟩;refine⟨_,c.F,_,rfl,t.is z z.tF,_,rfl,?_⟩;refine bO (fun e1=>?_) (fun e1=>?_)
  ·cases ho:ft os d with
   | none=>rw[ho] at e1;cases e1
   | some o=>
    rw[ho] at e1;cases o with
    | fn g1=>
     obtain⟨j,rfl,hj⟩:=jr hd ho;have q:IB K c wp ps os gv ln lf i H Q (match ft os (aQ j) with | some (.fn _)=>.iP (lM (aQ j)) | _=>.val (aQ j)):=q;rw[ho] at q;exact⟨_,rfl,_,rfl,_,rfl,wp,ps,os,gv,ln,lf,v,y,j,i,rfl,hw,hl,hv,hy,fun r H' p b1 w1 a1=>q r H' p b1 w1 a1⟩
    | _=>cases e1
  ·have q:IB K c wp ps os gv ln lf i H Q (match ft os d with | some (.fn _)=>.iP (lM d) | _=>.val d):=q;refine⟨_,rfl,?_⟩;cases ho:ft os d with
   | none=>rw[ho] at q;exact q v hv
   | some o=>
    rw[ho] at e1 q;cases o with
    | fn g1=>cases e1
    | _=>exact q v hv
inductive uf (K:Fg06) (c:cF) (vs:List V) (H:Hp) (Q:VK) (E:XK):Prop
 | mk wp ps os gv ln lf x i k d fs nm ns d' JM:vs=[.ref wp.W,x]->cG K c H wp ps os gv ln lf->At K H (aQ i) x->os[i]?=some (.ob k d fs)->os[k]?=some (.kd nm ns d' JM)->(∀v,At K H (.tup (ns.map aQ)) v->Q v H)->uf K c vs H Q E
theorem EF:aS ["world","owner"] ["world","owner"] (aw BS):=fE
theorem Cy (z:iT K c) (F:eg K "order_of_owner" "order_of_owner" BS f fd) (dT:Def P w K mg base "thing_of" ["world","a"] 1 (iH K c)):bK P w K mg base eh 2 f fd ["world","owner"] (uf K c):=by
 refine F.fw EF fun WK A outer s H vs Q E hr h=>?_;obtain⟨wp,ps,os,gv,ln,lf,x,i,k,d,fs,nm,ns,d',JM,rfl,hw,hx,ho,hk,q⟩:=h;refine⟨_,(aq (aD (L3.bA (bX dT (bF (pv 0) (L3.bA (bX dT (bF (pv 0) (pv 1))))))))),?_⟩;refine⟨_,rfl,_,rfl,_,rfl,wp,ps,os,gv,ln,lf,x,aQ i,rfl,hw,hx,Vd.th (aE ho),fun v t=>?_⟩;obtain⟨p,_,rfl,dx,v1,hp,Kr,_⟩:=t.th ho;refine⟨p,c.O,dx,_,_,rfl,hp,z.oc,z.o1,rg ..,wp,ps,os,gv,ln,lf,v1,aQ k,rfl,hw,Kr,Vd.th (aE hk),fun v t=>?_⟩;obtain⟨p',_,rfl,Lv,vo,v4,Ql,ha,_⟩:=t.th hk;exact⟨p',c.Kd,Lv,_,_,rfl,Ql,z.kc,z.k2,me ..,q _ ha⟩
inductive pq (K:Fg06) (c:cF) (vs:List V) (H:Hp) (Q:VK) (E:XK):Prop
 | mk wp ps os gv ln lf x i k d fs nm ns d' JM n:vs=[.ref wp.W,x,.str n]->cG K c H wp ps os gv ln lf->oK os->os.length<=1000->At K H (aQ i) x->os[i]?=some (.ob k d fs)->os[k]?=some (.kd nm ns d' JM)->IA K c wp ps os gv ln lf i H Q (oq os fs ns n)->pq K c vs H Q E
theorem jP {os}(hf:oK os) {n d}:∀{ns},dk os n ns=some d->Vd os d
 | [],h=>nomatch h
 | m::ns,h=>by
  rw[dq] at h;cases e:(sS os[m]?).lookup n with
  | none=>rw[e] at h;exact jP hf h
  | some d'=>
   rw[e] at h;cases h;cases ho:os[m]? with
   | none=>rw[ho] at e;cases e
   | some o=>
    rw[ho] at e;cases o with
    | kd nm ns d' fs=>exact(hf.k m nm ns d' fs ho).2 n _ e
    | _=>cases e
theorem qY:aS ["world","a","name","thing","found"] ["world","a","name"] (aw B6):=fE
theorem CT (g:Glb9 mg) (z:iT K c) (hO:mg "Object"=some (.ref c.O)) (F:eg K "field_of" "field_of" B6 f fd) (dT:Def P w K mg base "thing_of" ["world","a"] 1 (iH K c)) (dO:Def P w K mg base "order_of_owner" ["world","owner"] 2 (uf K c)) (dB:Def P w K mg base "found_by_way" ["world","owner","classes","name"] 4 (xi K c)):bK P w K mg base eh 5 f fd ["world","a","name"] (pq K c):=by
 refine F.fw qY fun WK A outer s H vs Q E hr h=>?_;obtain⟨wp,ps,os,gv,ln,lf,x,i,k,d,fs,nm,ns,d',JM,n,rfl,hw,hf,hl,hx,ho,hk,q⟩:=h;refine⟨_,(ag (dD 3 qY.nd (bX dT (bF (pv 0) (pv 1))))
   (ag (dD 4 qY.nd bV)
   (ag (br (bT (aJ cQ rfl g.i8 gi (bF (pv 3) (bz (v:=.ref c.O) rfl hO rfl)))) (ag (dD 4 qY.nd (.mk (L2.rb (fz hr) (LE.out (L3.bA (pv 3))) (LE.out (pv 2)) ⟨rfl,rfl,rfl,rfl⟩)))
   (aq (br (cR jx (pv 4) bV) (aq (dD 4 qY.nd (bX dB (lV (pv 0) (pv 1) (bX dO (bF (pv 0) (pv 1))) (pv 2))))) aP))) (aq cH))
   (aq (aD (bx (cR jx (pv 4) bV) (aI (bF ak ak)) (aI (bF ak (pv 4))))))))),?_⟩
 refine⟨_,rfl,_,rfl,wp,ps,os,gv,ln,lf,x,aQ i,rfl,hw,hx,Vd.th (aE ho),fun v t=>?_⟩;have ti:=t.is z z.tO;rw[bw,ho] at ti;obtain⟨p,_,rfl,dx,v1,hp,Kr,WI,hd,_,Ma⟩:=t.th ho;refine⟨_,rfl,_,c.O,true,rfl,ti,_,rfl,bE ?_⟩;refine⟨_,rfl,p,c.O,dx,_,_,rfl,hp,z.oc,z.o2,nU ..,d,rfl,.inl ⟨WI,.inl hd⟩,_,rfl,_,gC.k (k:=.inr n) hd,?_⟩;have q:IA K c wp ps os gv ln lf i H Q (match fs.lookup n with | some d=>.val d | none=>nh os (dk os n ns)):=q;rcases Ma n with ⟨e1,e2⟩ | ⟨dd,v,e1,e2,hA⟩
 ·rw[e2];rw[e1] at q;have q:IA K c wp ps os gv ln lf i H Q (nh os (dk os n ns)):=q;refine⟨_,rfl,rfl,_,rfl,bE ⟨_,rfl,_,rfl,_,rfl,_,rfl,wp,ps,os,gv,ln,lf,x,i,k,d,fs,nm,ns,d',JM,rfl,hw,hx,ho,hk,fun vo Kf=>⟨_,rfl,wp,ps,os,gv,ln,lf,x,vo,i,ns,n,rfl,hw,hx,Kf,(hf.k k nm ns d' JM hk).1,fun dd Ni=>jP hf Ni,hl,?_⟩⟩⟩;have MD:∀dd,nh os (dk os n ns)=.val dd->Vd os dd:=fun dd e=>by
   cases e3:dk os n ns with
   | none=>rw[e3] at e;cases e
   | some d3=>
    rw[e3] at e;have e:(match ft os d3 with | some (.fn _)=>FR.iP (lM d3) | _=>.val d3)=.val dd:=e;split at e
    ·cases e
    ·cases e;exact jP hf e3
  generalize nh os (dk os n ns)=fr at q MD ⊢;cases fr with
  | no=>
   refine⟨_,rfl,rfl,_,rfl,bE ⟨eX,fun p hp=>q _ _ (ae hp _) ?_⟩⟩;exact At.new hp (aZ (av.mpr rfl) (av.mpr rfl))
  | val dd=>
   intro v hv;obtain⟨r,rfl⟩:=(MD dd rfl).jo;have nv:decide (v=V.bj)=false:=IK hv.jo;refine⟨_,rfl,rfl,_,rfl,?_⟩;show if decide (v=V.bj)=true then _ else _
   rw[nv];exact aY ⟨_,rfl,eX,fun p hp=>q _ _ (ae hp _) (At.new hp (aZ (av.mpr rfl) hv))⟩
  | iP t=>
   intro r H1 p1 b1 w1 a1;have nv:decide (r=V.bj)=false:=IK a1.jo;refine⟨_,rfl,rfl,_,rfl,?_⟩;show if decide (r=V.bj)=true then _ else _
   rw[nv];exact aY ⟨_,rfl,eX,fun p hp=>q _ _ p1 (b1.trans (au.but wp.l (ae hp _))) (w1.same (ae hp _)) (At.new hp (aZ (av.mpr rfl) a1))⟩
 ·rw[e2];rw[e1] at q;have q:∀r H',au H H'->At K H' (.tup [.str "value",dd]) r->Q r H':=q;obtain⟨r,rfl⟩:=((hf.o i k d fs ho).2 n dd e1).jo;have nv:decide (v=V.bj)=false:=IK hA.jo;refine⟨_,rfl,rfl,_,rfl,?_⟩;show if decide (v=V.bj)=true then _ else _
  rw[nv];refine aY ⟨_,rfl,rfl,_,rfl,?_⟩;show if decide (v=V.bj)=true then _ else _
  rw[nv];exact aY ⟨_,rfl,eX,fun p hp=>q _ _ (ae hp _) (At.new hp (aZ (av.mpr rfl) hA))⟩
inductive xo (c:cF) (vs:List V) (H:Hp) (Q:VK) (E:XK):Prop
 | mk p dx fs:vs=[.ref p]->H p=some (.ins c.O dx fs)->Q (.bl true) H->xo c vs H Q E
theorem EX:aS ["thing"] ["thing"] (aw Ce):=fE
theorem C5 (g:Glb9 mg) (z:iT K c) (hO:mg "Object"=some (.ref c.O)) (F:eg K "can_be_put" "can_be_put" Ce f fd):bK P w K mg base eh 1 f fd ["thing"] (xo c):=by
 refine F.fw EX fun WK A outer s H vs Q E hr h=>?_;obtain⟨p,dx,fs,rfl,hp,q⟩:=h;refine⟨_,(aq (aD (jv (aJ cQ rfl g.i8 gi (bF (pv 0) (bz (v:=.ref c.O) rfl hO rfl))) (cZ uw)))),?_⟩;exact⟨_,rfl,_,c.O,true,rfl,.inl ⟨p,c.O,dx,fs,rfl,hp,z.iO,z.tO.tO⟩,_,rfl,bE q⟩
inductive wN (K:Fg06) (c:cF) (vs:List V) (H:Hp) (Q:VK) (E:XK):Prop
 | mk wp ps os gv ln lf x y i k d fs n dv:vs=[.ref wp.W,x,.str n,y]->cG K c H wp ps os gv ln lf->At K H (aQ i) x->os[i]?=some (.ob k d fs)->fs.length<=100->At K H dv y->(∀r H',bC d H H'->cG K c H' wp ps (os.set i (.ob k d ((n,dv)::fs))) gv ln lf->At K H' (.tup [.str "value",da]) r->Q r H')->wN K c vs H Q E
theorem Al:aS ["world","a","name","v","thing"] ["world","a","name","v"] (aw BP):=fE
theorem Cu (z:iT K c) (tN:TreeG K mg "NONE" [.str "none"]) (F:eg K "put_field" "put_field" BP f fd) (dT:Def P w K mg base "thing_of" ["world","a"] 1 (iH K c)) (dC:Def P w K mg base "can_be_put" ["thing"] 1 (xo c)):bK P w K mg base eh 2 f fd ["world","a","name","v"] (wN K c):=by
 refine F.fw Al fun WK A outer s H vs Q E hr h=>?_;obtain⟨wp,ps,os,gv,ln,lf,x,y,i,k,d,fs,n,dv,rfl,hw,hx,ho,hn,hy,q⟩:=h;obtain⟨pN,vN,mN,aN⟩:=tN;refine⟨_,(ag (dD 4 Al.nd (bX dT (bF (pv 0) (pv 1))))
   (ag (br (fb (bT (bX dC (cw (pv 4))))) (aq cH) aP)
   (ag (.mk (L2.mX (fz hr) (LE.out (L3.bA (pv 4))) (LE.out (pv 2)) (LE.out (pv 3)) rfl))
   (aq (aD (aI (bF ak (bz (v:=.ref pN) rfl mN rfl)))))))),?_⟩
 refine⟨_,rfl,_,rfl,wp,ps,os,gv,ln,lf,x,aQ i,rfl,hw,hx,Vd.th (aE ho),fun v t=>?_⟩;obtain⟨p,_,rfl,dx,v1,hp,Kr,Ma⟩:=t.th ho;obtain⟨WI,hd,hl,hf⟩:=Ma.put (n:=n) hy;have w2:=hw.put ho hf;refine⟨_,rfl,p,dx,_,rfl,hp,_,rfl,aY ⟨_,rfl,_,rfl,p,c.O,dx,_,_,rfl,hp,z.oc,z.o2,nU ..,_,rfl,d,_,rfl,rZ.k (k:=.inr n) hd (cm (by omega)),?_⟩⟩;have b2:bC d H (WX H d (.dK (WZ WI (.inr n:Key) y))):=bC.put _ _;revert w2 b2;generalize WX H d (.dK (WZ WI (.inr n:Key) y))=H2;intro w2 b2;refine⟨eX,fun t ht=>q _ _ (b2.trans (au.but d (ae ht _))) (w2.same (ae ht _)) (At.new ht (aZ (av.mpr rfl) (aX.mpr ⟨pN,vN,rfl,(aN _).1,(aN _).2⟩)))⟩
abbrev BV:Stmt:=cj 39
abbrev BL:Stmt:=cj 40
abbrev BK:Stmt:=cj 41
theorem cf (a b:Str):(a++b).length=a.length+b.length:=by
 show(a.cps++b.cps).size=a.cps.size+b.cps.size;rw[Array.size_append]
def tF3 (c:Str) (ta tb:TE):TE:=fun σ H Q=>ta σ H fun x H1=>∃a,x=.str a/\a.length<=1000/\tb σ H1 fun y H2=>∃b,y=.str b/\b.length<=1000/\Q (.str (Str.empty++a++c++b)) H2
theorem Fh {X c}{j:Nat} {e1 e2 p1 p2 p3 pos ta tb}(hc:c.length<=1000) (ha:LE X e1 ta) (hb:LE X e2 tb):LE X (.JoinedStr [.FormattedValue e1 (-1) none p1,.Constant (.str c) j p2,.FormattedValue e2 (-1) none p3] pos) (tF3 c ta tb):=by
 refine .mk fun WG s σ H Q I h=>?_;have hz:Str.empty.length=0:=rfl;have hS:=sizeLine_eq;refine JoinedStr_many (joinParts_cons (FormattedValue_plain (dh (ha.out WG s σ H _ I h) fun u s1 ⟨x,H1,I1,rx,a,ea,la,q1⟩=>?_)));subst ea;obtain⟨t,rfl⟩:=rx;refine formatField_str (fun t' tk=>⟨by rw[cf];omega,joinParts_cons (Calls.Constant_str ⟨by rw[cf,cf];omega,?_⟩)⟩) (by omega);refine joinParts_cons (FormattedValue_plain (dh (hb.out WG _ σ H1 _ ((I1.tok tk).tok _) q1) fun u s2 ⟨y,H2,I2,ry,b,eb,lb,q2⟩=>?_));subst eb;obtain⟨t2,rfl⟩:=ry;refine formatField_str (fun t' Ut=>⟨by rw[cf,cf,cf];omega,joinParts_nil ⟨.str _,H2,(I2.tok Ut).tok (Ut+1),⟨_,rfl⟩,q2⟩ (by rw[cf,cf,cf];omega)⟩) (by omega)
def DT:V->Str
 | .int i=>toString i
 | .str x=>x
 | .bl b=>if b then "True" else "False"
 | _=>""
theorem mq {X}:gm X (.type "str") (fun xs H Q=>∃x,xs=[x]/\((∃i:Int,x=.int i/\i.natAbs.log2 < 1920)\/(∃y,x=.str y)\/∃b,x=.bl b)/\Q (.str (DT x)) H):=by
 intro WG s σ H xs us Q I r h;obtain⟨x,rfl,h,q⟩:=h;rcases h with ⟨i,rfl,hz⟩ | ⟨y,rfl⟩ | ⟨b,rfl⟩
 ·obtain⟨u,rfl,t,rfl⟩:=vals1 r;exact PySem.P.str_of_int hz ⟨.str _,H,I.tok _,⟨_,rfl⟩,q⟩
 ·obtain⟨u,rfl,t,rfl⟩:=vals1 r;exact PySem.P.str_of_str ⟨.str _,H,I,⟨_,rfl⟩,q⟩
 ·obtain⟨u,rfl,r1⟩:=vals1 r;cases r1;exact PySem.P.str_of_bool ⟨.str _,H,I.tok _,⟨_,rfl⟩,q⟩
def jn (a b:Str):Str:=Str.empty++a++" "++b
def yW:Option Th->Str
 | some (.fn g)=>g.nm
 | some (.kL n)=>n
 | some (.kd nm _ _ _)=>nm
 | _=>""
def DY (os:List Th):Th->Str
 | .fn g=>jn "function" g.nm
 | .kL n=>jn "function" n
 | .mt t _=>jn "method" (yW os[t]?)
 | .kd nm _ _ _=>jn "class" nm
 | .ob k _ _=>jn "a" (yW os[k]?)
 | .gr _ _ _=>jn "giver" "count"
 | .vw=>"view"
def DM (os:List Th):Prop:=∀(i:Nat) o,os[i]?=some o->(yW (some o)).length<=1000
def ic (i:Int):D:=.tup [.str "number",.int i]
def DQ (x:Str):D:=.tup [.str "text",.str x]
def yV (b:Bool):D:=.tup [.str "truth",.bl b]
inductive Vp (os:List Th):D->Prop
 | th i (h:i < os.length):Vp os (aQ i)
 | no:Vp os da
 | nu i (h:i.natAbs.log2 < 1920):Vp os (ic i)
 | te x:Vp os (DQ x)
 | tr b:Vp os (yV b)
theorem Vp.vd {os d}(h:Vp os d):Vd os d:=by
 cases h with
 | th i h=>exact Vd.th h
 | no=>exact Vd.da
 | nu i h=>exact Vd.no (by decide +kernel) (by rw[GS.dep,bM,bM,bM,cy,fP];exact IW _)
 | te x=>exact Vd.no (by decide +kernel) (by rw[GS.dep,bM,bM,bM,cy,cy];exact IW _)
 | tr b=>exact Vd.no (by decide +kernel) (by rw[GS.dep,bM,bM,bM,cy,mn];exact IW _)
theorem Vp.mono {os JI d}(l:os.length<=JI.length) (h:Vp os d):Vp JI d:=by
 cases h with
 | th i h=>exact .th i (Ju h l)
 | no=>exact .no
 | nu i h=>exact .nu i h
 | te x=>exact .te x
 | tr b=>exact .tr b
def jX (os:List Th):D->Str
 | .tup [.str k,.int i]=>if k="thing" then(match os[i.toNat]? with | some o=>DY os o | none=>"") else toString i
 | .tup [.str _,.str x]=>x
 | .tup [.str _,.bl b]=>if b then "True" else "False"
 | _=>"None"
theorem kb {os i o}(h:os[i]?=some o):jX os (aQ i)=DY os o:=by
 show(if("thing":Str)="thing" then(match os[((i:Nat):Int).toNat]? with | some o=>DY os o | none=>"") else(toString ((i:Nat):Int):Str))=_;rw[IZ rfl,Int.toNat_natCast,h]
theorem sk (os i):jX os (ic i)=DT (.int i):=by
 show(if("number":Str)="thing" then(match os[i.toNat]? with | some o=>DY os o | none=>"") else(toString i:Str))=_;rw[IY (by decide +kernel)];rfl
inductive wU (vs:List V) (H:Hp) (Q:VK) (E:XK):Prop
 | mk a b:vs=[.str a,.str b]->a.length<=1000->b.length<=1000->Q (.str (Str.empty++a++" "++b)) H->wU  vs H Q E
theorem EH:aS ["word","name"] ["word","name"] (aw BV):=fE
theorem CC (F:eg K "named" "named" BV f fd):bK P w K mg base eh 1 f fd ["word","name"] wU:=by
 refine F.fw EH fun WK A outer s H vs Q E hr h=>?_;obtain⟨a,b,rfl,la,lb,q⟩:=h;refine⟨_,(aq (aD (Fh (by decide +kernel) (pv 0) (pv 1)))),?_⟩;exact⟨_,rfl,a,rfl,la,_,rfl,b,rfl,lb,q⟩
inductive wK (K:Fg06) (c:cF) (vs:List V) (H:Hp) (Q:VK) (E:XK):Prop
 | mk wp ps os gv ln (lf:List Int) p (i:Nat) o:vs=[.ref wp.W,.ref p]->cG K c H wp ps os gv ln lf->oK os->DM os->ps[i]?=some p->os[i]?=some o->Q (.str (DY os o)) H->wK K c vs H Q E
theorem EB:aS ["world","thing"] ["world","thing"] (aw BL):=fE
theorem Cq (g:Glb9 mg) (z:iT K c) (hF:mg "Function"=some (.ref c.F)) (hG:mg "Given"=some (.ref c.G)) (hM:mg "Method"=some (.ref c.M)) (hK:mg "Kind"=some (.ref c.Kd)) (hO:mg "Object"=some (.ref c.O)) (hR:mg "Giver"=some (.ref c.Gr)) (F:eg K "text_of_thing" "text_of_thing" BL f fd) (dT:Def P w K mg base "thing_of" ["world","a"] 1 (iH K c)) (dN:Def P w K mg base "named" ["word","name"] 1 wU):bK P w K mg base eh 2 f fd ["world","thing"] (wK K c):=by
 refine F.fw EB fun WK A outer s H vs Q E hr h=>?_;obtain⟨wp,ps,os,gv,ln,lf,p,i,o,rfl,hw,hf,hn,hi,ho,q⟩:=h;refine⟨_,(ag (br (LW.pt (eY (bT (aJ cQ rfl g.i8 gi (bF (pv 1) (bz (v:=.ref c.F) rfl hF rfl)))) (cY (bT (aJ cQ rfl g.i8 gi (bF (pv 1) (bz (v:=.ref c.G) rfl hG rfl))))))) (aq (aD (bX dN (bF ak (L3.bA (pv 1)))))) aP)
   (ag (br (bT (aJ cQ rfl g.i8 gi (bF (pv 1) (bz (v:=.ref c.M) rfl hM rfl)))) (aq (aD (bX dN (bF ak (L3.bA (bX dT (bF (pv 0) (L3.bA (pv 1))))))))) aP)
   (ag (br (bT (aJ cQ rfl g.i8 gi (bF (pv 1) (bz (v:=.ref c.Kd) rfl hK rfl)))) (aq (aD (bX dN (bF ak (L3.bA (pv 1)))))) aP)
   (ag (br (bT (aJ cQ rfl g.i8 gi (bF (pv 1) (bz (v:=.ref c.O) rfl hO rfl)))) (aq (aD (bX dN (bF ak (L3.bA (bX dT (bF (pv 0) (L3.bA (pv 1))))))))) aP)
   (aq (aD (bx (bT (aJ cQ rfl g.i8 gi (bF (pv 1) (bz (v:=.ref c.Gr) rfl hR rfl)))) (bX dN (bF ak (L3.bA (pv 1)))) ak))))))),?_⟩
 have hp:=hw.o i p o hi ho;have ti:∀{C:Addr}{f g m k o' r w:Bool},qD K c C f g m k o' r w->(∃p1 D dx fs,V.ref p=.ref p1/\H p1=some (.ins D dx fs)/\mJ K D/\PySem.W.kitOne K (.ref D) (.ref C)=some (nA f g m k o' r w (some o)))\/(V.ref p=.bj/\PySem.W.kitOne K (.type "NoneType") (.ref C)=some (nA f g m k o' r w (some o))):=fun kt=>by
  have h:=TV.is (ps:=ps) (os:=os) (d:=aQ i) z (.inr ⟨i,p,o,rfl,(bw os i).trans ho,hi,ho,rfl,hp⟩) kt;rw[bw,ho] at h;exact h
 have hl:=hn i o ho;cases o with
 | fn g1=>
  obtain⟨dx,v3,hp,_⟩:=hp;exact⟨_,rfl,_,c.F,true,rfl,ti z.tF,_,rfl,bE ⟨_,rfl,p,c.F,dx,_,_,rfl,hp,z.fc,z.f1,oo ..,"function",g1.nm,rfl,by decide +kernel,hl,q⟩⟩
 | kL n=>
  obtain⟨dx,hp⟩:=hp;exact⟨_,rfl,_,c.F,false,rfl,ti z.tF,_,rfl,aY ⟨_,rfl,_,c.G,true,rfl,ti z.tG,_,rfl,bE ⟨_,rfl,p,c.G,dx,_,_,rfl,hp,z.gc,z.g1,rfl,"function",n,rfl,by decide +kernel,hl,q⟩⟩⟩
 | mt t o1=>
  obtain⟨dx,v1,v2,hp,Kr,_⟩:=hp;obtain⟨⟨g1,MJ⟩,_⟩:=hf.m i t o1 ho;have hl:=hn t _ MJ;have q:Q (.str (jn "method" (yW os[t]?))) H:=q;rw[MJ] at q;refine⟨_,rfl,_,c.F,false,rfl,ti z.tF,_,rfl,aY ⟨_,rfl,_,c.G,false,rfl,ti z.tG,_,rfl,aY ⟨_,rfl,_,c.M,true,rfl,ti z.tM,_,rfl,bE ⟨_,rfl,_,rfl,p,c.M,dx,_,_,rfl,hp,z.mc,z.m1,nV ..,wp,ps,os,gv,ln,lf,v1,aQ t,rfl,hw,Kr,Vd.th (aE MJ),fun v t=>?_⟩⟩⟩⟩;obtain⟨p',_,rfl,Lv,v3,Ql,_⟩:=t.th MJ;exact⟨p',c.F,Lv,_,_,rfl,Ql,z.fc,z.f1,oo ..,"method",g1.nm,rfl,by decide +kernel,hl,q⟩
 | kd nm ns d fs=>
  obtain⟨dx,vo,v4,hp,_⟩:=hp;exact⟨_,rfl,_,c.F,false,rfl,ti z.tF,_,rfl,aY ⟨_,rfl,_,c.G,false,rfl,ti z.tG,_,rfl,aY ⟨_,rfl,_,c.M,false,rfl,ti z.tM,_,rfl,aY ⟨_,rfl,_,c.Kd,true,rfl,ti z.tK,_,rfl,bE ⟨_,rfl,p,c.Kd,dx,_,_,rfl,hp,z.kc,z.k1,rB ..,"class",nm,rfl,by decide +kernel,hl,q⟩⟩⟩⟩⟩
 | ob k d fs=>
  obtain⟨dx,v1,hp,Kr,_⟩:=hp;obtain⟨⟨nm,ns,d',JM,hk⟩,_⟩:=hf.o i k d fs ho;have hl:=hn k _ hk;have q:Q (.str (jn "a" (yW os[k]?))) H:=q;rw[hk] at q;refine⟨_,rfl,_,c.F,false,rfl,ti z.tF,_,rfl,aY ⟨_,rfl,_,c.G,false,rfl,ti z.tG,_,rfl,aY ⟨_,rfl,_,c.M,false,rfl,ti z.tM,_,rfl,aY ⟨_,rfl,_,c.Kd,false,rfl,ti z.tK,_,rfl,aY ⟨_,rfl,_,c.O,true,rfl,ti z.tO,_,rfl,bE ⟨_,rfl,_,rfl,p,c.O,dx,_,_,rfl,hp,z.oc,z.o1,rg ..,wp,ps,os,gv,ln,lf,v1,aQ k,rfl,hw,Kr,Vd.th (aE hk),fun v t=>?_⟩⟩⟩⟩⟩⟩;obtain⟨p',_,rfl,Lv,vo,v4,Ql,_⟩:=t.th hk;exact⟨p',c.Kd,Lv,_,_,rfl,Ql,z.kc,z.k1,rB ..,"a",nm,rfl,by decide +kernel,hl,q⟩
 | gr st m h1=>
  obtain⟨dx,hp⟩:=hp;exact⟨_,rfl,_,c.F,false,rfl,ti z.tF,_,rfl,aY ⟨_,rfl,_,c.G,false,rfl,ti z.tG,_,rfl,aY ⟨_,rfl,_,c.M,false,rfl,ti z.tM,_,rfl,aY ⟨_,rfl,_,c.Kd,false,rfl,ti z.tK,_,rfl,aY ⟨_,rfl,_,c.O,false,rfl,ti z.tO,_,rfl,aY ⟨_,rfl,_,c.Gr,true,rfl,ti z.tR,_,rfl,bE ⟨_,rfl,p,c.Gr,dx,_,_,rfl,hp,z.rc,z.r1,ym ..,"giver","count",rfl,by decide +kernel,by decide +kernel,q⟩⟩⟩⟩⟩⟩⟩
 | vw=>
  exact⟨_,rfl,_,c.F,false,rfl,ti z.tF,_,rfl,aY ⟨_,rfl,_,c.G,false,rfl,ti z.tG,_,rfl,aY ⟨_,rfl,_,c.M,false,rfl,ti z.tM,_,rfl,aY ⟨_,rfl,_,c.Kd,false,rfl,ti z.tK,_,rfl,aY ⟨_,rfl,_,c.O,false,rfl,ti z.tO,_,rfl,aY ⟨_,rfl,_,c.Gr,false,rfl,ti z.tR,_,rfl,aY q⟩⟩⟩⟩⟩⟩
inductive mv (K:Fg06) (c:cF) (vs:List V) (H:Hp) (Q:VK) (E:XK):Prop
 | mk wp ps os gv ln lf x d:vs=[.ref wp.W,x]->cG K c H wp ps os gv ln lf->oK os->DM os->At K H d x->Vp os d->Q (.str (jX os d)) H->mv K c vs H Q E
theorem EA:aS ["world","a"] ["world","a"] (aw BK):=fE
theorem Cp (g:Glb9 mg) (F:eg K "text_of" "text_of" BK f fd) (dT:Def P w K mg base "thing_of" ["world","a"] 1 (iH K c)) (dX:Def P w K mg base "text_of_thing" ["world","thing"] 2 (wK K c)):bK P w K mg base eh 3 f fd ["world","a"] (mv K c):=by
 refine F.fw EA fun WK A outer s H vs Q E hr h=>?_;obtain⟨wp,ps,os,gv,ln,lf,x,d,rfl,hw,hf,hn,hx,hv,q⟩:=h;refine⟨_,(ag (br (cR bL (bg (pv 1)) ak) (aq (aD (bX dX (bF (pv 0) (bX dT (bF (pv 0) (pv 1))))))) aP)
   (aq (aD (bx (cR bL (bg (pv 1)) ak) ak (bS mq rfl g.zH uW (cw (bg (pv 1)))))))),?_⟩
 have pl:(∃i,d=aQ i/\i < os.length)\/d=da\/∃(k:Str) (u:V) (dv:D),d=.tup [.str k,dv]/\k≠"thing"/\k≠"none"/\(∀y,At K H dv y->y=u)/\((∃i:Int,u=.int i/\i.natAbs.log2 < 1920)\/(∃y,u=.str y)\/∃b,u=.bl b)/\jX os d=DT u:=by
  cases hv with
  | th i h=>exact .inl ⟨i,rfl,h⟩
  | no=>exact .inr (.inl rfl)
  | nu i h=>exact .inr (.inr ⟨"number",.int i,.int i,rfl,by decide +kernel,by decide +kernel,fun y h=>bc.mp h,.inl ⟨i,rfl,h⟩,sk os i⟩)
  | te y=>exact .inr (.inr ⟨"text",.str y,.str y,rfl,by decide +kernel,by decide +kernel,fun y h=>av.mp h,.inr (.inl ⟨y,rfl⟩),rfl⟩)
  | tr b=>exact .inr (.inr ⟨"truth",.bl b,.bl b,rfl,by decide +kernel,by decide +kernel,fun y h=>cL.mp h,.inr (.inr ⟨b,rfl⟩),rfl⟩)
 rcases pl with ⟨i,rfl,hi⟩ | rfl | ⟨k,u,dv,rfl,h1,h2,hu,hk,e⟩
 ·have ho:os[i]?=some os[i]:=IM hi;rw[kb ho] at q;refine⟨_,rfl,0,_,_,rfl,hx,rfl,fun yk Ln=>?_⟩;rw[av.mp Ln];refine⟨rfl,_,rfl,bE ⟨_,rfl,_,rfl,_,rfl,wp,ps,os,gv,ln,lf,x,aQ i,rfl,hw,hx,Vd.th hi,fun v t=>?_⟩⟩;obtain⟨p,hp,rfl,_⟩:=t.th ho;exact⟨wp,ps,os,gv,ln,lf,p,i,os[i],rfl,hw,hf,hn,hp,ho,q⟩
 ·refine⟨_,rfl,0,_,_,rfl,hx,rfl,fun yk Ln=>?_⟩;rw[av.mp Ln];refine⟨rfl,_,rfl,?_⟩;rw[gg (by decide +kernel)];refine aY ⟨_,rfl,0,_,_,rfl,hx,rfl,fun yk Ln=>?_⟩;rw[av.mp Ln];exact⟨rfl,_,rfl,bE q⟩
 ·rw[e] at q;refine⟨_,rfl,0,_,_,rfl,hx,rfl,fun yk Ln=>?_⟩;rw[av.mp Ln];refine⟨rfl,_,rfl,?_⟩;rw[gg h1];refine aY ⟨_,rfl,0,_,_,rfl,hx,rfl,fun yk Ln=>?_⟩;rw[av.mp Ln];refine⟨rfl,_,rfl,?_⟩;rw[gg h2];refine aY ⟨_,rfl,1,_,_,rfl,hx,rfl,fun y1 KN=>?_⟩;rw[hu y1 KN];exact⟨_,rfl,hk,q⟩
abbrev B9:Stmt:=cj 46
abbrev BR:Stmt:=cj 47
abbrev xK:Stmt:=cj 48
abbrev BM:Stmt:=cj 49
abbrev BJ:Stmt:=cj 50
abbrev BZ:Stmt:=cj 51
abbrev BI:Stmt:=cj 52
abbrev Ca:Stmt:=cj 53
abbrev HQ:Stmt:=cj 54
abbrev HV:Stmt:=cj 58
abbrev Cd:Stmt:=cj 59
abbrev Cf:Stmt:=cj 60
abbrev Cb:Stmt:=cj 61
theorem jS {ds k}(h:k<=ds.length):cutD ds (some ((k:Nat):Int)) none=ds.drop k:=by
 unfold cutD;rw[HT.mU,HT.lh,Nat.min_eq_left h];exact List.take_of_length_le (by rw[List.length_drop];exact IW _)
def gf (g:sj) (i:Nat) (vs:List D):D:=if vs.length<=g.np/\g.np - vs.length<=g.df.length then .tup [.str "enter",aQ i,.tup (vs++g.df.drop (g.df.length - (g.np - vs.length)))] else kF
def Dc:Option Th->List Nat
 | some (.kd _ ns _ _)=>ns
 | _=>[]
def gD (os:List Th) (x k:D):Bool:=match ft os x with
 | some (.ob j _ _)=>((Dc os[j]?).map aQ).any fun e=>bP e k
 | _=>false
def eE (d:D):D:=.tup [.str "value",d]
inductive xj (K:Fg06) (c:cF) (vs:List V) (H:Hp) (Q:VK) (E:XK):Prop
 | mk wp ps os gv ln lf x y i (g:sj) us:vs=[.ref wp.W,x,y]->cG K c H wp ps os gv ln lf->At K H (aQ i) x->os[i]?=some (.fn g)->At K H (.tup us) y->us.length<=100->g.df.length<=100->(∀r H',au H H'->At K H' (gf g i us) r->Q r H')->xj K c vs H Q E
theorem xw:aS ["world","f","values","target","lacking"] ["world","f","values"] (aw B9):=fE
theorem CY (g:Glb9 mg) (z:iT K c) (tK:TreeG K mg "KIND_FAULT" [.str "fault",.str "KindFault"]) (F:eg K "entered" "entered" B9 f fd) (dT:Def P w K mg base "thing_of" ["world","a"] 1 (iH K c)):bK P w K mg base eh 2 f fd ["world","f","values"] (xj K c):=by
 refine F.fw xw fun WK A outer s H vs Q E hr h=>?_;obtain⟨wp,ps,os,gv,ln,lf,x,y,i,g1,us,rfl,hw,hx,ho,hy,hu,hd,q⟩:=h;obtain⟨pK,vK,mK,aK⟩:=tK;refine⟨_,(ag (dD 3 xw.nd (bX dT (bF (pv 0) (pv 1))))
   (ag (dD 4 xw.nd (aH iL (L3.bA (pv 3)) (aJ aU rfl g.fJ cX (cw (pv 2)))))
   (ag (br (LW.pt (eY (cR uy (pv 4) ah) (cY (cR gy (pv 4) (aJ aU rfl g.fJ cX (cw (L3.bA (pv 3)))))))) (aq (aD (bz (v:=.ref pK) rfl mK rfl))) aP)
   (aq (aD (aI (ia ak (pv 1) (aH gK (pv 2) (bR zf (L3.bA (pv 3)) (bZ (aH iL (aJ aU rfl g.fJ cX (cw (L3.bA (pv 3)))) (pv 4))) ck))))))))),?_⟩
 obtain⟨py,vy,rfl,sy,ay⟩:=aX.mp hy;have ly:=ay.len;refine⟨_,rfl,_,rfl,wp,ps,os,gv,ln,lf,x,aQ i,rfl,hw,hx,Vd.th (aE ho),fun v t=>?_⟩;obtain⟨p,_,rfl,dx,v3,hp,h3⟩:=t.th ho;obtain⟨p3,w3,rfl,s3,a3⟩:=aX.mp h3;have l3:=a3.len;refine⟨_,rfl,p,c.F,dx,_,_,rfl,hp,z.fc,z.f2,om ..,_,rfl,py,vy,rfl,.inr sy,_,_,rfl,rfl,?_⟩;have qK:¬(us.length<=g1.np/\g1.np - us.length<=g1.df.length)->Q (.ref pK) H:=fun h=>q _ H (au.refl H) (by
  unfold gf;rw[IY h];exact aX.mpr ⟨pK,vK,rfl,(aK _).1,(aK _).2⟩)
 refine⟨_,rfl,_,_,rfl,rfl,_,rfl,bO (fun e=>?_) (fun e=>?_)⟩
 ·have e:=Jl e;exact qK (by omega)
 have e:=JH e;refine⟨_,rfl,_,rfl,p,c.F,dx,_,_,rfl,hp,z.fc,z.f3,gM ..,p3,w3,rfl,.inr s3,_,_,rfl,rfl,_,rfl,bO (fun e2=>?_) (fun e2=>?_)⟩
 ·have e2:=Jl e2;exact qK (by omega)
 have e2:=JH e2;have hle:us.length<=g1.np/\g1.np - us.length<=g1.df.length:=⟨by omega,by omega⟩;refine⟨_,rfl,_,rfl,_,rfl,p,c.F,dx,_,_,rfl,hp,z.fc,z.f3,gM ..,_,rfl,p,c.F,dx,_,_,rfl,hp,z.fc,z.f3,gM ..,p3,w3,rfl,.inr s3,_,rfl,_,_,rfl,rfl,_,rfl,g1.df,h3,fun r1 H1 s1 a1=>?_⟩;have ec:((w3.length:Nat):Int) - ((g1.np:Nat) - (vy.length:Nat):Int)=((g1.df.length - (g1.np - us.length):Nat):Int):=by omega
 have a1:At K H1 (.tup (cutD g1.df (some (((w3.length:Nat):Int) - ((g1.np:Nat) - (vy.length:Nat):Int))) none)) r1:=a1;rw[ec,jS (by omega)] at a1;refine⟨us,_,At.same s1 _ _ hy,a1,small (by rw[List.length_drop];omega),fun r2 H2 s2 a2=>⟨wD,fun t ht=>?_⟩⟩;have s3:=ae ht (.tup [.str "enter",x,r2]);refine q _ _ ((s1.trans s2).trans s3) ?_;unfold gf;rw[IZ hle];exact At.new ht (kJ (av.mpr rfl) (At.same (s1.trans s2) _ _ hx) a2)
def oY (wp:Wp) (H H':Hp):Prop:=∀p o,H p=some o->p≠wp.l->p≠wp.n->p≠wp.f->H' p=some o
theorem oY.trans {wp H H' H''}(a:oY wp H H') (b:oY wp H' H''):oY wp H H'':=fun p o e h1 h2 h3=>b p o (a p o e h1 h2 h3) h1 h2 h3
theorem au.oX {wp H H'}(s:au H H'):oY wp H H':=fun p o e _ _ _=>s p o e
theorem bC.Ir {wp H H'}(s:bC wp.l H H'):oY wp H H':=fun p o e h _ _=>s p o h e
theorem bC.cnn {wp H H'}(s:bC wp.n H H'):oY wp H H':=fun p o e _ h _=>s p o h e
theorem bC.cnf {wp H H'}(s:bC wp.f H H'):oY wp H H':=fun p o e _ _ h=>s p o h e
theorem oY.chg {wp H H'}(s:oY wp H H'):jE c wp H H':=fun p o e h1 h2 h3 _=>s p o e h1 h2 h3
def ji (K:Fg06) (c:cF) (wp:Wp) (ps:List Addr) (os:List Th) (gv:List (Str×Nat)) (H:Hp) (Q:VK) (o:List Th×List Str×List Int×D):Prop:=∀r H' JK,oY wp H H'->cG K c H' wp (ps++JK) (os++o.1) gv o.2.1 o.2.2.1->At K H' o.2.2.2 r->Q r H'
theorem ji.none {wp ps os gv ln lf H H' Q d r}(q:ji K c wp ps os gv H Q ([],ln,lf,d)) (hw:cG K c H wp ps os gv ln lf) (s:au H H') (a:At K H' d r):Q r H':=q r H' [] (au.oX s) (by rw[Js,Js];exact hw.same s) a
theorem ji.one {wp ps os gv ln lf H H' Q d r o p}(q:ji K c wp ps os gv H Q ([o],ln,lf,d)) (b:bC wp.l H H') (hw:cG K c H' wp (ps++[p]) (os++[o]) gv ln lf) (a:At K H' d r):Q r H':=q r H' [p] b.Ir hw a
theorem kQ (a b l g):(wF a b l g).lookup ("lines":Str)=some a:=rfl
theorem kS (a b l g):(wF a b l g).lookup ("left":Str)=some b:=rfl
inductive sE (K:Fg06) (c:cF) (vs:List V) (H:Hp) (Q:VK) (E:XK):Prop
 | mk wp ps os gv ln lf x d:vs=[.ref wp.W,x]->cG K c H wp ps os gv ln lf->oK os->DM os->At K H d x->Vp os d->ln.length<=900->ji K c wp ps os gv H Q ([],ln++[jX os d],lf,eE da)->sE K c vs H Q E
theorem Bl:aS ["world","x"] ["world","x"] (aw xK):=fE
theorem zE (z:iT K c) (tN:TreeG K mg "NONE" [.str "none"]) (F:eg K "said" "said" xK f fd) (dX:Def P w K mg base "text_of" ["world","a"] 3 (mv K c)):bK P w K mg base eh 4 f fd ["world","x"] (sE K c):=by
 refine F.fw Bl fun WK A outer s H vs Q E hr h=>?_;obtain⟨wp,ps,os,gv,ln,lf,x,d,rfl,hw,hf,hn,hx,hv,hl,q⟩:=h;obtain⟨pN,vN,mN,aN⟩:=tN;refine⟨_,(ag (bW (dZ Jo Jp Jq cp (L3.bA (pv 0)) (cw (bX dX (bF (pv 0) (pv 1))))))
   (aq (aD (aI (bF ak (bz (v:=.ref pN) rfl mN rfl)))))),?_⟩
 obtain⟨dx,h1⟩:=hw.wo;refine⟨_,rfl,wp.W,c.W,dx,_,_,rfl,h1,z.wc,z.w1,kQ ..,.inl ⟨rfl,_,bf.of hw.hn⟩,_,rfl,_,rfl,wp,ps,os,gv,ln,lf,x,d,rfl,hw,hf,hn,hx,hv,wp.n,_,.str (jX os d),rfl,rfl,hw.hn,cm (by rw[IU];omega),?_⟩;have w2:=hw.say (ln++[jX os d]);rw[Jt] at w2;have b2:bC wp.n H (WX H wp.n (.lst (ln.map V.str++[.str (jX os d)]))):=bC.put _ _;revert w2 b2;show cG K c (WX H wp.n (.lst (ln.map V.str++[.str (jX os d)]))) _ _ _ _ _ _->_;generalize WX H wp.n (.lst (ln.map V.str++[.str (jX os d)]))=H2;intro w2 b2;refine⟨eX,fun t ht=>q _ _ [] (b2.cnn.trans (au.oX (ae ht _))) ?_ (At.new ht (aZ (av.mpr rfl) (aX.mpr ⟨pN,vN,rfl,(aN _).1,(aN _).2⟩)))⟩;rw[Js,Js];exact w2.same (ae ht _)
inductive wL (K:Fg06) (c:cF) (vs:List V) (H:Hp) (Q:VK) (E:XK):Prop
 | mk wp ps os gv ln lf:vs=[.ref wp.W]->cG K c H wp ps os gv ln lf->lf.length<=900->ji K c wp ps os gv H Q ([],ln,lf.tail,eE (ic (lf.headD 0)))->wL K c vs H Q E
theorem Aj:aS ["world","n"] ["world"] (aw BM):=fE
theorem Cr (g:Glb9 mg) (z:iT K c) (F:eg K "taken_input" "taken_input" BM f fd):bK P w K mg base eh 1 f fd ["world"] (wL K c):=by
 refine F.fw Aj fun WK A outer s H vs Q E hr h=>?_;obtain⟨wp,ps,os,gv,ln,lf,rfl,hw,hl,q⟩:=h;refine⟨_,(ag (dD 1 Aj.nd (bx (cR gy (aJ aU rfl g.fJ cX (cw (L3.bA (pv 0)))) ah) (dZ Jo PySem.F.slot_list_pop PySem.F.type_list_pop rl (L3.bA (pv 0)) (cw ah)) ah))
   (aq (aD (aI (bF ak (aI (bF ak (pv 1)))))))),?_⟩
 obtain⟨dx,h1⟩:=hw.wo;refine⟨_,rfl,wp.W,c.W,dx,_,_,rfl,h1,z.wc,z.w2,kS ..,wp.f,_,rfl,.inl (bf.of hw.hf),_,_,rfl,rfl,_,rfl,?_⟩;cases lf with
 | nil=>
  refine aY ⟨_,rfl,eX,fun t ht=>⟨eX,fun t2 JS=>?_⟩⟩;have s3:=ae ht (.tup [.str "number",.int 0]);exact q.none hw (s3.trans (ae JS _)) (At.new JS (aZ (av.mpr rfl) (At.new ht (aZ (av.mpr rfl) (bc.mpr rfl)))))
 | cons n lf=>
  rw[IL (by rw[IU,Jf];omega)];refine bE ⟨_,rfl,wp.W,c.W,dx,_,_,rfl,h1,z.wc,z.w2,kS ..,.inl ⟨rfl,_,bf.of hw.hf⟩,wp.f,_,0,0,.int n,rfl,rfl,hw.hf,by decide,by decide,by rw[IU,Jf];exact seqIndex_of (by decide) (by omega),rfl,?_⟩;have w2:=hw.take lf;have b2:bC wp.f H (WX H wp.f (.lst (lf.map V.int))):=bC.put _ _;have e:((n::lf).map V.int).eraseIdx 0=lf.map V.int:=rfl;rw[e];generalize WX H wp.f (.lst (lf.map V.int))=H2 at w2 b2 ⊢;refine⟨_,rfl,eX,fun t ht=>⟨eX,fun t2 JS=>?_⟩⟩;have s4:=(ae ht (.tup [.str "number",.int n])).trans (ae JS (.tup [.str "value",.ref t]));refine q _ _ [] (b2.cnf.trans (au.oX s4)) ?_ (At.new JS (aZ (av.mpr rfl) (At.new ht (aZ (av.mpr rfl) (bc.mpr rfl)))));rw[Js,Js];exact w2.same s4
inductive ud (K:Fg06) (c:cF) (vs:List V) (H:Hp) (Q:VK) (E:XK):Prop
 | mk wp ps os gv ln lf x y d k:vs=[.ref wp.W,x,y]->cG K c H wp ps os gv ln lf->oK os->At K H d x->Vd os d->At K H k y->Q (.bl (gD os d k)) H->ud K c vs H Q E
theorem Ez:aS ["world","x","kind"] ["world","x","kind"] (aw BJ):=fE
theorem Co (g:Glb9 mg) (z:iT K c) (hO:mg "Object"=some (.ref c.O)) (F:eg K "is_under" "is_under" BJ f fd) (dT:Def P w K mg base "thing_of" ["world","a"] 1 (iH K c)) (dO:Def P w K mg base "order_of_owner" ["world","owner"] 2 (uf K c)):bK P w K mg base eh 3 f fd ["world","x","kind"] (ud K c):=by
 refine F.fw Ez fun WK A outer s H vs Q E hr h=>?_;obtain⟨wp,ps,os,gv,ln,lf,x,y,d,k,rfl,hw,hf,hx,hv,hy,q⟩:=h;refine⟨_,(aq (aD (cT (aJ cQ rfl g.i8 gi (bF (bX dT (bF (pv 0) (pv 1))) (bz (v:=.ref c.O) rfl hO rfl))) (cZ (eJ (nQ hr) (pv 2) (bX dO (bF (pv 0) (pv 1))) rfl))))),?_⟩;refine⟨_,rfl,_,rfl,wp,ps,os,gv,ln,lf,x,d,rfl,hw,hx,hv,fun v t=>⟨_,c.O,_,rfl,t.is z z.tO,_,rfl,?_⟩⟩;have q2:Q (.bl (match ft os d with | some (.ob j _ _)=>((Dc os[j]?).map aQ).any fun e=>bP e k | _=>false)) H:=q;cases ho:ft os d with
 | none=>rw[ho] at q2;exact aY q2
 | some o=>
  rw[ho] at q2;cases o with
  | ob j dd fs=>
   obtain⟨i,rfl,hi⟩:=jr hv ho;obtain⟨⟨nm,ns,d',JM,hk⟩,_⟩:=hf.o i j dd fs hi;refine bE ⟨_,rfl,_,rfl,_,rfl,wp,ps,os,gv,ln,lf,x,i,j,dd,fs,nm,ns,d',JM,rfl,hw,hx,hi,hk,fun vo Kf=>⟨k,ns.map aQ,hy,Kf,fun e he=>?_,?_⟩⟩
   ·obtain⟨n,_,rfl⟩:=JD.mp he;rw[hJ];decide
   ·rw[IY Jd];have q3:Q (.bl (((Dc os[j]?).map aQ).any fun e=>bP e k)) H:=q2;rw[hk] at q3;exact q3
  | _=>exact aY q2
def zO (o:Option Th):Bool:=nA false false false true false false false o
inductive wY (K:Fg06) (c:cF) (vs:List V) (H:Hp) (Q:VK) (E:XK):Prop
 | mk wp ps os gv ln lf x y d k:vs=[.ref wp.W,x,y]->cG K c H wp ps os gv ln lf->oK os->At K H d x->Vd os d->At K H k y->Vd os k->ji K c wp ps os gv H Q ([],ln,lf,if zO (ft os k) then eE (yV (gD os d k)) else kF)->wY K c vs H Q E
theorem EK:aS ["world","x","kind"] ["world","x","kind"] (aw BZ):=fE
theorem CJ (z:iT K c) (tK:TreeG K mg "KIND_FAULT" [.str "fault",.str "KindFault"]) (F:eg K "told_isa" "told_isa" BZ f fd) (dC:Def P w K mg base "is_class" ["world","a"] 2 (qV K c false false false true false false false)) (dU:Def P w K mg base "is_under" ["world","x","kind"] 3 (ud K c)):bK P w K mg base eh 4 f fd ["world","x","kind"] (wY K c):=by
 refine F.fw EK fun WK A outer s H vs Q E hr h=>?_;obtain⟨wp,ps,os,gv,ln,lf,x,y,d,k,rfl,hw,hf,hx,hv,hy,Mm,q⟩:=h;obtain⟨pK,vK,mK,aK⟩:=tK;refine⟨_,(aq (aD (bx (bT (bX dC (bF (pv 0) (pv 2)))) (aI (bF ak (aI (bF ak (bX dU (ia (pv 0) (pv 1) (pv 2))))))) (bz (v:=.ref pK) rfl mK rfl)))),?_⟩;refine⟨_,rfl,_,rfl,wp,ps,os,gv,ln,lf,y,k,rfl,hw,hy,Mm,_,rfl,bO (fun e=>?_) (fun e=>?_)⟩
 ·rw[show zO (ft os k)=true from e,IZ rfl] at q;refine⟨_,rfl,_,rfl,_,rfl,wp,ps,os,gv,ln,lf,x,y,d,k,rfl,hw,hf,hx,hv,hy,eX,fun t ht=>⟨eX,fun t2 JS=>?_⟩⟩;exact q.none hw ((ae ht _).trans (ae JS _)) (At.new JS (aZ (av.mpr rfl) (At.new ht (aZ (av.mpr rfl) (cL.mpr rfl)))))
 ·rw[show zO (ft os k)=false from e,IY Jd] at q;exact q.none hw (au.refl H) (aX.mpr ⟨pK,vK,rfl,(aK _).1,(aK _).2⟩)
inductive wI (K:Fg06) (c:cF) (vs:List V) (H:Hp) (Q:VK) (E:XK):Prop
 | mk wp ps os gv ln lf x y d k:vs=[.ref wp.W,y,x]->cG K c H wp ps os gv ln lf->oK os->At K H d x->Vd os d->At K H k y->os.length<=1000->ji K c wp ps os gv H Q (if gD os d k then([.vw],ln,lf,eE (aQ os.length)) else([],ln,lf,kF))->wI K c vs H Q E
theorem Ex:aS ["world","kind","x"] ["world","kind","x"] (aw BI):=fE
theorem Cm (z:iT K c) (tK:TreeG K mg "KIND_FAULT" [.str "fault",.str "KindFault"]) (F:eg K "viewed" "viewed" BI f fd) (dV:Def P w K mg base "new_view" ["world","kind","owner"] 3 (A8 K c)) (dU:Def P w K mg base "is_under" ["world","x","kind"] 3 (ud K c)):bK P w K mg base eh 4 f fd ["world","kind","x"] (wI K c):=by
 refine F.fw Ex fun WK A outer s H vs Q E hr h=>?_;obtain⟨wp,ps,os,gv,ln,lf,x,y,d,k,rfl,hw,hf,hx,hv,hy,hl,q⟩:=h;obtain⟨pK,vK,mK,aK⟩:=tK;refine⟨_,(aq (aD (bx (bT (bX dU (ia (pv 0) (pv 2) (pv 1)))) (aI (bF ak (bX dV (ia (pv 0) (pv 1) (pv 2))))) (bz (v:=.ref pK) rfl mK rfl)))),?_⟩;refine⟨_,rfl,_,rfl,_,rfl,wp,ps,os,gv,ln,lf,x,y,d,k,rfl,hw,hf,hx,hv,hy,_,rfl,bO (fun e=>?_) (fun e=>?_)⟩
 ·rw[IZ e] at q;refine⟨_,rfl,_,rfl,_,rfl,wp,ps,os,gv,ln,lf,y,x,rfl,hw,hl,fun r H1 p b1 w1 a1=>⟨eX,fun t ht=>?_⟩⟩;exact q.one (b1.trans (au.but wp.l (ae ht _))) (w1.same (ae ht _)) (At.new ht (aZ (av.mpr rfl) a1))
 ·rw[IY (by rw[e];exact Jd)] at q;exact q.none hw (au.refl H) (aX.mpr ⟨pK,vK,rfl,(aK _).1,(aK _).2⟩)
def AR (os:List Th) (ln:List Str) (lf:List Int):D->List Th×List Str×List Int×D
 | .tup [.str k,.int i]=>if k="number" then(if 10000 < i then([],ln,lf,.tup [.str "fault",.str "GreatFault"]) else([.gr "new" i 0],ln,lf,eE (aQ os.length))) else([],ln,lf,kF)
 | _=>([],ln,lf,kF)
theorem yD (os ln lf i):AR os ln lf (ic i)=if 10000 < i then([],ln,lf,.tup [.str "fault",.str "GreatFault"]) else([.gr "new" i 0],ln,lf,eE (aQ os.length)):=by
 show(if("number":Str)="number" then(if 10000 < i then(([]:List Th),ln,lf,D.tup [.str "fault",.str "GreatFault"]) else([Th.gr "new" i 0],ln,lf,eE (aQ os.length))) else([],ln,lf,kF))=_;rw[IZ rfl]
theorem yE (os ln lf) {d}(hv:Vp os d):(∃i,d=ic i)\/∃k r,d=.tup (.str k::r)/\k≠"number"/\AR os ln lf d=([],ln,lf,kF):=by
 cases hv with
 | th i h=>exact .inr ⟨_,_,rfl,by decide +kernel,by
   show(if("thing":Str)="number" then(if 10000 < ((i:Nat):Int) then(([]:List Th),ln,lf,D.tup [.str "fault",.str "GreatFault"]) else([Th.gr "new" ((i:Nat):Int) 0],ln,lf,eE (aQ os.length))) else([],ln,lf,kF))=_;rw[IY (by decide +kernel)]⟩
 | no=>exact .inr ⟨_,_,rfl,by decide +kernel,rfl⟩
 | nu i h=>exact .inl ⟨i,rfl⟩
 | te x=>exact .inr ⟨_,_,rfl,by decide +kernel,rfl⟩
 | tr b=>exact .inr ⟨_,_,rfl,by decide +kernel,rfl⟩
inductive xl (K:Fg06) (c:cF) (vs:List V) (H:Hp) (Q:VK) (E:XK):Prop
 | mk wp ps os gv ln lf x d:vs=[.ref wp.W,x]->cG K c H wp ps os gv ln lf->At K H d x->Vp os d->os.length<=1000->ji K c wp ps os gv H Q (AR os ln lf d)->xl K c vs H Q E
theorem EU:aS ["world","n"] ["world","n"] (aw Ca):=fE
theorem C1 (tK:TreeG K mg "KIND_FAULT" [.str "fault",.str "KindFault"]) (hM:∃t,mg "MOST_COUNT"=some (.int 10000 t)) (F:eg K "counted" "counted" Ca f fd) (dC:Def P w K mg base "new_count" ["world","many"] 3 (xn K c)):bK P w K mg base eh 4 f fd ["world","n"] (xl K c):=by
 refine F.fw EU fun WK A outer s H vs Q E hr h=>?_;obtain⟨wp,ps,os,gv,ln,lf,x,d,rfl,hw,hx,hv,hl,q⟩:=h;obtain⟨pK,vK,mK,aK⟩:=tK;refine⟨_,(ag (br (cR j6 (bg (pv 1)) ak) (aq (aD (bz (v:=.ref pK) rfl mK rfl))) aP)
   (aq (aD (bx (cR gy (bg (pv 1)) (L3.mY rfl hM)) (aI (bF ak ak)) (aI (bF ak (bX dC (bF (pv 0) (bg (pv 1)))))))))),?_⟩
 rcases yE os ln lf hv with ⟨i,rfl⟩ | ⟨k,r,rfl,hk,e⟩
 ·rw[yD] at q;refine⟨_,rfl,0,_,_,rfl,hx,rfl,fun y0 h0=>?_⟩;rw[av.mp h0];refine⟨rfl,_,rfl,?_⟩;rw[IL rfl];refine aY ⟨_,rfl,1,_,_,rfl,hx,rfl,fun y1 h1=>?_⟩;rw[bc.mp h1];refine⟨_,_,rfl,rfl,_,rfl,bO (fun e=>?_) (fun e=>?_)⟩
  ·rw[IZ (Jl e)] at q;exact⟨eX,fun t ht=>q.none hw (ae ht _) (At.new ht (aZ (av.mpr rfl) (av.mpr rfl)))⟩
  ·rw[IY (JH e)] at q;refine⟨_,rfl,_,rfl,1,_,_,rfl,hx,rfl,fun y2 h2=>?_⟩;rw[bc.mp h2];refine⟨wp,ps,os,gv,ln,lf,i,rfl,hw,hl,fun r H1 p b1 w1 a1=>⟨eX,fun t ht=>?_⟩⟩;exact q.one (b1.trans (au.but wp.l (ae ht _))) (w1.same (ae ht _)) (At.new ht (aZ (av.mpr rfl) a1))
 ·rw[e] at q;refine⟨_,rfl,0,_,_,rfl,hx,rfl,fun y0 h0=>?_⟩;rw[av.mp h0];refine⟨rfl,_,rfl,?_⟩;rw[gg hk];exact bE (q.none hw (au.refl H) (aX.mpr ⟨pK,vK,rfl,(aK _).1,(aK _).2⟩))
inductive Ba (K:Fg06) (c:cF) (vs:List V) (H:Hp) (Q:VK) (E:XK):Prop
 | mk wp ps os gv ln lf x i st m h:vs=[.ref wp.W,x]->cG K c H wp ps os gv ln lf->At K H (aQ i) x->os[i]?=some (.gr st m h)->st≠"goes"->Q (.str st) H->Ba K c vs H Q E
theorem ED:aS ["world","g","state"] ["world","g"] (aw HQ):=fE
theorem Fs (F:eg K "state_to_go" "state_to_go" HQ f fd) (dI:Def P w K mg base "is_giver" ["world","a"] 2 (qV K c false false false false false true false)) (dS:Def P w K mg base "state_of" ["world","g"] 2 (ue K c)):bK P w K mg base eh 3 f fd ["world","g"] (Ba K c):=by
 refine F.fw ED fun WK A outer s H vs Q E hr h=>?_;obtain⟨wp,ps,os,gv,ln,lf,x,i,st,m,hh,rfl,hw,hx,ho,hs,q⟩:=h;refine⟨_,(ag (dD 2 ED.nd (bx (bT (bX dI (bF (pv 0) (pv 1)))) (bX dS (bF (pv 0) (pv 1))) bV))
   (aq (aD (bx (cR bL (pv 2) ak) bV (pv 2))))),?_⟩
 refine⟨_,rfl,_,rfl,wp,ps,os,gv,ln,lf,x,aQ i,rfl,hw,hx,Vd.th (aE ho),_,rfl,?_⟩;rw[bw,ho];refine bE ⟨_,rfl,_,rfl,wp,ps,os,gv,ln,lf,x,i,st,m,hh,rfl,hw,hx,ho,_,rfl,rfl,_,rfl,?_⟩;rw[gg hs];exact aY ⟨_,rfl,q⟩
inductive xr (K:Fg06) (c:cF) (vs:List V) (H:Hp) (Q:VK) (E:XK):Prop
 | mk wp ps os gv ln lf x i st m h:vs=[.ref wp.W,x]->cG K c H wp ps os gv ln lf->At K H (aQ i) x->os[i]?=some (.gr st m h)->st≠"goes"->(∀r H',au H H'->At K H' (if st="over" then .tup [.str "over"] else .tup [.str "go",aQ i,da]) r->Q r H')->xr K c vs H Q E
theorem Au:aS ["world","g","state"] ["world","g"] (aw Cf):=fE
theorem C7 (tN:TreeG K mg "NONE" [.str "none"]) (F:eg K "asked" "asked" Cf f fd) (dS:Def P w K mg base "state_to_go" ["world","g"] 3 (Ba K c)):bK P w K mg base eh 4 f fd ["world","g"] (xr K c):=by
 refine F.fw Au fun WK A outer s H vs Q E hr h=>?_;obtain⟨wp,ps,os,gv,ln,lf,x,i,st,m,hh,rfl,hw,hx,ho,hs,q⟩:=h;obtain⟨pN,vN,mN,aN⟩:=tN;refine⟨_,(ag (dD 2 Au.nd (bX dS (bF (pv 0) (pv 1))))
   (ag (br (cR jx (pv 2) bV) (aq cH) aP)
   (aq (aD (bx (cR bL (pv 2) ak) (aI (cw ak)) (aI (ia ak (pv 1) (bz (v:=.ref pN) rfl mN rfl)))))))),?_⟩
 refine⟨_,rfl,_,rfl,wp,ps,os,gv,ln,lf,x,i,st,m,hh,rfl,hw,hx,ho,hs,_,rfl,rfl,_,rfl,aY ⟨_,rfl,rfl,_,rfl,?_⟩⟩;rw[oC];by_cases e:st="over"
 ·rw[IZ e] at q;rw[IL e];exact bE ⟨jY,fun t ht=>q _ _ (ae ht _) (At.new ht (az.fu (av.mpr rfl)))⟩
 ·rw[IY e] at q;rw[IK e];exact aY ⟨_,rfl,wD,fun t ht=>q _ _ (ae ht _) (At.new ht (kJ (av.mpr rfl) hx (aX.mpr ⟨pN,vN,rfl,(aN _).1,(aN _).2⟩)))⟩
inductive xm (K:Fg06) (c:cF) (vs:List V) (H:Hp) (Q:VK) (E:XK):Prop
 | mk wp ps os gv ln lf x i st m h:vs=[.ref wp.W,x]->cG K c H wp ps os gv ln lf->At K H (aQ i) x->os[i]?=some (.gr st m h)->((m<=h->∀r H',jE c wp H H'->cG K c H' wp ps (os.set i (.gr "over" m h)) gv ln lf->At K H' (.tup [.str "over"]) r->Q r H'))->((h < m->∀r H',jE c wp H H'->cG K c H' wp ps (os.set i (.gr "waits" m (h+1))) gv ln lf->At K H' (eE (ic h)) r->Q r H'))->xm K c vs H Q E
theorem xx:aS ["world","g","count","n"] ["world","g"] (aw Cb):=fE
theorem C2 (z:iT K c) (nW:c.W≠c.Gr) (F:eg K "counted_on" "counted_on" Cb f fd) (dT:Def P w K mg base "thing_of" ["world","a"] 1 (iH K c)) (dP:Def P w K mg base "set_state" ["world","g","state"] 2 (wM K c)):bK P w K mg base eh 3 f fd ["world","g"] (xm K c):=by
 refine F.fw xx fun WK A outer s H vs Q E hr h=>?_;obtain⟨wp,ps,os,gv,ln,lf,x,i,st,m,hh,rfl,hw,hx,ho,q1,q2⟩:=h;refine⟨_,(ag (dD 2 xx.nd (bX dT (bF (pv 0) (pv 1))))
   (ag (br (cR Fi (L3.bA (pv 2)) (L3.bA (pv 2))) (ag (bW (bX dP (ia (pv 0) (pv 1) ak)))
   (aq (aD (aI (cw ak))))) aP)
   (ag (dD 3 xx.nd (L3.bA (pv 2)))
   (ag (L3.cD (pv 2) (aH fR (pv 3) ah))
   (ag (bW (bX dP (ia (pv 0) (pv 1) ak)))
   (aq (aD (aI (bF ak (aI (bF ak (pv 3)))))))))))),?_⟩
 refine⟨_,rfl,_,rfl,wp,ps,os,gv,ln,lf,x,aQ i,rfl,hw,hx,Vd.th (aE ho),fun v t=>?_⟩;obtain⟨p,ep,rfl,dx,hp⟩:=t.th ho;refine⟨_,rfl,p,c.Gr,dx,_,_,rfl,hp,z.rc,z.r5,oi ..,_,rfl,p,c.Gr,dx,_,_,rfl,hp,z.rc,z.r4,yn ..,_,_,rfl,rfl,_,rfl,?_⟩;refine bO (fun e=>?_) (fun e=>?_)
 ·have e':=Jl e;refine⟨_,rfl,_,rfl,wp,ps,os,gv,ln,lf,x,i,st,"over",m,hh,rfl,hw,hx,ho,fun H1 c1 w1=>?_⟩;exact⟨jY,fun t ht=>q1 (by omega) _ _ (c1.trans (au.chg (ae ht _))) (w1.same (ae ht _)) (At.new ht (az.fu (av.mpr rfl)))⟩
 ·have e':=JH e;refine⟨_,rfl,p,c.Gr,dx,_,_,rfl,hp,z.rc,z.r5,oi ..,?_⟩;refine⟨_,rfl,_,_,rfl,rfl,_,rfl,p,c.Gr,dx,_,rfl,hp,z.rc,z.r5,by show 5 < 1000;decide,?_⟩;rw[Ds];have w1:=hw.F6 nW (st':=st) (m':=m) (h':=hh+1) ep ho hp;have c1:jE c wp H (WX H p (.ins c.Gr dx (qF st m (hh+1)))):=jE.gr hp;have JN:At K (WX H p (.ins c.Gr dx (qF st m (hh+1)))) (aQ i) x:=At.fx (c1.fx hw) _ _ hx;generalize WX H p (.ins c.Gr dx (qF st m (hh+1)))=H1 at w1 c1 JN ⊢;refine⟨_,rfl,_,rfl,wp,ps,_,gv,ln,lf,x,i,st,"waits",m,hh+1,rfl,w1,JN,IT (aE ho),fun H3 c3 w3=>?_⟩;rw[List.set_set] at w3;refine⟨_,rfl,eX,fun t ht=>⟨eX,fun t2 JS=>?_⟩⟩;have s4:=(ae ht (.tup [.str "number",.int hh])).trans (ae JS (.tup [.str "value",.ref t]));exact q2 (by omega) _ _ ((c1.trans c3).trans (au.chg s4)) (w3.same s4) (At.new JS (aZ (av.mpr rfl) (At.new ht (aZ (av.mpr rfl) (bc.mpr rfl)))))
theorem cN {α:Type}{xs ys:List α}{i:Nat}{x:α}(h:xs[i]?=some x):(xs++ys)[i]?=some x:=by rw[JB (aE h)];exact h
theorem rE {os JI n}:∀{ns},(∀m∈ns,m < os.length)->dk (os++JI) n ns=dk os n ns
 | [],_=>rfl
 | m::ns,h=>by
  rw[dq,dq,JB (h m II),rE fun k hk=>h k (IH _ hk)]
theorem mP {os JI d}(h:Vd os d):ft (os++JI) d=ft os d:=by
 rcases h.cases with ⟨i,rfl,hi⟩ | ⟨k,r,rfl,hk,e⟩
 ·rw[bw,bw,JB hi]
 ·rw[e,jq _ r hk]
theorem zR {os JI o}(h:∀d,o=some d->Vd os d):nh (os++JI) o=nh os o:=by
 cases o with
 | none=>rfl
 | some d=>
  show(match ft (os++JI) d with | some (.fn _)=>FR.iP (lM d) | _=>.val d)=_;rw[mP (h d rfl)];rfl
def OkT (os:List Th):Th->Prop
 | .kd _ ns _ fs=>(∀n∈ns,n=os.length\/∃Lc LZ d' JM,os[n]?=some (.kd Lc LZ d' JM))/\∀n dd,fs.lookup n=some dd->Vd os dd
 | .ob k _ fs=>(∃nm ns d' JM,os[k]?=some (.kd nm ns d' JM))/\∀n dd,fs.lookup n=some dd->Vd os dd
 | .mt t o=>(∃f,os[t]?=some (.fn f))/\o < os.length
 | _=>True
theorem oK.add {os:List Th}{o:Th}(h:oK os) (ho:OkT os o):oK (os++[o]):=by
 have ll:os.length<=(os++[o]).length:=by rw[IJ];omega
 refine⟨fun i nm ns d fs e=>?_,fun i k d fs e=>?_,fun i t q e=>?_⟩
 ·rcases getElem?_snoc e with u | ⟨_,u⟩
  ·obtain⟨a,b⟩:=h.k i nm ns d fs u;exact⟨fun n hn=>let ⟨x,y,z,v,e⟩:=a n hn;⟨x,y,z,v,cN e⟩,fun n dd e=>(b n dd e).mono ll⟩
  ·subst u;obtain⟨a,b⟩:=ho;refine⟨fun n hn=>?_,fun n dd e=>(b n dd e).mono ll⟩;rcases a n hn with rfl | ⟨x,y,z,v,e⟩
   ·exact⟨_,_,_,_,bD⟩
   ·exact⟨x,y,z,v,cN e⟩
 ·rcases getElem?_snoc e with u | ⟨_,u⟩
  ·obtain⟨⟨x,y,z,v,e⟩,b⟩:=h.o i k d fs u;exact⟨⟨x,y,z,v,cN e⟩,fun n dd e=>(b n dd e).mono ll⟩
  ·subst u;obtain⟨⟨x,y,z,v,e⟩,b⟩:=ho;exact⟨⟨x,y,z,v,cN e⟩,fun n dd e=>(b n dd e).mono ll⟩
 ·rcases getElem?_snoc e with u | ⟨_,u⟩
  ·obtain⟨⟨x,e⟩,b⟩:=h.m i t q u;exact⟨⟨x,cN e⟩,Ju b ll⟩
  ·subst u;obtain⟨⟨x,e⟩,b⟩:=ho;exact⟨⟨x,cN e⟩,Ju b ll⟩
theorem jA {os b n dd}(h:(eB b).lookup n=some dd):Vd os dd:=by
 cases b with
 | false=>cases h
 | true=>
  have h:oW.lookup n=some dd:=h;unfold oW at h;rw[bG,bG,bG] at h;split at h
  ·cases h;exact Vd.da
  ·split at h
   ·cases h;exact Vd.da
   ·split at h
    ·cases h;exact Vd.da
    ·cases h
theorem vS (b):(eB b).lookup ("start":Str)=none:=by
 cases b with
 | false=>rfl
 | true=>decide +kernel
theorem uK (b):(eB b).length<=3:=by cases b<;>decide
theorem yT {K H a b c d x y z u}(h:At K H a x) (h2:At K H b y) (h3:At K H c z) (h4:At K H d u):az K H [a,b,c,d] [x,y,z,u]:=ba.mpr ⟨x,_,rfl,h,kJ h2 h3 h4⟩
theorem qX {α} (xs) (a b:α):(xs++[a]).set xs.length b=xs++[b]:=by
 rw[List.set_append_right _ _ (IW _),Nat.sub_self];rfl
def DX (o:Option Th):Bool:=nA false false true false false false false o
def fU (us:List D) (f0:List (Str×D)):List (Str×D):=match us with
 | [x]=>("word",x)::f0
 | _=>f0
theorem qH {us f0}(h:us.length≠1):fU us f0=f0:=by
 match us,h with
 | [],_=>rfl
 | [x],h=>exact Xc rfl h
 | x::y::r,_=>rfl
def AB (os:List Th) (ln:List Str) (lf:List Int) (k:Nat) (b:Bool) (us:List D) (d':Addr):FR->List Th×List Str×List Int×D
 | .iP t=>([.ob k d' (eB b),.mt t os.length],ln,lf,.tup [.str "start",aQ os.length,aQ (os.length+1),.tup us])
 | .val d=>([.ob k d' (eB b)],ln,lf,if DX (ft os d) then .tup [.str "start",aQ os.length,d,.tup us] else kF)
 | .no=>if(if b then 1 else 0) < us.length then([.ob k d' (eB b)],ln,lf,kF) else([.ob k d' (fU us (eB b))],ln,lf,eE (aQ os.length))
def oS (os:List Th) (ln:List Str) (lf:List Int) (k:Nat) (ns:List Nat) (us:List D) (d':Addr):List Th×List Str×List Int×D:=AB os ln lf k (decide (9∈ns)) us d' (nh os (dk os "start" ns))
inductive wO (K:Fg06) (c:cF) (vs:List V) (H:Hp) (Q:VK) (E:XK):Prop
 | mk wp ps os gv ln lf x y k nm ns d0 fs us:vs=[.ref wp.W,x,y]->cG K c H wp ps os gv ln lf->oK os->At K H (aQ k) x->os[k]?=some (.kd nm ns d0 fs)->At K H (.tup us) y->us.length<=100->((("Fault":Str),9):Str×Nat)∈gv->os.length<=900->(∀d',ji K c wp ps os gv H Q (oS os ln lf k ns us d'))->wO K c vs H Q E
theorem um:aS ["world","kind","values","made","start","is_method"] ["world","kind","values"] (aw BR):=fE
theorem Cw (g:Glb9 mg) (z:iT K c) (hM:mg "Method"=some (.ref c.M)) (tK:TreeG K mg "KIND_FAULT" [.str "fault",.str "KindFault"]) (F:eg K "object_of" "object_of" BR f fd) (dT:Def P w K mg base "thing_of" ["world","a"] 1 (iH K c)) (dO:Def P w K mg base "new_object" ["world","kind"] 4 (wQ K c)) (dF:Def P w K mg base "field_of" ["world","a","name"] 5 (pq K c)) (dC:Def P w K mg base "is_fault_class" ["world","a"] 3 (ze K c)) (dP:Def P w K mg base "put_field" ["world","a","name","v"] 2 (wN K c)):bK P w K mg base eh 6 f fd ["world","kind","values"] (wO K c):=by
 refine F.fw um fun WK A outer s H vs Q E hr h=>?_;obtain⟨wp,ps,os,gv,ln,lf,x,y,k,nm,ns,d0,fs,us,rfl,hw,hf,hx,hk,hy,hu,hg,hl,q⟩:=h;obtain⟨pK,vK,mK,aK⟩:=tK;have hK:∀H,At K H kF (.ref pK):=fun H=>aX.mpr ⟨pK,vK,rfl,(aK _).1,(aK _).2⟩;refine⟨_,(ag (dD 3 um.nd (bX dO (bF (pv 0) (pv 1))))
   (ag (dD 4 um.nd (bX dF (ia (pv 0) (pv 3) ak)))
   (ag (br (cR bL (bg (pv 4)) ak) (ag (dD 5 um.nd (aJ cQ rfl g.i8 gi (bF (bX dT (bF (pv 0) (bg (pv 4)))) (bz (v:=.ref c.M) rfl hM rfl))))
   (aq (aD (bx (bT (pv 5)) (aI (lV ak (pv 3) (bg (pv 4)) (pv 2))) (bz (v:=.ref pK) rfl mK rfl))))) aP)
   (ag (br (cR gy (aJ aU rfl g.fJ cX (cw (pv 2))) (bx (bT (bX dC (bF (pv 0) (pv 1)))) ah ah)) (aq (aD (bz (v:=.ref pK) rfl mK rfl))) aP)
   (ag (br (cR bL (aJ aU rfl g.fJ cX (cw (pv 2))) ah) (aq (bW (bX dP (lV (pv 0) (pv 3) ak (bg (pv 2)))))) aP)
   (aq (aD (aI (bF ak (pv 3)))))))))),?_⟩
 obtain⟨py,vy,rfl,sy,ay⟩:=aX.mp hy;have ly:=ay.len;have eC:oU os[k]?=decide (9∈ns):=by rw[hk];rfl
 refine⟨_,rfl,_,rfl,wp,ps,os,gv,ln,lf,x,k,rfl,hw,hx,aE hk,hg,by omega,fun rm H1 p1 d' Mu b1 w1 am=>?_⟩;have q:=q d';unfold oS at q;rw[eC] at w1;have hf1:oK (os++[.ob k d' (eB (decide (9∈ns)))]):=hf.add ⟨⟨_,_,_,_,hk⟩,fun n dd e=>jA e⟩;have nsl:∀m∈ns,m < os.length:=fun m hm=>let ⟨_,_,_,_,e⟩:=(hf.k k nm ns d0 fs hk).1 m hm;aE e;have LC:∀d,dk os "start" ns=some d->Vd os d:=fun d e=>jP hf e;have R3:Fx H H1:=jE.fx hw (c:=c) (K:=K) b1.chg;refine⟨_,rfl,_,rfl,wp,ps++[p1],os++[.ob k d' (eB (decide (9∈ns)))],gv,ln,lf,rm,os.length,k,d',eB (decide (9∈ns)),nm,ns,d0,fs,"start",rfl,w1,hf1,by rw[IJ];show _+1<=_;omega,am,bD,cN hk,?_⟩;have eF:oq (os++[.ob k d' (eB (decide (9∈ns)))]) (eB (decide (9∈ns))) ns "start"=nh os (dk os "start" ns):=by
  unfold oq;rw[vS,rE nsl,zR LC]
 rw[eF];have MD:∀dd,nh os (dk os "start" ns)=.val dd->Vd os dd:=fun dd e=>by
  cases e3:dk os "start" ns with
  | none=>rw[e3] at e;cases e
  | some d3=>
   rw[e3] at e;have e:(match ft os d3 with | some (.fn _)=>FR.iP (lM d3) | _=>.val d3)=.val dd:=e;split at e
   ·cases e
   ·cases e;exact LC _ e3
 generalize nh os (dk os "start" ns)=fr at q MD ⊢;have c1:oY wp H H1:=b1.Ir;have l1:(os++[Th.ob k d' (eB (decide (9∈ns)))]).length=os.length+1:=by rw[IJ];rfl
 cases fr with
 | no=>
  intro rs H2 s2 hs;have w2:=w1.same s2;have MT:=At.same s2 _ _ am;have KL:=At.same s2 _ _ (At.fx R3 _ _ hy);have Kx:=At.same s2 _ _ (At.fx R3 _ _ hx);obtain⟨py',Po,e,So,ay2⟩:=aX.mp KL;cases e;have ly2:=ay2.len;have q:ji K c wp ps os gv H Q (if(if decide (9∈ns) then 1 else 0) < us.length then([.ob k d' (eB (decide (9∈ns)))],ln,lf,kF) else([.ob k d' (fU us (eB (decide (9∈ns))))],ln,lf,eE (aQ os.length))):=q;refine⟨_,rfl,0,_,_,rfl,hs,rfl,fun y0 h0=>?_⟩;rw[av.mp h0];refine⟨rfl,_,rfl,?_⟩;rw[gg (by decide +kernel)];refine aY ⟨_,rfl,py,Po,rfl,.inr So,_,rfl,_,rfl,wp,ps++[p1],_,gv,ln,lf,x,aQ k,rfl,w2,Kx,Vd.th (by rw[l1];have:=aE hk;omega),hg,_,rfl,?_⟩;rw[bw,cN hk];show if decide (9∈ns)=true then _ else _
  refine bO (fun eb=>?_) (fun eb=>?_)
  ·skip
   have hb:(if decide (9∈ns) then 1 else 0:Nat)=1:=by rw[eb];rfl
   refine⟨_,_,rfl,rfl,_,rfl,bO (fun e=>?_) (fun e=>?_)⟩
   ·have e:=Jl e;rw[IZ (by rw[hb];omega)] at q;exact q _ _ [p1] (c1.trans (au.oX s2)) w2 (hK _)
   have e:=JH e;rw[IY (by rw[hb];omega)] at q;refine⟨_,rfl,py,Po,rfl,.inr So,rfl,_,rfl,bO (fun e1=>?_) (fun e1=>?_)⟩
   ·have e1:((Po.length:Nat):Int)=1:=V.int.inj (Jl e1);obtain⟨u0,rfl⟩:=Xa.mp (show us.length=1 by omega);refine⟨_,rfl,_,rfl,_,rfl,0,[u0],u0,rfl,KL,rfl,fun yw N4=>⟨wp,ps++[p1],_,gv,ln,lf,rm,yw,os.length,k,d',eB (decide (9∈ns)),"word",u0,rfl,w2,MT,bD,IV (uK _) (by decide),N4,fun r3 H3 b3 w3 a3=>?_⟩⟩;rw[qX] at w3;have c3:oY wp H H3:=fun p o e h1 h2 h3=>b3 p o (cE e Mu) ((c1.trans (au.oX s2)) p o e h1 h2 h3);have T6:At K H3 (aQ os.length) rm:=At.fx (fun p o e z=>b3 p o (fun y=>by obtain⟨_,_,_,_,_,hd2,_⟩:=(show ∃dx v1,_ from(w2.o os.length p1 _ (by rw[<-hw.n];exact bD) bD));rw[y,hd2] at e;cases e;cases z) e) _ _ MT;refine⟨_,rfl,eX,fun t ht=>q _ _ [p1] (c3.trans (au.oX (ae ht _))) (w3.same (ae ht _)) (At.new ht (aZ (av.mpr rfl) T6))⟩
   ·have e1:¬us.length=1:=fun h=>JH e1 (Xd V.int (by omega));rw[qH e1] at q;exact⟨_,rfl,eX,fun t ht=>q _ _ [p1] ((c1.trans (au.oX s2)).trans (au.oX (ae ht _))) (w2.same (ae ht _)) (At.new ht (aZ (av.mpr rfl) MT))⟩
  ·skip
   have hb:(if decide (9∈ns) then 1 else 0:Nat)=0:=by rw[eb];rfl
   refine⟨_,_,rfl,rfl,_,rfl,bO (fun e=>?_) (fun e=>?_)⟩
   ·have e:=Jl e;rw[IZ (by rw[hb];omega)] at q;exact q _ _ [p1] (c1.trans (au.oX s2)) w2 (hK _)
   have e:=JH e;rw[IY (by rw[hb];omega)] at q;refine⟨_,rfl,py,Po,rfl,.inr So,rfl,_,rfl,bO (fun e1=>?_) (fun e1=>?_)⟩
   ·have e1:((Po.length:Nat):Int)=1:=V.int.inj (Jl e1);obtain⟨u0,rfl⟩:=Xa.mp (show us.length=1 by omega);refine⟨_,rfl,_,rfl,_,rfl,0,[u0],u0,rfl,KL,rfl,fun yw N4=>⟨wp,ps++[p1],_,gv,ln,lf,rm,yw,os.length,k,d',eB (decide (9∈ns)),"word",u0,rfl,w2,MT,bD,IV (uK _) (by decide),N4,fun r3 H3 b3 w3 a3=>?_⟩⟩;rw[qX] at w3;have c3:oY wp H H3:=fun p o e h1 h2 h3=>b3 p o (cE e Mu) ((c1.trans (au.oX s2)) p o e h1 h2 h3);have T6:At K H3 (aQ os.length) rm:=At.fx (fun p o e z=>b3 p o (fun y=>by obtain⟨_,_,_,_,_,hd2,_⟩:=(show ∃dx v1,_ from(w2.o os.length p1 _ (by rw[<-hw.n];exact bD) bD));rw[y,hd2] at e;cases e;cases z) e) _ _ MT;refine⟨_,rfl,eX,fun t ht=>q _ _ [p1] (c3.trans (au.oX (ae ht _))) (w3.same (ae ht _)) (At.new ht (aZ (av.mpr rfl) T6))⟩
   ·have e1:¬us.length=1:=fun h=>JH e1 (Xd V.int (by omega));rw[qH e1] at q;exact⟨_,rfl,eX,fun t ht=>q _ _ [p1] ((c1.trans (au.oX s2)).trans (au.oX (ae ht _))) (w2.same (ae ht _)) (At.new ht (aZ (av.mpr rfl) MT))⟩
 | val d=>
  intro rs H2 s2 hs;have w2:=w1.same s2;have MT:=At.same s2 _ _ am;have KL:=At.same s2 _ _ (At.fx R3 _ _ hy);have MD:=MD d rfl;have q:ji K c wp ps os gv H Q ([.ob k d' (eB (decide (9∈ns)))],ln,lf,if DX (ft os d) then .tup [.str "start",aQ os.length,d,.tup us] else kF):=q;refine⟨_,rfl,0,_,_,rfl,hs,rfl,fun y0 h0=>?_⟩;rw[av.mp h0];refine⟨rfl,_,rfl,bE ⟨_,rfl,_,rfl,1,_,_,rfl,hs,rfl,fun yd SR=>⟨wp,ps++[p1],_,gv,ln,lf,yd,d,rfl,w2,SR,MD.mono (by rw[l1];omega),fun v t=>⟨_,c.M,_,rfl,t.is z z.tM,?_⟩⟩⟩⟩;rw[mP MD];refine⟨_,rfl,_,rfl,bO (fun e=>?_) (fun e=>?_)⟩
  ·rw[show DX (ft os d)=true from e,IZ rfl] at q;refine⟨_,rfl,_,rfl,1,_,_,rfl,hs,rfl,fun Um M3=>⟨_,rfl,DS,fun t ht=>?_⟩⟩;exact q _ _ [p1] ((c1.trans (au.oX s2)).trans (au.oX (ae ht _))) (w2.same (ae ht _)) (At.new ht (yT (av.mpr rfl) MT M3 KL))
  ·rw[show DX (ft os d)=false from e,IY Jd] at q;exact q _ _ [p1] (c1.trans (au.oX s2)) w2 (hK _)
 | iP tt=>
  intro rs H2 p2 b2 w2 hs;have VY:Fx H1 H2:=jE.fx w1 (c:=c) (K:=K) b2.chg;have MT:=At.fx VY _ _ am;have KL:=At.fx VY _ _ (At.fx R3 _ _ hy);have q:ji K c wp ps os gv H Q ([.ob k d' (eB (decide (9∈ns))),.mt tt os.length],ln,lf,.tup [.str "start",aQ os.length,aQ (os.length+1),.tup us]):=q;refine⟨_,rfl,0,_,_,rfl,hs,rfl,fun y0 h0=>?_⟩;rw[av.mp h0];refine⟨rfl,_,rfl,bE ⟨_,rfl,_,rfl,1,_,_,rfl,hs,rfl,fun yd SR=>⟨wp,_,_,gv,ln,lf,yd,aQ (os++[Th.ob k d' (eB (decide (9∈ns)))]).length,rfl,w2,SR,Vd.th (by simp),fun v t=>⟨_,c.M,true,rfl,?_,?_⟩⟩⟩⟩
  ·have h:=t.is z z.tM;rw[bw,bD] at h;exact h
  refine⟨_,rfl,_,rfl,bE ⟨_,rfl,_,rfl,1,_,_,rfl,hs,rfl,fun Um M3=>⟨_,rfl,DS,fun t ht=>?_⟩⟩⟩;have w3:=w2.same (ae ht (.tup [.str "start",rm,Um,.ref py]));rw[l1] at M3;rw[List.append_assoc,List.append_assoc] at w3;exact q _ _ [p1,p2] ((c1.trans b2.Ir).trans (au.oX (ae ht _))) w3 (At.new ht (yT (av.mpr rfl) MT M3 KL))
def zX:List (Str×Nat×Nat):=[("say",1,1),("take",0,0),("isa",2,2),("elder",2,2),("count",1,1)]
def BndG (w:World) (K:Fg06) (mg:Str->Option Value):Prop:=∃a es n,mg "VALUES_OF_GIVEN"=some (.ref a)/\K.lookup a=some ⟨.type "dict",none,.dict es n,#[]⟩/\(∀e∈es,∃x t,e.key=.str x t/\e.hash=PyData.keyHash w.params x)/\
 ∀nm lo hi,(nm,lo,hi)∈zX->∃u,findBy Value.isStrOf es nm=some (.ref u)/\∀H,At K H (.tup [.int (lo:Nat),.int (hi:Nat)]) (.ref u)
def G3 (K:Fg06) (ty:TE):TE:=fun σ H Q=>ty σ H fun y H1=>∃n lo hi,y=.str n/\(n,lo,hi)∈zX/\∀v,At K H1 (.tup [.int (lo:Nat),.int (hi:Nat)]) v->Q v H1
theorem BF {X i ty p pos}(B:BndG X.w X.K X.mg) (hg:Gl X "VALUES_OF_GIVEN") (hi:LE X i ty) (hs:z6 i):LE X (.Subscript (.Name "VALUES_OF_GIVEN" p) i pos) (G3 X.K ty):=by
 obtain⟨a,es,n,hm,hl,hk,hf⟩:=B;refine .mk fun WG s σ H Q I h=>?_;have he:PE X (.Name "VALUES_OF_GIVEN" p) (tC (.ref a)):=L2.bz hg hm rfl;refine ua PySem.F.slot_dict_getitem.lookup hs (dh (he WG s σ H (fun x H1=>x=.ref a/\H1=H) I ⟨rfl,rfl⟩) fun u s1 ⟨x,H1,I1,rx,ex,eH⟩=>?_);subst ex eH;obtain rfl:u=Value.ref a:=rx;refine dh (hi.out WG s1 σ H1 _ I1 h) fun iv s2 ⟨y,H2,I2,ry,nm,lo,LN,ey,Kh,q⟩=>?_;subst ey;obtain⟨t,rfl⟩:=ry;obtain⟨u,hu,hA⟩:=hf _ _ _ Kh;have hh:=I2.sU _ _ hl;have M:s2.heap.MapOf (strKind X.prog X.w) a (findBy (strKind X.prog X.w).is es):=by
  refine⟨_,es,n,hh,⟨rfl,rfl,rfl⟩,rfl,fun e he=>?_,fun k=>rfl⟩;obtain⟨x,t,e1,e2⟩:=hk e he;exact⟨x,by rw[e1];exact strKind_is ..,e2⟩
 exact⟨M.typeIs,wpAny_getItem_of (strKind_is ..) M hu ⟨.ref u,H2,I2.tok _,rfl,q _ (hA _)⟩⟩
def ie (os:List Th) (ln:List Str) (lf:List Int) (n:Str) (us:List D):List Th×List Str×List Int×D:=
 if n="say" then(match us with | [x]=>([],ln++[jX os x],lf,eE da) | _=>([],ln,lf,kF))
 else if n="take" then(match us with | []=>([],ln,lf.tail,eE (ic (lf.headD 0))) | _=>([],ln,lf,kF))
 else if n="isa" then(match us with | [x,k]=>([],ln,lf,if zO (ft os k) then eE (yV (gD os x k)) else kF) | _=>([],ln,lf,kF))
 else if n="elder" then(match us with | [k,x]=>if gD os x k then([.vw],ln,lf,eE (aQ os.length)) else([],ln,lf,kF) | _=>([],ln,lf,kF))
 else(match us with | [x]=>AR os ln lf x | _=>([],ln,lf,kF))
def kq:List Str:=["say","take","isa","elder","count"]
theorem uI (os ln lf us):ie os ln lf "say" us=(match us with | [x]=>([],ln++[jX os x],lf,eE da) | _=>([],ln,lf,kF)):=by
 unfold ie;rw[IZ rfl]
theorem uH (os ln lf us):ie os ln lf "take" us=(match us with | []=>([],ln,lf.tail,eE (ic (lf.headD 0))) | _=>([],ln,lf,kF)):=by
 unfold ie;rw[IY (by decide +kernel),IZ rfl]
theorem yl (os ln lf us):ie os ln lf "isa" us=(match us with | [x,k]=>([],ln,lf,if zO (ft os k) then eE (yV (gD os x k)) else kF) | _=>([],ln,lf,kF)):=by
 unfold ie;rw[IY (by decide +kernel),IY (by decide +kernel),IZ rfl]
theorem rC (os ln lf us):ie os ln lf "elder" us=(match us with | [k,x]=>if gD os x k then([.vw],ln,lf,eE (aQ os.length)) else([],ln,lf,kF) | _=>([],ln,lf,kF)):=by
 unfold ie;rw[IY (by decide +kernel),IY (by decide +kernel),IY (by decide +kernel),IZ rfl]
theorem uJ (os ln lf us):ie os ln lf "count" us=(match us with | [x]=>AR os ln lf x | _=>([],ln,lf,kF)):=by
 unfold ie;rw[IY (by decide +kernel),IY (by decide +kernel),IY (by decide +kernel),IY (by decide +kernel)]
theorem uG {n}(h:n∈kq) (os ln lf us):∃cn,(n,cn,cn)∈zX/\(us.length≠cn->ie os ln lf n us=([],ln,lf,kF))/\((n="say"/\cn=1)\/(n="take"/\cn=0)\/(n="isa"/\cn=2)\/(n="elder"/\cn=2)\/(n="count"/\cn=1)):=by
 have h:n="say"\/n="take"\/n="isa"\/n="elder"\/n="count":=by
  unfold kq at h
  simpa using h
 rcases h with rfl | rfl | rfl | rfl | rfl
 ·refine⟨1,by decide +kernel,fun h=>?_,by decide +kernel⟩;rw[uI]
  match us,h with
  | [],_=>rfl
  | [x],h=>exact Xc rfl h
  | _::_::_,_=>rfl
 ·refine⟨0,by decide +kernel,fun h=>?_,by decide +kernel⟩;rw[uH]
  match us,h with
  | [],h=>exact Xc rfl h
  | _::_,_=>rfl
 ·refine⟨2,by decide +kernel,fun h=>?_,by decide +kernel⟩;rw[yl]
  match us,h with
  | [],_=>rfl
  | [x],_=>rfl
  | [x,y],h=>exact Xc rfl h
  | _::_::_::_,_=>rfl
 ·refine⟨2,by decide +kernel,fun h=>?_,by decide +kernel⟩;rw[rC]
  match us,h with
  | [],_=>rfl
  | [x],_=>rfl
  | [x,y],h=>exact Xc rfl h
  | _::_::_::_,_=>rfl
 ·refine⟨1,by decide +kernel,fun h=>?_,by decide +kernel⟩;rw[uJ]
  match us,h with
  | [],_=>rfl
  | [x],h=>exact Xc rfl h
  | _::_::_,_=>rfl
def fM (os:List Th) (ln:List Str) (lf:List Int) (d:D) (us:List D) (d':Addr):List Th×List Str×List Int×D:=match ft os d with
 | some (.fn g)=>([],ln,lf,gf g (lM d) us)
 | some (.mt t o)=>([],ln,lf,match os[t]? with | some (.fn g)=>gf g t (aQ o::us) | _=>kF)
 | some (.kd _ ns _ _)=>oS os ln lf (lM d) ns us d'
 | some (.kL n)=>ie os ln lf n us
 | _=>([],ln,lf,kF)
inductive Bh (K:Fg06) (c:cF) (vs:List V) (H:Hp) (Q:VK) (E:XK):Prop
 | mk wp ps os gv ln lf y n us:vs=[.ref wp.W,.str n,y]->cG K c H wp ps os gv ln lf->oK os->DM os->n∈kq->At K H (.tup us) y->(∀u∈us,Vp os u)->os.length<=900->ln.length<=900->lf.length<=900->ji K c wp ps os gv H Q (ie os ln lf n us)->Bh K c vs H Q E
theorem EY:aS ["world","name","values","bounds"] ["world","name","values"] (aw HV):=fE
theorem FJ (g:Glb9 mg) (B:BndG w K mg) (tK:TreeG K mg "KIND_FAULT" [.str "fault",.str "KindFault"]) (F:eg K "called_given" "called_given" HV f fd) (dS:Def P w K mg base "said" ["world","x"] 4 (sE K c)) (dT:Def P w K mg base "taken_input" ["world"] 1 (wL K c)) (dI:Def P w K mg base "told_isa" ["world","x","kind"] 4 (wY K c)) (dV:Def P w K mg base "viewed" ["world","kind","x"] 4 (wI K c)) (dC:Def P w K mg base "counted" ["world","n"] 4 (xl K c)):bK P w K mg base eh 5 f fd ["world","name","values"] (Bh K c):=by
 refine F.fw EY fun WK A outer s H vs Q E hr h=>?_;obtain⟨wp,ps,os,gv,ln,lf,y,n,us,rfl,hw,hf,hn,h5,hy,hu,hl,RM,KD,q⟩:=h;obtain⟨pK,vK,mK,aK⟩:=tK;have hK:∀H,At K H kF (.ref pK):=fun H=>aX.mpr ⟨pK,vK,rfl,(aK _).1,(aK _).2⟩;refine⟨_,(ag (dD 3 EY.nd (BF B rfl (pv 1) (fun _ _=>rfl)))
   (ag (br (LW.pt (eY (cR uy (aJ aU rfl g.fJ cX (cw (pv 2))) (bg (pv 3))) (cY (cR gy (aJ aU rfl g.fJ cX (cw (pv 2))) (bg (pv 3)))))) (aq (aD (bz (v:=.ref pK) rfl mK rfl))) aP)
   (ag (br (cR bL (pv 1) ak) (aq (aD (bX dS (bF (pv 0) (bg (pv 2)))))) aP)
   (ag (br (cR bL (pv 1) ak) (aq (aD (bX dT (cw (pv 0))))) aP)
   (ag (br (cR bL (pv 1) ak) (aq (aD (bX dI (ia (pv 0) (bg (pv 2)) (bg (pv 2)))))) aP)
   (ag (br (cR bL (pv 1) ak) (aq (aD (bX dV (ia (pv 0) (bg (pv 2)) (bg (pv 2)))))) aP)
   (ag (br (cR bL (pv 1) ak) (aq (aD (bX dC (bF (pv 0) (bg (pv 2)))))) aP)
   (ag cH
   (ag cH
   (aq cH)))))))))),?_⟩
 obtain⟨cn,hb,JJ,hc⟩:=uG h5 os ln lf us;refine⟨_,rfl,n,cn,cn,rfl,hb,fun vb S6=>?_⟩;obtain⟨py,vy,rfl,sq,hA⟩:=aX.mp hy;have WM:vy.length=us.length:=hA.len;refine⟨_,rfl,py,vy,rfl,.inr sq,_,rfl,0,_,_,rfl,S6,rfl,fun y0 h0=>?_⟩;rw[bc.mp h0];refine⟨_,_,rfl,rfl,_,rfl,bO (fun e=>?_) (fun e=>?_)⟩
 ·have e:=Jl e;rw[JJ (by omega)] at q;exact q.none hw (au.refl H) (hK H)
 have e:=JH e;refine⟨_,rfl,py,vy,rfl,.inr sq,_,rfl,1,_,_,rfl,S6,rfl,fun y1 h1=>?_⟩;rw[bc.mp h1];refine⟨_,_,rfl,rfl,_,rfl,bO (fun e2=>?_) (fun e2=>?_)⟩
 ·have e2:=Jl e2;rw[JJ (by omega)] at q;exact q.none hw (au.refl H) (hK H)
 have e2:=JH e2;have Nj:us.length=cn:=by omega
 clear e e2 JJ S6;rcases hc with ⟨rfl,rfl⟩ | ⟨rfl,rfl⟩ | ⟨rfl,rfl⟩ | ⟨rfl,rfl⟩ | ⟨rfl,rfl⟩
 ·refine⟨_,rfl,rfl,_,rfl,?_⟩;rw[IL rfl];obtain⟨u0,rfl⟩:=Xa.mp Nj;rw[uI] at q;exact bE ⟨_,rfl,_,rfl,0,[u0],u0,rfl,hy,rfl,fun yw N4=>⟨wp,ps,os,gv,ln,lf,yw,u0,rfl,hw,hf,hn,N4,hu u0 II,RM,q⟩⟩
 ·refine⟨_,rfl,rfl,_,rfl,?_⟩;rw[gg (by decide +kernel)];refine aY ⟨_,rfl,rfl,_,rfl,?_⟩;rw[IL rfl];have:=W8.mp Nj;subst this;rw[uH] at q;exact bE ⟨_,rfl,wp,ps,os,gv,ln,lf,rfl,hw,KD,q⟩
 ·refine⟨_,rfl,rfl,_,rfl,?_⟩;rw[gg (by decide +kernel)];refine aY ⟨_,rfl,rfl,_,rfl,?_⟩;rw[gg (by decide +kernel)];refine aY ⟨_,rfl,rfl,_,rfl,?_⟩;rw[IL rfl];obtain⟨u0,u1,rfl⟩:∃a b,us=[a,b]:=(match us,Nj with | [a,b],_=>⟨a,b,rfl⟩);rw[yl] at q;exact bE ⟨_,rfl,_,rfl,0,[u0,u1],u0,rfl,hy,rfl,fun ya SU=>⟨_,rfl,1,[u0,u1],u1,rfl,hy,rfl,fun yb SS=>⟨wp,ps,os,gv,ln,lf,ya,yb,u0,u1,rfl,hw,hf,SU,(hu u0 (by simp)).vd,SS,(hu u1 (by simp)).vd,q⟩⟩⟩
 ·refine⟨_,rfl,rfl,_,rfl,?_⟩;rw[gg (by decide +kernel)];refine aY ⟨_,rfl,rfl,_,rfl,?_⟩;rw[gg (by decide +kernel)];refine aY ⟨_,rfl,rfl,_,rfl,?_⟩;rw[gg (by decide +kernel)];refine aY ⟨_,rfl,rfl,_,rfl,?_⟩;rw[IL rfl];obtain⟨u0,u1,rfl⟩:∃a b,us=[a,b]:=(match us,Nj with | [a,b],_=>⟨a,b,rfl⟩);rw[rC] at q;exact bE ⟨_,rfl,_,rfl,0,[u0,u1],u0,rfl,hy,rfl,fun ya SU=>⟨_,rfl,1,[u0,u1],u1,rfl,hy,rfl,fun yb SS=>⟨wp,ps,os,gv,ln,lf,yb,ya,u1,u0,rfl,hw,hf,SS,(hu u1 (by simp)).vd,SU,by omega,q⟩⟩⟩
 ·refine⟨_,rfl,rfl,_,rfl,?_⟩;rw[gg (by decide +kernel)];refine aY ⟨_,rfl,rfl,_,rfl,?_⟩;rw[gg (by decide +kernel)];refine aY ⟨_,rfl,rfl,_,rfl,?_⟩;rw[gg (by decide +kernel)];refine aY ⟨_,rfl,rfl,_,rfl,?_⟩;rw[gg (by decide +kernel)];refine aY ⟨_,rfl,rfl,_,rfl,?_⟩;rw[IL rfl];obtain⟨u0,rfl⟩:=Xa.mp Nj;rw[uJ] at q;exact bE ⟨_,rfl,_,rfl,0,[u0],u0,rfl,hy,rfl,fun yw N4=>⟨wp,ps,os,gv,ln,lf,yw,u0,rfl,hw,N4,hu u0 II,by omega,q⟩⟩
def DfB (os:List Th):Prop:=∀(i:Nat) (g:sj),os[i]?=some (.fn g)->g.df.length<=100
inductive kZ (K:Fg06) (c:cF) (vs:List V) (H:Hp) (Q:VK) (E:XK):Prop
 | mk wp ps os gv ln lf x y d us:vs=[.ref wp.W,x,y]->cG K c H wp ps os gv ln lf->oK os->DM os->DfB os->At K H d x->Vp os d->((∀n,ft os d=some (.kL n)->n∈kq))->At K H (.tup us) y->us.length<=90->(∀u∈us,Vp os u)->((("Fault":Str),9):Str×Nat)∈gv->os.length<=900->ln.length<=900->lf.length<=900->(∀d',ji K c wp ps os gv H Q (fM os ln lf d us d'))->kZ K c vs H Q E
theorem As:aS ["world","a","values","thing"] ["world","a","values"] (aw Cd):=fE
theorem C4 (g:Glb9 mg) (z:iT K c) (hF:mg "Function"=some (.ref c.F)) (hG:mg "Given"=some (.ref c.G)) (hM:mg "Method"=some (.ref c.M)) (hKd:mg "Kind"=some (.ref c.Kd)) (tK:TreeG K mg "KIND_FAULT" [.str "fault",.str "KindFault"]) (F:eg K "called" "called" Cd f fd) (dT:Def P w K mg base "thing_of" ["world","a"] 1 (iH K c)) (dE:Def P w K mg base "entered" ["world","f","values"] 2 (xj K c)) (dO:Def P w K mg base "object_of" ["world","kind","values"] 6 (wO K c)) (dG:Def P w K mg base "called_given" ["world","name","values"] 5 (Bh K c)):bK P w K mg base eh 7 f fd ["world","a","values"] (kZ K c):=by
 refine F.fw As fun WK A outer s H vs Q E hr h=>?_;obtain⟨wp,ps,os,gv,ln,lf,x,y,d,us,rfl,hw,hf,hn,Ls,hx,hv,h5,hy,hu,M8,hg,hl,RM,KD,q⟩:=h;obtain⟨pK,vK,mK,aK⟩:=tK;have hK:∀H,At K H kF (.ref pK):=fun H=>aX.mpr ⟨pK,vK,rfl,(aK _).1,(aK _).2⟩;refine⟨_,(ag (dD 3 As.nd (bX dT (bF (pv 0) (pv 1))))
   (ag (br (bT (aJ cQ rfl g.i8 gi (bF (pv 3) (bz (v:=.ref c.F) rfl hF rfl)))) (aq (aD (bX dE (ia (pv 0) (pv 1) (pv 2))))) aP)
   (ag (br (bT (aJ cQ rfl g.i8 gi (bF (pv 3) (bz (v:=.ref c.M) rfl hM rfl)))) (aq (aD (bX dE (ia (pv 0) (L3.bA (pv 3)) (aH gK (aI (cw (L3.bA (pv 3)))) (pv 2)))))) aP)
   (ag (br (bT (aJ cQ rfl g.i8 gi (bF (pv 3) (bz (v:=.ref c.Kd) rfl hKd rfl)))) (aq (aD (bX dO (ia (pv 0) (pv 1) (pv 2))))) aP)
   (aq (aD (bx (bT (aJ cQ rfl g.i8 gi (bF (pv 3) (bz (v:=.ref c.G) rfl hG rfl)))) (bX dG (ia (pv 0) (L3.bA (pv 3)) (pv 2))) (bz (v:=.ref pK) rfl mK rfl)))))))),?_⟩
 refine⟨_,rfl,_,rfl,wp,ps,os,gv,ln,lf,x,d,rfl,hw,hx,hv.vd,fun v t=>?_⟩;have ti:∀{C:Addr}{f g m k o' r w:Bool},qD K c C f g m k o' r w->(∃p1 D dx fs,v=.ref p1/\H p1=some (.ins D dx fs)/\mJ K D/\PySem.W.kitOne K (.ref D) (.ref C)=some (nA f g m k o' r w (ft os d)))\/(v=.bj/\PySem.W.kitOne K (.type "NoneType") (.ref C)=some (nA f g m k o' r w (ft os d))):=fun kt=>t.is z kt;have q:∀d',ji K c wp ps os gv H Q (match ft os d with
 | some (.fn g)=>([],ln,lf,gf g (lM d) us)
 | some (.mt t o)=>([],ln,lf,match os[t]? with | some (.fn g)=>gf g t (aQ o::us) | _=>kF)
 | some (.kd _ ns _ _)=>oS os ln lf (lM d) ns us d'
 | some (.kL n)=>ie os ln lf n us
 | _=>([],ln,lf,kF)):=q
 cases ho:ft os d with
 | none=>
  rw[ho] at ti q;exact⟨_,rfl,_,c.F,false,rfl,ti z.tF,_,rfl,aY ⟨_,rfl,_,c.M,false,rfl,ti z.tM,_,rfl,aY ⟨_,rfl,_,c.Kd,false,rfl,ti z.tK,_,rfl,aY ⟨_,rfl,_,c.G,false,rfl,ti z.tG,_,rfl,aY ((q 0).none hw (au.refl H) (hK H))⟩⟩⟩⟩
 | some o=>
  obtain⟨i,rfl,hi⟩:=jr hv.vd ho;rw[ho] at ti q;obtain⟨p,ep,rfl,hp⟩:=t.th hi;cases o with
  | fn g1=>
   exact⟨_,rfl,_,c.F,true,rfl,ti z.tF,_,rfl,bE ⟨_,rfl,_,rfl,_,rfl,wp,ps,os,gv,ln,lf,x,y,i,g1,us,rfl,hw,hx,hi,hy,by omega,Ls i g1 hi,fun r H1 s1 a1=>(q 0).none hw s1 a1⟩⟩
  | mt t o1=>
   obtain⟨dx,v1,v2,hp,Kr,J8⟩:=hp;obtain⟨⟨g1,MJ⟩,_⟩:=hf.m i t o1 hi;have q:ji K c wp ps os gv H Q ([],ln,lf,match os[t]? with | some (.fn g)=>gf g t (aQ o1::us) | _=>kF):=q 0;rw[MJ] at q;refine⟨_,rfl,_,c.F,false,rfl,ti z.tF,_,rfl,aY ⟨_,rfl,_,c.M,true,rfl,ti z.tM,_,rfl,bE ⟨_,rfl,_,rfl,p,c.M,dx,_,_,rfl,hp,z.mc,z.m1,nV ..,_,rfl,p,c.M,dx,_,_,rfl,hp,z.mc,z.m2,vG ..,jY,fun t1 Kc=>⟨_,rfl,[aQ o1],us,At.new Kc (az.fu J8),At.same (ae Kc _) _ _ hy,small (by rw[Jy];omega),fun r2 H2 s2 a2=>?_⟩⟩⟩⟩;have JU:=(ae Kc (.tup [v2])).trans s2;exact⟨wp,ps,os,gv,ln,lf,v1,r2,t,g1,aQ o1::us,rfl,hw.same JU,At.same JU _ _ Kr,MJ,a2,by rw[Jf];omega,Ls t g1 MJ,fun r H3 s3 a3=>q.none hw (JU.trans s3) a3⟩
  | kd nm ns d0 fs=>
   have q:∀d',ji K c wp ps os gv H Q (oS os ln lf i ns us d'):=q;exact⟨_,rfl,_,c.F,false,rfl,ti z.tF,_,rfl,aY ⟨_,rfl,_,c.M,false,rfl,ti z.tM,_,rfl,aY ⟨_,rfl,_,c.Kd,true,rfl,ti z.tK,_,rfl,bE ⟨_,rfl,_,rfl,_,rfl,wp,ps,os,gv,ln,lf,x,y,i,nm,ns,d0,fs,us,rfl,hw,hf,hx,hi,hy,by omega,hg,hl,q⟩⟩⟩⟩
  | kL n=>
   obtain⟨dx,hp⟩:=hp;exact⟨_,rfl,_,c.F,false,rfl,ti z.tF,_,rfl,aY ⟨_,rfl,_,c.M,false,rfl,ti z.tM,_,rfl,aY ⟨_,rfl,_,c.Kd,false,rfl,ti z.tK,_,rfl,aY ⟨_,rfl,_,c.G,true,rfl,ti z.tG,_,rfl,bE ⟨_,rfl,_,rfl,p,c.G,dx,_,_,rfl,hp,z.gc,z.g1,rfl,_,rfl,wp,ps,os,gv,ln,lf,y,n,us,rfl,hw,hf,hn,h5 n ho,hy,M8,hl,RM,KD,q 0⟩⟩⟩⟩⟩
  | _=>exact⟨_,rfl,_,c.F,false,rfl,ti z.tF,_,rfl,aY ⟨_,rfl,_,c.M,false,rfl,ti z.tM,_,rfl,aY ⟨_,rfl,_,c.Kd,false,rfl,ti z.tK,_,rfl,aY ⟨_,rfl,_,c.G,false,rfl,ti z.tG,_,rfl,aY ((q 0).none hw (au.refl H) (hK H))⟩⟩⟩⟩
end
section
variable {X:Cx}
theorem FU {WG σ H s}(I:Inv X WG σ H s) {d x v}(rx:RelV x v) (hx:At X.K H d x) {ds xs WJ}(ha:az X.K H ds xs) (rv:WY xs WJ) (A:Around) (hu:∀e∈ds,A.units+dep e < cLine):
  ∃f:Value->Bool,(∀u∈WJ,SeqAt.EqAt A s u v (f u))/\WJ.map f=ds.map fun e=>bP e d:=by
 classical
 have l1:=rv.length;have l2:=ha.len;have fact:∀(i:Nat) (u:Value),WJ[i]?=some u->∃e y,ds[i]?=some e/\RelV y u/\At X.K H e y:=fun i u hu=>by
  have hi:i < WJ.length:=(Jn.mp hu).1;obtain⟨e,he⟩:∃e,ds[i]?=some e:=⟨ds[i]'(by omega),by simp⟩;obtain⟨y,hy,KL⟩:=ha.get he;obtain⟨u',Lf,ru⟩:=rv.get hy;rw[hu] at Lf;cases Lf;exact⟨e,y,he,ru,KL⟩
 have val:∀(i:Nat) (u:Value) (e:D),WJ[i]?=some u->ds[i]?=some e->(decide (∃(j:Nat) (e':D),WJ[j]?=some u/\ds[j]?=some e'/\bP e' d=true))=bP e d:=fun i u e hu he=>by
  rw[Bool.eq_iff_iff,decide_eq_true_eq];constructor
  ·rintro⟨j,e',hj,Ov,h⟩;obtain⟨e1,y1,k1,k2,k3⟩:=fact i u hu;obtain⟨e2,y2,l1,l2,l3⟩:=fact j u hj;rw[he] at k1;cases k1;rw[Ov] at l1;cases l1;have ey:=RelV.inj k2 l2;subst ey;have:=At.one I _ _ _ k3 l3;rw[this];exact h
  ·exact fun h=>⟨i,e,hu,he,h⟩
 refine⟨fun u=>decide (∃(j:Nat) (e':D),WJ[j]?=some u/\ds[j]?=some e'/\bP e' d=true),fun u Lf=>?_,?_⟩
 ·obtain⟨i,hi⟩:=List.mem_iff_getElem?.mp Lf;obtain⟨e,y,he,ry,hy⟩:=fact i u hi;dsimp only;rw[val i u e hi he];exact qr I (dep e) e d A y x u v (IW _) ry rx hy hx (hu e (IX he))
 ·refine List.ext_getElem? fun i=>?_;rw[I0,I0];by_cases hi:i < WJ.length
  ·have e1:WJ[i]?=some WJ[i]:=IM hi;obtain⟨e,y,he,_⟩:=fact i _ e1;rw[e1,he,Option.map_some,Option.map_some,val i _ e e1 he]
  ·rw[List.getElem?_eq_none (by omega),List.getElem?_eq_none (by omega)];rfl
def uo (K:Fg06):V->List V->Hp->VK->Prop:=fun x vs H Q=>∃y d ds,vs=[y]/\At K H (.tup ds) x/\At K H d y/\(∀e∈ds,El e)/\El d/\Q (.int (cnt d ds:Nat)) H
theorem vE {k}(hr:dY k X.A):Iz X "tuple.count" (uo X.K):=by
 intro WG s σ H x vs v us Q I rx rv h;obtain⟨y,d,ds,rfl,hx,hy,he,hd,q⟩:=h;obtain⟨p,xs,rfl,hq,ha⟩:=aX.mp hx;cases rx;obtain⟨u,rfl,ru⟩:=rv.one;obtain⟨WJ,r,pl,hz⟩:=I.tuple hq;obtain⟨f,f1,f2⟩:=FU I ru hy ha r X.A.in1 (fun e h=>by have:=hr.units;have:=(he e h).dep;show X.A.units+1+_ < _;omega);obtain⟨⟨cls,dd,data,sl⟩,ho,hc,n,Mu⟩:=id pl;simp only at hc Mu;subst hc Mu;refine call_meets PySem.F.slot_tuple_count ⟨_,ho,rfl⟩ PySem.F.entry_tuple_count (PySem.F.args_tuple_count_2 _ _) (SeqAt.tuple_countAt p WJ.toArray n dd sl u f) ⟨ho,fun z hz=>f1 z (by simpa using hz),?_⟩;refine⟨.int _,H,I.tok _,⟨_,rfl⟩,?_⟩;have e:WJ.countP f=cnt d ds:=by
  have e1:WJ.countP f=(WJ.map f).countP id:=by rw[List.countP_map];rfl
  rw[e1,f2,List.countP_map];unfold cnt;refine List.countP_congr fun e RQ=>?_;show(bP e d=true↔_);rw[uO (he e RQ).nb hd.nb]
 rw[show WJ.toArray.toList.countP f=WJ.countP f from rfl,e];exact q
def DG (H:Hp) (x:V):Prop:=∃p o vs,x=.ref p/\H p=some (.mB o (.tup vs))/\o.dict=none
theorem DG.same {H H' x}(s:au H H') (h:DG H x):DG H' x:=let ⟨p,o,vs,e,h1,h2⟩:=h;⟨p,o,vs,e,s _ _ h1,h2⟩
theorem At.De {K H p o ds vs}(hp:H p=none) (h:az K H ds vs):At K (WX H p (.mB o (.tup vs))) (.tup ds) (.ref p):=
 aX.mpr ⟨p,vs,rfl,.inl (.inr ⟨o,ao⟩),az.same (ae hp _) _ _ h⟩
def Ab (t:TA):TE:=fun σ H Q=>t σ H fun xs H1=>xs.length<=sizeLine/\∀p o,H1 p=none->o.dict=none->Q (.ref p) (WX H1 p (.mB o (.tup xs)))
theorem lq {es t pos x1}(h:PA X es t):PE X (.Tuple es x1 pos) (Ab t):=by
 intro WG s σ H Q I hq;refine wpAny_Tuple_spliced (dh (h pos WG s σ H _ I hq) fun us s1 ⟨xs,H1,I1,r,z,q⟩=>⟨by rw[<-r.length];exact z,?_⟩);have hf:H1 s1.heap.objs.size=none:=I1.cP.fresh (IW _);refine⟨.ref s1.heap.objs.size,WX H1 s1.heap.objs.size (.mB _ (.tup xs)),I1.laid (t':=s1.toks) (fun b u e=>Jc _ e) (IW _) ⟨JA _ rfl,?_⟩,rfl,q _ _ hf rfl⟩;exact⟨z,us,r,⟨_,JA _ rfl,rfl,_,rfl⟩⟩
def Eo (r:V->List V->Hp->VK->Prop) (to:TE) (t:TA):TE:=fun σ H Q=>to σ H fun x H1=>DG H1 x/\t σ H1 fun xs H2=>r x xs H2 Q
theorem BG {o e es to t name WR WO id r}(slot:Slot "tuple" name id) (P9:typeOf (.builtin id)=pure (.type "method_descriptor")) (hm:GY X id r) (ho:PE X o to) (ha:PA X (e::es) t)
  (Kl:attributeBase o name X.env (eval o X.env)=eval o X.env:=by rfl)
  (Lr:((backTo WO (starEach (e::es) X.env)).all (fun x=>!x.1)&&(backToKw WO (keywordEach [] X.env)).all (fun x=>x.1.isSome)
   &&decide ((e::es).length+([]:List Keyword).length+(if([]:List Keyword).isEmpty then 0 else 1) < 30))=true:=by rfl)
  (Ki:(WR.endLine == WO.line)=true:=by rfl) (hs:starEach (e::es) X.env=(false,eval e X.env)::starEach es X.env:=by rfl) (J1:(backTo WO (starEach es X.env)).any (·.1)=false:=by rfl):
  PE X (.Call (.Attribute o name WR) (e::es) [] WO) (Eo r to t):=by
 intro WG s σ H Q I h;refine wpAny_Call_method_late Kl Lr Ki rfl (dh (ho WG s σ H _ I h) fun v s1 ⟨x,H1,I1,r1,ty,q1⟩=>?_);obtain⟨p,ob,vs,rfl,hp,hd⟩:=ty;cases (show v=Value.ref p from r1);obtain⟨e1,hz,WJ,rv,o2,e2,c2,n2,d2⟩:=(show eG X.prog X.w H1 s1.heap p (.mB ob (.tup vs)) from I1.cP p _ hp);rw[e1] at e2;cases e2;refine⟨"tuple",id,PySem.F.plainAttrs_tuple,slot,P9,⟨ob,e1,c2⟩,fun a e=>by cases e;exact⟨ob,e1,hd⟩,?_⟩;have hA:=ha WO WG s1 σ H1 _ I1 q1;rw[hs] at hA ⊢;refine Calls.callWith_builtin (by show(false||(backTo WO (starEach es X.env)).any (·.1))=false;rw[J1]<;>rfl) (Calls.evalArgs_plain ?_);exact dh hA fun us s2 ⟨vs,H2,I2,r2,q2⟩=>hm WG s2 σ H2 _ vs _ us Q I2 r1 r2 q2
end
end GS
namespace L3
open PySem PyProof.Rows L2
section
variable {X:Cx}{o i:Expr}{pos:Pos}{td ty:TE}
theorem vx {K k e WR WO to t}(hr:dY k X.A) (hK:X.K=K) (ho:LE X o to) (ha:LA X [e] t)
  (Kl:attributeBase o "count" X.env (eval o X.env)=eval o X.env:=by rfl)
  (Lr:((backTo WO (starEach [e] X.env)).all (fun x=>!x.1)&&(backToKw WO (keywordEach [] X.env)).all (fun x=>x.1.isSome)
   &&decide ([e].length+([]:List Keyword).length+(if([]:List Keyword).isEmpty then 0 else 1) < 30))=true:=by rfl)
  (Ki:(WR.endLine == WO.line)=true:=by rfl) (hs:starEach [e] X.env=(false,eval e X.env)::starEach [] X.env:=by rfl) (J1:(backTo WO (starEach [] X.env)).any (·.1)=false:=by rfl):
  LE X (.Call (.Attribute o "count" WR) [e] [] WO) (GS.Eo (GS.uo K) to t):=by
 subst hK;exact .mk (GS.BG PySem.F.slot_tuple_count PySem.F.type_tuple_count (GS.vE hr) ho.out ha.out Kl Lr Ki hs J1)
theorem lq {es t x1}(h:LA X es t):LE X (.Tuple es x1 pos) (GS.Ab t):=.mk (GS.lq h.out)
end
end L3
namespace GS
open PySem PyProof.Rows
open L2 hiding ah jd bV ak pv bz fY aH ju eJ cZ cT jv bx fV ck bZ bR cJ bI bB aI fI aJ bS dZ fg bT fb cv cY cS eY gs fX ef gW cx ee cg aD bW iI iJ br fH d9 aP ag aq
open L3
abbrev BQ:Stmt:=cj 69
abbrev HU:Stmt:=cj 70
section
variable {α:Type} [DecidableEq α]
theorem xV:∀(xs:List α),xs.Nodup->GS.mg [xs,[]]=some xs
 | [],_=>uC rfl
 | y::ys,h=>by
  have hn:=List.nodup_cons.mp h;have hf:fW [y::ys,[]]=[y]:=by
   unfold fW cK;simp[hn.1]
  rw[qb hf];have e:[y::ys,[]].map (d5 y)=[ys,[]]:=by simp[d5]
  rw[e,xV ys hn.2];rfl
theorem zJ {x:α}{xs:List α}(h:(x::xs).Nodup):GS.mg [x::xs,[x]]=some (x::xs):=by
 have hn:=List.nodup_cons.mp h;have hf:fW [x::xs,[x]]=[x,x]:=by
  unfold fW cK;simp[hn.1]
 rw[qb hf];have e:[x::xs,[x]].map (d5 x)=[xs,[]]:=by simp[d5]
 rw[e,xV xs hn.2];rfl
end
theorem El.th (i):El (aQ i):=by
 refine⟨?_,?_⟩
 ·unfold aQ;rw[GS.nb,AE,AE,AE,(El.str "thing").nb,(El.int (i:Nat)).nb];rfl
 ·unfold aQ;rw[GS.dep,bM,bM,bM,cy,fP];decide
section
variable {P:Program}{w:World}{K:Fg06}{mg:Str->Option Value}{base:Heap}{f:Addr}{fd:FuncData}{c:cF}
inductive qS (K:Fg06) (c:cF) (vs:List V) (H:Hp) (Q:VK) (E:XK):Prop
 | mk wp ps os gv ln lf x e nm rest d' fs:vs=[.ref wp.W,x]->cG K c H wp ps os gv ln lf->os[e]?=some (.kd nm (e::rest) d' fs)->(e::rest).Nodup->(e::rest).length<=39->At K H (.tup [aQ e]) x->DG H x->(∀r H',au H H'->At K H' (.tup [.str "value",.tup ((e::rest).map aQ)]) r->Q r H')->qS K c vs H Q E
theorem xu:aS ["world","elders","own","order"] ["world","elders"] (aw BQ):=fE
theorem Cv (g:Glb9 mg) (z:iT K c) (hMost:∃t,mg "MOST_CLASSES"=some (.int 40 t)) (F:eg K "order_of" "order_of" BQ f fd) (dC:Def P w K mg base "is_class" ["world","a"] 2 (qV K c false false false true false false false)) (dT:Def P w K mg base "thing_of" ["world","a"] 1 (iH K c)) (dM:Def P w K mg base "merged" ["rows"] 4 (wW K)):bK P w K mg base eh 5 f fd ["world","elders"] (qS K c):=by
 refine F.fw xu fun WK A outer s H vs Q E hr h=>?_;obtain⟨wp,ps,os,gv,ln,lf,x,e,nm,rest,d',fs,rfl,hw,he,Lq,WM,hx,JX,q⟩:=h;refine⟨_,(ag (br (fb (bT (aJ (yF rfl) rfl g.Ie Gp (cw (.mk (L2.dH (cl:=[("world",s.heap.objs.size+1)]) (Xs:=["elder"]) (Nf:=["world"]) (js:=[0]) ?k1 rfl (LI.out (ee (pv 1))) (fun C s0 H0 fp=>LG.out (i6 0 (show(["elder","world"]:List Str).Nodup by decide +kernel))) (fun C s0 H0 fp=>d6) (fun C s0 H0 fp=>LE.out (bX dC (bF (pv 1) (pv 0)))))))))) (aq cH) aP)
   (ag (br (bT (aJ (oG rfl) rfl g.Dg yJ (cw (.mk (L2.dH (cl:=[("elders",s.heap.objs.size+2)]) (Xs:=["elder"]) (Nf:=["elders"]) (js:=[1]) ?k2 rfl (LI.out (ee (pv 1))) (fun C s0 H0 fp=>LG.out (i6 0 (show(["elder","elders"]:List Str).Nodup by decide +kernel))) (fun C s0 H0 fp=>d6) (fun C s0 H0 fp=>LE.out (ib gy (L3.vx (K:=K) (k:=4) hr rfl (pv 1) (cw (pv 0))) ah))))))) (aq cH) aP)
   (ag (dD 2 xu.nd (bx (cR gy (aJ aU rfl g.fJ cX (cw (pv 1))) ah) (pv 1) uw))
   (ag (dD 3 xu.nd (bX dM (cw (aH pX (.mk (L2.dH (cl:=[("world",s.heap.objs.size+1)]) (Xs:=["elder"]) (Nf:=["world"]) (js:=[0]) ?k3 rfl (LI.out (ee (pv 2))) (fun C s0 H0 fp=>LG.out (i6 0 (show(["elder","world"]:List Str).Nodup by decide +kernel))) (fun C s0 H0 fp=>d6) (fun C s0 H0 fp=>LE.out (L3.uu (K:=K) rfl (bX dT (bF (pv 1) (pv 0))))))) (bB (cw (pv 2)))))))
   (ag (br (LW.pt (eY (cR jx (pv 3) bV) (cY (cR gy (aH fR (aJ aU rfl g.fJ cX (cw (pv 3))) ah) (L3.mY rfl hMost))))) (aq cH) aP)
   (aq (aD (aI (bF ak (bS gw rfl g.p7 nq (cw (pv 3)))))))))))),?main⟩
 case k1=>exact tI
 case k2=>exact tI
 case k3=>exact tI
 case main=>
  obtain⟨ax,xvs,rfl,sqx,hA⟩:=aX.mp hx;obtain⟨v0,r0,rfl,P7,hA0⟩:=ba.mp hA;rw[bq.mp hA0] at sqx;refine⟨_,rfl,ax,rfl,⟨_,sqx⟩,[.ref wp.W],⟨rfl,fun j i h=>?_⟩,cq (vs:=[.ref wp.W]) (tc:=gx) ([v0]:List V).length (fun i=>[v0].getD i .bj) (fun _=>true) (fun i v _=>v=.bl true) (fun _ _ _ _ _ z=>z) (by show 1<=1000000;decide) (gZ sqx) (km sqx) (i9 sqx) (fun i H2 Q' hi s2 k=>k H2 (au.refl _)) (fun j H1 D l' Q' hj _ s1 _ _ k=>?_) fun D H1 ys hD s1 Kt hP=>?_⟩
  ·match j,h with
   | 0,h=>cases h;exact⟨_,rfl,rfl⟩
   | j+1,h=>simp at h
  ·obtain rfl:j=0:=Nat.lt_one_iff.mp hj;refine⟨_,rfl,_,rfl,wp,ps,os,gv,ln,lf,v0,aQ e,rfl,hw.same s1,At.same s1 _ _ P7,Vd.th (aE he),k _ _ (au.refl _) ?_⟩;rw[bw,he];rfl
  have e1:=hP.eq;refine⟨D,[true],rfl,bf.of (by rw[Kt,e1];rfl),_,rfl,aY ?_⟩;have MY:=au.lU s1 sqx;refine⟨_,rfl,ax,rfl,⟨_,MY⟩,[.ref ax],⟨rfl,fun j i h=>?_⟩,cq (vs:=[.ref ax]) (tc:=gx) ([v0]:List V).length (fun i=>[v0].getD i .bj) (fun _=>true) (fun i v _=>v=.bl false) (fun _ _ _ _ _ z=>z) (by show 1<=1000000;decide) (gZ MY) (km MY) (i9 MY) (fun i H2 Q' hi s2 k=>k H2 (au.refl _)) (fun j H2 D l' Q' hj _ s2 _ _ k=>?_) fun D2 H2 ys2 TJ s2 JY hP2=>?_⟩
  ·match j,h with
   | 0,h=>cases h;exact⟨_,rfl,rfl⟩
   | j+1,h=>simp at h
  ·obtain rfl:j=0:=Nat.lt_one_iff.mp hj;have JU:=s1.trans s2;refine⟨_,rfl,JX.same JU,_,rfl,_,aQ e,[aQ e],rfl,At.same JU _ _ hx,At.same JU _ _ P7,fun d hd=>?_,El.th e,_,_,rfl,rfl,k _ _ (au.refl _) (Xd V.bl (IK ?_))⟩
   ·rw[W7.mp hd];exact El.th e
   ·have:=pM (d:=aQ e) (l:=[aQ e]) (List.nodup_cons.mpr ⟨by simp,List.nodup_nil⟩);omega
  have e2:=hP2.eq;refine⟨D2,[false],rfl,bf.of (by rw[JY,e2];rfl),_,rfl,aY ?_⟩;have JU:=s1.trans s2;have Me:=au.lU JU sqx;refine⟨_,rfl,ax,_,rfl,.inr Me,_,_,rfl,rfl,_,rfl,bE ⟨_,rfl,?_⟩⟩;refine⟨_,rfl,ax,rfl,⟨_,Me⟩,[.ref wp.W],⟨rfl,fun j i h=>?_⟩,cq (vs:=[.ref wp.W]) (tc:=gx) ([v0]:List V).length (fun i=>[v0].getD i .bj) (fun _=>true) (fun i v H'=>dQ K H' ((e::rest).map aQ) v) (fun _ _ _ _ s z=>z.same s) (by show 1<=1000000;decide) (gZ Me) (km Me) (i9 Me) (fun i H2 Q' hi s2 k=>k H2 (au.refl _)) (fun j H4 D l' Q' hj _ s4 _ KI k=>?_) fun D4 H4 Mx hD4 s4 L6 RW=>?_⟩
  ·match j,h with
   | 0,h=>cases h;exact⟨_,rfl,rfl⟩
   | j+1,h=>simp at h
  ·obtain rfl:j=0:=Nat.lt_one_iff.mp hj;have Lb:=JU.trans s4;refine⟨_,rfl,_,rfl,wp,ps,os,gv,ln,lf,v0,aQ e,rfl,hw.same Lb,At.same Lb _ _ P7,Vd.th (aE he),fun v t=>?_⟩;obtain⟨p,_,rfl,dx,vo,v4,hp,ho,_⟩:=t.th he;exact⟨p,c.Kd,dx,_,vo,rfl,hp,z.kc,z.k2,me ..,k _ _ (au.refl _) (dQ.tup (At.wo KI _ _ ho))⟩
  have Lb:=JU.trans s4;have RV:=Pairs.rows (f:=fun _=>(e::rest).map aQ) (RW.mono (fun i v z=>dQ.same (du H4 D4) z));have RV:cA K H4 [(e::rest).map aQ] Mx:=RV;have l4:=RV.len;refine⟨_,rfl,jY,fun p5 hp5=>?_⟩;have s5:au H4 (WX H4 p5 (.lst [.ref ax])):=ae hp5 _;have h5:WX H4 p5 (.lst [.ref ax]) p5=some (.lst [.ref ax]):=ao;generalize WX H4 p5 (.lst [.ref ax])=H5 at s5 h5 ⊢;refine⟨D4,p5,Mx,[.ref ax],rfl,rfl,s5 _ _ L6,h5,small (by rw[Jy,l4];show 1+1<=1000000;decide),fun p6 hp6=>?_⟩;have s6:au H5 (WX H5 p6 (.lst (Mx++[.ref ax]))):=ae hp6 _;have h6:WX H5 p6 (.lst (Mx++[.ref ax])) p6=some (.lst (Mx++[.ref ax])):=ao;generalize WX H5 p6 (.lst (Mx++[.ref ax]))=H6 at s6 h6 ⊢;have Ux:=s5.trans s6;have Ss:=Lb.trans Ux;have Tv:cA K H6 ([(e::rest).map aQ]++[[aQ e]]) (Mx++[.ref ax]):=(RV.same Ux).append (.cons (dQ.tup (At.same Ss _ _ hx)) .nil);have ndm:((e::rest).map aQ).Nodup:=(vD fun _ _ e=>tW e).mpr Lq;have emg:GS.mg ([(e::rest).map aQ]++[[aQ e]])=some ((e::rest).map aQ):=zJ ndm;have lm:((e::rest).map aQ).length<=39:=by rw[IU];exact WM
  have memR:∀r∈[(e::rest).map aQ]++[[aQ e]],r=(e::rest).map aQ\/r=[aQ e]:=fun r hr=>by
   rcases Jm.mp hr with h | h
   ·exact .inl (W7.mp h)
   ·exact .inr (W7.mp h)
  refine⟨p6,_,_,rfl,bf.of h6,Tv,⟨fun ds hd e' RQ=>?_,fun ds hd=>?_,by show 2<=1000;decide⟩,fun ds hd=>?_,?_,fun H7 s7 hm=>?_,fun q7 H7 ws l7 s7 hm _ Vc VS=>?_⟩
  ·rcases memR ds hd with rfl | rfl
   ·obtain⟨i,_,rfl⟩:=JD.mp RQ;exact El.th i
   ·rw[W7.mp RQ];exact El.th e
  ·rcases memR ds hd with rfl | rfl
   ·omega
   ·show 1<=1000;decide
  ·rcases memR ds hd with rfl | rfl
   ·exact ndm
   ·exact List.nodup_cons.mpr ⟨by simp,List.nodup_nil⟩
  ·show oO [(e::rest).map aQ,[aQ e]]<=100000;rw[fF,fF];have:oO ([]:List (List GS.D))=0:=rfl;have:([aQ e]).length=1:=rfl;omega
  ·rw[emg] at hm;cases hm
  ·rw[emg] at hm;cases hm;have l7:=VS.len;have NY:=Ss.trans s7;refine⟨_,rfl,rfl,false,rfl,aY ⟨_,rfl,q7,ws,rfl,.inl (bf.of Vc),_,_,rfl,rfl,_,_,rfl,rfl,false,Xd V.bl (IK (by omega)),aY ?_⟩⟩;refine⟨_,rfl,q7,ws,rfl,.inl ⟨bf.of Vc,fun t ht=>⟨eX,fun p hp=>?_⟩⟩⟩;have s8:au H7 (WX H7 t (.tup ws)):=ae ht _;have a8:At K (WX H7 t (.tup ws)) (.tup ((e::rest).map aQ)) (.ref t):=At.new ht VS;exact q _ _ ((NY.trans s8).trans (ae hp _)) (At.new hp (aZ (av.mpr rfl) a8))
inductive xp (K:Fg06) (c:cF) (vs:List V) (H:Hp) (Q:VK) (E:XK):Prop
 | mk wp ps os gv ln lf nm v2 d ns fs:vs=[.ref wp.W,.str nm,v2,.ref d]->cG K c H wp ps os gv ln lf->os.length<=1000->At K H (.tup (ns.map aQ)) v2->ns.length<=1000->gB K H d fs->(∀r H' p d',H d'=none->bC wp.l H H'->cG K c H' wp (ps++[p]) (os++[.kd nm (os.length::ns) d' fs]) gv ln lf->At K H' (aQ os.length) r->Q r H')->xp K c vs H Q E
theorem Hc:aS ["world","name","order","fields"] ["world","name","order","fields"] (aw HU):=fE
theorem FI (F:eg K "class_of" "class_of" HU f fd) (dN:Def P w K mg base "new_class" ["world","name","behind","fields","is_given"] 3 (ug K c)):bK P w K mg base eh 4 f fd ["world","name","order","fields"] (xp K c):=by
 refine F.fw Hc fun WK A outer s H vs Q E hr h=>?_;obtain⟨wp,ps,os,gv,ln,lf,nm,v2,d,ns,fs,rfl,hw,hl,h2,hn,hd,q⟩:=h;refine⟨_,(aq (aD (bX dN (bI (pv 0) (lV (pv 1) (pv 2) (pv 3) jd))))),?_⟩;exact⟨_,rfl,_,rfl,_,rfl,_,rfl,wp,ps,os,gv,ln,lf,nm,v2,_,d,ns,fs,rfl,hw,hl,dQ.tup h2,hn,hd,q⟩
end
abbrev Br:Stmt:=cj 72
abbrev sL:Stmt:=cj 73
theorem jB {α:Type}{xs:List α}{k:Int}(h0:0<=k) (h1:k < (xs.length:Nat)):∃v,v∈xs/\j4 xs k=some v:=by
 obtain⟨n,rfl⟩:∃n:Nat,k=(n:Int):=⟨k.toNat,by omega⟩;have hn:n < xs.length:=by omega
 exact⟨xs[n],List.getElem_mem hn,aC (by simp[hn])⟩
theorem bC.GJ {K a b H H' xs}(h:bC b H H') (ne:a≠b) (hs:bf K H a xs):bf K H' a xs:=by
 rcases hs with (e | ⟨o',e⟩) | e
 ·exact .inl (.inl (h _ _ ne e))
 ·exact .inl (.inr ⟨o',h _ _ ne e⟩)
 ·exact .inr e
section
variable {P:Program}{w:World}{K:Fg06}{mg:Str->Option Value}{base:Heap}{f:Addr}{fd:FuncData}
inductive xq (K:Fg06) (vs:List V) (H:Hp) (Q:VK) (E:XK):Prop
 | mk (a:Addr) (ns:List Int) (k:Nat):vs=[.ref a,.int (k:Nat)]->bf K H a (ns.map V.int)->(∀i:Int,Q (.int i) H)->xq K vs H Q E
theorem EZ:aS ["_law_script","_law_k"] ["_law_script","_law_k"] (aw Br):=fE
theorem C6 (g:Glb9 mg) (F:eg K "_law_cell_at" "_law_cell_at" Br f fd):bK P w K mg base eh 1 f fd ["_law_script","_law_k"] (xq K):=by
 refine F.fw EZ fun WK A outer s H vs Q E hr h=>?_;obtain⟨a,ns,k,rfl,hS,q⟩:=h;refine⟨_,ag (br (cR uy (pv 1) (aJ aU rfl g.fJ cX (cw (pv 0)))) (aq (aD (ff K (pv 0) (pv 1)))) aP)
  (aq (aD ah)),?_⟩
 refine⟨_,rfl,_,rfl,a,_,rfl,.inl hS,_,_,rfl,rfl,_,rfl,?_⟩;refine bO (fun e=>?_) (fun e=>q 0);have h1:=Jl e;obtain⟨v,hv,OI⟩:=jB (k:=(k:Nat)) (by omega) h1;obtain⟨i,_,rfl⟩:=JD.mp hv;exact⟨_,rfl,_,rfl,a,_,_,_,rfl,rfl,hS,OI,q i⟩
structure iE (K:Fg06) (H:Hp) (a b:Addr) (n:Nat):Prop where
 cells:∃ns:List Int,bf K H a (ns.map V.int)/\ns.length<=63
 ne:a≠b
 qR:H b=some (.lst [.int (n:Nat)])
theorem iE.go {H H' a b n n'}(h:iE K H a b n) (hb:bC b H H') (hs:H' b=some (.lst [.int (n':Nat)])):iE K H' a b n':=by
 obtain⟨⟨ns,h1,h2⟩,h3,_⟩:=h;exact⟨⟨ns,hb.GJ h3 h1,h2⟩,h3,hs⟩
inductive mS (K:Fg06) (vs:List V) (H:Hp) (Q:VK) (E:XK):Prop
 | mk a b n:vs=[.ref a,.ref b]->iE K H a b n->n<=1000000000000->(∀i H',0<=i->i < 306783380->bC b H H'->H' b=some (.lst [.int ((n+1:Nat):Int)])->Q (.int i) H')->mS K vs H Q E
theorem mT:aS ["_law_cells","_law_spot","_law_k","_law_base"] ["_law_cells","_law_spot"] (aw sL):=fE
theorem xP (g:Glb9 mg) (F:eg K "_law_cell" "_law_cell" sL f fd):bK P w K mg base eh 1 f fd ["_law_cells","_law_spot"] (mS K):=by
 refine F.fw mT fun WK A outer s H vs Q E hr h=>?_;obtain⟨a,b,n,rfl,⟨⟨ns,hS,h63⟩,RT,hb⟩,hn,q⟩:=h;refine⟨_,ag (iJ (aH fR (fV lG (pv 1) ah (fun _ _=>rfl)) ah) (.mk (L2.BD (L2.pv 1) L2.ah set_list)))
  (ag (dD 2 mT.nd (fV lG (pv 1) ah (fun _ _=>rfl)))
  (ag (dD 3 mT.nd (aH fR (aH kg (aH kg ah (pv 2)) (pv 2)) (aH kg ah (pv 2))))
  (ag (br (cR gy (aJ aU rfl g.fJ cX (cw (pv 0))) ah)
   (aq (dD 3 mT.nd (aH fR (pv 3) (aH kg (fV lG (pv 0) (aH bJ (pv 2) (aJ aU rfl g.fJ cX (cw (pv 0)))) (fun _ _=>rfl)) (aH fR ah (aH bN (pv 2) (aJ aU rfl g.fJ cX (cw (pv 0))))))))) aP)
  (aq (aD (aH bN (aH bJ (aH kg (pv 3) ah) ah) ah)))))),?_⟩
 have Mv:∀o,bf K (WX H b o) a (ns.map V.int):=fun o=>(bC.put H o).GJ RT hS;have hix:sX [V.int (n:Int)].length 0=some 0:=by
  unfold sX;rw[IZ (by decide),IZ (by show(0:Int) < ((1:Nat):Int);decide)];rfl
 refine⟨_,rfl,b,_,_,_,rfl,rfl,bf.of hb,aC (j:=0) rfl,_,_,rfl,rfl,_,rfl,b,_,_,0,rfl,rfl,hb,hix,?_⟩;have e1:((n:Int)+1)=((n+1:Nat):Int):=by omega
 refine⟨_,rfl,b,_,_,_,rfl,rfl,bf.of ao,aC (j:=0) rfl,?_⟩;dsimp only;show A0 _ _ _ _ (WX H b (.lst [V.int ((n:Int)+1)]));rw[e1];generalize hm:n+1=m at q;have hm1:m<=1000000000001:=by omega
 have fin:∀B:Int,0<=B*48271 % 2147483647 / 7/\B*48271 % 2147483647 / 7 < 306783380:=fun B=>by
  have:=Int.emod_nonneg (B*48271) (b:=2147483647) (by decide);have:=Int.emod_lt_of_pos (B*48271) (b:=2147483647) (by decide);omega
 refine⟨_,rfl,_,_,rfl,rfl,.inl ⟨by decide,by decide⟩,_,rfl,_,_,rfl,rfl,.inr ⟨by omega,by omega⟩,_,rfl,_,_,rfl,rfl,.inl ⟨by decide,by decide⟩,_,_,rfl,rfl,?_⟩;refine⟨_,rfl,a,_,rfl,.inl (Mv _),_,_,rfl,rfl,_,rfl,?_⟩;refine bO (fun e=>?_) (fun e=>?_)
 ·have h0:(0:Int) < ((ns.map V.int).length:Nat):=Jl e;have WM:((ns.map V.int).length:Nat)<=63:=by rw[IU];exact h63
  have k0:=Int.emod_nonneg (m:Int) (b:=((ns.map V.int).length:Nat)) (by omega);have k1:=Int.emod_lt_of_pos (m:Int) (b:=((ns.map V.int).length:Nat)) h0;obtain⟨v,hv,OI⟩:=jB k0 k1;obtain⟨z,_,rfl⟩:=JD.mp hv;have d0:0<=(m:Int) / ((ns.map V.int).length:Nat):=Int.ediv_nonneg (by omega) (by omega);have d1:(m:Int) / ((ns.map V.int).length:Nat)<=m:=Int.ediv_le_self _ (by omega);refine⟨_,rfl,_,rfl,_,rfl,_,rfl,a,_,rfl,.inl (Mv _),_,_,rfl,rfl,h0,a,_,_,_,rfl,rfl,Mv _,OI,_,rfl,_,rfl,a,_,rfl,.inl (Mv _),_,_,rfl,rfl,⟨h0,by show _ < (1073741824:Int);omega⟩,_,_,rfl,rfl,_,_,rfl,rfl,.inr ⟨by show _ < 1+(m:Int) / _;omega,by show 1+(m:Int) / _ < _;omega⟩,_,_,rfl,rfl,?_⟩;refine⟨_,rfl,_,_,rfl,rfl,.inr ⟨by decide,by decide⟩,_,_,rfl,rfl,(by show(0:Int) < 2147483647;decide),_,_,rfl,rfl,⟨by decide,by decide⟩,?_⟩;exact q _ _ (fin _).1 (fin _).2 (bC.put H _) ao
 ·refine⟨_,rfl,_,_,rfl,rfl,.inr ⟨by decide,by decide⟩,_,_,rfl,rfl,(by show(0:Int) < 2147483647;decide),_,_,rfl,rfl,⟨by decide,by decide⟩,?_⟩;exact q _ _ (fin _).1 (fin _).2 (bC.put H _) ao
end
abbrev Hf:Stmt:=cj 75
theorem pD {i:Int}(h:i.natAbs < 2 ^ 64):i.natAbs.log2 < 1920:=by
 by_cases e:i.natAbs=0
 ·rw[e];decide
 ·exact(Nat.log2_lt e).mpr (Ju h (Nat.pow_le_pow_right (by decide) (by decide)))
theorem vH {a b:Int}(h0:0 < b) (h1:b<=2 ^ 63):(a % b).natAbs < 2 ^ 64:=by
 have h2:=Int.emod_nonneg a (b:=b) (by omega);have h3:=Int.emod_lt_of_pos a h0;omega
def yX (d:D):Prop:=(∃i:Int,d=.tup [.str "number",.int i]/\i.natAbs.log2 < 1920)\/(∃t,d=.tup [.str "text",.str t])\/(∃b,d=.tup [.str "truth",.bl b])\/d=da
theorem yX.dep {d}(h:yX d):GS.dep d<=1:=by
 rcases h with ⟨i,rfl,_⟩ | ⟨t,rfl⟩ | ⟨b,rfl⟩ | rfl
 ·rw[GS.dep,bM,bM,bM,cy,fP];decide
 ·rw[GS.dep,bM,bM,bM,cy,cy];decide
 ·rw[GS.dep,bM,bM,bM,cy,mn];decide
 ·rw[da,GS.dep,bM,bM,cy];decide
theorem yX.vd {d} (os) (h:yX d):Vd os d/\ft os d=none:=by
 have hd:=h.dep;rcases h with ⟨i,rfl,_⟩ | ⟨t,rfl⟩ | ⟨b,rfl⟩ | rfl
 ·exact⟨Vd.no (by decide +kernel) hd,jq _ _ (by decide +kernel)⟩
 ·exact⟨Vd.no (by decide +kernel) hd,jq _ _ (by decide +kernel)⟩
 ·exact⟨Vd.no (by decide +kernel) hd,jq _ _ (by decide +kernel)⟩
 ·exact⟨Vd.da,jq _ _ (by decide +kernel)⟩
theorem yK {a b c d:V}{k:Int}(h0:0<=k) (h1:k < 4):∃v,j4 [a,b,c,d] k=some v/\(v=a\/v=b\/v=c\/v=d):=by
 obtain⟨v,hv,e⟩:=jB (xs:=[a,b,c,d]) h0 h1;simp at hv;exact⟨v,e,hv⟩
inductive DR (K:Fg06) (σ:L2.St) (H:Hp) (Q:VK):Prop
 | mk (n):σ[0]?=some (some (.int n))->(∀d v H',yX d->au H H'->At K H' d v->Q v H')->DR K σ H Q
section
variable {P:Program}{w:World}{K:Fg06}{mg:Str->Option Value}{base:Heap}{f:Addr}{fd:FuncData}{c:cF}
inductive zc (K:Fg06) (vs:List V) (H:Hp) (Q:VK) (E:XK):Prop
 | mk n:vs=[.int n]->(∀d v H',yX d->au H H'->At K H' d v->Q v H')->zc K vs H Q E
theorem EE:aS ["_law_n","_law_some"] ["_law_n"] (aw Hf):=fE
theorem Ft (F:eg K "_law_plain" "_law_plain" Hf f fd):bK P w K mg base eh 1 f fd ["_law_n"] (zc K):=by
 refine F.fw EE fun WK A outer s H vs Q E hr h=>?_;obtain⟨n,rfl,q⟩:=h;refine⟨_,ag (dD 1 EE.nd (bB (bI (fk (t':=DR K) (aI (bF ak (aH iL (aH bJ (aH bN (pv 0) ah) ah) ah))) ?e1)
   (bI (fk (t':=DR K) (aI (bF ak (bR jt ak ck (bZ (aH bJ (aH bN (pv 0) ah) ah))))) ?e2)
   (bI (fk (t':=DR K) (aI (bF ak (ib bL (aH bJ (aH bN (pv 0) ah) ah) ah))) ?e3)
   (cw (fk (t':=DR K) (aI (cw ak)) ?e4)))))))
  (aq (aD (bx (cR gy (aH bJ (aH bN (pv 0) ah) ah) ah) (ff K (pv 1) (aH bJ (pv 0) ah))
   (fk (t':=DR K) (aI (bF ak (aH bJ (aH bN (pv 0) ah) (aH Ci ah ah)))) ?e5)))),?main⟩
 case e1=>
  rintro σ H Q ⟨n,e0,q⟩;exact⟨_,e0,_,_,rfl,rfl,⟨by decide,by decide⟩,_,_,rfl,rfl,cW,_,_,rfl,rfl,eX,fun p hp=>q _ _ _ (.inl ⟨_,rfl,pD (by omega)⟩) (ae hp _) (At.new hp (aZ (av.mpr rfl) (bc.mpr rfl)))⟩
 case e2=>
  rintro σ H Q ⟨n,e0,q⟩;exact⟨_,e0,_,_,rfl,rfl,⟨by decide,by decide⟩,_,_,rfl,rfl,cW,_,rfl,_,rfl,eX,eX,fun p hp=>q _ _ _ (.inr (.inl ⟨_,rfl⟩)) (ae hp _) (At.new hp (aZ (av.mpr rfl) (av.mpr rfl)))⟩
 case e3=>
  rintro σ H Q ⟨n,e0,q⟩;exact⟨_,e0,_,_,rfl,rfl,⟨by decide,by decide⟩,_,_,rfl,rfl,cW,rfl,eX,fun p hp=>q _ _ _ (.inr (.inr (.inl ⟨_,rfl⟩))) (ae hp _) (At.new hp (aZ (av.mpr rfl) (cL.mpr rfl)))⟩
 case e4=>
  rintro σ H Q ⟨n,e0,q⟩;exact⟨jY,fun p hp=>q da _ _ (.inr (.inr (.inr rfl))) (ae hp _) (At.new hp (az.fu (av.mpr rfl)))⟩
 case e5=>
  rintro σ H Q ⟨n,e0,q⟩;exact⟨_,e0,_,_,rfl,rfl,⟨by decide,by decide⟩,_,_,rfl,rfl,⟨by decide,by decide,by decide⟩,_,_,rfl,rfl,by show(0:Int) < 10 ^ (Int.toNat 9);decide,eX,fun p hp=>q _ _ _ (.inl ⟨_,rfl,pD (vH (by decide) (by decide))⟩) (ae hp _) (At.new hp (aZ (av.mpr rfl) (bc.mpr rfl)))⟩
 case main=>
  refine⟨n,rfl,fun d1 v1 H1 p1 s1 a1=>⟨n,rfl,fun d2 v2 H2 p2 s2 a2=>⟨n,rfl,fun d3 v3 H3 p3 s3 a3=>⟨n,rfl,fun d4 v4 H4 p4 s4 a4=>⟨DS,fun pl JX=>?_⟩⟩⟩⟩⟩;have s5:au H4 (WX H4 pl (.lst [v1,v2,v3,v4])):=ae JX _;have l5:WX H4 pl (.lst [v1,v2,v3,v4]) pl=some (.lst [v1,v2,v3,v4]):=ao;generalize WX H4 pl (.lst [v1,v2,v3,v4])=H5 at s5 l5 ⊢;have t4:=s4.trans s5;have t3:=s3.trans t4;have t2:=s2.trans t3;have t1:=s1.trans t2;refine⟨_,rfl,_,_,rfl,rfl,⟨by decide,by decide⟩,_,_,rfl,rfl,cW,_,_,rfl,rfl,_,rfl,bO (fun _=>?_) (fun _=>⟨n,rfl,fun d v H' p s a=>q d v H' p (t1.trans s) a⟩)⟩;have k0:=Int.emod_nonneg n (b:=4) (by decide);have k1:=Int.emod_lt_of_pos n (b:=4) (by decide);obtain⟨v,e,hv⟩:=yK (a:=v1) (b:=v2) (c:=v3) (d:=v4) k0 k1;refine⟨_,rfl,_,rfl,_,_,rfl,rfl,cW,pl,_,_,v,rfl,rfl,bf.of l5,e,?_⟩;rcases hv with rfl | rfl | rfl | rfl
  ·exact q _ _ _ p1 t1 (At.same t2 _ _ a1)
  ·exact q _ _ _ p2 t1 (At.same t3 _ _ a2)
  ·exact q _ _ _ p3 t1 (At.same t4 _ _ a3)
  ·exact q _ _ _ p4 t1 (At.same s5 _ _ a4)
end
theorem yX.vp {d} (os) (h:yX d):Vp os d:=by
 rcases h with ⟨i,rfl,h⟩ | ⟨t,rfl⟩ | ⟨b,rfl⟩ | rfl
 ·exact .nu i h
 ·exact .te t
 ·exact .tr b
 ·exact .no
abbrev Bq:Stmt:=cj 74
theorem vz {m is ys}(h:Pairs (fun _ v=>∃z:Str,v=.str z/\z.length<=m) is ys):∃zs:List Str,ys=zs.map V.str/\zs.length=is.length/\∀z∈zs,z.length<=m:=by
 induction h with
 | nil=>exact⟨[],rfl,rfl,fun z h=>(by simp at h)⟩
 | cons h1 _ ih=>
  obtain⟨z,rfl,hz⟩:=h1;obtain⟨zs,rfl,e,hs⟩:=ih;refine⟨z::zs,rfl,by rw[Jf,Jf,e],fun y hy=>?_⟩;rcases Jv.mp hy with rfl | hy
  ·exact hz
  ·exact hs y hy
theorem wG {m:Nat}:∀{zs:List Str},(∀z∈zs,z.length<=m)->(zs.map (·.length)).sum<=zs.length*m
 | [],_=>Jr _
 | z::zs,h=>by
  have h1:=h z II;have h2:=wG fun y hy=>h y (IH _ hy);rw[W5,List.sum_cons,Jf,Nat.succ_mul];omega
theorem qt {a:Int}{b:Int}(hb:0 < b):0<=a % b/\a % b < b:=⟨Int.emod_nonneg _ (by omega),Int.emod_lt_of_pos _ hb⟩
def wb:Str:="abcdefghijklmnopqrstuvwxyzABCDEFGHIJKLMNOPQRSTUVWXYZ"
theorem z5:wb.cps.toList.length=52:=by decide +kernel
theorem yP {k}(h0:0<=k) (h1:k < 52):∃c,j4 wb.cps.toList k=some c:=by
 obtain⟨v,_,e⟩:=jB (xs:=wb.cps.toList) h0 (by rw[z5];exact h1);exact⟨v,e⟩
theorem og {n H}:∀H',au H H'->(wm 0 n).stop n H':=fun _ _=>IW _
theorem sY {n H}:∀i H',i < n->au H H'->(wm 0 n).go i H':=fun _ _ h _=>h
theorem qe {n H}:∀i H1 x H2,i < n->au H H1->(wm 0 n).tT i H1 x H2->x=V.int (0+(i:Int))/\H2=H1:=fun i H1 x H2 _ _ h=>⟨h.2,h.1⟩
theorem yL {a b c:V}{k:Int}(h0:0<=k) (h1:k < 3):∃v,j4 [a,b,c] k=some v/\(v=a\/v=b\/v=c):=by
 obtain⟨v,hv,e⟩:=jB (xs:=[a,b,c]) h0 h1;simp at hv;exact⟨v,e,hv⟩
section
variable {P:Program}{w:World}{K:Fg06}{mg:Str->Option Value}{base:Heap}{f:Addr}{fd:FuncData}
inductive xk (K:Fg06) (vs:List V) (H:Hp) (Q:VK) (E:XK):Prop
 | mk n:vs=[.int n]->(∀p (xs:List Str) H',au H H'->H p=none->H' p=some (.lst (xs.map V.str))->xs.length=12->(∀x∈xs,x.length<=100)->Q (.ref p) H')->xk K vs H Q E
inductive Eh (K:Fg06) (σ:L2.St) (H:Hp) (Q:VK):Prop
 | mk n at' k word c:σ[0]?=some (some (.int n))->σ[2]?=some (some (.str word))->σ[3]?=some (some (.int at'))->σ[5]?=some (some (.int k))->σ[6]?=some (some (.str c))->word.length<=8->c.length<=1->0<=k->k < 12->(∀z H',au H H'->z.length<=100->Q (.str z) H')->Eh K σ H Q
theorem nM:aS ["_law_n","_law_some","_law_word","_law_at","_law_names_here","_law_k","_law_sign"] ["_law_n"] (aw Bq):=fE
theorem C0 (g:Glb9 mg) (F:eg K "_law_names" "_law_names" Bq f fd):bK P w K mg base eh 1 f fd ["_law_n"] (xk K):=by
 refine F.fw nM fun WK A outer s H vs Q E hr h=>?_;obtain⟨n,rfl,q⟩:=h;refine⟨_,(ag (dD 1 nM.nd ak)
   (ag (dD 2 nM.nd (dZ PySem.F.plainAttrs_str PySem.F.slot_str_join PySem.F.type_str_join zI ak (cw (.mk (L2.dH (cl:=[("_law_some",s.heap.objs.size+2),("_law_n",s.heap.objs.size+1)]) (Xs:=["_law_j"]) (Nf:=["_law_some","_law_n"]) (js:=[1,0]) ?k rfl (LI.out (cg rfl g.gG (cw ah))) (fun C s0 H0 fp=>LG.out (i6 0 (show(["_law_j","_law_some","_law_n"]:List Str).Nodup by decide +kernel))) (fun C s0 H0 fp=>d6) (fun C s0 H0 fp=>LE.out (fV (r:=zk) sV (pv 1) (aH bJ (aH fR (aH bN (pv 2) ah) (aH kg ah (pv 0))) ah) (fun _ _=>rfl))))))))
   (ag (dD 3 nM.nd (aH bJ (aH bN (pv 0) ah) ah))
   (ag (dD 4 nM.nd (bB cJ))
   (ag (d9 Ji rfl (cg rfl g.gG (cw ah)) (i6 5 nM.nd) (ag (dD 6 nM.nd (fV (r:=zk) sV (pv 1) (aH bJ (aH fR (aH fR (aH bN (pv 0) ah) (aH kg ah (pv 5))) ah) ah) (fun _ _=>rfl)))
   (aq (bW (dZ Jo Jp Jq cp (pv 4) (cw (fk (t':=Eh K) (ff K (bB (ia (aH gX (bR jt (pv 2) ck (bZ ah)) (bS qy rfl g.zH uW (cw (pv 5)))) (aH gX (aH gX (bR jt (pv 2) ck (bZ (pv 3))) (pv 6)) (bR jt (pv 2) (bZ (aH fR (pv 3) ah)) ck)) (bR jt (aH gX (pv 6) (pv 2)) ck (bZ (aH fR ah (aH bJ (aH bN (pv 0) ah) ah)))))) (aH bJ (pv 0) ah)) ?nm)))))))
   (aq (aD (pv 4)))))))),?main⟩
 case k=>exact tI
 case nm=>
  rintro σ H Q ⟨n,at',k,word,c,e0,e2,e3,e5,e6,hw,hc,k0,k1,q⟩;have zw:word.length<=sizeLine:=small (by omega);obtain⟨kn,rfl⟩:∃kn:Nat,k=(kn:Int):=⟨k.toNat,by omega⟩;have Vk:kn < 12:=by omega
  have hz:(Str.ofString (toString (kn:Int))).length<=5:=(show ∀i:Nat,i < 12->(Str.ofString (toString (i:Int))).length<=5 by decide +kernel) kn Vk;have Vi:(kn:Int).natAbs.log2 < 1920:=(show ∀i:Nat,i < 12->(i:Int).natAbs.log2 < 1920 by decide +kernel) kn Vk;have a1:=dz word none (some 1);have a2:=dz word none (some at');have a3:=dz word (some (at'+1)) none;have a4:(c++word).length<=9:=by rw[cf];omega
  have a5:=dz (c++word) none (some (1+n / 3 % 8));refine⟨_,e2,_,rfl,_,rfl,zw,_,e5,kn,rfl,Vi,_,_,rfl,rfl,small (n:=(StrLaws.sliceText word none (some 1)).length+(Str.ofString (toString (kn:Int))).length) (by omega),?_⟩;refine⟨_,e2,_,e3,_,rfl,_,rfl,zw,_,e6,_,_,rfl,rfl,small (n:=(StrLaws.sliceText word none (some at')).length+c.length) (by omega),_,e2,_,e3,_,_,rfl,rfl,_,rfl,_,rfl,zw,_,_,rfl,rfl,small (n:=(StrLaws.sliceText word none (some at')++c).length+(StrLaws.sliceText word (some (at'+1)) none).length) (by rw[cf];omega),?_⟩;refine⟨_,e6,_,e2,_,_,rfl,rfl,small (n:=c.length+word.length) (by omega),_,e0,_,_,rfl,rfl,⟨by decide,by decide⟩,_,_,rfl,rfl,cW,_,_,rfl,rfl,_,rfl,_,rfl,small (n:=(c++word).length) (by omega),wD,fun pl JX=>?_⟩;obtain⟨m0,m1⟩:=qt (a:=n) (b:=3) (by decide);have s1:=ae JX (.lst [.str (StrLaws.sliceText word none (some 1)++Str.ofString (toString (kn:Int))),.str (StrLaws.sliceText word none (some at')++c++StrLaws.sliceText word (some (at'+1)) none),.str (StrLaws.sliceText (c++word) none (some (1+n / 3 % 8)))]);obtain⟨u,eu,hu⟩:=yL (a:=.str (StrLaws.sliceText word none (some 1)++Str.ofString (toString (kn:Int)))) (b:=.str (StrLaws.sliceText word none (some at')++c++StrLaws.sliceText word (some (at'+1)) none)) (c:=.str (StrLaws.sliceText (c++word) none (some (1+n / 3 % 8)))) m0 m1;refine⟨_,e0,_,_,rfl,rfl,cW,pl,_,_,u,rfl,rfl,bf.of ao,eu,?_⟩;rcases hu with rfl | rfl | rfl
  ·exact q _ _ s1 (by rw[cf];omega)
  ·exact q _ _ s1 (by rw[cf,cf];omega)
  ·exact q _ _ s1 (by omega)
 case main=>
  refine⟨rfl,_,rfl,by decide,by decide,[.str wb,.int n],⟨rfl,fun j i h=>?_⟩,cq (vs:=[.str wb,.int n]) (tc:=gx) 8 (fun i=>V.int (0+(i:Int))) (fun _=>true) (fun _ v _=>∃z:Str,v=.str z/\z.length<=1) (fun _ _ _ _ _ z=>z) (by decide) og sY qe (fun i H2 Q' hi s2 k=>k H2 (au.refl _)) (fun j H1 D l' Q' hj _ s1 _ _ k=>?_) fun D H1 ys hD s1 Kt hP=>?_⟩
  ·match j,h with
   | 0,h=>cases h;exact⟨_,rfl,rfl⟩
   | 1,h=>cases h;exact⟨_,rfl,rfl⟩
   | j+2,h=>simp at h
  ·obtain⟨m0,m1⟩:=qt (a:=n / 192+5*(0+(j:Int))) (b:=52) (by decide);obtain⟨ch,hc⟩:=yP m0 m1;exact⟨_,rfl,_,rfl,_,_,rfl,rfl,⟨by decide,by decide⟩,_,rfl,_,_,rfl,rfl,.inl ⟨by decide,by decide⟩,_,_,rfl,rfl,_,_,rfl,rfl,cW,_,_,ch,rfl,rfl,by decide +kernel,hc,k _ _ (au.refl _) ⟨_,rfl,IW 1⟩⟩
  obtain⟨zs,rfl,lz,hz⟩:=vz hP;have lz8:zs.length=8:=lz;have hsum:=wG hz;have U2:("":Str).length=0:=rfl;refine⟨_,D,zs,rfl,rfl,bf.of Kt,by rw[U2];omega,?_⟩;have lw:(Txt.join ("":Str) zs).length<=8:=by
   show(PySem.Builtin.Str.glued ("":Str) zs).length<=8;rw[StrLaws.glued_eq_join];have:=StrLaws.join_length_le ("":Str) zs;rw[U2] at this;omega
  generalize Txt.join ("":Str) zs=word at lw;refine⟨_,rfl,_,_,rfl,rfl,⟨by decide,by decide⟩,_,_,rfl,rfl,cW,Jr _,fun pn Qk=>?_⟩;have Qj:H pn=none:=none_of s1 Qk;have s2:au H (WX H1 pn (.lst [])):=s1.trans (ae Qk _);have l2:WX H1 pn (.lst []) pn=some (.lst []):=ao;generalize WX H1 pn (.lst [])=H2 at s2 l2 ⊢;refine⟨_,rfl,by decide,by decide,iZ (lo:=0) (n:=12) (fun i σ H'=>(∃o5 o6,σ=[some (.int n),some (.str wb),some (.str word),some (.int (n / 24 % 8)),some (.ref pn),o5,o6])/\au H H'/\∃xs:List Str,H' pn=some (.lst (xs.map V.str))/\xs.length=i/\∀x∈xs,x.length<=100) ⟨⟨_,_,rfl⟩,s2,[],l2,rfl,fun x h=>(by simp at h)⟩ ?t ?s⟩
  case s=>
   rintro σ H' ⟨⟨o5,o6,rfl⟩,sH,xs,hx,lx,SV⟩;exact⟨_,rfl,q _ xs H' sH Qj hx lx SV⟩
  case t=>
   rintro i σ H' hi ⟨⟨o5,o6,rfl⟩,sH,xs,hx,lx,SV⟩;obtain⟨m0,m1⟩:=qt (a:=n / 192+7*(0+(i:Int))+1) (b:=52) (by decide);obtain⟨ch,hc⟩:=yP m0 m1;refine⟨_,rfl,_,rfl,_,_,rfl,rfl,⟨by decide,by decide⟩,_,rfl,_,_,rfl,rfl,.inl ⟨by decide,by decide⟩,_,_,rfl,rfl,_,_,rfl,rfl,_,_,rfl,rfl,cW,_,_,ch,rfl,rfl,by decide +kernel,hc,?_⟩;refine⟨_,rfl,.inl ⟨rfl,_,bf.of hx⟩,n,_,0+(i:Int),word,_,rfl,rfl,rfl,rfl,rfl,lw,IW 1,by omega,by omega,fun z H3 s3 PV=>?_⟩;have hx3:=s3 _ _ hx;refine⟨pn,_,.str z,rfl,rfl,hx3,cm (by rw[IU];omega),⟨_,_,rfl⟩,qZ (sH.trans s3) Qj _,xs++[z],by rw[ao,Jt];rfl,by rw[IJ,lx];rfl,fun y hy=>?_⟩;rcases Jm.mp hy with hy | hy
   ·exact SV y hy
   ·rw[W7.mp hy];exact PV
end
structure qG (S:List Addr) (H H':Hp):Prop where
 l:∀q ys,q∉S->H q=some (.lst ys)->H' q=some (.lst ys)
 f:Fx H H'
theorem au.pG {S H H'}(s:au H H'):qG S H H':=⟨fun q ys _ e=>s q _ e,au.fx s⟩
theorem bC.pG {S l H H' xs}(b:bC l H H') (m:l∈S) (h:H l=some (.lst xs)):qG S H H':=⟨fun q ys n e=>b q _ (fun y=>n (y▸m)) e,b.fx h rfl⟩
theorem qG.put {S l H xs o}(m:l∈S) (h:H l=some (.lst xs)):qG S H (WX H l o):=(bC.put H o).pG m h
theorem jE.pG {K c wp S H H' ps os gv ln lf}(h:cG K c H wp ps os gv ln lf) (s:jE c wp H H') (h1:wp.l∈S) (h2:wp.n∈S) (h3:wp.f∈S):qG S H H':=⟨fun q ys n e=>s q _ e (fun y=>n (y▸h1)) (fun y=>n (y▸h2)) (fun y=>n (y▸h3)) (fun _ _ z=>nomatch z),s.fx h⟩
structure fT (os JI:List Th):Prop where
 l:os.length<=JI.length
 o:∀(i:Nat) o,os[i]?=some o->(∀st m h,o≠.gr st m h)->JI[i]?=some o
theorem fT.refl (os:List Th):fT os os:=⟨IW _,fun _ _ e _=>e⟩
theorem fT.trans {os UD MZ:List Th}(a:fT os UD) (b:fT UD MZ):fT os MZ:=⟨IV a.l b.l,fun i o e n=>b.o i o (a.o i o e n) n⟩
theorem fT.app (os JI:List Th):fT os (os++JI):=⟨by rw[IJ];omega,fun i o e _=>cN e⟩
theorem fT.set {os}{i:Nat} {st st'}{m m' h h':Int}(e:os[i]?=some (.gr st m h)):fT os (os.set i (.gr st' m' h')):=by
 refine⟨by rw[Jk];exact IW _,fun j o ej n=>?_⟩;by_cases hj:j=i
 ·subst hj;rw[e] at ej;cases ej;exact Xc rfl (n _ _ _)
 ·rw[IQ (W3 hj)];exact ej
theorem jQ {os JI}(k:fT os JI) {n}:∀{ns:List Nat},(∀m∈ns,∃Lc LZ d' JM,os[m]?=some (.kd Lc LZ d' JM))->dk JI n ns=dk os n ns
 | [],_=>rfl
 | m::ns,h=>by
  obtain⟨a,b,c,d,e⟩:=h m II;rw[dq,dq,e,k.o m _ e (fun _ _ _ z=>nomatch z),jQ k fun j hj=>h j (IH _ hj)]
inductive Rw where
 | cl (i:Nat) (st:Option D)
 | gv (i:Nat) (w:Str)
 | fn (i:Nat)
 | ob (i:Nat)
 | mt (i:Nat)
 | vw (i:Nat)
 | pl (d:D)
def gF:Rw->Str
 | .cl ..=>"class"
 | .gv ..=>"given"
 | .fn _=>"function"
 | .ob _=>"object"
 | .mt _=>"method"
 | .vw _=>"view"
 | .pl _=>"plain"
def bU:Rw->D
 | .cl i _=>aQ i
 | .gv i _=>aQ i
 | .fn i=>aQ i
 | .ob i=>aQ i
 | .mt i=>aQ i
 | .vw i=>aQ i
 | .pl d=>d
def AU (K:Fg06) (H:Hp):Option D->V->Prop
 | none,v=>v=.bj
 | some d,v=>At K H d v
def j9 (K:Fg06) (H:Hp) (i:Nat) (g:sj) (a:Addr):Prop:=∃v1 v3,H a=some (.lst [.str "function",v1,.int (g.np:Nat),v3])/\At K H (aQ i) v1/\At K H (.tup g.df) v3
def gp (K:Fg06) (H:Hp) (os:List Th) (S:List Addr) (a:Addr):Rw->Prop
 | .cl i st=>∃v1 v2 v4 nm ns d fs,H a=some (.lst [.str "class",v1,v2,.bl (decide (9∈ns)),v4])/\os[i]?=some (.kd nm ns d fs)/\At K H (aQ i) v1/\AU K H st v2/\dk os "start" ns=st/\At K H (.tup (ns.map aQ)) v4/\(∃r,ns=i::r)/\ns.Nodup/\(∀n∈ns,n<=i)
 | .gv i w=>∃v1,H a=some (.lst [.str "given",v1,.str w])/\os[i]?=some (.kL w)/\w∈kq/\At K H (aQ i) v1
 | .fn i=>∃g,os[i]?=some (.fn g)/\j9 K H i g a
 | .ob i=>∃v1 v3 v4 k d fs nm ns d' JM,H a=some (.lst [.str "object",v1,.bj,v3,v4])/\os[i]?=some (.ob k d fs)/\os[k]?=some (.kd nm ns d' JM)/\At K H (aQ i) v1/\At K H (aQ k) v3/\At K H (.tup (ns.map aQ)) v4
 | .mt i=>∃v1 v2 b t o g,H a=some (.lst [.str "method",v1,v2,.ref b])/\os[i]?=some (.mt t o)/\os[t]?=some (.fn g)/\At K H (aQ i) v1/\At K H (aQ o) v2/\j9 K H t g b/\b∉S
 | .vw i=>∃v1,H a=some (.lst [.str "view",v1])/\os[i]?=some .vw/\At K H (aQ i) v1
 | .pl d=>∃v1,H a=some (.lst [.str "plain",v1])/\yX d/\At K H d v1
theorem AU.fx {K H H'}(f:Fx H H') {o v}(h:AU K H o v):AU K H' o v:=by
 cases o with
 | none=>exact h
 | some d=>exact At.fx f _ _ h
theorem j9.keep {K H H' S i g a}(h:j9 K H i g a) (k:qG S H H') (ha:a∉S):j9 K H' i g a:=by
 obtain⟨v1,v3,h1,h2,h3⟩:=h;exact⟨v1,v3,k.l _ _ ha h1,At.fx k.f _ _ h2,At.fx k.f _ _ h3⟩
theorem gp.keep {K:Fg06}{H H':Hp}{os JI:List Th}{S:List Addr}{a:Addr}{r:Rw}(wf:oK os) (h:gp K H os S a r) (ha:a∉S) (k:qG S H H') (ko:fT os JI):gp K H' JI S a r:=by
 cases r with
 | cl i st=>
  obtain⟨v1,v2,v4,nm,ns,d,fs,h1,h2,h3,h4,h5,h6,h7⟩:=h;refine⟨v1,v2,v4,nm,ns,d,fs,k.l _ _ ha h1,ko.o _ _ h2 (fun _ _ _ z=>nomatch z),At.fx k.f _ _ h3,h4.fx k.f,?_,At.fx k.f _ _ h6,h7⟩;rw[jQ ko (wf.k i nm ns d fs h2).1];exact h5
 | gv i w=>
  obtain⟨v1,h1,h2,h3,h4⟩:=h;exact⟨v1,k.l _ _ ha h1,ko.o _ _ h2 (fun _ _ _ z=>nomatch z),h3,At.fx k.f _ _ h4⟩
 | fn i=>
  obtain⟨g,h1,h2⟩:=h;exact⟨g,ko.o _ _ h1 (fun _ _ _ z=>nomatch z),h2.keep k ha⟩
 | ob i=>
  obtain⟨v1,v3,v4,kk,d,fs,nm,ns,d',JM,h1,h2,h3,h4,h5,h6⟩:=h;exact⟨v1,v3,v4,kk,d,fs,nm,ns,d',JM,k.l _ _ ha h1,ko.o _ _ h2 (fun _ _ _ z=>nomatch z),ko.o _ _ h3 (fun _ _ _ z=>nomatch z),At.fx k.f _ _ h4,At.fx k.f _ _ h5,At.fx k.f _ _ h6⟩
 | mt i=>
  obtain⟨v1,v2,b,t,o,g,h1,h2,h3,h4,h5,h6,h7⟩:=h;exact⟨v1,v2,b,t,o,g,k.l _ _ ha h1,ko.o _ _ h2 (fun _ _ _ z=>nomatch z),ko.o _ _ h3 (fun _ _ _ z=>nomatch z),At.fx k.f _ _ h4,At.fx k.f _ _ h5,h6.keep k h7,h7⟩
 | vw i=>
  obtain⟨v1,h1,h2,h3⟩:=h;exact⟨v1,k.l _ _ ha h1,ko.o _ _ h2 (fun _ _ _ z=>nomatch z),At.fx k.f _ _ h3⟩
 | pl d=>
  obtain⟨v1,h1,h2,h3⟩:=h;exact⟨v1,k.l _ _ ha h1,h2,At.fx k.f _ _ h3⟩
theorem gp.two {K H os S a r}(h:gp K H os S a r):∃v1 tl,H a=some (.lst (.str (gF r)::v1::tl))/\At K H (bU r) v1:=by
 cases r with
 | cl i st=>obtain⟨v1,v2,v4,nm,ns,d,fs,h1,h2,h3,_⟩:=h;exact⟨v1,_,h1,h3⟩
 | gv i w=>obtain⟨v1,h1,h2,h3,h4⟩:=h;exact⟨v1,_,h1,h4⟩
 | fn i=>obtain⟨g,h1,v1,v3,h2,h3,_⟩:=h;exact⟨v1,_,h2,h3⟩
 | ob i=>obtain⟨v1,v3,v4,kk,d,fs,nm,ns,d',JM,h1,h2,h3,h4,_⟩:=h;exact⟨v1,_,h1,h4⟩
 | mt i=>obtain⟨v1,v2,b,t,o,g,h1,h2,h3,h4,_⟩:=h;exact⟨v1,_,h1,h4⟩
 | vw i=>obtain⟨v1,h1,h2,h3⟩:=h;exact⟨v1,_,h1,h3⟩
 | pl d=>obtain⟨v1,h1,h2,h3⟩:=h;exact⟨v1,_,h1,h3⟩
theorem gp.vp {K H os S a r}(h:gp K H os S a r):Vp os (bU r):=by
 cases r with
 | cl i st=>obtain⟨v1,v2,v4,nm,ns,d,fs,h1,h2,h3,_⟩:=h;exact .th i (aE h2)
 | gv i w=>obtain⟨v1,h1,h2,h3,h4⟩:=h;exact .th i (aE h2)
 | fn i=>obtain⟨g,h1,_⟩:=h;exact .th i (aE h1)
 | ob i=>obtain⟨v1,v3,v4,kk,d,fs,nm,ns,d',JM,h1,h2,h3,h4,_⟩:=h;exact .th i (aE h2)
 | mt i=>obtain⟨v1,v2,b,t,o,g,h1,h2,h3,h4,_⟩:=h;exact .th i (aE h2)
 | vw i=>obtain⟨v1,h1,h2,h3⟩:=h;exact .th i (aE h2)
 | pl d=>obtain⟨v1,h1,h2,h3⟩:=h;exact h2.vp os
inductive cV (K:Fg06) (H:Hp) (os:List Th) (S:List Addr):List Rw->List V->Prop
 | nil:cV K H os S [] []
 | cons {r a rs vs}:gp K H os S a r->a∉S->cV K H os S rs vs->cV K H os S (r::rs) (.ref a::vs)
section
variable {K:Fg06}{H H':Hp}{os JI:List Th}{S:List Addr}
theorem cV.keep (wf:oK os) (k:qG S H H') (ko:fT os JI):∀{rs:List Rw}{vs:List V},cV K H os S rs vs->cV K H' JI S rs vs
 | _,_,.nil=>.nil
 | _,_,.cons h1 h2 h3=>.cons (h1.keep wf h2 k ko) h2 (h3.keep wf k ko)
theorem cV.same (wf:oK os) (s:au H H'){rs:List Rw}{vs:List V}(h:cV K H os S rs vs):cV K H' os S rs vs:=h.keep wf (au.pG s) (fT.refl _)
theorem cV.len:∀{rs vs},cV K H os S rs vs->vs.length=rs.length
 | _,_,.nil=>rfl
 | _,_,.cons _ _ h=>by rw[Jf,Jf,h.len]
theorem cV.at:∀{rs vs},cV K H os S rs vs->∀{i:Nat} {r},rs[i]?=some r->∃a,vs[i]?=some (.ref a)/\a∉S/\gp K H os S a r
 | _,_,.cons (a:=a) h1 h2 _,0,_,e=>by cases e;exact⟨a,rfl,h2,h1⟩
 | _,_,.cons _ _ h,i+1,_,e=>h.at (i:=i) e
theorem cV.snoc {r a}(h1:gp K H os S a r) (h2:a∉S):∀{rs vs},cV K H os S rs vs->cV K H os S (rs++[r]) (vs++[.ref a])
 | _,_,.nil=>.cons h1 h2 .nil
 | _,_,.cons h3 h4 h5=>.cons h3 h4 (h5.snoc h1 h2)
theorem cV.sel (p r0):∀{rs vs},cV K H os S rs vs->cV K H os S (rs.filter p) (((List.range rs.length).filter fun i=>p (rs.getD i r0)).map fun i=>vs.getD i .bj)
 | _,_,.nil=>.nil
 | _,_,.cons (r:=r) (a:=a) (rs:=rs) (vs:=vs) h1 h2 h3=>by
  have ih:=h3.sel p r0;have e:((List.range (r::rs).length).filter fun i=>p ((r::rs).getD i r0)).map (fun i=>(V.ref a::vs).getD i .bj)=(if p r then [V.ref a] else [])++((List.range rs.length).filter fun i=>p (rs.getD i r0)).map fun i=>vs.getD i .bj:=by
   rw[Jf,List.range_succ_eq_map,List.filter_cons,List.filter_map];have e2:(fun i=>p ((r::rs).getD i r0))∘Nat.succ=fun i=>p (rs.getD i r0):=by
    funext i;show p ((r::rs).getD (i+1) r0)=_;rw[List.getD_cons_succ]
   have e3:((fun i=>(V.ref a::vs).getD i .bj)∘Nat.succ)=fun i=>vs.getD i .bj:=by
    funext i;show(V.ref a::vs).getD (i+1) .bj=_;rw[List.getD_cons_succ]
   rw[e2,List.getD_cons_zero];by_cases hp:p r=true
   ·rw[IZ hp,IZ hp,W5,List.map_map,e3];rfl
   ·rw[IY hp,IY hp,List.map_map,e3];rfl
  rw[e,List.filter_cons];by_cases hp:p r=true
  ·rw[IZ hp,IZ hp];exact .cons h1 h2 ih
  ·rw[IY hp,IY hp];exact ih
end
section
variable {X:Cx}
theorem qm {WG σ H s Q b b'}(I:Inv X WG σ H s) (q:Q (.bl b) H) (e:b'=b):EP X WG σ Q (.bool b') s:=by
 subst e;exact⟨.bl b',H,I,rfl,q⟩
def E5 (X:Cx):R2:=fun x y H Q=>∃p q us ws ds,x=.ref p/\y=.ref q/\bf X.K H p us/\bf X.K H q ws/\az X.K H ds us/\az X.K H ds ws/\bM ds<=40/\Q (.bl false) H
theorem pW {k}(hr:dY k X.A):gQ X (compareOp .NotEq) (E5 X):=by
 intro WG s σ H x y v u Q I rx ry h;obtain⟨p,q,us,ws,ds,rfl,rfl,hp,hq,ha,hb,hd,hQ⟩:=h;cases rx;cases ry;obtain⟨WJ,r1,p1,z1⟩:=I.list hp;obtain⟨Kb,r2,p2,z2⟩:=I.list hq;have hu:=hr.units;have l1:WJ.toArray.size=ds.length:=by rw[W4,<-r1.length];exact ha.len
 have l2:Kb.toArray.size=ds.length:=by rw[W4,<-r2.length];exact hb.len
 have e:(!(List.range WJ.toArray.size).all fun j=>bP (ds.getD j .bj) (ds.getD j .bj))=false:=by
  rw[List.all_eq_true.mpr fun _ _=>bo _];rfl
 exact SeqAt.RcNeAt.lists (e:=fun j=>bP (ds.getD j .bj) (ds.getD j .bj)) p1.isList p2.isList (by omega) (by omega) (jz I (A:=X.A.in1) (n:=bM ds) r1 r2 ha hb (IW _) (by show X.A.units+1+bM ds < cLine;omega)) _ _ _ _ (qm I hQ e)
def E9 (X:Cx):R2:=fun x y H Q=>∃p xs d ds,y=.ref p/\bf X.K H p xs/\az X.K H ds xs/\At X.K H d x/\(∀e∈ds,dep e<=40)/\Q (.bl (ds.any fun e=>bP e d)) H
theorem zB {k}(hr:dY k X.A):gQ X (compareOp .In) (E9 X):=by
 intro WG s σ H x y v u Q I rx ry h;obtain⟨p,xs,d,ds,rfl,hp,ha,hx,hd,q⟩:=h;cases ry;obtain⟨WJ,r,pl,hz⟩:=I.list hp;obtain⟨f,f1,f2⟩:=xY I rx hx ha r X.A.in1 (fun e he=>by have:=hr.units;have:=hd e he;show X.A.units+1+_ < _;omega);refine SeqAt.in_listAt f pl.isList (fun w hw=>f1 w (by simpa using hw)) ⟨.bl _,H,I,rfl,?_⟩;rw[show WJ.toArray.any f=WJ.any f by simp,f2];exact q
def gU (K:Fg06):R2:=fun x y H Q=>∃d e,At K H d x/\At K H e y/\dep d<=60/\Q (.bl (bP d e)) H
theorem dm {k}(hr:dY k X.A):gQ X (compareOp .Eq) (gU X.K):=xO hr
def xE (K:Fg06):R2:=fun x y H Q=>∃p xs d ds,y=.ref p/\bf K H p xs/\az K H ds xs/\At K H d x/\(∀e∈ds,dep e<=40)/\Q (.bl (ds.any fun e=>bP e d)) H
theorem uz {k}(hr:dY k X.A):gQ X (compareOp .In) (xE X.K):=zB hr
end
def iX (j:Nat):List Nat:=((jf.getD j ("",[])).1::(jf.getD j ("",[])).2).map mh
def rj (j:Nat):Str:=(jf.getD j ("",[])).1
theorem lZ {ds}(h:ds.length=12) {j}(hj:j < 12):∃d,(bQ ds)[8+j]?=some (.kd (rj j) (iX j) d []):=by
 unfold bQ;rw[Jj (by show 8<=8+j;omega)];show ∃d,(List.map (fun x:(Str×List Str)×Addr=>Th.kd x.1.1 ((x.1.1::x.1.2).map mh) x.2 []) (jf.zip ds))[8+j - 8]?=_;rw[show 8+j - 8=j by omega,I0,List.zip_eq_zipWith,List.getElem?_zipWith,tu j hj,IM (show j < ds.length by omega)];exact⟨_,rfl⟩
theorem ux {ds j}(hj:j < 8):(bQ ds)[j]?=some (.kL (gfN.getD j "")):=by
 unfold bQ;rw[JB (by show j < 8;exact hj),I0,tm j hj];rfl
theorem jw {ds}(h:ds.length=12) {i o}(e:(bQ ds)[i]?=some o):(i < 8/\o=.kL (gfN.getD i ""))\/∃j d,j < 12/\i=8+j/\o=.kd (rj j) (iX j) d []:=by
 have hl:=aE e;rw[mZ (by omega),h] at hl;by_cases hi:i < 8
 ·rw[ux hi] at e;cases e;exact .inl ⟨hi,rfl⟩
 ·obtain⟨d,e'⟩:=lZ h (j:=i - 8) (by omega);rw[show 8+(i - 8)=i by omega,e] at e';cases e';exact .inr ⟨i - 8,d,by omega,by omega,rfl⟩
theorem jL:∀j,j < 12->(∃r,iX j=(8+j)::r)/\(iX j).Nodup/\(iX j).length<=8+j/\(∀n∈iX j,8<=n/\n < 20)/\(1<=j->9∈iX j)/\(rj j).length<=100/\(rj j,8+j)∈eS:=by
 intro j hj;have h:∀j,j < 12->(iX j).head?=some (8+j)/\(iX j).Nodup/\(iX j).length<=8+j/\(∀n∈iX j,8<=n/\n < 20)/\(1<=j->9∈iX j)/\(rj j).length<=100/\(rj j,8+j)∈eS:=by decide +kernel
 obtain⟨h1,h2⟩:=h j hj;refine⟨?_,h2⟩;cases e:iX j with
 | nil=>rw[e] at h1;cases h1
 | cons a r=>rw[e] at h1;injection h1 with h1;exact⟨r,by rw[h1]⟩
structure kE (os:List Th):Prop where
 wf:oK os
 nb:DM os
 db:DfB os
 dd:∀(i:Nat) (g:sj),os[i]?=some (.fn g)->bM g.df<=2
def OkA (os:List Th) (o:Th):Prop:=OkT os o/\(yW (some o)).length<=1000/\∀g,o=.fn g->g.df.length<=100/\bM g.df<=2
theorem kE.add {os:List Th}{o:Th}(h:kE os) (ho:OkA os o):kE (os++[o]):=by
 refine⟨h.wf.add ho.1,fun i x e=>?_,fun i g e=>?_,fun i g e=>?_⟩
 ·rcases getElem?_snoc e with u | ⟨_,u⟩
  ·exact h.nb i x u
  ·rw[u];exact ho.2.1
 ·rcases getElem?_snoc e with u | ⟨_,u⟩
  ·exact h.db i g u
  ·exact(ho.2.2 g u.symm).1
 ·rcases getElem?_snoc e with u | ⟨_,u⟩
  ·exact h.dd i g u
  ·exact(ho.2.2 g u.symm).2
theorem kE.set {os}(h:kE os){i:Nat} {st st'}{m m' a a':Int}(e:os[i]?=some (.gr st m a)):kE (os.set i (.gr st' m' a')):=by
 have hi:=aE e;have un:∀{j:Nat} {x},(os.set i (.gr st' m' a'))[j]?=some x->(x=.gr st' m' a')\/os[j]?=some x:=fun {j x} e1=>by
  by_cases hj:j=i
  ·subst hj;rw[IT hi] at e1;cases e1;exact .inl rfl
  ·rw[IQ (W3 hj)] at e1;exact .inr e1
 have k:=fT.set (st':=st') (m':=m') (h':=a') e;have ll:os.length<=(os.set i (.gr st' m' a')).length:=k.l;refine⟨⟨fun j nm ns d fs e1=>?_,fun j kk d fs e1=>?_,fun j t o e1=>?_⟩,fun j x e1=>?_,fun j g e1=>?_,fun j g e1=>?_⟩
 ·rcases un e1 with z | z
  ·cases z
  ·obtain⟨a,b⟩:=h.wf.k j nm ns d fs z;exact⟨fun n hn=>let ⟨x,y,z,v,e⟩:=a n hn;⟨x,y,z,v,k.o _ _ e (fun _ _ _ z=>nomatch z)⟩,fun n dd e=>(b n dd e).mono ll⟩
 ·rcases un e1 with z | z
  ·cases z
  ·obtain⟨⟨x,y,z,v,e⟩,b⟩:=h.wf.o j kk d fs z;exact⟨⟨x,y,z,v,k.o _ _ e (fun _ _ _ z=>nomatch z)⟩,fun n dd e=>(b n dd e).mono ll⟩
 ·rcases un e1 with z | z
  ·cases z
  ·obtain⟨⟨x,e⟩,b⟩:=h.wf.m j t o z;exact⟨⟨x,k.o _ _ e (fun _ _ _ z=>nomatch z)⟩,Ju b ll⟩
 ·rcases un e1 with z | z
  ·rw[z];exact Jr _
  ·exact h.nb j x z
 ·rcases un e1 with z | z
  ·cases z
  ·exact h.db j g z
 ·rcases un e1 with z | z
  ·cases z
  ·exact h.dd j g z
theorem wt {os us}(hu:∀u∈us,Vp os u) {b n dd}(h:(fU us (eB b)).lookup n=some dd):Vd os dd:=by
 match us,hu,h with
 | [],_,h=>exact jA h
 | [x],hu,h=>
  have h:((("word":Str),x)::eB b).lookup n=some dd:=h;rw[bG] at h;split at h
  ·cases h;exact(hu _ II).vd
  ·exact jA h
 | _::_::_,_,h=>exact jA h
theorem uV {os}(h:kE os) {ln}{lf:List Int} {d}(hv:Vp os d) {us}(hu:∀u∈us,Vp os u) (d'):kE (os++(fM os ln lf d us d').1):=by
 have h0:kE (os++[]):=by rw[Js];exact h
 have hE:fM os ln lf d us d'=(match ft os d with
 | some (.fn g)=>([],ln,lf,gf g (lM d) us)
 | some (.mt t o)=>([],ln,lf,match os[t]? with | some (.fn g)=>gf g t (aQ o::us) | _=>kF)
 | some (.kd _ ns _ _)=>oS os ln lf (lM d) ns us d'
 | some (.kL n)=>ie os ln lf n us
 | _=>([],ln,lf,kF)):=rfl
 rw[hE];cases ho:ft os d with
 | none=>exact h0
 | some o=>
  obtain⟨i,rfl,hi⟩:=jr hv.vd ho;cases o with
  | kd nm ns d0 fs=>
   show kE (os++(oS os ln lf i ns us d').1);have ob:∀f,(∀n dd,f.lookup n=some dd->Vd os dd)->kE (os++[.ob i d' f]):=fun f hf=>h.add ⟨⟨⟨_,_,_,_,hi⟩,hf⟩,Jr _,fun _ z=>nomatch z⟩;unfold oS;cases hf:nh os (dk os "start" ns) with
   | no=>
    show kE (os++(if(if decide (9∈ns) then 1 else 0) < us.length then(([.ob i d' (eB (decide (9∈ns)))]:List Th),ln,lf,kF) else([.ob i d' (fU us (eB (decide (9∈ns))))],ln,lf,eE (aQ os.length))).1);by_cases hc:(if decide (9∈ns) then 1 else 0) < us.length
    ·rw[IZ hc];exact ob _ fun n dd e=>jA e
    ·rw[IY hc];exact ob _ fun n dd e=>wt hu e
   | val d=>exact ob _ fun n dd e=>jA e
   | iP t=>
    show kE (os++[.ob i d' (eB (decide (9∈ns))),.mt t os.length]);have h1:=ob (eB (decide (9∈ns))) fun n dd e=>jA e;have h2:kE (os++[.ob i d' (eB (decide (9∈ns)))]++[.mt t os.length]):=h1.add ⟨⟨?_,by rw[IJ];show _ < _+1;omega⟩,Jr _,fun _ z=>nomatch z⟩
    ·rw[List.append_assoc] at h2;exact h2
    ·cases e3:dk os "start" ns with
     | none=>rw[e3] at hf;cases hf
     | some d3=>
      rw[e3] at hf;have hf:(match ft os d3 with | some (.fn _)=>FR.iP (lM d3) | _=>.val d3)=.iP t:=hf;split at hf
      ·rename_i g hg;cases hf;obtain⟨j,rfl,hj⟩:=jr (jP h.wf e3) hg;exact⟨g,cN hj⟩
      ·cases hf
  | kL n=>
   show kE (os++(ie os ln lf n us).1);unfold ie;split
   ·split<;>exact h0
   ·split
    ·split<;>exact h0
    ·split
     ·split<;>exact h0
     ·split
      ·split
       ·split
        ·exact h.add ⟨trivial,Jr _,fun _ z=>nomatch z⟩
        ·exact h0
       ·exact h0
      ·split
       ·unfold AR;split
        ·split
         ·split
          ·exact h0
          ·exact h.add ⟨trivial,Jr _,fun _ z=>nomatch z⟩
         ·exact h0
        ·exact h0
       ·exact h0
  | _=>exact h0
theorem uA (os ln lf k b us d') (fr:FR):(AB os ln lf k b us d' fr).1.length<=2:=by
 cases fr with
 | no=>
  show(if(if b then 1 else 0) < us.length then(([.ob k d' (eB b)]:List Th),ln,lf,kF) else([.ob k d' (fU us (eB b))],ln,lf,eE (aQ os.length))).1.length<=2;by_cases hc:(if b then 1 else 0) < us.length
  ·rw[IZ hc];exact Nat.le_succ 1
  ·rw[IY hc];exact Nat.le_succ 1
 | val d=>exact Nat.le_succ 1
 | iP t=>exact IW 2
abbrev Hh:Stmt:=cj 76
def hZ (c:cF) (S:List Addr) (H H':Hp):Prop:=∀p o,H p=some o->p∉S->(∀dx fs,o≠.ins c.Gr dx fs)->H' p=some o
def Sx (wp:Wp) (T:Addr):List Addr:=[wp.l,wp.n,wp.f,T]
theorem hZ.trans {c S H H' H''}(a:hZ c S H H') (b:hZ c S H' H''):hZ c S H H'':=fun p o e h1 h2=>b p o (a p o e h1 h2) h1 h2
theorem au.eZ {c S H H'}(s:au H H'):hZ c S H H':=fun p o e _ _=>s p o e
theorem bC.eZ {c S l H H'}(s:bC l H H') (m:l∈S):hZ c S H H':=fun p o e h _=>s p o (fun y=>h (y▸m)) e
theorem jE.eZ {c wp T H H'}(s:jE c wp H H'):hZ c (Sx wp T) H H':=fun p o e h g=>s p o e (fun y=>h (by rw[y];exact II)) (fun y=>h (by rw[y];exact IH _ II)) (fun y=>h (by rw[y];exact IH _ (IH _ II))) g
theorem Sx.l {wp T}:wp.l∈Sx wp T:=II
theorem Sx.n {wp T}:wp.n∈Sx wp T:=IH _ II
theorem Sx.f {wp T}:wp.f∈Sx wp T:=IH _ (IH _ II)
theorem Sx.t {wp T}:T∈Sx wp T:=IH _ (IH _ (IH _ II))
structure gH (K:Fg06) (c:cF) (H:Hp) (wp:Wp) (T:Addr) (ps:List Addr) (os:List Th) (ln:List Str) (lf:List Int) (rs:List Rw) (WH:List V):Prop where
 w:cG K c H wp ps os eS ln lf
 o:kE os
 g:∀j,j < 8->os[j]?=some (.kL (gfN.getD j ""))
 k:∀j,j < 12->∃d,os[8+j]?=some (.kd (rj j) (iX j) d [])
 t:H T=some (.lst WH)
 r:cV K H os (Sx wp T) rs WH
 n1:wp.l≠T
 n2:wp.n≠T
 n3:wp.f≠T
section
variable {K:Fg06}{c:cF}{H H':Hp}{wp:Wp}{T:Addr}{ps JK:List Addr}{os JI:List Th}{ln Kn:List Str}{lf J9:List Int}{rs:List Rw}{WH:List V}
theorem gH.step (h:gH K c H wp T ps os ln lf rs WH) (s:jE c wp H H') (w':cG K c H' wp JK JI eS Kn J9) (o':kE JI) (ko:fT os JI):gH K c H' wp T JK JI Kn J9 rs WH:=
 ⟨w',o',fun j hj=>ko.o _ _ (h.g j hj) (fun _ _ _ z=>nomatch z),fun j hj=>(h.k j hj).imp fun d e=>ko.o _ _ e (fun _ _ _ z=>nomatch z),s T _ h.t (W3 h.n1) (W3 h.n2) (W3 h.n3) (fun _ _ z=>nomatch z),h.r.keep h.o.wf (s.pG h.w Sx.l Sx.n Sx.f) ko,h.n1,h.n2,h.n3⟩
theorem gH.same (h:gH K c H wp T ps os ln lf rs WH) (s:au H H'):gH K c H' wp T ps os ln lf rs WH:=h.step (au.chg s) (h.w.same s) h.o (fT.refl _)
theorem gH.fresh (h:gH K c H wp T ps os ln lf rs WH) {a}(e:H a=none):a∉Sx wp T:=fun m=>by
 unfold Sx at m;simp only[List.mem_cons,List.not_mem_nil,or_false] at m;rcases m with rfl | rfl | rfl | rfl
 ·rw[h.w.t] at e;cases e
 ·rw[h.w.hn] at e;cases e
 ·rw[h.w.hf] at e;cases e
 ·rw[h.t] at e;cases e
theorem gH.push (h:gH K c H wp T ps os ln lf rs WH) {a r}(hr:gp K H os (Sx wp T) a r) (ha:a∉Sx wp T):gH K c (WX H T (.lst (WH++[.ref a]))) wp T ps os ln lf (rs++[r]) (WH++[.ref a]):=by
 have k:qG (Sx wp T) H (WX H T (.lst (WH++[.ref a]))):=qG.put Sx.t h.t;exact⟨h.w.lst h.t h.n1 h.n2 h.n3,h.o,h.g,h.k,ao,(h.r.snoc hr ha).keep h.o.wf k (fT.refl _),h.n1,h.n2,h.n3⟩
end
def EqC (K:Fg06) (H:Hp) (x y:V):Prop:=(∃d,At K H d x/\At K H d y/\dep d<=20)\/∃a b us ws ds,x=.ref a/\y=.ref b/\bf K H a us/\bf K H b ws/\az K H ds us/\az K H ds ws/\bM ds<=20
def Fc (K:Fg06):R2:=fun x y H Q=>∃(p q:Addr) (xs ys:List V),x=.ref p/\y=.ref q/\fh K H p xs/\fh K H q ys/\xs.length=ys.length/\(∀(j:Nat) (u w:V),xs[j]?=some u->ys[j]?=some w->EqC K H u w)/\Q (.bl true) H
theorem Ck {X k}(hr:dY k X.A):gQ X (compareOp .Eq) (Fc X.K):=by
 intro WG s σ H x y v u Q I rx ry h;obtain⟨p,q,xs,ys,rfl,rfl,hp,hq,hl,hc,hQ⟩:=h;cases rx;cases ry;obtain⟨WJ,r1,p1,z1⟩:=I.tuple hp;obtain⟨WT,r2,p2,z2⟩:=I.tuple hq;have hu:=hr.units;have l1:=r1.length;have l2:=r2.length;have he:∀j (k1:j < WJ.toArray.size) (k2:j < WT.toArray.size),SeqAt.EqAt X.A.in1 s WJ.toArray[j] WT.toArray[j] true:=fun j k1 k2=>by
  rw[W4] at k1 k2;have e1:xs[j]?=some (xs[j]'(by omega)):=IM _;have e2:ys[j]?=some (ys[j]'(by omega)):=IM _;obtain⟨u1,g1,Sw⟩:=r1.get e1;obtain⟨u2,g2,Sv⟩:=r2.get e2;have f1:WJ.toArray[j]=u1:=by
   have:=IM k1;rw[g1] at this
   simpa using(Option.some.inj this).symm
  have f2:WT.toArray[j]=u2:=by
   have:=IM k2;rw[g2] at this
   simpa using(Option.some.inj this).symm
  rw[f1,f2];rcases hc j _ _ e1 e2 with ⟨d,hx,hy,hd⟩ | ⟨a,b,us,ws,ds,ex,ey,sa,sb,aa,ab,hd⟩
  ·have:=qr I (dep d) d d X.A.in1 _ _ u1 u2 (IW _) Sw Sv hx hy (by show X.A.units+1+_ < _;omega);rw[bo] at this;exact this
  ·rw[ex] at Sw;rw[ey] at Sv;cases Sw;cases Sv;by_cases RT:a=b
   ·subst RT;exact SeqAt.EqAt.same _
   ·obtain⟨i1,s1,t1,_⟩:=I.list sa;obtain⟨i2,s2,t2,_⟩:=I.list sb;have m1:i1.toArray.size=ds.length:=by rw[W4,<-s1.length];exact aa.len
    have m2:i2.toArray.size=ds.length:=by rw[W4,<-s2.length];exact ab.len
    have:=SeqAt.EqAt.of_refs RT (SeqAt.RcAt.lists (A:=X.A.in1) (e:=fun j=>bP (ds.getD j .bj) (ds.getD j .bj)) t1.isList t2.isList (by omega) (by show X.A.units+1 < _;omega) (jz I (A:=X.A.in1.in1) (n:=bM ds) s1 s2 aa ab (IW _) (by show X.A.units+1+1+bM ds < cLine;omega)));rw[List.all_eq_true.mpr fun _ _=>bo _] at this;exact this
 refine SeqAt.RcAt.tuples (e:=fun _=>true) p1 p2 (by omega) he _ _ _ _ (qm I hQ ?_);rw[W4,W4,<-l1,<-l2,hl];simp
theorem g9 {n}:∀{ds},(∀d∈ds,dep d<=n)->bM ds<=n
 | [],_=>by rw[bM];exact Jr _
 | d::ds,h=>by
  rw[bM];exact Nat.max_le.mpr ⟨h d II,g9 fun e he=>h e (IH _ he)⟩
theorem qu (i):dep (ic i)<=1:=by
 unfold ic;rw[GS.dep,bM,bM,bM,cy,fP];exact IW _
section
variable {P:Program}{w:World}{K:Fg06}{mg:Str->Option Value}{base:Heap}{f:Addr}{fd:FuncData}{c:cF}
inductive Bc (K:Fg06) (c:cF) (vs:List V) (H:Hp) (Q:VK) (E:XK):Prop
 | mk wp T ps os ln lf rs WH n nm:vs=[.ref wp.W,.ref T,.int n,.str nm]->gH K c H wp T ps os ln lf rs WH->os.length<=800->nm.length<=100->WH.length<=100->(∀H' JK g a,hZ c (Sx wp T) H H'->gH K c H' wp T JK (os++[.fn g]) ln lf (rs++[.fn os.length]) (WH++[.ref a])->Q (.bl true) H')->Bc K c vs H Q E
theorem zi:aS ["_law_world","_law_there","_law_n","_law_name","_law_params","_law_defaults","_law_value"] ["_law_world","_law_there","_law_n","_law_name"] (aw Hh):=fE
theorem Fw (g:Glb9 mg) (F:eg K "_law_function" "_law_function" Hh f fd) (dF:Def P w K mg base "function" ["world","name","params","defaults","code","around","gives"] 3 (xc K c)) (dO:Def P w K mg base "function_of" ["world","a"] 2 (xf K c)):bK P w K mg base eh 4 f fd ["_law_world","_law_there","_law_n","_law_name"] (Bc K c):=by
 refine F.fw zi fun WK A outer s H vs Q E hr h=>?_;obtain⟨wp,T,ps,os,ln,lf,rs,WH,n,nm,rfl,hS,hl,Mo,ht,q⟩:=h;refine⟨_,(ag (dD 4 zi.nd (aH bJ (pv 2) ah))
   (ag (dD 5 zi.nd (bS gw rfl g.p7 nq (cw (.mk (L2.dH (cl:=[]) (Xs:=["_law_k"]) (Nf:=[]) (js:=[]) ?k rfl (LI.out (cg rfl g.gG (cw (aH bJ (aH bN (pv 2) ah) (aH fR (pv 4) ah))))) (fun C s0 H0 fp=>LG.out (i6 0 (show(["_law_k"]:List Str).Nodup by decide +kernel))) (fun C s0 H0 fp=>d6) (fun C s0 H0 fp=>LE.out (aI (bF ak (aH fR ah (pv 0))))))))))
   (ag (dD 6 zi.nd (bX dF (bI (pv 0) (bI (pv 3) (bI (pv 4) (lV (pv 5) (aI (bF ak (pv 2))) (bB (cw ak)) (ib bL (aH bJ (aH bN (pv 2) ah) ah) ah)))))))
   (ag (bW (dZ Jo Jp Jq cp (pv 1) (cw (bB (lV ak (pv 6) (pv 4) (pv 5))))))
   (aq (aD (ib (r:=Fc K) (Ck hr) (bX dO (bF (pv 0) (pv 6))) (aI (bI (pv 3) (bI (pv 4) (lV (pv 5) (aI (bF ak (pv 2))) (bB (cw ak)) (ib bL (aH bJ (aH bN (pv 2) ah) ah) ah)))))))))))),?main⟩
 case k=>exact zV
 case main=>
  refine⟨_,rfl,_,_,rfl,rfl,cW,?_⟩;obtain⟨np,hnp⟩:∃np:Nat,n % 5=np:=⟨(n % 5).toNat,by omega⟩;have hnp5:np < 5:=by omega
  show j7 4 (V.int (n % 5)) _ _ _;rw[hnp];have RL:=Int.emod_nonneg (n / 5) (b:=(np:Int)+1) (by omega);have hm1:=Int.emod_lt_of_pos (n / 5) (b:=(np:Int)+1) (by omega);refine⟨_,rfl,_,_,rfl,rfl,⟨by decide,by decide⟩,_,rfl,_,_,rfl,rfl,_,_,rfl,rfl,(by show(0:Int) < (np:Int)+1;omega),_,rfl,by omega,by omega,[],⟨rfl,fun j i h=>by simp at h⟩,cq (vs:=[]) (tc:=gx) _ (fun i=>V.int (0+(i:Int))) (fun _=>true) (fun i v H'=>At K H' (ic (100+(0+(i:Int)))) v) (fun _ _ _ _ s z=>At.same s _ _ z) (by omega) og sY qe (fun i H2 Q' hi s2 k=>k H2 (au.refl _)) (fun i H1 D l' Q' hi _ s1 _ KI k=>?_) fun D H1 ys hD s1 Kt hP=>?_⟩
  ·refine⟨_,rfl,_,_,rfl,rfl,eX,fun tp Nt=>k _ _ (ae Nt _) ?_⟩;exact At.wo (ae Nt _ _ _ KI) _ _ (At.new Nt (aZ (av.mpr rfl) (bc.mpr rfl)))
  have KW:=(hP.mono (fun i v z=>At.same (du H1 D) _ _ z)).at
  rw[JF.mpr (fun _ _=>rfl)] at KW;have Tn:((List.range (n / 5 % ((np:Int)+1)).toNat).map fun i:Nat=>ic (100+(0+(i:Int)))).length<=10:=by rw[IU,List.length_range];omega
  have Ni:dep (.tup ((List.range (n / 5 % ((np:Int)+1)).toNat).map fun i:Nat=>ic (100+(0+(i:Int)))))<=2:=by
   rw[GS.dep];have:=g9 (n:=1) (ds:=(List.range (n / 5 % ((np:Int)+1)).toNat).map fun i:Nat=>ic (100+(0+(i:Int)))) fun d hd=>by
    obtain⟨i,_,rfl⟩:=JD.mp hd;exact qu _
   omega
  revert KW Tn Ni;generalize (List.range (n / 5 % ((np:Int)+1)).toNat).map (fun i:Nat=>ic (100+(0+(i:Int))))=df;intro KW Tn Ni;refine⟨D,ys,rfl,.inl ⟨bf.of Kt,fun t2 JS=>?_⟩⟩;have s2:au H (WX H1 t2 (.tup ys)):=s1.trans (ae JS _);have a2:At K (WX H1 t2 (.tup ys)) (.tup df) (.ref t2):=At.new JS KW;generalize WX H1 t2 (.tup ys)=H2 at s2 a2 ⊢;refine⟨_,rfl,_,rfl,_,rfl,_,rfl,_,rfl,eX,fun t3 JQ=>⟨jY,fun l4 L6=>⟨_,rfl,_,_,rfl,rfl,⟨by decide,by decide⟩,_,_,rfl,rfl,cW,rfl,?_⟩⟩⟩;have s3:=ae JQ (.tup [.str "code",.int n]);have a3:At K (WX H2 t3 (.tup [.str "code",.int n])) (.tup [.str "code",.int n]) (.ref t3):=At.new JQ (aZ (av.mpr rfl) (bc.mpr rfl));have s4:=s3.trans (ae L6 (.lst [.str "around"]));have a4:=At.same (ae L6 (.lst [.str "around"])) _ _ a3;have UU:WX (WX H2 t3 (.tup [.str "code",.int n])) l4 (.lst [.str "around"]) l4=some (.lst [.str "around"]):=ao;have UT:H l4=none:=none_of (s2.trans s3) L6;generalize WX (WX H2 t3 (.tup [.str "code",.int n])) l4 (.lst [.str "around"])=H4 at s4 a4 UU ⊢;generalize hb:decide (V.int (n / 30 % 2)=V.int 1)=b;have UA:=s2.trans s4;have Mb:=hS.same UA;refine⟨wp,ps,os,eS,ln,lf,nm,np,df,.ref t2,.ref t3,.ref l4,.bl b,rfl,Mb.w,by omega,At.same s4 _ _ a2,fun rv H5 p5 b5 w5 a5=>?_⟩;have o5:kE (os++[.fn ⟨nm,np,df,.ref t3,.ref l4,.bl b⟩]):=hS.o.add ⟨trivial,IV Mo (by decide),fun g e=>by cases e;exact⟨IV Tn (by decide),by show bM df<=2;rw[GS.dep] at Ni;omega⟩⟩;have LU:=Mb.step b5.chg w5 o5 (fT.app _ _);have VX:=(b5.chg (c:=c) (wp:=wp)).fx Mb.w;have l5:H5 l4=some (.lst [.str "around"]):=b5 _ _ (cE UT hS.w.t) UU;have c5:hZ c (Sx wp T) H H5:=(au.eZ UA).trans (b5.eZ Sx.l);have a2':=At.fx VX _ _ (At.same s4 _ _ a2);refine⟨_,rfl,.inl ⟨rfl,_,bf.of LU.t⟩,_,rfl,_,rfl,_,rfl,DS,fun a6 Pf=>⟨T,WH,.ref a6,rfl,rfl,ae Pf _ _ _ LU.t,cm (by omega),?_⟩⟩;have s6:=ae Pf (.lst [.str "function",rv,.int (np:Nat),.ref t2]);have e6:WX H5 a6 (.lst [.str "function",rv,.int (np:Nat),.ref t2]) a6=some (.lst [.str "function",rv,.int (np:Nat),.ref t2]):=ao;have KU:=LU.same s6;have Se:=At.same s6 _ _ a5;have a2'':=At.same s6 _ _ a2';have Tr:=At.same s6 _ _ (At.fx VX _ _ a4);have l6:=s6 _ _ l5;have nf6:=LU.fresh Pf;have nl4:l4≠T:=cE UT hS.t;revert s6 e6 KU Se a2'' Tr l6;generalize WX H5 a6 (.lst [.str "function",rv,.int (np:Nat),.ref t2])=H6;intro s6 e6 KU Se a2'' Tr l6;have Lk:=KU.push (a:=a6) (r:=.fn os.length) ⟨_,bD,rv,.ref t2,e6,Se,a2''⟩ nf6;have b7:bC T H6 (WX H6 T (.lst (WH++[.ref a6]))):=bC.put _ _;have R1:Fx H6 (WX H6 T (.lst (WH++[.ref a6]))):=b7.fx KU.t rfl;have l7:=b7 _ _ nl4 l6;have a7:=At.fx R1 _ _ Se;have Tp:=At.fx R1 _ _ a2'';have Tq:=At.fx R1 _ _ Tr;revert Lk b7 l7 a7 Tp Tq;clear R1;generalize WX H6 T (.lst (WH++[.ref a6]))=H7;intro Lk b7 l7 a7 Tp Tq;have c7:hZ c (Sx wp T) H H7:=(c5.trans (au.eZ s6)).trans (b7.eZ Sx.t);refine⟨_,rfl,_,rfl,wp,_,_,eS,ln,lf,rv,os.length,_,rfl,Lk.w,a7,bD,fun t8 v8 H8 s8 LD h8=>?_⟩;refine⟨_,rfl,_,rfl,_,rfl,_,rfl,eX,fun t9 K4=>⟨jY,fun UW Qy=>⟨_,rfl,_,_,rfl,rfl,⟨by decide,by decide⟩,_,_,rfl,rfl,cW,rfl,sz6,fun LX Ks=>?_⟩⟩⟩;have s9:=ae K4 (.tup [.str "code",.int n]);have J0:=s9.trans (ae Qy (.lst [.str "around"]));have JT:=J0.trans (ae Ks (.tup [.str nm,.int (np:Nat),.ref t2,.ref t9,.ref UW,.bl (decide (V.int (n / 30 % 2)=V.int 1))]));have JU:=s8.trans JT;refine⟨t8,LX,_,_,rfl,rfl,fh.of (JT _ _ LD),fh.of ao,rfl,fun j u w e1 e2=>?_,q _ _ _ a6 (c7.trans (au.eZ JU)) (Lk.same JU)⟩
  match j,e1,e2 with
  | 0,e1,e2=>cases e1;cases e2;exact .inl ⟨.str nm,av.mpr rfl,av.mpr rfl,by rw[cy];decide⟩
  | 1,e1,e2=>cases e1;cases e2;exact .inl ⟨.int (np:Nat),bc.mpr rfl,bc.mpr rfl,by rw[fP];decide⟩
  | 2,e1,e2=>cases e1;cases e2;exact .inl ⟨.tup df,At.same JT _ _ h8,At.same JU _ _ Tp,IV Ni (by decide)⟩
  | 3,e1,e2=>
   cases e1;cases e2;refine .inl ⟨.tup [.str "code",.int n],At.same JU _ _ Tq,At.same ((ae Qy _).trans (ae Ks _)) _ _ (At.new K4 (aZ (av.mpr rfl) (bc.mpr rfl))),?_⟩;rw[GS.dep,bM,bM,bM,cy,fP];decide
  | 4,e1,e2=>
   cases e1;cases e2;refine .inr ⟨l4,UW,[.str "around"],[.str "around"],[.str "around"],rfl,rfl,bf.of (JU _ _ l7),bf.of (ae Ks _ _ _ ao),az.fu (av.mpr rfl),az.fu (av.mpr rfl),?_⟩;rw[bM,bM,cy];decide
  | 5,e1,e2=>cases e1;cases e2;exact .inl ⟨.bl b,cL.mpr rfl,cL.mpr (by rw[hb]),by rw[mn];decide⟩
  | j+6,e1,e2=>cases e1
abbrev Bo:Stmt:=cj 79
abbrev Bp:Stmt:=cj 80
abbrev Hd:Stmt:=cj 82
def qo (g:sj) (us:List D):Option D:=if us.length<=g.np/\g.np - us.length<=g.df.length then some (.tup (us++g.df.drop (g.df.length - (g.np - us.length)))) else none
theorem rJ (g:sj) (i us):gf g i us=match qo g us with
  | some d=>.tup [.str "enter",aQ i,d]
  | none=>kF:=by
 unfold gf qo;by_cases h:us.length<=g.np/\g.np - us.length<=g.df.length
 ·rw[IZ h,IZ h]
 ·rw[IY h,IY h]
inductive uh (K:Fg06) (vs:List V) (H:Hp) (Q:VK) (E:XK):Prop
 | mk a y i (g:sj) us:vs=[.ref a,y]->j9 K H i g a->At K H (.tup us) y->us.length<=100->g.df.length<=100->(∀r H',au H H'->AU K H' (qo g us) r->Q r H')->uh K vs H Q E
theorem Ap:aS ["_law_one","_law_values","_law_lacking"] ["_law_one","_law_values"] (aw Bo):=fE
theorem CV (g:Glb9 mg) (F:eg K "_law_filled" "_law_filled" Bo f fd):bK P w K mg base eh 1 f fd ["_law_one","_law_values"] (uh K):=by
 refine F.fw Ap fun WK A outer s H vs Q E hr h=>?_;obtain⟨a,y,i,g1,us,rfl,⟨v1,v3,ha,h1,h3⟩,hy,hu,hd,q⟩:=h;refine⟨_,(ag (dD 2 Ap.nd (aH iL (ff K (pv 0) ah) (aJ aU rfl g.fJ cX (cw (pv 1)))))
   (ag (br (fb (L3.nN AA AA ah (pv 2) (aJ aU rfl g.fJ cX (cw (ff K (pv 0) ah))))) (aq (aD bV)) aP)
   (aq (aD (aH gK (pv 1) (bR zf (ff K (pv 0) ah) (bZ (aH iL (aJ aU rfl g.fJ cX (cw (ff K (pv 0) ah))) (pv 2))) ck)))))),?_⟩
 obtain⟨py,vy,rfl,sy,ay⟩:=aX.mp hy;have ly:=ay.len;obtain⟨p3,w3,rfl,s3,a3⟩:=aX.mp h3;have l3:=a3.len;refine⟨_,rfl,a,_,_,_,rfl,rfl,bf.of ha,aC (j:=2) rfl,_,rfl,py,vy,rfl,.inr sy,_,_,rfl,rfl,?_⟩;have qN:¬(us.length<=g1.np/\g1.np - us.length<=g1.df.length)->Q .bj H:=fun h=>q _ H (au.refl H) (by
  unfold qo;rw[IY h];exact rfl)
 refine⟨_,rfl,_,_,rfl,rfl,_,rfl,bO (fun e=>?_) (fun e=>?_)⟩
 ·have e:(0:Int)<=(g1.np:Nat) - (vy.length:Nat):=Jl e;refine⟨_,rfl,a,_,_,_,rfl,rfl,bf.of ha,aC (j:=3) rfl,p3,w3,rfl,.inr s3,_,_,rfl,rfl,_,rfl,?_⟩;by_cases e2:((g1.np:Nat) - (vy.length:Nat):Int)<=(w3.length:Nat)
  ·rw[IL e2];have hle:us.length<=g1.np/\g1.np - us.length<=g1.df.length:=⟨by omega,by omega⟩;refine aY ⟨_,rfl,_,rfl,a,_,_,_,rfl,rfl,bf.of ha,aC (j:=3) rfl,_,rfl,a,_,_,_,rfl,rfl,bf.of ha,aC (j:=3) rfl,p3,w3,rfl,.inr s3,_,rfl,_,_,rfl,rfl,_,rfl,g1.df,h3,fun r1 H1 s1 a1=>?_⟩;have ec:((w3.length:Nat):Int) - ((g1.np:Nat) - (vy.length:Nat):Int)=((g1.df.length - (g1.np - us.length):Nat):Int):=by omega
   have a1:At K H1 (.tup (cutD g1.df (some (((w3.length:Nat):Int) - ((g1.np:Nat) - (vy.length:Nat):Int))) none)) r1:=a1;rw[ec,jS (by omega)] at a1;refine⟨us,_,At.same s1 _ _ hy,a1,small (by rw[List.length_drop];omega),fun r2 H2 s2 a2=>q _ _ (s1.trans s2) ?_⟩;unfold qo;rw[IZ hle];exact a2
  ·rw[IK e2];exact bE (qN (by omega))
 ·have e:¬(0:Int)<=(g1.np:Nat) - (vy.length:Nat):=JH e;exact⟨_,rfl,bE (qN (by omega))⟩
inductive uk (K:Fg06) (vs:List V) (H:Hp) (Q:VK) (E:XK):Prop
 | mk a x y i (g:sj) d us:vs=[x,.ref a,y]->j9 K H i g a->At K H d x->dep d<=50->At K H (.tup us) y->us.length<=100->g.df.length<=100->(∀H',au H H'->Q (.bl (bP d (gf g i us))) H')->uk K vs H Q E
theorem Ar:aS ["_law_found","_law_one","_law_values","_law_due"] ["_law_found","_law_one","_law_values"] (aw Bp):=fE
theorem CZ (F:eg K "_law_entered" "_law_entered" Bp f fd) (dL:Def P w K mg base "_law_filled" ["_law_one","_law_values"] 1 (uh K)):bK P w K mg base eh 2 f fd ["_law_found","_law_one","_law_values"] (uk K):=by
 refine F.fw Ar fun WK A outer s H vs Q E hr h=>?_;obtain⟨a,x,y,i,g1,d,us,rfl,hR,hx,hd,hy,hu,Ls,q⟩:=h;refine⟨_,(ag (dD 3 Ar.nd (bX dL (bF (pv 1) (pv 2))))
   (aq (aD (bx (cR jx (pv 3) bV) (ib (r:=gU K) (dm hr) (pv 0) (aI (bF ak ak))) (ib (r:=gU K) (dm hr) (pv 0) (aI (ia ak (ff K (pv 1) ah) (pv 3)))))))),?_⟩
 refine⟨_,rfl,_,rfl,a,y,i,g1,us,rfl,hR,hy,hu,Ls,fun r H1 s1 h1=>?_⟩;rw[rJ] at q;cases hf:qo g1 us with
 | none=>
  rw[hf] at h1 q;have e:r=.bj:=h1;subst e;refine⟨_,rfl,rfl,_,rfl,bE ⟨_,rfl,eX,fun t ht=>⟨d,kF,At.same (s1.trans (ae ht _)) _ _ hx,At.new ht (aZ (av.mpr rfl) (av.mpr rfl)),by omega,q _ (s1.trans (ae ht _))⟩⟩⟩
 | some df=>
  rw[hf] at h1 q;have h1:At K H1 df r:=h1;obtain⟨l,rfl⟩:∃l,df=.tup l:=by
   unfold qo at hf;split at hf
   ·cases hf;exact⟨_,rfl⟩
   ·cases hf
  have nv:decide (r=V.bj)=false:=IK h1.jo;refine⟨_,rfl,rfl,_,rfl,?_⟩;show if decide (r=V.bj)=true then _ else _
  rw[nv];obtain⟨v1,v3,ha,Kr,hv3⟩:=hR;refine aY ⟨_,rfl,_,rfl,a,_,_,_,rfl,rfl,bf.of (s1 _ _ ha),aC (j:=1) rfl,_,rfl,wD,fun t ht=>⟨d,_,At.same (s1.trans (ae ht _)) _ _ hx,At.new ht (kJ (av.mpr rfl) (At.same s1 _ _ Kr) h1),by omega,q _ (s1.trans (ae ht _))⟩⟩
inductive A9 (K:Fg06) (c:cF) (vs:List V) (H:Hp) (Q:VK) (E:XK):Prop
 | mk wp ps os gv ln lf x d:vs=[.ref wp.W,x]->cG K c H wp ps os gv ln lf->oK os->DM os->At K H d x->Vp os d->(∀H',au H H'->Q (.str (jX os d)) H')->A9 K c vs H Q E
theorem G6:aS ["_law_world","_law_a"] ["_law_world","_law_a"] (aw Hd):=fE
theorem Dv {os d}(h:Vp os d) (e:bP d da=true):d=da:=by
 cases h with
 | th i h=>simp[da,aQ,bP,fv] at e
 | no=>rfl
 | nu i h=>simp[da,ic,bP,fv] at e
 | te x=>simp[da,DQ,bP,fv] at e
 | tr b=>simp[da,yV,bP,fv] at e
theorem Fp (g:Glb9 mg) (F:eg K "_law_text" "_law_text" Hd f fd) (dX:Def P w K mg base "text_of" ["world","a"] 3 (mv K c)):bK P w K mg base eh 4 f fd ["_law_world","_law_a"] (A9 K c):=by
 refine F.fw G6 fun WK A outer s H vs Q E hr h=>?_;obtain⟨wp,ps,os,gv,ln,lf,x,d,rfl,hw,hf,hn,hx,hv,q⟩:=h;refine⟨_,(aq (aD (bx (cR (r:=gU K) (dm hr) (pv 1) (aI (cw ak))) ak (bx (cR bL (bg (pv 1)) ak) (bX dX (bF (pv 0) (pv 1))) (bS mq rfl g.zH uW (cw (bg (pv 1)))))))),?_⟩;refine⟨_,rfl,jY,fun t ht=>⟨d,da,At.same (ae ht _) _ _ hx,At.new ht (az.fu (av.mpr rfl)),IV hv.vd.2 (by decide),_,rfl,?_⟩⟩;have s1:=ae ht (.tup [.str "none"]);have q1:=q _ s1;have w1:=hw.same s1;have JN:=At.same s1 _ _ hx;revert q1 w1 JN;clear s1;generalize WX H t (.tup [.str "none"])=H1;intro q1 w1 JN;have pl:(∃i,d=aQ i/\i < os.length)\/d=da\/∃k u dv,d=.tup [.str k,dv]/\k≠"thing"/\bP d da=false/\(∀y,At K H1 dv y->y=u)/\((∃i:Int,u=.int i/\i.natAbs.log2 < 1920)\/(∃y,u=.str y)\/∃b,u=.bl b)/\jX os d=DT u:=by
  have nn:d≠da->bP d da=false:=fun h=>by
   cases e:bP d da with
   | false=>rfl
   | true=>exact Xc (Dv hv e) h
  cases hv with
  | th i h=>exact .inl ⟨i,rfl,h⟩
  | no=>exact .inr (.inl rfl)
  | nu i h=>exact .inr (.inr ⟨"number",.int i,.int i,rfl,by decide +kernel,nn (fun z=>nomatch z),fun y h=>bc.mp h,.inl ⟨i,rfl,h⟩,sk os i⟩)
  | te y=>exact .inr (.inr ⟨"text",.str y,.str y,rfl,by decide +kernel,nn (fun z=>nomatch z),fun y h=>av.mp h,.inr (.inl ⟨y,rfl⟩),rfl⟩)
  | tr b=>exact .inr (.inr ⟨"truth",.bl b,.bl b,rfl,by decide +kernel,nn (fun z=>nomatch z),fun y h=>cL.mp h,.inr (.inr ⟨b,rfl⟩),rfl⟩)
 rcases pl with ⟨i,rfl,hi⟩ | rfl | ⟨k,u,dv,rfl,h1,h2,hu,hk,e⟩
 ·have e:bP (aQ i) da=false:=by
   cases e:bP (aQ i) da with
   | false=>rfl
   | true=>simp[da,aQ,bP,fv] at e
  rw[e];refine aY ⟨_,rfl,0,_,_,rfl,JN,rfl,fun yk Ln=>?_⟩;rw[av.mp Ln];exact⟨rfl,_,rfl,bE ⟨_,rfl,_,rfl,wp,ps,os,gv,ln,lf,x,aQ i,rfl,w1,hf,hn,JN,.th i hi,q1⟩⟩
 ·rw[bo];exact bE q1
 ·rw[h2];refine aY ⟨_,rfl,0,_,_,rfl,JN,rfl,fun yk Ln=>?_⟩;rw[av.mp Ln];refine⟨rfl,_,rfl,?_⟩;rw[gg h1];refine aY ⟨_,rfl,1,_,_,rfl,JN,rfl,fun y1 KN=>?_⟩;rw[hu y1 KN];rw[e] at q1;exact⟨_,rfl,hk,q1⟩
abbrev Hq:Stmt:=cj 84
theorem Gm:bootBuiltins "max"=some (.builtin "max"):=by decide +kernel
def q0 (K:Fg06):R2:=fun x y H Q=>∃d e,At K H d x/\At K H e y/\dep d<=60/\Q (.bl (!bP d e)) H
theorem kf {X k}(hr:dY k X.A):gQ X (compareOp .NotEq) (q0 X.K):=Cj hr
theorem Dx (i):dep (.tup [.str "go",aQ i,da])<=2:=by
 rw[GS.dep,bM,bM,bM,bM,hJ,cy];have:dep da<=1:=by decide +kernel
 omega
theorem oB {d n}(h:dep d<=n):dep (eE d)<=n+1:=by
 unfold eE;rw[GS.dep,bM,bM,bM,cy];omega
inductive Bg (K:Fg06) (c:cF) (vs:List V) (H:Hp) (Q:VK) (E:XK):Prop
 | mk wp ps os gv ln lf x i m:vs=[.ref wp.W,x,.int m]->cG K c H wp ps os gv ln lf->kE os->At K H (aQ i) x->os[i]?=some (.gr "new" m 0)->m<=10000->(∀H' st h,jE c wp H H'->cG K c H' wp ps (os.set i (.gr st m h)) gv ln lf->Q (.bl true) H')->Bg K c vs H Q E
theorem EV:aS ["_law_world","_law_g","_law_end","_law_k"] ["_law_world","_law_g","_law_end"] (aw Hq):=fE
theorem FH (g:Glb9 mg) (F:eg K "_law_counted" "_law_counted" Hq f fd) (dI:Def P w K mg base "is_giver" ["world","a"] 2 (qV K c false false false false false true false)) (dS:Def P w K mg base "state_of" ["world","g"] 2 (ue K c)) (dX:Def P w K mg base "text_of" ["world","a"] 3 (mv K c)) (dA:Def P w K mg base "asked" ["world","g"] 4 (xr K c)) (dC:Def P w K mg base "counted_on" ["world","g"] 3 (xm K c)):bK P w K mg base eh 5 f fd ["_law_world","_law_g","_law_end"] (Bg K c):=by
 refine F.fw EV fun WK A outer s H vs Q E hr h=>?_;obtain⟨wp,ps,os,gv,ln,lf,x,i,m,rfl,hw,hf,hx,ho,hm,q⟩:=h;refine⟨_,(ag (br (LW.pt (eY (fb (bT (bX dI (bF (pv 0) (pv 1))))) (eY (cR j6 (bX dS (bF (pv 0) (pv 1))) ak) (cY (cR j6 (bX dX (bF (pv 0) (pv 1))) ak))))) (aq cH) aP)
   (ag (d9 Ji rfl (cg rfl g.gG (cw (aJ (vY rfl) rfl g.Ia Gk (bF (aJ (vZ rfl) rfl g.Ib Gm (bF (pv 2) ah)) ah)))) (i6 3 EV.nd) (aq (br (LW.pt (eY (cR (r:=q0 K) (kf hr) (bX dA (bF (pv 0) (pv 1))) (aI (ia ak (pv 1) (aI (cw ak))))) (cY (cR (r:=q0 K) (kf hr) (bX dC (bF (pv 0) (pv 1))) (aI (bF ak (aI (bF ak (pv 3))))))))) (aq cH) aP)))
   (ag (br (cR gy (pv 2) ah) (aq (aD (ib bL (bX dS (bF (pv 0) (pv 1))) ak))) aP)
   (aq (aD (cT (ib (r:=gU K) (dm hr) (bX dC (bF (pv 0) (pv 1))) (aI (cw ak))) (cT (ib bL (bX dS (bF (pv 0) (pv 1))) ak) (cZ (ib (r:=gU K) (dm hr) (bX dA (bF (pv 0) (pv 1))) (aI (cw ak))))))))))),?_⟩
 have hi:=aE ho;refine⟨_,rfl,_,rfl,wp,ps,os,gv,ln,lf,x,aQ i,rfl,hw,hx,Vd.th hi,_,rfl,?_⟩;rw[bw,ho];refine aY ⟨_,rfl,_,rfl,wp,ps,os,gv,ln,lf,x,i,"new",m,0,rfl,hw,hx,ho,rfl,_,rfl,?_⟩;rw[IL rfl];refine aY ⟨_,rfl,_,rfl,wp,ps,os,gv,ln,lf,x,aQ i,rfl,hw,hf.wf,hf.nb,hx,.th i hi,rfl,_,rfl,?_⟩;have et:jX os (aQ i)="giver count":=by rw[kb ho];show jn "giver" "count"="giver count";decide +kernel
 rw[et,IL rfl];refine aY ?_;obtain⟨N,hN⟩:∃N:Nat,(if(5:Int) < (if(0:Int) > m then 0 else m) then 5 else(if(0:Int) > m then 0 else m))=N:=by
  refine⟨Int.toNat (if(5:Int) < (if(0:Int) > m then 0 else m) then 5 else(if(0:Int) > m then 0 else m)),?_⟩;split<;>split<;>omega
 have Tx:N<=5/\(m<=4->m<=N/\((N:Int)<=m\/N=0))/\(4 < m->N=5)/\∀k:Nat,k < N->(k:Int) < m:=by
  revert hN;split<;>split<;>intro hN<;>refine⟨by omega,fun _=>⟨by omega,by omega⟩,fun _=>by omega,fun k hk=>by omega⟩
 have e0:os.set i (.gr "new" m ((0:Nat):Int))=os:=by
  refine List.ext_getElem? fun j=>?_;by_cases hj:j=i
  ·subst hj;rw[IT hi,ho];rfl
  ·rw[IQ (W3 hj)]
 refine⟨_,rfl,_,_,rfl,_,_,rfl,N,by rw[<-hN],by omega,by omega,iZ (lo:=0) (n:=N) (fun k σ H'=>(∃o3,σ=[some (.ref wp.W),some x,some (.int m),o3])/\jE c wp H H'/\∃st:Str,(st="new"\/st="waits")/\(0 < k->st="waits")/\cG K c H' wp ps (os.set i (.gr st m ((k:Nat):Int))) gv ln lf) ⟨⟨_,rfl⟩,au.chg (au.refl H),"new",.inl rfl,fun h=>Xc h (W9 _),by rw[e0];exact hw⟩ ?t ?s⟩
 case t=>
  rintro k σ H1 hk ⟨⟨o3,rfl⟩,c1,st,KO,RO,w1⟩;have JN:=At.fx (c1.fx hw) _ _ hx;have hg:(os.set i (.gr st m ((k:Nat):Int)))[i]?=some (.gr st m ((k:Nat):Int)):=IT hi;have ng:st≠"goes":=by rcases KO with rfl | rfl<;>decide +kernel
  have no:st≠"over":=by rcases KO with rfl | rfl<;>decide +kernel
  refine⟨_,rfl,_,rfl,wp,ps,_,gv,ln,lf,x,i,st,m,_,rfl,w1,JN,hg,ng,fun r2 H2 s2 a2=>?_⟩;rw[IY no] at a2;have w2:=w1.same s2;have Kx:=At.same s2 _ _ JN;have c2:jE c wp H H2:=c1.trans (au.chg s2);refine⟨_,rfl,jY,fun t3 JQ=>⟨wD,fun t4 JV=>?_⟩⟩;have s3:=ae JQ (.tup [.str "none"]);have s4:=s3.trans (ae JV (.tup [.str "go",x,.ref t3]));refine⟨_,.tup [.str "go",aQ i,da],At.same s4 _ _ a2,At.new JV (kJ (av.mpr rfl) (At.same s3 _ _ Kx) (At.new JQ (az.fu (av.mpr rfl)))),IV (Dx i) (by decide),_,rfl,?_⟩;rw[bo];have w4:=w2.same s4;have SX:=At.same s4 _ _ Kx;have c4:jE c wp H (WX (WX H2 t3 (.tup [.str "none"])) t4 (.tup [.str "go",x,.ref t3])):=c2.trans (au.chg s4);revert w4 SX c4;clear s4 s3;generalize WX (WX H2 t3 (.tup [.str "none"])) t4 (.tup [.str "go",x,.ref t3])=H4;intro w4 SX c4;refine aY ⟨_,rfl,_,rfl,wp,ps,_,gv,ln,lf,x,i,st,m,_,rfl,w4,SX,hg,fun h=>Xc (Tx.2.2.2 k hk) (by omega),fun _ r5 H5 c5 w5 a5=>?_⟩;rw[List.set_set] at w5;refine⟨_,rfl,eX,fun t6 Ky=>⟨eX,fun t7 LF=>?_⟩⟩;have s6:=ae Ky (.tup [.str "number",.int (0+((k:Nat):Int))]);have s7:=s6.trans (ae LF (.tup [.str "value",.ref t6]));refine⟨_,eE (ic (0+((k:Nat):Int))),At.same s7 _ _ a5,At.new LF (aZ (av.mpr rfl) (At.new Ky (aZ (av.mpr rfl) (bc.mpr rfl)))),IV (oB (qu _)) (by decide),_,rfl,?_⟩;have ek:bP (eE (ic ((k:Nat):Int))) (eE (ic (0+((k:Nat):Int))))=true:=by rw[Int.zero_add,bo]
  rw[ek];refine aY ⟨⟨_,rfl⟩,(c4.trans c5).trans (au.chg s7),"waits",.inr rfl,fun _=>rfl,w5.same s7⟩
 case s=>
  rintro σ H1 ⟨⟨o3,rfl⟩,c1,st,KO,RO,w1⟩;have JN:=At.fx (c1.fx hw) _ _ hx;have hg:(os.set i (.gr st m ((N:Nat):Int)))[i]?=some (.gr st m ((N:Nat):Int)):=IT hi;refine⟨_,rfl,_,_,rfl,rfl,_,rfl,bO (fun e=>?_) (fun e=>?_)⟩
  ·have e:(4:Int) < m:=Jl e;have es:=RO (by have:=Tx.2.2.1 e;omega);subst es;exact⟨_,rfl,_,rfl,wp,ps,_,gv,ln,lf,x,i,"waits",m,_,rfl,w1,JN,hg,rfl,q _ _ _ c1 w1⟩
  ·have e:¬(4:Int) < m:=JH e;refine⟨_,rfl,_,rfl,wp,ps,_,gv,ln,lf,x,i,st,m,_,rfl,w1,JN,hg,fun _ r5 H5 c5 w5 a5=>?_,fun h=>Xc (Tx.2.1 (by omega)).1 (by omega)⟩;rw[List.set_set] at w5;have SW:=At.fx (c5.fx w1) _ _ JN;have Vs:(os.set i (.gr "over" m ((N:Nat):Int)))[i]?=some (.gr "over" m ((N:Nat):Int)):=IT hi;refine⟨jY,fun t6 Ky=>?_⟩;have s6:=ae Ky (.tup [.str "over"]);refine⟨_,.tup [.str "over"],At.same s6 _ _ a5,At.new Ky (az.fu (av.mpr rfl)),by decide +kernel,_,rfl,?_⟩;rw[bo];have w6:=w5.same s6;have Rx:=At.same s6 _ _ SW;have c6:jE c wp H (WX H5 t6 (.tup [.str "over"])):=(c1.trans c5).trans (au.chg s6);revert w6 Rx c6;clear s6;generalize WX H5 t6 (.tup [.str "over"])=H6;intro w6 Rx c6;refine bE ⟨_,rfl,_,rfl,wp,ps,_,gv,ln,lf,x,i,"over",m,_,rfl,w6,Rx,Vs,rfl,_,rfl,?_⟩;rw[IL rfl];refine bE ⟨_,rfl,_,rfl,wp,ps,_,gv,ln,lf,x,i,"over",m,_,rfl,w6,Rx,Vs,by decide +kernel,fun r7 H7 s7 a7=>⟨jY,fun t8 LD=>?_⟩⟩;rw[IZ rfl] at a7;have s8:=ae LD (.tup [.str "over"]);refine⟨_,.tup [.str "over"],At.same s8 _ _ a7,At.new LD (az.fu (av.mpr rfl)),by decide +kernel,?_⟩;rw[bo];exact q _ _ _ (c6.trans (au.chg (s7.trans s8))) (w6.same (s7.trans s8))
abbrev Hi:Stmt:=cj 77
def jj (os:List Th) (B:Nat):Prop:=∀(i:Nat) nm ns d fs,os[i]?=some (.kd nm ns d fs)->(∃r,ns=i::r)/\ns.Nodup/\(∀n∈ns,n<=i)/\ns.length<=B/\fs.lookup ("word":Str)=none
theorem jj.mono {os}{B B':Nat}(h:jj os B) (l:B<=B'):jj os B':=fun i nm ns d fs e=>let ⟨a,b,c,d,z⟩:=h i nm ns d fs e;⟨a,b,c,IV d l,z⟩
theorem jj.more {os}{B e:Nat} {nm Lc}{ns:List Nat} {d d' fs JM}(h:jj os B) (he:os[e]?=some (.kd Lc ns d' JM)) (hw:fs.lookup ("word":Str)=none):jj (os++[.kd nm (os.length::ns) d fs]) (B+1):=fun i KJ LY d1 KY e1=>by
 rcases getElem?_snoc e1 with u | ⟨u1,u2⟩
 ·exact h.mono (Nat.le_succ B) i KJ LY d1 KY u
 ·cases u2;subst u1;obtain⟨_,h2,h3,h4,_⟩:=h e _ _ _ _ he;have hl:=aE he;refine⟨⟨_,rfl⟩,List.nodup_cons.mpr ⟨fun z=>?_,h2⟩,fun n hn=>?_,by rw[Jf];omega,hw⟩
  ·have:=h3 _ z;omega
  ·rcases Jv.mp hn with rfl | hn
   ·exact IW _
   ·have:=h3 n hn;omega
theorem ou {os n}:∀{ns:List Nat},(∀m∈ns,sS os[m]?=[])->dk os n ns=none
 | [],_=>rfl
 | m::ns,h=>by
  rw[dq,h m II];exact ou fun k hk=>h k (IH _ hk)
def IC (K:Fg06) (H:Hp) (os:List Th) (rs:List Rw) (S:List Addr) (ve vu:V):Prop:=∃e nm ns d fs,os[e]?=some (.kd nm ns d fs)/\At K H (aQ e) ve/\(∃NS,.cl e NS∈rs)/\((vu=.bj/\dk os "start" ns=none)\/∃a st,vu=.ref a/\gp K H os S a (.cl e st)/\a∉S/\.cl e st∈rs)
def Iy (rs:List Rw) (st:Option D):Prop:=∀s,st=some s->(∃r∈rs,s=bU r)\/∃i,.cl i (some s)∈rs
def ID (os:List Th) (rs:List Rw) (ns:List Nat):Prop:=∃e nm r d fs st,ns=os.length::r/\os[e]?=some (.kd nm r d fs)/\.cl e st∈rs
def jZ (r:Rw):Bool:=decide (gF r="class")
theorem qh {r}(h:jZ r=true):∃i st,r=.cl i st:=by
 have h:=Jl h;cases r with
 | cl i st=>exact⟨i,st,rfl⟩
 | gv i w=>exact Xc (show("given":Str)="class" from h) (by decide +kernel)
 | fn i=>exact Xc (show("function":Str)="class" from h) (by decide +kernel)
 | ob i=>exact Xc (show("object":Str)="class" from h) (by decide +kernel)
 | mt i=>exact Xc (show("method":Str)="class" from h) (by decide +kernel)
 | vw i=>exact Xc (show("view":Str)="class" from h) (by decide +kernel)
 | pl d=>exact Xc (show("plain":Str)="class" from h) (by decide +kernel)
inductive sUp (K:Fg06) (c:cF) (D0:W0) (σ:L2.St) (H:Hp):Prop
 | mk wp T ps os ln (lf:List Int) rs WH (n:Int) nm ve lk WI:σ=[some (.ref wp.W),some (.ref T),some (.int n),some (.str nm),some ve,some (.ref lk),some .bj,none,none,none,none]->gH K c H wp T ps os ln lf rs WH->IC K H os rs (Sx wp T) ve .bj->H lk=some (.lst WI)->cV K H os (Sx wp T) (rs.filter jZ) WI->WI.length<=100->(∀NN vu H',au H H'->IC K H' os rs (Sx wp T) NN vu->D0.nx [some (.ref wp.W),some (.ref T),some (.int n),some (.str nm),some NN,some (.ref lk),some vu,none,none,none,none] H')->sUp K c D0 σ H
inductive tSt (K:Fg06) (c:cF) (σ:L2.St) (H:Hp) (Q:VK):Prop
 | mk wp T ps os ln (lf:List Int) rs WH (n:Int):σ[1]?=some (some (.ref T))->σ[2]?=some (some (.int n))->gH K c H wp T ps os ln lf rs WH->rs≠[]->(∀own v,AU K H own v->(∀d,own=some d->Vp os d/\∃r∈rs,d=bU r)->Q v H)->tSt K c σ H Q
def Bk (H H':Hp) (dct:Addr) (own:Option D) (vu v8 Lx:V):Prop:=(∃d,own=some d/\Lx=v8/\H'=WX H dct (.dK (WZ [] (.inr "start":Key) v8)))\/(own=none/\H'=H/\((vu=.bj/\Lx=.bj)\/∃a x0 x1 tl,vu=.ref a/\H a=some (.lst (x0::x1::Lx::tl))))
inductive sB (K:Fg06) (D0:W0) (σ:L2.St) (H:Hp):Prop
 | mk s0 s1 s2 s3 s4 s5 vu v8 dct own:σ=[s0,s1,s2,s3,s4,s5,some vu,some (.ref dct),some v8,none,none]->H dct=some (.dK [])->AU K H own v8->((∀d,own=some d->∃r,d=.tup r))->((vu=.bj\/∃a x0 x1 x2 tl,vu=.ref a/\H a=some (.lst (x0::x1::x2::tl))))->(∀H' Lx,Bk H H' dct own vu v8 Lx->D0.nx [s0,s1,s2,s3,s4,s5,some vu,some (.ref dct),some Lx,none,none] H')->sB K D0 σ H
def L4:List Str:=["Thing","Fault","KindFault","Thing"]
theorem Gy:∀k,k < 4->(L4.getD k "",8+[0,1,3,0].getD k 0)∈eS/\[0,1,3,0].getD k 0 < 12/\[0,1,3,0].getD k 0∈[0,1,3]:=by decide +kernel
theorem gJ {a:Int}{n:Nat}(h:0 < n):∃k:Nat,a % (n:Int)=k/\k < n:=by
 have h0:=Int.emod_nonneg a (b:=(n:Int)) (by omega);have h1:=Int.emod_lt_of_pos a (b:=(n:Int)) (by omega);exact⟨(a % (n:Int)).toNat,by omega,by omega⟩
inductive Bd (K:Fg06) (c:cF) (vs:List V) (H:Hp) (Q:VK) (E:XK):Prop
 | mk wp T ps os ln (lf:List Int) rs WH (B:Nat) (n:Int) nm:vs=[.ref wp.W,.ref T,.int n,.str nm]->gH K c H wp T ps os ln lf rs WH->jj os B->B<=38->os.length<=800->nm.length<=100->WH.length<=100->rs≠[]->(∀j∈[0,1,3],∃st,.cl (8+j) st∈rs)->(∀H' JK ns d fs st a,hZ c (Sx wp T) H H'->gH K c H' wp T JK (os++[.kd nm ns d fs]) ln lf (rs++[.cl os.length st]) (WH++[.ref a])->jj (os++[.kd nm ns d fs]) (B+1)->Iy rs st->ID os rs ns->Q (.bl true) H')->Bd K c vs H Q E
theorem nJ:aS ["_law_world","_law_there","_law_n","_law_name","_law_elder","_law_kinds","_law_up","_law_fields","_law_start","_law_order","_law_value"] ["_law_world","_law_there","_law_n","_law_name"] (aw Hi):=fE
theorem Fy (g:Glb9 mg) (F:eg K "_law_class" "_law_class" Hi f fd) (dK:Def P w K mg base "known" ["world","name"] 1 (qU K c)) (dO:Def P w K mg base "order_of" ["world","elders"] 5 (qS K c)) (dC:Def P w K mg base "class_of" ["world","name","order","fields"] 4 (xp K c)):bK P w K mg base eh 6 f fd ["_law_world","_law_there","_law_n","_law_name"] (Bd K c):=by
 refine F.fw nJ fun WK A outer s H vs Q E hr h=>?_;obtain⟨wp,T,ps,os,ln,lf,rs,WH,B,n,nm,rfl,hS,hK,hB,hl,Mo,ht,Tc,h8,q⟩:=h;refine⟨_,(ag (dD 4 nJ.nd (bX dK (bF (pv 0) (ff K (bB (lV ak ak ak ak)) (aH bJ (pv 2) ah)))))
   (ag (.mk (L2.cM (iy:=5) (cl:=[]) (Xs:=["_law_one"]) (Nf:=[]) (js:=[]) ?k rfl (LI.out (cx (pv 1))) (fun C s0 H0 fp=>LG.out (i6 0 (show(["_law_one"]:List Str).Nodup by decide +kernel))) (fun C s0 H0 fp=>gq (LT.out (cR bL (ff K (pv 0) ah) ak))) (fun C s0 H0 fp=>LE.out (pv 0)) nJ.nd rfl (Or.inl rfl)))
   (ag (dD 6 nJ.nd bV)
   (ag (cu (t':=sUp K c) (br (LW.pt (cS (cR bL (aH bJ (aH bN (pv 2) ah) ah) ah) (cv (cR (nP hr) (pv 5) (bB cJ))))) (ag (dD 6 nJ.nd (ff K (pv 5) (aH bJ (aH bN (pv 2) ah) (aJ aU rfl g.fJ cX (cw (pv 5))))))
   (aq (dD 4 nJ.nd (ff K (pv 6) ah)))) aP) ?up)
   (ag (dD 7 nJ.nd (.mk L2.fI))
   (ag (dD 8 nJ.nd (fk (t':=tSt K c) (bx (cR gy (aH bJ (aH bN (pv 2) ah) ah) ah) (ff K (ff K (pv 1) (aH bJ (aH bN (pv 2) ah) (aJ aU rfl g.fJ cX (cw (pv 1))))) ah) bV) ?st))
   (ag (cu (t':=sB K) (br (cR i7 (pv 8) bV) (aq (.mk (L2.mX (fz hr) (LE.out (pv 7)) (LE.out ak) (LE.out (pv 8)) rfl))) (aq (br (cR i7 (pv 6) bV) (aq (dD 8 nJ.nd (ff K (pv 6) ah))) aP))) ?bb)
   (ag (dD 9 nJ.nd (bg (bX dO (bF (pv 0) (L3.lq (cw (pv 4)))))))
   (ag (dD 10 nJ.nd (bX dC (lV (pv 0) (pv 3) (pv 9) (pv 7))))
   (ag (bW (dZ Jo Jp Jq cp (pv 1) (cw (bB (bI ak (lV (pv 10) (pv 8) (eJ (nQ hr) (bX dK (bF (pv 0) ak)) (pv 9) rfl) (aH gK (aI (cw (pv 10))) (pv 9))))))))
   (aq (aD jd)))))))))))),?main⟩
 case k=>exact zV
 case up=>
  rintro D0 σ H ⟨wp,T,ps,os,ln,lf,rs,WH,n,nm,ve,lk,WI,rfl,hS,hE,JO,hR,Vl,q⟩;refine⟨_,rfl,_,_,rfl,rfl,⟨by decide,by decide⟩,_,_,rfl,rfl,cW,rfl,_,rfl,bO (fun e=>?_) (fun e=>q ve .bj H (au.refl H) hE)⟩;refine⟨_,rfl,Jr _,fun l0 Nh=>?_⟩;have s1:au H (WX H l0 (.lst [])):=ae Nh _;have e1:WX H l0 (.lst []) l0=some (.lst []):=ao;generalize WX H l0 (.lst [])=H1 at s1 e1 ⊢;refine⟨lk,l0,WI,rfl,rfl,bf.of (s1 _ _ JO),bf.of e1,_,rfl,?_⟩;have hE1:IC K H1 os rs (Sx wp T) ve .bj:=by
   obtain⟨e,nm,ns,d,fs,h1,h2,h20,h3⟩:=hE;refine⟨e,nm,ns,d,fs,h1,At.same s1 _ _ h2,h20,h3.imp id fun⟨a,st,z,_⟩=>nomatch z⟩
  cases WI with
  | nil=>exact aY (q ve .bj H1 s1 hE1)
  | cons k0 kr=>
   refine bE ?_;have J6:=hR.same hS.o.wf s1;have WM:=J6.len;obtain⟨k,hk,Kg⟩:=gJ (a:=n / 8) (n:=(k0::kr).length) (Nat.succ_pos _);obtain⟨r,Ka⟩:∃r,(rs.filter jZ)[k]?=some r:=⟨_,IM (by omega)⟩;obtain⟨a,ha,MP,KA⟩:=J6.at Ka;have hcl:jZ r=true:=(JC.mp (IX Ka)).2;refine⟨_,rfl,_,rfl,_,_,rfl,rfl,⟨by decide,by decide⟩,_,rfl,lk,_,rfl,.inl (bf.of (s1 _ _ JO)),_,_,rfl,rfl,(by show(0:Int) < (((k0::kr).length:Nat):Int);rw[Jf];omega),lk,_,_,.ref a,rfl,rfl,bf.of (s1 _ _ JO),?_,?_⟩
   ·show j4 _ (n / 8 % (((k0::kr).length:Nat):Int))=_;rw[hk];exact aC ha
   obtain⟨i,st,rfl⟩:=qh hcl;obtain⟨v1,v2,v4,KJ,LY,d1,KY,h1,h2,h3,h4⟩:=id KA;exact⟨_,rfl,a,_,_,v1,rfl,rfl,bf.of h1,aC (j:=1) rfl,q v1 (.ref a) H1 s1 ⟨i,KJ,LY,d1,KY,h2,h3,⟨st,(JC.mp (IX Ka)).1⟩,.inr ⟨a,st,rfl,KA,MP,(JC.mp (IX Ka)).1⟩⟩⟩
 case st=>
  rintro σ H Q ⟨wp,T,ps,os,ln,lf,rs,WH,n,e1,e2,hS,Tc,q⟩;refine⟨_,e2,_,_,rfl,rfl,⟨by decide,by decide⟩,_,_,rfl,rfl,cW,_,_,rfl,rfl,_,rfl,bO (fun e=>?_) (fun e=>q none _ rfl (fun _ z=>nomatch z))⟩;have WM:=hS.r.len;have h0:0 < WH.length:=by rw[WM];exact List.length_pos_iff.mpr Tc
  obtain⟨k,hk,Kg⟩:=gJ (a:=n / 64) (n:=WH.length) h0;obtain⟨r,Ka⟩:∃r,rs[k]?=some r:=⟨_,IM (by omega)⟩;obtain⟨a,ha,MP,KA⟩:=hS.r.at Ka;obtain⟨v1,tl,h1,h2⟩:=KA.two;refine⟨_,e1,_,e2,_,_,rfl,rfl,⟨by decide,by decide⟩,_,e1,T,_,rfl,.inl (bf.of hS.t),_,_,rfl,rfl,(by show(0:Int) < ((WH.length:Nat):Int);omega),T,_,_,.ref a,rfl,rfl,bf.of hS.t,?_,a,_,_,v1,rfl,rfl,bf.of h1,aC (j:=1) rfl,q (some (bU r)) v1 h2 (fun d z=>by cases z;exact⟨KA.vp,r,IX Ka,rfl⟩)⟩;show j4 _ (n / 64 % ((WH.length:Nat):Int))=_;rw[hk];exact aC ha
 case bb=>
  rintro D0 σ H ⟨s0,s1,s2,s3,s4,s5,vu,v8,dct,own,rfl,hd,ho,hot,P0,q⟩;refine⟨_,rfl,rfl,_,rfl,?_⟩;show if(!decide (v8=V.bj))=true then _ else _
  cases own with
  | some d=>
   obtain⟨r,rfl⟩:=hot d rfl;have ho:At K H (.tup r) v8:=ho;rw[IK ho.jo];exact bE ⟨_,rfl,_,rfl,dct,_,rfl,rZ.k (k:=.inr "start") hd (by decide),q _ _ (.inl ⟨_,rfl,rfl,rfl⟩)⟩
  | none=>
   have ho:v8=.bj:=ho;subst ho;refine aY ⟨_,rfl,rfl,_,rfl,?_⟩;show if(!decide (vu=V.bj))=true then _ else _
   rcases P0 with rfl | ⟨a,x0,x1,x2,tl,rfl,ha⟩
   ·exact aY (q _ _ (.inr ⟨rfl,rfl,.inl ⟨rfl,rfl⟩⟩))
   ·exact bE ⟨_,rfl,a,_,_,x2,rfl,rfl,bf.of ha,aC (j:=2) rfl,q _ _ (.inr ⟨rfl,rfl,.inr ⟨a,x0,x1,tl,rfl,ha⟩⟩)⟩
 case main=>
  refine⟨_,rfl,DS,fun l1 Kt=>?_⟩;have s1:au H (WX H l1 (.lst [.str "Thing",.str "Fault",.str "KindFault",.str "Thing"])):=ae Kt _;have e1:WX H l1 (.lst [.str "Thing",.str "Fault",.str "KindFault",.str "Thing"]) l1=some (.lst (L4.map V.str)):=ao;generalize WX H l1 (.lst [.str "Thing",.str "Fault",.str "KindFault",.str "Thing"])=H1 at s1 e1 ⊢;obtain⟨k,hk,Kg⟩:=gJ (a:=n) (n:=4) (by decide);obtain⟨MJ,L9,Vt⟩:=Gy k Kg;have JL:=hS.same s1;refine⟨_,rfl,_,_,rfl,rfl,cW,l1,_,_,.str (L4.getD k ""),rfl,rfl,bf.of e1,?_,wp,ps,os,eS,ln,lf,_,rfl,JL.w,.inl ⟨_,MJ,fun ve N9=>?_⟩⟩
  ·show j4 _ (n % ((4:Nat):Int))=_;rw[hk];refine aC ?_;rw[I0,IP,IM (show k < L4.length from Kg)];rfl
  generalize [0,1,3,0].getD k 0=j at L9 N9 Vt;obtain⟨dj,hj⟩:=hS.k j L9;have WM:=hS.r.len;refine⟨_,rfl,T,rfl,⟨_,bf.of JL.t⟩,[],⟨rfl,fun j i h=>by simp at h⟩,cq (vs:=[]) WH.length (fun i=>WH.getD i .bj) (fun i=>jZ (rs.getD i (.pl da))) (fun i v _=>v=WH.getD i .bj) (fun _ _ _ _ _ z=>z) (by omega) (gb (bf.of JL.t)) (ja (bf.of JL.t)) (gL (bf.of JL.t)) (fun i H2 Q' hi s2 k=>?_) (fun i H2 D l' Q' hi _ s2 _ _ k=>⟨_,rfl,k _ _ (au.refl _) rfl⟩) fun lk H2 WI JO s2 JY hP=>?_⟩
  ·have er:rs[i]?=some (rs.getD i (.pl da)):=by rw[IP,IM (show i < rs.length by omega)];rfl
   obtain⟨a,ha,MP,KA⟩:=(JL.same s2).r.at er;obtain⟨v1,tl,h1,h2⟩:=KA.two;have ei:WH.getD i .bj=.ref a:=by rw[IP,ha];rfl
   rw[ei];refine⟨_,rfl,a,_,_,.str (gF (rs.getD i (.pl da))),rfl,rfl,bf.of h1,aC (j:=0) rfl,rfl,_,rfl,?_⟩;rw[oC];exact k H2 (au.refl _)
  have LV:=JL.same s2;have K9:=LV.r.sel jZ (.pl da);rw[<-WM,<-hP.eq] at K9;have lkv:WI.length<=100:=by
   rw[K9.len];exact IV (List.length_filter_le ..) (by omega)
  refine⟨wp,T,ps,os,ln,lf,rs,WH,n,nm,ve,lk,WI,rfl,LV,⟨8+j,_,_,dj,_,hj,At.same s2 _ _ N9,h8 j Vt,.inl ⟨rfl,ou fun m hm=>?_⟩⟩,JY,K9,lkv,fun NN vu H3 s3 hE=>?_⟩
  ·obtain⟨h1,h2⟩:=(jL j L9).2.2.2.1 m hm;obtain⟨d2,e2⟩:=hS.k (m - 8) (by omega);rw[show 8+(m - 8)=m by omega] at e2;rw[e2];rfl
  have Mh:=(s1.trans s2).trans s3;have ON:=LV.same s3;clear JL LV K9 JY hP N9;intro dct QD;have s4:au H3 (WX H3 dct (.dK [])):=ae QD _;have d4:WX H3 dct (.dK []) dct=some (.dK []):=ao;generalize WX H3 dct (.dK [])=H4 at s4 d4 ⊢;have Mb:=ON.same s4;refine⟨wp,T,ps,os,ln,lf,rs,WH,n,rfl,rfl,Mb,Tc,fun own v8 J3 Ml=>?_⟩;obtain⟨e,Lc,ns,de,fe,he,N9,⟨NS,Ox⟩,RD⟩:=hE;obtain⟨⟨rest,rfl⟩,Lq,hle,Qv,_⟩:=hK e Lc ns de fe he;refine⟨_,_,_,_,_,_,vu,v8,dct,own,rfl,d4,J3,fun d z=>(Ml d z).1.vd.jo,?_,fun H5 Lx hb=>?_⟩
  ·rcases RD with ⟨rfl,_⟩ | ⟨a,st,rfl,⟨v1,v2,v4,KJ,LY,d1,KY,h1,_⟩,_,_⟩
   ·exact .inl rfl
   ·exact .inr ⟨a,_,_,_,_,rfl,s4 _ _ h1⟩
  have key:∃(fs:List (Str×D)) (st:Option D),gB K H5 dct fs/\AU K H5 st Lx/\au H3 H5/\(∀n dd,fs.lookup n=some dd->Vd os dd)/\(match fs.lookup ("start":Str) with | some d=>some d | none=>dk os "start" (e::rest))=st/\fs.lookup ("word":Str)=none/\Iy rs st:=by
   rcases hb with ⟨d,rfl,rfl,rfl⟩ | ⟨rfl,rfl,hx⟩
   ·have J3:At K H4 d Lx:=J3;obtain⟨WI,L7,Kg,Ms⟩:=(gB.nil d4).put (n:="start") J3;rw[d4] at L7;cases L7;refine⟨_,some d,Ms,At.fx (Fx.put d4 rfl) _ _ J3,fun p o e=>?_,fun n dd e=>?_,by rw[bG,IZ rfl],by rw[bG,IY (by decide +kernel)];rfl,fun s z=>by cases z;exact .inl (Ml _ rfl).2⟩
    ·rw[aB (cE e QD)];exact s4 _ _ e
    ·rw[bG] at e;split at e
     ·cases e;exact(Ml _ rfl).1.vd
     ·cases e
   ·refine⟨[],dk os "start" (e::rest),gB.nil d4,?_,s4,fun n dd e=>(nomatch e),rfl,rfl,fun s z=>?_⟩
    rotate_left
    ·rcases RD with ⟨_,h⟩ | ⟨a',st,_,⟨v1,v2,v4,KJ,LY,d1,KY,h1,h2,h3,h4,h5,_⟩,_,MI⟩
     ·rw[h] at z;cases z
     ·rw[he] at h2;cases h2;rw[h5] at z;subst z;exact .inr ⟨_,MI⟩
    rcases hx with ⟨rfl,rfl⟩ | ⟨a,x0,x1,tl,rfl,ha⟩
    ·rcases RD with ⟨_,h⟩ | ⟨a,st,z,_⟩
     ·rw[h];exact rfl
     ·cases z
    ·rcases RD with ⟨z,h⟩ | ⟨a',st,z,⟨v1,v2,v4,KJ,LY,d1,KY,h1,h2,h3,h4,h5,_⟩,_,_⟩
     ·cases z
     ·cases z;rw[s4 _ _ h1] at ha;cases ha;rw[he] at h2;cases h2;rw[h5];exact h4.fx (au.fx s4)
  obtain⟨fs,st,Ma,KO,s5,hfv,heq,Vu,RE⟩:=key;clear hb Ml J3 Mb d4 s4;have Pr:=Mh.trans s5;have LU:=ON.same s5;have hve5:=At.same s5 _ _ N9;refine⟨_,rfl,_,rfl,jY,fun t6 o6 Ky Td=>?_⟩;have s6:au H5 (WX H5 t6 (.mB o6 (.tup [NN]))):=ae Ky _;have a6:At K (WX H5 t6 (.mB o6 (.tup [NN]))) (.tup [aQ e]) (.ref t6):=At.De Ky (az.fu hve5);have p6:DG (WX H5 t6 (.mB o6 (.tup [NN]))) (.ref t6):=⟨t6,o6,_,rfl,ao,Td⟩;generalize WX H5 t6 (.mB o6 (.tup [NN]))=H6 at s6 a6 p6 ⊢;refine⟨wp,ps,os,eS,ln,lf,.ref t6,e,Lc,rest,de,fe,rfl,(LU.same s6).w,he,Lq,by omega,a6,p6,fun r7 H7 s7 a7=>⟨1,_,_,rfl,a7,rfl,fun vo Kf=>?_⟩⟩;have NV:=s6.trans s7;have Lk:=LU.same NV;have hfs7:gB K H7 dct fs:=Ma.keep (by obtain⟨kv,h1,_⟩:=Ma;rw[NV _ _ h1,h1]) (au.fx NV);have hst7:=KO.fx (au.fx NV);refine⟨_,rfl,_,rfl,_,rfl,_,rfl,wp,ps,os,eS,ln,lf,nm,vo,dct,e::rest,fs,rfl,Lk.w,by omega,Kf,by omega,hfs7,fun rv H8 p8 d8 hd8 b8 w8 a8=>?_⟩;have o8:kE (os++[.kd nm (os.length::e::rest) d8 fs]):=hS.o.add ⟨⟨fun m hm=>?_,hfv⟩,IV Mo (by decide),fun _ z=>nomatch z⟩
  ·have Lu:=Lk.step b8.chg w8 o8 (fT.app _ _);have VW:=(b8.chg (c:=c) (wp:=wp)).fx Lk.w;have P1:=At.fx VW _ _ Kf;have hst8:=hst7.fx VW;have c8:hZ c (Sx wp T) H H8:=(au.eZ (Pr.trans NV)).trans (b8.eZ Sx.l);refine⟨_,rfl,.inl ⟨rfl,_,bf.of Lu.t⟩,_,rfl,_,rfl,_,rfl,wp,_,_,eS,ln,lf,"Fault",rfl,Lu.w,.inl ⟨9,by decide +kernel,fun vf LC=>⟨_,rfl,aQ 9,(e::rest).map aQ,LC,P1,fun x hx=>?_,?_⟩⟩⟩
   ·obtain⟨m,_,rfl⟩:=JD.mp hx;rw[hJ];decide
   rw[IY Jd,nz];refine⟨_,rfl,jY,fun t9 K4=>⟨_,rfl,[aQ os.length],(e::rest).map aQ,At.new K4 (az.fu a8),At.same (ae K4 _) _ _ P1,small (by rw[IU,Jy];omega),fun Mi Kq J0 Pl=>⟨Er,fun Kw J5=>?_⟩⟩⟩;have s8:=(ae K4 (.tup [rv])).trans J0;have Km:=Lu.same s8;have JT:=ae J5 (.lst [.str "class",rv,Lx,.bl (decide (9∈e::rest)),Mi]);have Mc:WX Kq Kw (.lst [.str "class",rv,Lx,.bl (decide (9∈e::rest)),Mi]) Kw=some (.lst [.str "class",rv,Lx,.bl (decide (9∈e::rest)),Mi]):=ao;have JP:=Km.same JT;have nf:=Km.fresh J5;have OT:=At.same JT _ _ (At.same s8 _ _ a8);have NR:=hst8.fx (au.fx (s8.trans JT));have Sy:=At.same JT _ _ Pl;have Ph:=(c8.trans (au.eZ s8)).trans (au.eZ (c:=c) (S:=Sx wp T) JT);revert Mc JP OT NR Sy Ph;clear JT;generalize WX Kq Kw (.lst [.str "class",rv,Lx,.bl (decide (9∈e::rest)),Mi])=Sk;intro Mc JP OT NR Sy Ph;refine⟨T,WH,.ref Kw,rfl,rfl,JP.t,cm (by omega),q _ _ _ _ _ st Kw (Ph.trans ((bC.put Sk _).eZ Sx.t)) (JP.push ?_ nf) (hK.more he Vu) RE ⟨e,Lc,e::rest,de,fe,NS,rfl,he,Ox⟩⟩;obtain⟨_,h2,h3,h4⟩:=(hK.more (nm:=nm) (d:=d8) (fs:=fs) he Vu) os.length _ _ _ _ bD;have e9:decide (9∈e::rest)=decide (9∈os.length::e::rest):=by
    refine decide_eq_decide.mpr ⟨IH _,fun z=>?_⟩;rcases Jv.mp z with z | z
    ·have h9:=aE (hS.k 1 (by decide)).choose_spec;omega
    ·exact z
   rw[e9] at Mc;refine⟨rv,Lx,Mi,nm,os.length::e::rest,d8,fs,Mc,bD,OT,NR,?_,Sy,⟨_,rfl⟩,h2,h3⟩;rw[dq,bD];show(match fs.lookup ("start":Str) with | some d=>some d | none=>dk (os++[_]) "start" (e::rest))=st;rw[jQ (fT.app _ _) (hS.o.wf.k e Lc (e::rest) de fe he).1];exact heq
  ·rcases Jv.mp hm with rfl | hm
   ·exact .inl rfl
   ·exact .inr ((hS.o.wf.k e Lc (e::rest) de fe he).1 m hm)
end
abbrev GB (J:It) (tc:TT) (te:TE) (H:Hp) (R:Addr->Hp->Prop) (vs:List V):Prop:=
  ∀D,H D=none->∃W:Nat->Nat->List V->Hp->Prop,(∃m,W 0 m [] (WX H D (.lst [])))/\∀i m ys H,W i m ys H->
   (J.stop i H/\R D H)\/(J.go i H/\∀x H' (ox:List (Option V)),ox.length=1->J.tT i H x H'->j7 0 x (ox++vs.map some) H' fun σ2 H2=>∃K1,K1.length=1/\σ2=K1++vs.map some/\tc σ2 H2 fun b H3=>
    if b=true then te σ2 H3 fun v H4=>H4 D=some (.lst ys)/\ys.length < sizeLine/\∃m',m' < m/\W (i+1) m' (ys++[v]) (WX H4 D (.lst (ys++[v]))) else ∃m',m' < m/\W (i+1) m' ys H3)
section
variable {K:Fg06}{c:cF}{H:Hp}{wp:Wp}{T:Addr}{ps:List Addr}{os:List Th}{ln:List Str}{lf:List Int}{rs:List Rw}{WH:List V}
theorem hU {tc te R vs}(hS:gH K c H wp T ps os ln lf rs WH) (hl:WH.length<=1000) (p)
  (Ta:∀r a H1 (Q':Bool->Hp->Prop),r∈rs->a∉Sx wp T->au H H1->gp K H1 os (Sx wp T) a r->(∀H2,au H1 H2->Q' (p r) H2)->tc (some (.ref a)::vs.map some) H1 Q')
  (S9:∀a H1 (Q':VK),Q' (.ref a) H1->te (some (.ref a)::vs.map some) H1 Q')
  (q:∀lk H2 WI,H lk=none->au H H2->H2 lk=some (.lst WI)->cV K H2 os (Sx wp T) (rs.filter p) WI->R lk H2):GB (z7 K T) tc te H R vs:=by
 have WM:=hS.r.len;refine cq (vs:=vs) WH.length (fun i=>WH.getD i .bj) (fun i=>p (rs.getD i (.pl da))) (fun i v _=>v=WH.getD i .bj) (fun _ _ _ _ _ z=>z) (by omega) (gb (bf.of hS.t)) (ja (bf.of hS.t)) (gL (bf.of hS.t)) (fun i H2 Q' hi s2 k=>?_) (fun i H2 D l' Q' hi _ s2 _ _ k=>?_) fun lk H2 WI JO s2 JY hP=>?_
 ·have er:rs[i]?=some (rs.getD i (.pl da)):=by rw[IP,IM (show i < rs.length by omega)];rfl
  obtain⟨a,ha,MP,KA⟩:=(hS.same s2).r.at er;have ei:WH.getD i .bj=.ref a:=by rw[IP,ha];rfl
  rw[ei];exact Ta _ a H2 Q' (IX er) MP s2 KA k
 ·have er:rs[i]?=some (rs.getD i (.pl da)):=by rw[IP,IM (show i < rs.length by omega)];rfl
  obtain⟨a,ha,MP,KA⟩:=(hS.same s2).r.at er;have ei:WH.getD i .bj=.ref a:=by rw[IP,ha];rfl
  rw[ei] at k ⊢;exact S9 a H2 Q' (k _ _ (au.refl _) rfl)
 ·have K9:=(hS.same s2).r.sel p (.pl da);rw[<-WM,<-hP.eq] at K9;exact q lk H2 WI JO s2 JY K9
end
def isFn (r:Rw):Bool:=decide (gF r="function")
theorem uF {r}(h:isFn r=true):∃i,r=.fn i:=by
 have h:=Jl h;cases r with
 | fn i=>exact⟨i,rfl⟩
 | gv i w=>exact Xc (show("given":Str)="function" from h) (by decide +kernel)
 | cl i st=>exact Xc (show("class":Str)="function" from h) (by decide +kernel)
 | ob i=>exact Xc (show("object":Str)="function" from h) (by decide +kernel)
 | mt i=>exact Xc (show("method":Str)="function" from h) (by decide +kernel)
 | vw i=>exact Xc (show("view":Str)="function" from h) (by decide +kernel)
 | pl d=>exact Xc (show("plain":Str)="function" from h) (by decide +kernel)
def iY (r:Rw):Bool:=decide (gF r="object")
theorem uE {r}(h:iY r=true):∃i,r=.ob i:=by
 have h:=Jl h;cases r with
 | ob i=>exact⟨i,rfl⟩
 | gv i w=>exact Xc (show("given":Str)="object" from h) (by decide +kernel)
 | cl i st=>exact Xc (show("class":Str)="object" from h) (by decide +kernel)
 | fn i=>exact Xc (show("function":Str)="object" from h) (by decide +kernel)
 | mt i=>exact Xc (show("method":Str)="object" from h) (by decide +kernel)
 | vw i=>exact Xc (show("view":Str)="object" from h) (by decide +kernel)
 | pl d=>exact Xc (show("plain":Str)="object" from h) (by decide +kernel)
def sZ:Rw->Bool
 | .cl _ none=>true
 | _=>false
theorem zP {r}(h:sZ r=true):∃i,r=.cl i none:=by
 cases r with
 | cl i st=>
  cases st with
  | none=>exact⟨i,rfl⟩
  | some d=>cases h
 | _=>cases h
theorem jj.one {os B o}(h:jj os B) (ho:∀nm ns d fs,o≠.kd nm ns d fs):jj (os++[o]) B:=fun i nm ns d fs e=>by
 rcases getElem?_snoc e with u | ⟨_,u⟩
 ·exact h i nm ns d fs u
 ·exact Xc u.symm (ho nm ns d fs)
theorem jj.set {os B}(h:jj os B) {i st m a}:jj (os.set i (.gr st m a)) B:=fun j nm ns d fs e=>by
 by_cases hj:j=i
 ·subst hj;by_cases hi:j < os.length
  ·rw[IT hi] at e;cases e
  ·rw[List.getElem?_eq_none (by rw[Jk];omega)] at e;cases e
 ·rw[IQ (W3 hj)] at e;exact h j nm ns d fs e
def Dr (rs:List Rw) (u:D):Prop:=(∃r∈rs,u=bU r)\/yX u
theorem nj {os i u}(h:Vp os u) (e:bP (aQ i) u=true):u=aQ i:=by
 cases h with
 | th j h=>rw[tE] at e;rw[Jl e]
 | no=>simp[da,aQ,bP,fv] at e
 | nu j h=>simp[ic,aQ,bP,fv] at e;exact Xc e.1 (by decide +kernel)
 | te x=>simp[DQ,aQ,bP,fv] at e
 | tr b=>simp[yV,aQ,bP,fv] at e;exact Xc e.1 (by decide +kernel)
theorem Dr.vp {K H os S rs WH}(h:cV K H os S rs WH) {u}(hu:Dr rs u):Vp os u:=by
 rcases hu with ⟨r,hr,rfl⟩ | hu
 ·obtain⟨i,hi,e⟩:=JG hr;obtain⟨a,_,_,ha⟩:=h.at (Jn.mpr ⟨hi,e⟩);exact ha.vp
 ·exact hu.vp os
theorem Dr.ob {K H os S rs WH}(h:cV K H os S rs WH) {u}(hu:Dr rs u) {k d fs}(e:ft os u=some (.ob k d fs)):∃i,u=aQ i/\.ob i∈rs:=by
 rcases hu with ⟨r,hr,rfl⟩ | hu
 ·obtain⟨i,hi,er⟩:=JG hr;obtain⟨a,_,_,ha⟩:=h.at (Jn.mpr ⟨hi,er⟩);cases r with
  | ob j=>exact⟨j,rfl,hr⟩
  | cl j st=>obtain⟨_,_,_,_,_,_,_,_,h2,_⟩:=ha;rw[show bU (.cl j st)=aQ j from rfl,bw,h2] at e;cases e
  | gv j w=>obtain⟨_,_,h2,_⟩:=ha;rw[show bU (.gv j w)=aQ j from rfl,bw,h2] at e;cases e
  | fn j=>obtain⟨_,h2,_⟩:=ha;rw[show bU (.fn j)=aQ j from rfl,bw,h2] at e;cases e
  | mt j=>obtain⟨_,_,_,_,_,_,_,h2,_⟩:=ha;rw[show bU (.mt j)=aQ j from rfl,bw,h2] at e;cases e
  | vw j=>obtain⟨_,_,h2,_⟩:=ha;rw[show bU (.vw j)=aQ j from rfl,bw,h2] at e;cases e
  | pl d=>obtain⟨_,_,h2,_⟩:=ha;rw[show bU (.pl d)=d from rfl,(h2.vd os).2] at e;cases e
 ·rw[(hu.vd os).2] at e;cases e
theorem Dr.cl {K H os S rs WH}(h:cV K H os S rs WH) {u}(hu:Dr rs u) {nm ns d fs}(e:ft os u=some (.kd nm ns d fs)):∃i st,u=aQ i/\.cl i st∈rs:=by
 rcases hu with ⟨r,hr,rfl⟩ | hu
 ·obtain⟨i,hi,er⟩:=JG hr;obtain⟨a,_,_,ha⟩:=h.at (Jn.mpr ⟨hi,er⟩);cases r with
  | cl j st=>exact⟨j,st,rfl,hr⟩
  | ob j=>obtain⟨_,_,_,_,_,_,_,_,_,_,_,h2,_⟩:=ha;rw[show bU (.ob j)=aQ j from rfl,bw,h2] at e;cases e
  | gv j w=>obtain⟨_,_,h2,_⟩:=ha;rw[show bU (.gv j w)=aQ j from rfl,bw,h2] at e;cases e
  | fn j=>obtain⟨_,h2,_⟩:=ha;rw[show bU (.fn j)=aQ j from rfl,bw,h2] at e;cases e
  | mt j=>obtain⟨_,_,_,_,_,_,_,h2,_⟩:=ha;rw[show bU (.mt j)=aQ j from rfl,bw,h2] at e;cases e
  | vw j=>obtain⟨_,_,h2,_⟩:=ha;rw[show bU (.vw j)=aQ j from rfl,bw,h2] at e;cases e
  | pl d=>obtain⟨_,_,h2,_⟩:=ha;rw[show bU (.pl d)=d from rfl,(h2.vd os).2] at e;cases e
 ·rw[(hu.vd os).2] at e;cases e
abbrev Hg:Stmt:=cj 78
section
variable {K:Fg06}{c:cF}{H H':Hp}{wp:Wp}{T:Addr}{ps:List Addr}{os JI:List Th}{ln:List Str}{lf:List Int}{rs:List Rw}{WH:List V}
theorem gH.fx (h:gH K c H wp T ps os ln lf rs WH) (s:hZ c (Sx wp T) H H'):Fx H H':=fun p o e z=>s p o e (fun m=>by
 unfold Sx at m;simp only[List.mem_cons,List.not_mem_nil,or_false] at m;rcases m with rfl | rfl | rfl | rfl
 ·rw[h.w.t] at e;cases e;cases z
 ·rw[h.w.hn] at e;cases e;cases z
 ·rw[h.w.hf] at e;cases e;cases z
 ·rw[h.t] at e;cases e;cases z) (fun dx fs y=>by rw[y] at z;cases z)
theorem gH.pG (h:gH K c H wp T ps os ln lf rs WH) (s:hZ c (Sx wp T) H H'):qG (Sx wp T) H H':=⟨fun q ys n e=>s q _ e n (fun _ _ z=>nomatch z),h.fx s⟩
end
abbrev sg (σ:L2.St) (i:Nat) (v:V):Prop:=σ[i]?=some (some v)
inductive Ef (K:Fg06) (c:cF) (σ:L2.St) (H:Hp) (Q:VK):Prop
 | mk wp T ps os ln lf rs WH B n lk WI:sg σ 0 (.ref wp.W)->sg σ 2 (.int n)->sg σ 3 (.ref lk)->gH K c H wp T ps os ln lf rs WH->jj os B->B<=38->H lk=some (.lst WI)->cV K H os (Sx wp T) (rs.filter sZ) WI->WI≠[]->(∀e nm rest d fs v H',au H H'->os[e]?=some (.kd nm (e::rest) d fs)->dk os "start" (e::rest)=none->.cl e none∈rs->At K H' (.tup ((e::rest).map aQ)) v->Q v H')->Ef K c σ H Q
inductive tCl (K:Fg06) (c:cF) (σ:L2.St) (H:Hp) (Q:VK):Prop
 | mk wp T ps os ln lf rs WH B n lk WI vo e nm rest de fe b t (g:sj):sg σ 0 (.ref wp.W)->sg σ 2 (.int n)->sg σ 4 (.ref lk)->sg σ 5 vo->gH K c H wp T ps os ln lf rs WH->jj os B->B<=38->os.length<=800->H lk=some (.lst WI)->0 < WI.length->j4 WI (n % ((WI.length:Nat):Int))=some (.ref b)->j9 K H t g b->os[t]?=some (.fn g)->os[e]?=some (.kd nm (e::rest) de fe)->At K H (.tup ((e::rest).map aQ)) vo->(∀v H' p d,hZ c (Sx wp T) H H'->gH K c H' wp T (ps++[p]) (os++[Th.kd "m" (os.length::e::rest) d [("f",aQ t)]]) ln lf rs WH->At K H' (aQ os.length) v->Q v H')->tCl K c σ H Q
inductive sRc (K:Fg06) (c:cF) (D0:W0) (σ:L2.St) (H:Hp):Prop
 | mk wp T ps os ln lf rs WH i nm rest d fs vv vo:sg σ 0 (.ref wp.W)->sg σ 1 (.ref T)->sg σ 5 vo->sg σ 6 vv->gH K c H wp T ps os ln lf rs WH->WH.length<=100->os[i]?=some (.kd nm (i::rest) d fs)->(i::rest).Nodup->(∀n∈i::rest,n<=i)->i≠9->rest.length<=100->dk os "start" (i::rest)=none->At K H (aQ i) vv->At K H (.tup (rest.map aQ)) vo->(∀H' a,hZ c (Sx wp T) H H'->gH K c H' wp T ps os ln lf (rs++[.cl i none]) (WH++[.ref a])->D0.nx σ H')->sRc K c D0 σ H
inductive sRo (K:Fg06) (c:cF) (D0:W0) (σ:L2.St) (H:Hp):Prop
 | mk wp T ps os ln lf rs WH i k d fs nm rest d' JM vv vo vf:sg σ 1 (.ref T)->sg σ 5 vo->sg σ 6 vv->sg σ 7 vf->gH K c H wp T ps os ln lf rs WH->WH.length<=100->os[i]?=some (.ob k d fs)->os[k]?=some (.kd nm (k::rest) d' JM)->rest.length<=100->At K H (aQ k) vv->At K H (.tup (rest.map aQ)) vo->At K H (eE (aQ i)) vf->(∀H' a,hZ c (Sx wp T) H H'->gH K c H' wp T ps os ln lf (rs++[.ob i]) (WH++[.ref a])->D0.nx σ H')->sRo K c D0 σ H
inductive sRm (K:Fg06) (c:cF) (D0:W0) (σ:L2.St) (H:Hp):Prop
 | mk wp T ps os ln lf rs WH i t o (g:sj) n lk WI b vf vm:sg σ 1 (.ref T)->sg σ 2 (.int n)->sg σ 4 (.ref lk)->sg σ 7 vf->sg σ 8 vm->gH K c H wp T ps os ln lf rs WH->WH.length<=100->os[i]?=some (.mt t o)->os[t]?=some (.fn g)->At K H (eE (aQ i)) vm->At K H (eE (aQ o)) vf->H lk=some (.lst WI)->0 < WI.length->j4 WI (n % ((WI.length:Nat):Int))=some (.ref b)->j9 K H t g b->b∉Sx wp T->(∀H' a,hZ c (Sx wp T) H H'->gH K c H' wp T ps os ln lf (rs++[.mt i]) (WH++[.ref a])->D0.nx σ H')->sRm K c D0 σ H
inductive sRv (K:Fg06) (c:cF) (D0:W0) (σ:L2.St) (H:Hp):Prop
 | mk wp T ps os ln lf rs WH i k d fs nm rest d' JM vv vf:sg σ 0 (.ref wp.W)->sg σ 1 (.ref T)->sg σ 6 vv->sg σ 7 vf->gH K c H wp T ps os ln lf rs WH->WH.length<=100->os.length<=850->ln.length<=900->lf.length<=900->os[i]?=some (.ob k d fs)->os[k]?=some (.kd nm (k::rest) d' JM)->At K H (aQ k) vv->At K H (eE (aQ i)) vf->(∀H' JK a,hZ c (Sx wp T) H H'->gH K c H' wp T JK (os++[.vw]) ln lf (rs++[.vw os.length]) (WH++[.ref a])->D0.nx σ H')->sRv K c D0 σ H
def LoF (os JI:List Th) (rs:List Rw):Prop:=fT os JI/\(∃ns d1 f1 KJ,JI[os.length]?=some (.kd KJ ns d1 f1)/\ID os rs ns)/\∃d2 f2,JI[os.length+1]?=some (.ob os.length d2 f2)
section
variable {P:Program}{w:World}{K:Fg06}{mg:Str->Option Value}{base:Heap}{f:Addr}{fd:FuncData}{c:cF}
inductive zd (K:Fg06) (c:cF) (vs:List V) (H:Hp) (Q:VK) (E:XK):Prop
 | mk wp T ps os ln lf rs WH B n:vs=[.ref wp.W,.ref T,.int n]->gH K c H wp T ps os ln lf rs WH->jj os B->B<=38->os.length<=800->ln.length<=900->lf.length<=900->WH.length<=95->rs.filter sZ≠[]->rs.filter isFn≠[]->(∀H' JK JI NO,hZ c (Sx wp T) H H'->gH K c H' wp T JK JI ln lf (rs++[.cl os.length none,.ob (os.length+1),.mt (os.length+2),.vw (os.length+3)]) NO->jj JI (B+1)->JI.length=os.length+4->LoF os JI rs->Q (.bl true) H')->zd K c vs H Q E
theorem sI:aS ["_law_world","_law_there","_law_n","_law_kinds","_law_defs","_law_order","_law_value","_law_found","_law_method"] ["_law_world","_law_there","_law_n"] (aw Hg):=fE
theorem Fv (g:Glb9 mg) (F:eg K "_law_object" "_law_object" Hg f fd) (dK:Def P w K mg base "known" ["world","name"] 1 (qU K c)) (dO:Def P w K mg base "order_of" ["world","elders"] 5 (qS K c)) (dC:Def P w K mg base "class_of" ["world","name","order","fields"] 4 (xp K c)) (dCl:Def P w K mg base "called" ["world","a","values"] 7 (kZ K c)) (dF:Def P w K mg base "field_of" ["world","a","name"] 5 (pq K c)) (dX:Def P w K mg base "text_of" ["world","a"] 3 (mv K c)):bK P w K mg base eh 8 f fd ["_law_world","_law_there","_law_n"] (zd K c):=by
 refine F.fw sI fun WK A outer s H vs Q E hr h=>?_;obtain⟨wp,T,ps,os,ln,lf,rs,WH,B,n,rfl,hS,hK,hB,hl,L5,KD,ht,hc0,Vx,q⟩:=h;refine⟨_,(ag (.mk (L2.cM (iy:=3) (cl:=[]) (Xs:=["_law_one"]) (Nf:=[]) (js:=[]) ?k1 rfl (LI.out (cx (pv 1))) (fun C s0 H0 fp=>LG.out (i6 0 (show(["_law_one"]:List Str).Nodup by decide +kernel))) (fun C s0 H0 fp=>gq (LT.out (LW.pt (cS (cR bL (ff K (pv 0) ah) ak) (cv (cR jx (ff K (pv 0) ah) bV)))))) (fun C s0 H0 fp=>LE.out (pv 0)) sI.nd rfl (Or.inl rfl)))
   (ag (.mk (L2.cM (iy:=4) (cl:=[]) (Xs:=["_law_one"]) (Nf:=[]) (js:=[]) ?k2 rfl (LI.out (cx (pv 1))) (fun C s0 H0 fp=>LG.out (i6 0 (show(["_law_one"]:List Str).Nodup by decide +kernel))) (fun C s0 H0 fp=>gq (LT.out (cR bL (ff K (pv 0) ah) ak))) (fun C s0 H0 fp=>LE.out (pv 0)) sI.nd rfl (Or.inl rfl)))
   (ag (dD 5 sI.nd (fk (t':=Ef K c) (bg (bX dO (bF (pv 0) (L3.lq (cw (ff K (ff K (pv 3) (aH bJ (aH bN (pv 2) ah) (aJ aU rfl g.fJ cX (cw (pv 3))))) ah)))))) ?or))
   (ag (dD 6 sI.nd (fk (t':=tCl K c) (bX dC (lV (pv 0) ak (pv 5) (L3.lF (L3.fj ak (ff K (ff K (pv 4) (aH bJ (pv 2) (aJ aU rfl g.fJ cX (cw (pv 4))))) ah) L3.lp)))) ?cl))
   (ag (cu (t':=sRc K c) (bW (dZ Jo Jp Jq cp (pv 1) (cw (bB (bI ak (lV (pv 6) bV (eJ (nQ hr) (bX dK (bF (pv 0) ak)) (pv 5) rfl) (aH gK (aI (cw (pv 6))) (pv 5)))))))) ?rc)
   (ag (dD 7 sI.nd (bX dCl (ia (pv 0) (pv 6) (aI cJ))))
   (ag (dD 8 sI.nd (bX dF (ia (pv 0) (bg (pv 7)) ak)))
   (ag (cu (t':=sRo K c) (bW (dZ Jo Jp Jq cp (pv 1) (cw (bB (bI ak (lV (bg (pv 7)) bV (pv 6) (aH gK (aI (cw (pv 6))) (pv 5)))))))) ?ro)
   (ag (cu (t':=sRm K c) (bW (dZ Jo Jp Jq cp (pv 1) (cw (bB (lV ak (bg (pv 8)) (bg (pv 7)) (ff K (pv 4) (aH bJ (pv 2) (aJ aU rfl g.fJ cX (cw (pv 4)))))))))) ?rm)
   (ag (cu (t':=sRv K c) (bW (dZ Jo Jp Jq cp (pv 1) (cw (bB (bF ak (bg (bX dCl (ia (pv 0) (bX dK (bF (pv 0) ak)) (aI (bF (pv 6) (bg (pv 7)))))))))))) ?rv)
   (aq (aD (cT (ib bL (bg (pv 7)) ak) (cT (ib bL (bg (pv 8)) ak) (cZ (ib bL (bX dX (bF (pv 0) (bg (pv 7)))) ak)))))))))))))))),?main⟩
 case k1=>exact zV
 case k2=>exact zV
 case or=>
  rintro σ H Q ⟨wp,T,ps,os,ln,lf,rs,WH,B,n,lk,WI,e0,e2,e3,hS,hK,hB,JO,hR,JJ,q⟩;have WM:=hR.len;obtain⟨k,hk,Kg⟩:=gJ (a:=n / 7) (n:=WI.length) (List.length_pos_iff.mpr JJ);obtain⟨r,Ka⟩:∃r,(rs.filter sZ)[k]?=some r:=⟨_,IM (by omega)⟩;obtain⟨a,ha,MP,KA⟩:=hR.at Ka;obtain⟨i,rfl⟩:=zP (JC.mp (IX Ka)).2;obtain⟨v1,v2,v4,KJ,LY,d1,KY,h1,h2,h3,h4,h5,h6,⟨rest,rfl⟩,Lq,hle⟩:=KA;obtain⟨_,_,_,Qv,_⟩:=hK i KJ _ d1 KY h2;refine⟨_,e0,_,e3,_,e2,_,_,rfl,rfl,⟨by decide,by decide⟩,_,e3,lk,_,rfl,.inl (bf.of JO),_,_,rfl,rfl,(by show(0:Int) < ((WI.length:Nat):Int);omega),lk,_,_,.ref a,rfl,rfl,bf.of JO,?_,a,_,_,v1,rfl,rfl,bf.of h1,aC (j:=1) rfl,jY,fun t6 o6 Ky Td=>?_⟩
  ·show j4 _ (n / 7 % ((WI.length:Nat):Int))=_;rw[hk];exact aC ha
  have s6:au H (WX H t6 (.mB o6 (.tup [v1]))):=ae Ky _;have a6:At K (WX H t6 (.mB o6 (.tup [v1]))) (.tup [aQ i]) (.ref t6):=At.De Ky (az.fu h3);exact⟨wp,ps,os,eS,ln,lf,.ref t6,i,KJ,rest,d1,KY,rfl,(hS.same s6).w,h2,Lq,by omega,a6,⟨t6,o6,_,rfl,ao,Td⟩,fun r7 H7 s7 a7=>⟨1,_,_,rfl,a7,rfl,fun vo Kf=>q i KJ rest d1 KY vo H7 (s6.trans s7) h2 h5 (JC.mp (IX Ka)).1 Kf⟩⟩
 case cl=>
  rintro σ H Q ⟨wp,T,ps,os,ln,lf,rs,WH,B,n,lk,WI,vo,e,nm,rest,de,fe,b,t,g1,e0,e2,e4,e5,hS,hK,hB,hl,JO,JJ,hb,⟨v1,v3,Li,Kr,_⟩,Mn,he,Kf,q⟩;obtain⟨_,_,hle,Qv,_⟩:=hK e nm _ de fe he;refine⟨_,e0,_,e5,fun p hp=>?_⟩;have s1:au H (WX H p (.dK [])):=ae hp _;refine⟨_,e4,_,e2,_,e4,lk,_,rfl,.inl (bf.of (s1 _ _ JO)),_,_,rfl,rfl,(by show(0:Int) < ((WI.length:Nat):Int);omega),lk,_,_,.ref b,rfl,rfl,bf.of (s1 _ _ JO),hb,b,_,_,v1,rfl,rfl,bf.of (s1 _ _ Li),aC (j:=1) rfl,ao,[(.inr "f",v1)],rfl,by show 1<=15;decide,?_⟩;have hv1':=At.same s1 _ _ Kr;obtain⟨kv,L7,Kg,Ms⟩:=(gB.nil (K:=K) (H:=WX H p (.dK [])) (d:=p) ao).put (n:="f") hv1';rw[ao] at L7;cases L7;have s2:au H (WX (WX H p (.dK [])) p (.dK (WZ [] (.inr "f":Key) v1))):=fun x o ex=>by
   rw[aB (cE ex hp)];exact s1 _ _ ex
  show xp K c _ (WX (WX H p (.dK [])) p (.dK (WZ [] (.inr "f":Key) v1))) _ E0;revert Ms s2;generalize WX (WX H p (.dK [])) p (.dK (WZ [] (.inr "f":Key) v1))=H2;intro Ms s2;have LV:=hS.same s2;refine⟨wp,ps,os,eS,ln,lf,"m",vo,p,e::rest,[("f",aQ t)],rfl,LV.w,by omega,At.same s2 _ _ Kf,by omega,Ms,fun rv H8 p8 d8 hd8 b8 w8 a8=>?_⟩;have o8:kE (os++[Th.kd "m" (os.length::e::rest) d8 [("f",aQ t)]]):=hS.o.add ⟨⟨fun m hm=>?_,fun n dd z=>?_⟩,(by decide +kernel:("m":Str).length<=1000),fun _ z=>nomatch z⟩
  ·exact q rv H8 p8 d8 ((au.eZ s2).trans (b8.eZ Sx.l)) (LV.step b8.chg w8 o8 (fT.app _ _)) a8
  ·rcases Jv.mp hm with rfl | hm
   ·exact .inl rfl
   ·exact .inr ((hS.o.wf.k e nm _ de fe he).1 m hm)
  ·rw[bG] at z;split at z
   ·cases z;exact Vd.th (aE Mn)
   ·cases z
 case rc=>
  rintro D0 σ H ⟨wp,T,ps,os,ln,lf,rs,WH,i,nm,rest,d,fs,vv,vo,e0,e1,e5,e6,hS,ht,hi,Lq,hle,h9,hrl,LP,LL,Kf,q⟩;refine⟨_,e1,.inl ⟨rfl,_,bf.of hS.t⟩,_,e6,_,e0,wp,_,_,eS,ln,lf,"Fault",rfl,hS.w,.inl ⟨9,by decide +kernel,fun vf LC=>⟨_,e5,aQ 9,rest.map aQ,LC,Kf,fun x hx=>?_,?_⟩⟩⟩
  ·obtain⟨m,_,rfl⟩:=JD.mp hx;rw[hJ];decide
  rw[IY Jd,nz];refine⟨_,e6,jY,fun t9 K4=>⟨_,e5,[aQ i],rest.map aQ,At.new K4 (az.fu LL),At.same (ae K4 _) _ _ Kf,small (by rw[IU,Jy];omega),fun Mi Kq J0 Pl=>⟨Er,fun Kw J5=>?_⟩⟩⟩;have s8:=(ae K4 (.tup [vv])).trans J0;have Km:=hS.same s8;have JT:=ae J5 (.lst [.str "class",vv,.bj,.bl (decide (9∈rest)),Mi]);have JP:=Km.same JT;refine⟨T,WH,.ref Kw,rfl,rfl,JP.t,cm (by omega),q _ Kw (((au.eZ s8).trans (au.eZ JT)).trans ((bC.put _ _).eZ Sx.t)) (JP.push ?_ (Km.fresh J5))⟩;have e9:decide (9∈rest)=decide (9∈i::rest):=by
   refine decide_eq_decide.mpr ⟨IH _,fun z=>?_⟩;rcases Jv.mp z with z | z
   ·exact Xc z.symm h9
   ·exact z
  exact⟨vv,.bj,Mi,nm,i::rest,d,fs,by rw[ao,e9],hi,At.same (s8.trans JT) _ _ LL,rfl,LP,At.same JT _ _ Pl,⟨_,rfl⟩,Lq,hle⟩
 case ro=>
  rintro D0 σ H ⟨wp,T,ps,os,ln,lf,rs,WH,i,k,d,fs,nm,rest,d',JM,vv,vo,vf,e1,e5,e6,e7,hS,ht,hi,hk,hrl,LL,Kf,LC,q⟩;refine⟨_,e1,.inl ⟨rfl,_,bf.of hS.t⟩,_,e7,1,_,_,rfl,LC,rfl,fun vi M5=>⟨_,e6,_,e6,jY,fun t9 K4=>⟨_,e5,[aQ k],rest.map aQ,At.new K4 (az.fu LL),At.same (ae K4 _) _ _ Kf,small (by rw[IU,Jy];omega),fun Mi Kq J0 Pl=>⟨Er,fun Kw J5=>?_⟩⟩⟩⟩;have s8:=(ae K4 (.tup [vv])).trans J0;have Km:=hS.same s8;have JT:=ae J5 (.lst [.str "object",vi,.bj,vv,Mi]);have JP:=Km.same JT;exact⟨T,WH,.ref Kw,rfl,rfl,JP.t,cm (by omega),q _ Kw (((au.eZ s8).trans (au.eZ JT)).trans ((bC.put _ _).eZ Sx.t)) (JP.push ⟨vi,vv,Mi,k,d,fs,nm,k::rest,d',JM,ao,hi,hk,At.same (s8.trans JT) _ _ M5,At.same (s8.trans JT) _ _ LL,At.same JT _ _ Pl⟩ (Km.fresh J5))⟩
 case rm=>
  rintro D0 σ H ⟨wp,T,ps,os,ln,lf,rs,WH,i,t,o,g1,n,lk,WI,b,vf,vm,e1,e2,e4,e7,e8,hS,ht,hi,hg,RB,LC,JO,JJ,hb,hF,KS,q⟩;refine⟨_,e1,.inl ⟨rfl,_,bf.of hS.t⟩,_,e8,1,_,_,rfl,RB,rfl,fun vi M5=>⟨_,e7,1,_,_,rfl,LC,rfl,fun vo Kf=>⟨_,e4,_,e2,_,e4,lk,_,rfl,.inl (bf.of JO),_,_,rfl,rfl,(by show(0:Int) < ((WI.length:Nat):Int);omega),lk,_,_,.ref b,rfl,rfl,bf.of JO,hb,DS,fun Kw J5=>?_⟩⟩⟩;have JT:=ae J5 (.lst [.str "method",vi,vo,.ref b]);have JP:=hS.same JT;exact⟨T,WH,.ref Kw,rfl,rfl,JP.t,cm (by omega),q _ Kw ((au.eZ JT).trans ((bC.put _ _).eZ Sx.t)) (JP.push ⟨vi,vo,b,t,o,g1,ao,hi,hg,At.same JT _ _ M5,At.same JT _ _ Kf,hF.keep (au.pG (S:=Sx wp T) JT) KS,KS⟩ (hS.fresh J5))⟩
 case rv=>
  rintro D0 σ H ⟨wp,T,ps,os,ln,lf,rs,WH,i,k,d,fs,nm,rest,d',JM,vv,vf,e0,e1,e6,e7,hS,ht,hl,L5,KD,hi,hk,LL,LC,q⟩;refine⟨_,e1,.inl ⟨rfl,_,bf.of hS.t⟩,_,e0,_,e0,wp,ps,os,eS,ln,lf,"elder",rfl,hS.w,.inl ⟨3,by decide +kernel,fun ve N9=>⟨_,e6,_,e7,1,_,_,rfl,LC,rfl,fun vi M5=>⟨eX,fun t8 LD=>?_⟩⟩⟩⟩;have s8:=ae LD (.tup [vv,vi]);have a8:At K (WX H t8 (.tup [vv,vi])) (.tup [aQ k,aQ i]) (.ref t8):=At.new LD (aZ LL M5);have Lu:=hS.same s8;have c8:hZ c (Sx wp T) H (WX H t8 (.tup [vv,vi])):=au.eZ s8;have N8:=At.same s8 _ _ N9;revert a8 Lu c8 N8;clear s8;generalize WX H t8 (.tup [vv,vi])=H8;intro a8 Lu c8 N8;have g3:os[3]?=some (.kL "elder"):=hS.g 3 (by decide);have hu:gD os (aQ i) (aQ k)=true:=by
   unfold gD;rw[bw,hi];show((Dc os[k]?).map aQ).any (fun e=>bP e (aQ k))=true;rw[hk,nz];exact IL II
  have ec:∀d',fM os ln lf (aQ 3) [aQ k,aQ i] d'=([.vw],ln,lf,eE (aQ os.length)):=fun d'=>by
   unfold fM;rw[bw,g3];show ie os ln lf "elder" [aQ k,aQ i]=_;rw[rC];show(if gD os (aQ i) (aQ k) then _ else _)=_;rw[hu];rfl
  have Us:∀u∈[aQ k,aQ i],Vp os u:=fun u hu=>by
   simp only[List.mem_cons,List.not_mem_nil,or_false] at hu;rcases hu with rfl | rfl
   ·exact .th _ (aE hk)
   ·exact .th _ (aE hi)
  refine⟨wp,ps,os,eS,ln,lf,ve,.ref t8,aQ 3,[aQ k,aQ i],rfl,Lu.w,hS.o.wf,hS.o.nb,hS.o.db,N8,.th 3 (aE g3),fun n hn=>?_,a8,by show 2<=90;decide,Us,by decide +kernel,by omega,by omega,by omega,fun d'=>?_⟩
  ·rw[bw,g3] at hn;cases hn;decide +kernel
  rw[ec];intro r9 H9 Sz c9 w9 a9;have c9:=c9.chg (c:=c);have w9:cG K c H9 wp (ps++Sz) (os++[.vw]) eS ln lf:=w9;have a9:At K H9 (eE (aQ os.length)) r9:=a9;have o9:kE (os++[.vw]):=hS.o.add ⟨trivial,Jr _,fun _ z=>nomatch z⟩;have QN:=Lu.step c9 w9 o9 (fT.app _ _);refine⟨1,_,_,rfl,a9,rfl,fun vw S5=>⟨eX,fun Kw J5=>?_⟩⟩;have JT:=ae J5 (.lst [.str "view",vw]);have JP:=QN.same JT;exact⟨T,WH,.ref Kw,rfl,rfl,JP.t,cm (by omega),q _ _ Kw (((c8.trans c9.eZ).trans (au.eZ JT)).trans ((bC.put _ _).eZ Sx.t)) (JP.push ⟨vw,ao,bD,At.same JT _ _ S5⟩ (QN.fresh J5))⟩
 case main=>
  have WM:=hS.r.len;refine⟨_,rfl,T,rfl,⟨_,bf.of hS.t⟩,[],⟨rfl,fun j i h=>by simp at h⟩,hU hS (by omega) sZ (fun r a H1 Q' _ _ _ ha k=>?_) (fun a H1 Q' k=>⟨_,rfl,k⟩) fun lk1 H1 UY _ s1 Qu J6=>?_⟩
  ·obtain⟨v1,tl,h1,h2⟩:=ha.two;refine⟨_,rfl,a,_,_,.str (gF r),rfl,rfl,bf.of h1,aC (j:=0) rfl,rfl,_,rfl,?_⟩;rw[oC];refine bO (fun e=>?_) (fun e=>?_)
   ·obtain⟨i,st,rfl⟩:=qh e;obtain⟨v1,v2,v4,KJ,LY,d1,KY,h1,_,_,h4,h5,_⟩:=ha;refine⟨_,rfl,a,_,_,v2,rfl,rfl,bf.of h1,aC (j:=2) rfl,rfl,?_⟩;cases st with
    | none=>rw[show v2=.bj from h4];exact⟨_,rfl,k H1 (au.refl _)⟩
    | some d=>
     obtain⟨r,rfl⟩:=(jP hS.o.wf h5).jo;have h4:At K H1 (.tup r) v2:=h4;rw[IK h4.jo];exact⟨_,rfl,k H1 (au.refl _)⟩
   ·have z:sZ r=false:=by
     cases r with
     | cl i st=>exact Xc (show decide (("class":Str)="class")=false from e) (by decide +kernel)
     | _=>rfl
    rw[z] at k;exact k H1 (au.refl _)
  have JL:=hS.same s1;have s1':hZ c (Sx wp T) H H1:=au.eZ s1;refine⟨_,rfl,T,rfl,⟨_,bf.of JL.t⟩,[],⟨rfl,fun j i h=>by simp at h⟩,hU JL (by omega) isFn (fun r a H1 Q' _ _ _ ha k=>?_) (fun a H1 Q' k=>⟨_,rfl,k⟩) fun O1 H2 Nq Nh s2 K6 K9=>?_⟩
  ·obtain⟨v1,tl,h1,h2⟩:=ha.two;refine⟨_,rfl,a,_,_,.str (gF r),rfl,rfl,bf.of h1,aC (j:=0) rfl,rfl,_,rfl,?_⟩;rw[oC];exact k H1 (au.refl _)
  have nlk:O1∉Sx wp T:=JL.fresh Nh;have LV:=JL.same s2;have Ny:=s2 _ _ Qu;have QO:=J6.same hS.o.wf s2;have ne1:UY≠[]:=fun z=>by
   have:=J6.len;rw[z] at this;exact hc0 (W8.mp this.symm)
  have Ro:0 < Nq.length:=by
   rw[K9.len];exact List.length_pos_iff.mpr Vx
  have zL:=K9.len;obtain⟨k,hk,Kg⟩:=gJ (a:=n) (n:=Nq.length) Ro;obtain⟨r,Ka⟩:∃r,(rs.filter isFn)[k]?=some r:=⟨_,IM (by omega)⟩;obtain⟨b,hb,KS,hbF⟩:=K9.at Ka;obtain⟨t,rfl⟩:=uF (JC.mp (IX Ka)).2;obtain⟨g1,Mn,hF⟩:=hbF;have hb:j4 Nq (n % ((Nq.length:Nat):Int))=some (.ref b):=by rw[hk];exact aC hb
  clear Qu J6 K9 Ka zL hk Kg;refine⟨wp,T,ps,os,ln,lf,rs,WH,B,n,lk1,UY,rfl,rfl,rfl,LV,hK,hB,Ny,QO,ne1,fun e nm rest d fs vo H3 s3 he LP Ox Kf=>?_⟩;have ON:=LV.same s3;have Oq:=s3 _ _ K6;have TF:=hF.keep (au.pG (S:=Sx wp T) s3) KS;have Sb:hZ c (Sx wp T) H H3:=au.eZ ((s1.trans s2).trans s3);clear Ny QO hF LV K6 s1' Nh;refine⟨wp,T,ps,os,ln,lf,rs,WH,B,n,O1,Nq,vo,e,nm,rest,d,fs,b,t,g1,rfl,rfl,rfl,rfl,ON,hK,hB,hl,Oq,Ro,hb,TF,Mn,he,Kf,fun vv H4 p4 d4 c4 Mb a4=>?_⟩;have RY:=hK.more (nm:="m") (d:=d4) (fs:=[("f",aQ t)]) he (by rw[bG,IY (by decide +kernel)];rfl);have k4:fT os (os++[Th.kd "m" (os.length::e::rest) d4 [("f",aQ t)]]):=fT.app _ _;have e4:(os++[Th.kd "m" (os.length::e::rest) d4 [("f",aQ t)]])[os.length]?=some (.kd "m" (os.length::e::rest) d4 [("f",aQ t)]):=bD;have l4:(os++[Th.kd "m" (os.length::e::rest) d4 [("f",aQ t)]]).length=os.length+1:=by rw[IJ];rfl
  revert RY k4 e4 l4 Mb;generalize os++[Th.kd "m" (os.length::e::rest) d4 [("f",aQ t)]]=JZ;intro Mb RY k4 e4 l4;obtain⟨_,Lq,hle,Qv,_⟩:=RY _ _ _ _ _ e4;have Qv:(e::rest).length+1<=B+1:=Qv;have QV:dk JZ "start" (os.length::e::rest)=none:=by
   rw[dq,e4];show(match ([("f",aQ t)]:List (Str×D)).lookup ("start":Str) with | some d=>some d | none=>dk JZ "start" (e::rest))=none;rw[bG,IY (by decide +kernel)];show dk JZ "start" (e::rest)=none;rw[jQ k4 (hS.o.wf.k e nm (e::rest) d fs he).1];exact LP
  have n9:os.length≠9:=by
   have:=aE (hS.k 11 (by decide)).choose_spec;omega
  have f4:=ON.fx c4;have P2:=At.fx f4 _ _ Kf;have SM:=ON.pG c4;have Qt:=SM.l _ _ nlk Oq;have VP:=TF.keep SM KS;have c04:=Sb.trans c4;refine⟨wp,T,_,JZ,ln,lf,rs,WH,os.length,"m",e::rest,d4,[("f",aQ t)],vv,vo,rfl,rfl,rfl,rfl,Mb,by omega,e4,Lq,hle,n9,by omega,QV,a4,P2,fun H5 a5 c5 LU=>?_⟩;refine⟨_,rfl,_,rfl,Jr _,fun t6 Ky=>?_⟩;have s6:au H5 (WX H5 t6 (.tup [])):=ae Ky _;have a6:At K (WX H5 t6 (.tup [])) (.tup []) (.ref t6):=At.new Ky (bq.mpr rfl);have c6:hZ c (Sx wp T) H4 (WX H5 t6 (.tup [])):=c5.trans (au.eZ s6);have KU:=LU.same s6;revert a6 c6 KU;clear s6;generalize WX H5 t6 (.tup [])=H6;intro a6 c6 KU;have f6:=Mb.fx c6;have SK:=Mb.pG c6;have Ur:=At.fx f6 _ _ a4;have vo6:=At.fx f6 _ _ P2;have Oo:=SK.l _ _ nlk Qt;have TC:=VP.keep SK KS;have c06:=c04.trans c6;clear TF VP Oq Qt f4 f6 SM SK ON c5 c6 c4 LU;have ec:∀d',fM JZ ln lf (aQ os.length) [] d'=([.ob os.length d' (eB (decide (9∈os.length::e::rest)))],ln,lf,eE (aQ JZ.length)):=fun d'=>by
   unfold fM;rw[bw,e4];show oS JZ ln lf os.length (os.length::e::rest) [] d'=_;unfold oS;rw[QV];show(if(if decide (9∈os.length::e::rest)=true then 1 else 0) < 0 then(([.ob os.length d' (eB (decide (9∈os.length::e::rest)))]:List Th),ln,lf,kF) else([.ob os.length d' (eB (decide (9∈os.length::e::rest)))],ln,lf,eE (aQ JZ.length)))=_;rw[IY (Nat.not_lt_zero _)]
  refine⟨wp,_,JZ,eS,ln,lf,vv,.ref t6,aQ os.length,[],rfl,KU.w,KU.o.wf,KU.o.nb,KU.o.db,Ur,.th _ (by omega),fun n hn=>?_,a6,by decide,fun u hu=>(by simp at hu),by decide +kernel,by omega,by omega,by omega,fun d7=>?_⟩
  ·rw[bw,e4] at hn;cases hn
  rw[ec];generalize decide (9∈os.length::e::rest)=bb;intro r7 H7 SD c7 w7 a7;have c7:=c7.chg (c:=c);have w7:cG K c H7 wp _ (JZ++[Th.ob os.length d7 (eB bb)]) eS ln lf:=w7;have a7:At K H7 (eE (aQ JZ.length)) r7:=a7;have o7:kE (JZ++[Th.ob os.length d7 (eB bb)]):=KU.o.add ⟨⟨⟨_,_,_,_,e4⟩,fun n dd e=>jA e⟩,Jr _,fun _ z=>nomatch z⟩;have Lk:=KU.step c7 w7 o7 (fT.app _ _);have TB:=RY.one (o:=.ob os.length d7 (eB bb)) (fun _ _ _ _ z=>nomatch z);have k7:fT JZ (JZ++[Th.ob os.length d7 (eB bb)]):=fT.app _ _;have e7:(JZ++[Th.ob os.length d7 (eB bb)])[JZ.length]?=some (.ob os.length d7 (eB bb)):=bD;have l7:(JZ++[Th.ob os.length d7 (eB bb)]).length=os.length+2:=by rw[IJ,l4];rfl
  clear w7 o7;revert TB k7 e7 l7 Lk;generalize JZ++[Th.ob os.length d7 (eB bb)]=K2;intro Lk TB k7 e7 l7;have TX:=k7.o _ _ e4 (fun _ _ _ z=>nomatch z);have Ob:=k7.o _ _ (k4.o _ _ Mn (fun _ _ _ z=>nomatch z)) (fun _ _ _ z=>nomatch z);have efl:oq K2 (eB bb) (os.length::e::rest) "f"=.iP t:=by
   unfold oq;have z:(eB bb).lookup ("f":Str)=none:=by cases bb<;>decide +kernel
   rw[z];show nh K2 (dk K2 "f" (os.length::e::rest))=_;rw[dq,TX];show nh K2 (match ([("f",aQ t)]:List (Str×D)).lookup ("f":Str) with | some d=>some d | none=>dk K2 "f" (e::rest))=_;rw[bG,IZ rfl];show(match ft K2 (aQ t) with | some (.fn _)=>FR.iP (lM (aQ t)) | _=>.val (aQ t))=_;rw[bw,Ob];rfl
  refine⟨_,rfl,_,rfl,1,_,_,rfl,a7,rfl,fun vi M5=>⟨wp,_,K2,eS,ln,lf,vi,JZ.length,os.length,d7,eB bb,"m",os.length::e::rest,d4,[("f",aQ t)],"f",rfl,Lk.w,Lk.o.wf,by omega,M5,e7,TX,?_⟩⟩;rw[efl];intro r8 H8 p8 b8 w8 a8;have a8:At K H8 (eE (aQ K2.length)) r8:=a8;have o8:kE (K2++[Th.mt t JZ.length]):=Lk.o.add ⟨⟨⟨_,Ob⟩,by omega⟩,Jr _,fun _ z=>nomatch z⟩;have Lu:=Lk.step b8.chg w8 o8 (fT.app _ _);have Tz:=TB.one (o:=.mt t JZ.length) (fun _ _ _ _ z=>nomatch z);have k8:fT K2 (K2++[Th.mt t JZ.length]):=fT.app _ _;have e8:(K2++[Th.mt t JZ.length])[K2.length]?=some (.mt t JZ.length):=bD;have l8:(K2++[Th.mt t JZ.length]).length=os.length+3:=by rw[IJ,l7];rfl
  have c8:hZ c (Sx wp T) H6 H8:=(c7.eZ).trans (b8.eZ Sx.l);have f78:=Lk.fx (T:=T) (b8.eZ (c:=c) Sx.l);clear w8 o8 c7 b8;revert Tz k8 e8 l8 Lu;generalize K2++[Th.mt t JZ.length]=Mj;intro Lu Tz k8 e8 l8;have R5:=k8.o _ _ e7 (fun _ _ _ z=>nomatch z);have R7:=k8.o _ _ TX (fun _ _ _ z=>nomatch z);have htg8:=k8.o _ _ Ob (fun _ _ _ z=>nomatch z);have f8:=KU.fx c8;have U0:=KU.pG c8;have Uq:=At.fx f8 _ _ Ur;have hlk8:=U0.l _ _ nlk Oo;have hF8:=TC.keep U0 KS;have c08:=c06.trans c8;have Sd:=At.fx f78 _ _ a7;have ltv:=Lu.r.len;rw[IJ,IJ] at ltv;refine⟨wp,T,_,Mj,ln,lf,_,_,JZ.length,os.length,d7,eB bb,"m",e::rest,d4,_,vv,vo,r7,rfl,rfl,rfl,rfl,Lu,by rw[IJ];show _+1<=_;omega,R5,R7,by omega,Uq,At.fx f8 _ _ vo6,Sd,fun H9 a9 c9 QN=>?_⟩;have f9:=Lu.fx c9;have UZ:=Lu.pG c9;refine⟨wp,T,_,Mj,ln,lf,_,_,K2.length,t,JZ.length,g1,n,O1,Nq,b,r7,r8,rfl,rfl,rfl,rfl,rfl,QN,by rw[IJ,IJ];show _+1+1<=_;omega,e8,htg8,At.fx f9 _ _ a8,At.fx f9 _ _ Sd,UZ.l _ _ nlk hlk8,Ro,hb,hF8.keep UZ KS,KS,fun Kq Pl Wg Km=>?_⟩;have QW:=f9.trans (QN.fx Wg);refine⟨wp,T,_,Mj,ln,lf,_,_,JZ.length,os.length,d7,eB bb,"m",e::rest,d4,_,vv,r7,rfl,rfl,rfl,rfl,Km,by rw[IJ,IJ,IJ];show _+1+1+1<=_;omega,by omega,by omega,by omega,R5,R7,At.fx QW _ _ Uq,At.fx QW _ _ Sd,fun Sk ps11 Kw Ph JP=>?_⟩;have R4:=QW.trans (Km.fx Ph);have QZ:=At.fx R4 _ _ Sd;refine⟨_,rfl,0,_,_,rfl,QZ,rfl,fun y hy=>?_⟩;rw[av.mp hy];refine⟨rfl,_,rfl,?_⟩;rw[IL rfl];refine bE ⟨_,rfl,0,_,_,rfl,At.fx R4 _ _ a8,rfl,fun y hy=>?_⟩;rw[av.mp hy];refine⟨rfl,_,rfl,?_⟩;rw[IL rfl];refine bE ⟨_,rfl,_,rfl,1,_,_,rfl,QZ,rfl,fun vi M5=>⟨wp,_,_,eS,ln,lf,vi,aQ JZ.length,rfl,JP.w,JP.o.wf,JP.o.nb,M5,.th _ (by rw[IJ];show _ < _+1;omega),rfl,?_⟩⟩;have et:jX (Mj++[.vw]) (aQ JZ.length)="a m":=by
   rw[kb (cN R5)];show jn "a" (yW (Mj++[.vw])[os.length]?)="a m";rw[cN R7];show jn "a" "m"="a m";decide +kernel
  rw[et,IL rfl];have ers:(((rs++[Rw.cl os.length none])++[.ob JZ.length])++[.mt K2.length])++[.vw Mj.length]=rs++[.cl os.length none,.ob (os.length+1),.mt (os.length+2),.vw (os.length+3)]:=by
   rw[l4,l7,l8];simp only[List.append_assoc,List.cons_append,List.nil_append]
  rw[ers] at JP;exact q Sk _ _ _ (((c08.trans c9).trans Wg).trans Ph) JP (Tz.one (fun _ _ _ _ z=>nomatch z)) (by rw[IJ,l8];rfl) ⟨((k4.trans k7).trans k8).trans (fT.app _ _),⟨_,_,_,_,cN R7,e,nm,e::rest,d,fs,none,rfl,he,Ox⟩,d7,eB bb,by rw[<-l4];exact cN R5⟩
end
theorem x9 {X e t t'}(h:LT X e t) (hi:∀σ H Q,t' σ H Q->t σ H Q):LT X e t':=.mk fun WG s σ H Q I q=>h.out WG s σ H Q I (hi σ H Q q)
theorem jJ {X K e te n j p pos}(hK:X.K=K) (he:LE X e te):LE X (.Subscript e (.Constant (.int n) j p) pos) (tY (xD K) te (tC (.int n))):=by
 subst hK;exact bg he
theorem uX (a b:Str):(a++b).cps.toList=a.cps.toList++b.cps.toList:=by
 show(a.cps++b.cps).toList=_;simp
theorem pw (a b){n:Nat}(h:n<=a.length):StrLaws.sliceText (a++b) none (some ((n:Nat):Int))=StrLaws.sliceText a none (some ((n:Nat):Int)):=by
 have e:∀z:Str,StrLaws.sliceText z none (some ((n:Nat):Int))=StrLaws.sliceText z (some ((0:Nat):Int)) (some ((n:Nat):Int)):=fun z=>by
  unfold StrLaws.sliceText;rw[StrLaws.sliceIdx_none_lo];rfl
 rw[e,e,StrLaws.sliceText_nat (a++b) (Jr _) (by rw[cf];omega),StrLaws.sliceText_nat a (Jr _) h,uX,List.drop_zero,List.drop_zero,List.take_append_of_le_length];show n - 0<=a.cps.toList.length;have:a.length=a.cps.toList.length:=by simp[Str.length]
 omega
theorem Ij (nm):jn "method" nm=("method ":Str)++nm:=by
 show(Str.empty++"method"++" ")++nm=_;rw[show(Str.empty++"method"++" ":Str)="method " by decide +kernel]
theorem F3 (nm):jn "a" nm=("a ":Str)++nm:=by
 show(Str.empty++"a"++" ")++nm=_;rw[show(Str.empty++"a"++" ":Str)="a " by decide +kernel]
theorem G4 (nm):StrLaws.sliceText (("method ":Str)++nm) none (some 6)="method":=(pw "method " nm (n:=6) (by decide +kernel)).trans (by decide +kernel)
theorem Es (nm):StrLaws.sliceText (("a ":Str)++nm) none (some 2)="a ":=(pw "a " nm (n:=2) (by decide +kernel)).trans (by decide +kernel)
theorem FZ {nm}(h:nm.length<=1000):(("method ":Str)++nm).length<=sizeLine:=small (by
 rw[cf];have:("method ":Str).length=7:=by decide +kernel
 omega)
theorem AJ {nm}(h:nm.length<=1000):(("a ":Str)++nm).length<=sizeLine:=small (by
 rw[cf];have:("a ":Str).length=2:=by decide +kernel
 omega)
def ra (K:Fg06):R2:=fun x y H Q=>∃p q us ws ds,x=.ref p/\y=.ref q/\bf K H p us/\bf K H q ws/\az K H ds us/\az K H ds ws/\bM ds<=40/\Q (.bl true) H
theorem m9 {X k}(hr:dY k X.A):gQ X (compareOp .Eq) (ra X.K):=by
 intro WG s σ H x y v u Q I rx ry h;obtain⟨p,q,us,ws,ds,rfl,rfl,hp,hq,ha,hb,hd,hQ⟩:=h;cases rx;cases ry;obtain⟨WJ,r1,p1,z1⟩:=I.list hp;obtain⟨Kb,r2,p2,z2⟩:=I.list hq;have hu:=hr.units;have l1:WJ.toArray.size=ds.length:=by rw[W4,<-r1.length];exact ha.len
 have l2:Kb.toArray.size=ds.length:=by rw[W4,<-r2.length];exact hb.len
 have e:((List.range WJ.toArray.size).all fun j=>bP (ds.getD j .bj) (ds.getD j .bj))=true:=List.all_eq_true.mpr fun _ _=>bo _;exact SeqAt.RcAt.lists (e:=fun j=>bP (ds.getD j .bj) (ds.getD j .bj)) p1.isList p2.isList (by omega) (by omega) (jz I (A:=X.A.in1) (n:=bM ds) r1 r2 ha hb (IW _) (by show X.A.units+1+bM ds < cLine;omega)) _ _ _ _ (qm I hQ e)
theorem qp {os i u}(h:Vp os u) (e:bP u (aQ i)=true):u=aQ i:=by
 cases h with
 | th j h=>rw[tE] at e;rw[Jl e]
 | no=>simp[da,aQ,bP,fv] at e
 | nu j h=>simp[ic,aQ,bP,fv] at e;exact Xc e.1 (by decide +kernel)
 | te x=>simp[DQ,aQ,bP,fv] at e
 | tr b=>simp[yV,aQ,bP,fv] at e;exact Xc e.1 (by decide +kernel)
section
variable {K:Fg06}{H:Hp}{os:List Th}{S:List Addr}{a:Addr}{r:Rw}
theorem gp.Il {t g}(h:gp K H os S a r) (e:bP (bU r) (aQ t)=true) (hg:os[t]?=some (.fn g)):r=.fn t:=by
 have ev:=qp h.vp e;cases r with
 | fn j=>
  have z:j=t:=by have:=Xd lM ev;exact this
  rw[z]
 | cl j st=>
  obtain⟨_,_,_,_,_,_,_,_,h2,_⟩:=h;have z:j=t:=by have:=Xd lM ev;exact this
  rw[z,hg] at h2;cases h2
 | gv j w=>
  obtain⟨_,_,h2,_⟩:=h;have z:j=t:=by have:=Xd lM ev;exact this
  rw[z,hg] at h2;cases h2
 | ob j=>
  obtain⟨_,_,_,_,_,_,_,_,_,_,_,h2,_⟩:=h;have z:j=t:=by have:=Xd lM ev;exact this
  rw[z,hg] at h2;cases h2
 | mt j=>
  obtain⟨_,_,_,_,_,_,_,h2,_⟩:=h;have z:j=t:=by have:=Xd lM ev;exact this
  rw[z,hg] at h2;cases h2
 | vw j=>
  obtain⟨_,_,h2,_⟩:=h;have z:j=t:=by have:=Xd lM ev;exact this
  rw[z,hg] at h2;cases h2
 | pl d=>obtain⟨_,_,h2,_⟩:=h;have:=(h2.vd os).2;rw[show d=aQ t from ev,bw,hg] at this;cases this
theorem gp.Ik {t x y}(h:gp K H os S a r) (e:bP (bU r) (aQ t)=true) (hg:os[t]?=some (.mt x y)):r=.mt t:=by
 have ev:=qp h.vp e;cases r with
 | mt j=>
  have z:j=t:=by have:=Xd lM ev;exact this
  rw[z]
 | cl j st=>
  obtain⟨_,_,_,_,_,_,_,_,h2,_⟩:=h;have z:j=t:=by have:=Xd lM ev;exact this
  rw[z,hg] at h2;cases h2
 | gv j w=>
  obtain⟨_,_,h2,_⟩:=h;have z:j=t:=by have:=Xd lM ev;exact this
  rw[z,hg] at h2;cases h2
 | ob j=>
  obtain⟨_,_,_,_,_,_,_,_,_,_,_,h2,_⟩:=h;have z:j=t:=by have:=Xd lM ev;exact this
  rw[z,hg] at h2;cases h2
 | fn j=>
  obtain⟨_,h2,_⟩:=h;have z:j=t:=by have:=Xd lM ev;exact this
  rw[z,hg] at h2;cases h2
 | vw j=>
  obtain⟨_,_,h2,_⟩:=h;have z:j=t:=by have:=Xd lM ev;exact this
  rw[z,hg] at h2;cases h2
 | pl d=>obtain⟨_,_,h2,_⟩:=h;have:=(h2.vd os).2;rw[show d=aQ t from ev,bw,hg] at this;cases this
theorem gp.G1 {s}(h:gp K H os S a r) (hs:Vp os s) (e:bP (bU r) s=true) (ht:gF r="function"):∃g,ft os s=some (.fn g):=by
 obtain⟨t,rfl⟩:=uF (IL ht);obtain⟨g,h2,_⟩:=h;rw[nj hs e,bw];exact⟨g,h2⟩
theorem gp.G0 {s}(h:gp K H os S a r) (hs:Vp os s) (e:bP (bU r) s=true) (ht:gF r="method"):∃x y,ft os s=some (.mt x y):=by
 cases r with
 | mt t=>
  obtain⟨_,_,_,_,_,_,_,h2,_⟩:=h;rw[nj hs e,bw];exact⟨_,_,h2⟩
 | gv i w=>exact Xc (show("given":Str)="method" from ht) (by decide +kernel)
 | cl i st=>exact Xc (show("class":Str)="method" from ht) (by decide +kernel)
 | ob i=>exact Xc (show("object":Str)="method" from ht) (by decide +kernel)
 | fn i=>exact Xc (show("function":Str)="method" from ht) (by decide +kernel)
 | vw i=>exact Xc (show("view":Str)="method" from ht) (by decide +kernel)
 | pl d=>exact Xc (show("plain":Str)="method" from ht) (by decide +kernel)
end
theorem uM {os n}:∀{ns},(∀m∈ns,(sS os[m]?).lookup n=none)->dk os n ns=none
 | [],_=>rfl
 | m::ns,h=>by
  rw[dq,h m II];exact uM fun k hk=>h k (IH _ hk)
theorem Vp.dep {os us}(h:∀u∈us,Vp os u):GS.dep (.tup us)<=2:=by
 rw[GS.dep];have:=g9 (n:=1) (ds:=us) fun d hd=>(h d hd).vd.2;omega
theorem oz {d}:∀{ds},d∈ds->GS.dep d<=bM ds
 | e::ds,h=>by
  rw[bM];rcases Jv.mp h with rfl | h
  ·exact Nat.le_max_left _ _
  ·exact IV (oz h) (Nat.le_max_right _ _)
theorem zZ {bQ:List Th}{rs:List Rw}(h:∀r∈rs,Vp bQ (bU r)):((rs.map bU).any fun e=>bP e (aQ bQ.length))=false:=by
 rw[List.any_eq_false];intro e he;obtain⟨r,hr,rfl⟩:=JD.mp he;intro z;have hv:=h r hr;have ez:=qp hv z;rw[ez] at hv;generalize hN:bQ.length=N at hv;have:N < bQ.length:=by
  cases hv with
  | th j h=>exact h
 omega
inductive G2 (K:Fg06) (c:cF) (σ:L2.St) (H:Hp) (Q:VK):Prop
 | mk wp T ps os ln lf rs WH:sg σ 1 (.ref T)->gH K c H wp T ps os ln lf rs WH->WH.length<=100->(∀p ws H',au H H'->H' p=some (.lst ws)->az K H' (rs.map bU) ws->Q (.ref p) H')->G2 K c σ H Q
theorem map_range {rs:List Rw}{d:Rw}{n:Nat}(h:n=rs.length):(List.range n).map (fun i=>bU (rs.getD i d))=rs.map bU:=by
 subst h;refine List.ext_getElem (by simp) fun i h1 h2=>?_;have hi:i < rs.length:=by simpa using h2
 rw[List.getElem_map,List.getElem_map,List.getElem_range,IP,IM hi];rfl
abbrev Hv:Stmt:=cj 81
structure u5 (K:Fg06) (c:cF) (H:Hp) (σ:L2.St) (wp:Wp) (T:Addr) (ps:List Addr) (os:List Th) (ln:List Str) (lf:List Int) (rs:List Rw) (WH:List V) (a:Addr) (v2:V) (b:Bool) (us:List D) (y x:V) (fo:D):Prop where
 s:gH K c H wp T ps os ln lf rs WH
 e0:sg σ 0 (.ref wp.W)
 e1:sg σ 1 (.ref T)
 e2:sg σ 2 (.ref a)
 e3:sg σ 3 y
 e4:sg σ 4 x
 r:∃v1 v4,H a=some (.lst [.str "class",v1,v2,.bl b,v4])
 y:At K H (.tup us) y
 x:At K H fo x
 hu:∀u∈us,Vp os u
 ul:us.length<=90
 lt:WH.length<=100
 lo:os.length<=850
 l1:ln.length<=900
 l2:lf.length<=900
section
variable {K:Fg06}{c:cF}{H H':Hp}{σ σ':L2.St}{wp:Wp}{T:Addr}{ps:List Addr}{os:List Th}{ln:List Str}{lf:List Int}{rs:List Rw}{WH:List V}{a:Addr}{v2:V}{b:Bool}{us:List D}{y x:V}{fo:D}
theorem u5.same (h:u5 K c H σ wp T ps os ln lf rs WH a v2 b us y x fo) (s:au H H'):u5 K c H' σ wp T ps os ln lf rs WH a v2 b us y x fo:=⟨h.s.same s,h.e0,h.e1,h.e2,h.e3,h.e4,let ⟨v1,v4,e⟩:=h.r;⟨v1,v4,s _ _ e⟩,At.same s _ _ h.y,At.same s _ _ h.x,h.hu,h.ul,h.lt,h.lo,h.l1,h.l2⟩
theorem u5.st (h:u5 K c H σ wp T ps os ln lf rs WH a v2 b us y x fo) (e:∀j,j < 5->σ'[j]?=σ[j]?):u5 K c H σ' wp T ps os ln lf rs WH a v2 b us y x fo:=⟨h.s,(e 0 (by decide)).trans h.e0,(e 1 (by decide)).trans h.e1,(e 2 (by decide)).trans h.e2,(e 3 (by decide)).trans h.e3,(e 4 (by decide)).trans h.e4,h.r,h.y,h.x,h.hu,h.ul,h.lt,h.lo,h.l1,h.l2⟩
end
inductive rX (w:Str) (σ:L2.St) (H:Hp):Prop
 | no a x0 x1 tl:sg σ 2 (.ref a)->H a=some (.lst (x0::x1::.bj::tl))->rX w σ H
 | ne a x0 x1 v2 tl lk a0 kr tg Ly:sg σ 2 (.ref a)->H a=some (.lst (x0::x1::v2::tl))->v2≠.bj->sg σ 5 (.ref lk)->H lk=some (.lst (.ref a0::kr))->H a0=some (.lst (.str tg::Ly))->tg≠w->rX w σ H
inductive GG (w:Str) (σ:L2.St) (H:Hp) (Q:Bool->Hp->Prop):Prop
 | no:rX w σ H->Q false H->GG w σ H Q
 | yes a x0 x1 v2 tl lk a0 kr Ly:sg σ 2 (.ref a)->H a=some (.lst (x0::x1::v2::tl))->v2≠.bj->sg σ 5 (.ref lk)->H lk=some (.lst (.ref a0::kr))->H a0=some (.lst (.str w::Ly))->Q true H->GG w σ H Q
inductive Hz (K:Fg06) (c:cF) (D0:W0) (σ:L2.St) (H:Hp):Prop
 | go:rX "function" σ H->D0.nx σ H->Hz K c D0 σ H
 | yes wp T ps os ln lf rs WH a v2 b us y x fo N i t (g:sj) d' nm ns d fs lk a0 kr:u5 K c H σ wp T ps os ln lf rs WH a v2 b us y x fo->fo=.tup [.str "start",aQ N,aQ (N+1),.tup us]->v2≠.bj->((rs.map bU).any fun e=>bP e (aQ N))=false->os[N]?=some (.ob i d' (eB b))->os[N+1]?=some (.mt t N)->os[t]?=some (.fn g)->os[i]?=some (.kd nm ns d fs)->sg σ 5 (.ref lk)->H lk=some (.lst (.ref a0::kr))->j9 K H t g a0->a0∉Sx wp T->lk∉Sx wp T->
   (∀H' JK,jE c wp H H'->cG K c H' wp JK os eS ln lf->D0.rt (.bl true) H')->Hz K c D0 σ H
inductive sB7 (K:Fg06) (c:cF) (D0:W0) (σ:L2.St) (H:Hp):Prop
 | mk wp T ps os ln lf rs WH a v2 b us y x fo N i fr d' nm ns d fs:u5 K c H σ wp T ps os ln lf rs WH a v2 b us y x fo->fo=.tup (.str "start"::aQ N::fr)->os[N]?=some (.ob i d' (eB b))->os[i]?=some (.kd nm ns d fs)->(∀H',au H H'->D0.nx σ H')->sB7 K c D0 σ H
inductive Hy (K:Fg06) (c:cF) (D0:W0) (σ:L2.St) (H:Hp):Prop
 | go:rX "method" σ H->D0.nx σ H->Hy K c D0 σ H
 | yes wp T ps os ln lf rs WH a v2 b us y x fo N i s d' nm ns d fs KY lk a0 kr Ly:u5 K c H σ wp T ps os ln lf rs WH a v2 b us y x fo->fo=.tup [.str "start",aQ N,s,.tup us]->v2≠.bj->At K H s v2->Vp os s->os[N]?=some (.ob i d' KY)->os[i]?=some (.kd nm ns d fs)->sg σ 5 (.ref lk)->H lk=some (.lst (.ref a0::kr))->H a0=some (.lst (.str "method"::Ly))->(∀H',au H H'->D0.rt (.bl true) H')->Hy K c D0 σ H
def DC (b:Bool):Nat:=if b then 1 else 0
inductive Hx (K:Fg06) (c:cF) (D0:W0) (σ:L2.St) (H:Hp):Prop
 | go wp T ps os ln lf rs WH a v2 b us y x fo:u5 K c H σ wp T ps os ln lf rs WH a v2 b us y x fo->v2=.bj->us.length<=DC b->D0.nx σ H->Hx K c D0 σ H
 | yes wp T ps os ln lf rs WH a v2 b us y x fo:u5 K c H σ wp T ps os ln lf rs WH a v2 b us y x fo->fo=kF->(v2≠.bj\/DC b < us.length)->(∀H',au H H'->D0.rt (.bl true) H')->Hx K c D0 σ H
inductive sB4 (K:Fg06) (c:cF) (D0:W0) (σ:L2.St) (H:Hp):Prop
 | go wp T ps os ln lf rs WH a v2 b us y x fo N:u5 K c H σ wp T ps os ln lf rs WH a v2 b us y x fo->fo=eE (aQ N)->((rs.map bU).any fun e=>bP e (aQ N))=false->(∀H',au H H'->D0.nx σ H')->sB4 K c D0 σ H
inductive Hw (K:Fg06) (c:cF) (D0:W0) (σ:L2.St) (H:Hp):Prop
 | go a x0 x1 x2 v4:sg σ 2 (.ref a)->H a=some (.lst [x0,x1,x2,.bl false,v4])->D0.nx σ H->Hw K c D0 σ H
 | yes wp T ps os ln lf rs WH a v2 b us y x fo N i d' nm ns d fs:u5 K c H σ wp T ps os ln lf rs WH a v2 b us y x fo->b=true->σ.length=8->us.length<=1->fo=eE (aQ N)->os[N]?=some (.ob i d' (fU us oW))->os[i]?=some (.kd nm ns d fs)->(∀H',au H H'->D0.rt (.bl true) H')->Hw K c D0 σ H
inductive tWd (K:Fg06) (σ:L2.St) (H:Hp) (Q:VK):Prop
 | mk y us:sg σ 3 y->At K H (.tup us) y->us.length<=1->dep (.tup us)<=60->(∀v H',au H H'->At K H' (us.headD da) v->Q v H')->tWd K σ H Q
inductive tV3 (K:Fg06) (σ:L2.St) (H:Hp) (Q:VK):Prop
 | mk wv dw:sg σ 6 wv->At K H dw wv->(∀p ws H',au H H'->H' p=some (.lst ws)->az K H' [eE dw,eE da,eE da] ws->Q (.ref p) H')->tV3 K σ H Q
theorem y4 (us) (h:us.length<=1):(fU us oW).lookup ("word":Str)=some (us.headD da)/\(fU us oW).lookup ("cause":Str)=some da/\(fU us oW).lookup ("context":Str)=some da:=by
 have e0:oW.lookup ("word":Str)=some da/\oW.lookup ("cause":Str)=some da/\oW.lookup ("context":Str)=some da:=by
  unfold oW;refine⟨?_,?_,?_⟩
  ·rw[bG,IZ rfl]
  ·rw[bG,IY (by decide +kernel),bG,IZ rfl]
  ·rw[bG,IY (by decide +kernel),bG,IY (by decide +kernel),bG,IZ rfl]
 match us,h with
 | [],_=>exact e0
 | [u],_=>
  refine⟨?_,?_,?_⟩
  ·show((("word":Str),u)::oW).lookup _=_;rw[bG,IZ rfl];rfl
  ·show((("word":Str),u)::oW).lookup _=_;rw[bG,IY (by decide +kernel)];exact e0.2.1
  ·show((("word":Str),u)::oW).lookup _=_;rw[bG,IY (by decide +kernel)];exact e0.2.2
 | _::_::_,h=>exact Xc h (by simp)
section
variable {P:Program}{w:World}{K:Fg06}{mg:Str->Option Value}{base:Heap}{f:Addr}{fd:FuncData}{c:cF}
inductive Bi (K:Fg06) (c:cF) (vs:List V) (H:Hp) (Q:VK) (E:XK):Prop
 | mk wp T ps bQ ln lf rs WH B i nm ns d fs st us d' a y x:vs=[.ref wp.W,.ref T,.ref a,y,x]->gH K c H wp T ps (bQ++(oS bQ ln lf i ns us d').1) ln lf rs WH->kE bQ->jj bQ B->bQ[i]?=some (.kd nm ns d fs)->a∉Sx wp T->gp K H (bQ++(oS bQ ln lf i ns us d').1) (Sx wp T) a (.cl i st)->At K H (.tup us) y->us.length<=80->(∀u∈us,Vp bQ u)->At K H (oS bQ ln lf i ns us d').2.2.2 x->(∀r∈rs,Vp bQ (bU r))->((∀s,st=some s->∃r∈rs,bU r=s))->WH.length<=100->bQ.length<=800->ln.length<=900->lf.length<=900->(∀H' JK,jE c wp H H'->cG K c H' wp JK (bQ++(oS bQ ln lf i ns us d').1) eS ln lf->Q (.bl true) H')->Bi K c vs H Q E
theorem zj:aS ["_law_world","_law_there","_law_one","_law_values","_law_found","_law_starts","_law_word","_law_told"] ["_law_world","_law_there","_law_one","_law_values","_law_found"] (aw Hv):=fE
theorem FN (g:Glb9 mg) (F:eg K "_law_begun" "_law_begun" Hv f fd) (dX:Def P w K mg base "text_of" ["world","a"] 3 (mv K c)) (dF:Def P w K mg base "field_of" ["world","a","name"] 5 (pq K c)) (dCl:Def P w K mg base "called" ["world","a","values"] 7 (kZ K c)) (dE:Def P w K mg base "_law_entered" ["_law_found","_law_one","_law_values"] 2 (uk K)):bK P w K mg base eh 8 f fd ["_law_world","_law_there","_law_one","_law_values","_law_found"] (Bi K c):=by
 refine F.fw zj fun WK A outer s H vs Q E hr h=>?_;obtain⟨wp,T,ps,bQ,ln,lf,rs,WH,B,i,nm,ns,d,fs,st,us,d',a,y,x,rfl,hS,hW,hK,hi,OJ,hR,hy,K3,hu,hx,RG,KO,ht,hl,L5,KD,q⟩:=h;refine⟨_,(ag (.mk (L2.cM (iy:=5) (cl:=[("_law_one",s.heap.objs.size+2)]) (Xs:=["_law_other"]) (Nf:=["_law_one"]) (js:=[2]) ?k1 rfl (LI.out (cx (pv 1))) (fun C s0 H0 fp=>LG.out (i6 0 (show(["_law_other","_law_one"]:List Str).Nodup by decide +kernel))) (fun C s0 H0 fp=>gq (LT.out (cR (r:=gU K) (dm hr) (ff K (pv 0) ah) (ff K (pv 1) ah)))) (fun C s0 H0 fp=>LE.out (pv 0)) zj.nd rfl (Or.inl rfl)))
   (ag (cu (t':=Hz K c) (br (x9 (t':=GG "function") (LW.pt (cS (cR i7 (ff K (pv 2) ah) bV) (cv (cR bL (ff K (ff K (pv 5) ah) ah) ak)))) ?t1) (ag (br (LW.pt (eY (cR j6 (bg (pv 4)) ak) (eY (cR (r:=q0 K) (kf hr) (bg (pv 4)) (pv 3)) (cY (cR j6 (bR jt (bX dX (bF (pv 0) (bg (pv 4)))) ck (bZ ah)) ak))))) (aq cH) aP)
   (ag (br (LW.pt (eY (fg (r:=xE K) (uz hr) (bg (pv 4)) (fk (t':=G2 K c) (.mk (L2.dH (cl:=[]) (Xs:=["_law_other"]) (Nf:=[]) (js:=[]) ?k2 rfl (LI.out (cx (pv 1))) (fun C s0 H0 fp=>LG.out (i6 0 (show(["_law_other"]:List Str).Nodup by decide +kernel))) (fun C s0 H0 fp=>d6) (fun C s0 H0 fp=>LE.out (ff K (pv 0) ah)))) ?vl2) rfl) (cY (cR j6 (bR jt (bX dX (bF (pv 0) (bg (pv 4)))) ck (bZ ah)) ak)))) (aq cH) aP)
   (ag (cu (t':=sB7 K c) (br (LW.pt (cS (bT (ff K (pv 2) ah)) (cv (cR (r:=q0 K) (kf hr) (bX dF (ia (pv 0) (bg (pv 4)) ak)) (aI (bF ak (aI (cw ak)))))))) (aq cH) aP) ?b7)
   (aq (aD (bX dE (ia (bX dCl (ia (pv 0) (bg (pv 4)) (pv 3))) (ff K (pv 5) ah) (aH gK (aI (cw (bg (pv 4)))) (pv 3))))))))) aP) ?b1)
   (ag (cu (t':=Hy K c) (br (x9 (t':=GG "method") (LW.pt (cS (cR i7 (ff K (pv 2) ah) bV) (cv (cR bL (ff K (ff K (pv 5) ah) ah) ak)))) ?t2) (aq (aD (cT (ib bL (bg (pv 4)) ak) (cT (ib (r:=gU K) (dm hr) (bR zf (pv 4) (bZ ah) ck) (aI (bF (ff K (pv 2) ah) (pv 3)))) (cZ (ib bL (bR jt (bX dX (bF (pv 0) (bg (pv 4)))) ck (bZ ah)) ak)))))) aP) ?b2)
   (ag (cu (t':=Hx K c) (br (LW.pt (eY (cR i7 (ff K (pv 2) ah) bV) (cY (cR gy (aJ aU rfl g.fJ cX (cw (pv 3))) (bS v7 rfl g.Ic Gn (cw (ff K (pv 2) ah))))))) (aq (aD (ib (r:=gU K) (dm hr) (pv 4) (aI (bF ak ak))))) aP) ?b3)
   (ag (cu (t':=sB4 K c) (br (LW.pt (eY (cR j6 (bg (pv 4)) ak) (cY (fg (r:=xE K) (uz hr) (bg (pv 4)) (fk (t':=G2 K c) (.mk (L2.dH (cl:=[]) (Xs:=["_law_other"]) (Nf:=[]) (js:=[]) ?k3 rfl (LI.out (cx (pv 1))) (fun C s0 H0 fp=>LG.out (i6 0 (show(["_law_other"]:List Str).Nodup by decide +kernel))) (fun C s0 H0 fp=>d6) (fun C s0 H0 fp=>LE.out (ff K (pv 0) ah)))) ?vl3) rfl)))) (aq cH) aP) ?b4)
   (ag (cu (t':=Hw K c) (br (bT (ff K (pv 2) ah)) (ag (dD 6 zj.nd (fk (t':=tWd K) (bx (cR (r:=q0 K) (kf hr) (pv 3) (aI cJ)) (bg (pv 3)) (aI (cw ak))) ?wd))
   (ag (.mk (L2.cM (iy:=7) (cl:=[("_law_world",s.heap.objs.size+1),("_law_found",s.heap.objs.size+3)]) (Xs:=["_law_name"]) (Nf:=["_law_world","_law_found"]) (js:=[0,4]) ?k4 rfl (LI.out (ee (aI (ia ak ak ak)))) (fun C s0 H0 fp=>LG.out (i6 0 (show(["_law_name","_law_world","_law_found"]:List Str).Nodup by decide +kernel))) (fun C s0 H0 fp=>d6) (fun C s0 H0 fp=>LE.out (bX dF (ia (pv 1) (jJ (K:=K) rfl (pv 2)) (pv 0)))) zj.nd rfl (Or.inl rfl)))
   (aq (aD (ib (r:=ra K) (m9 hr) (pv 7) (fk (t':=tV3 K) (bB (ia (aI (bF ak (pv 6))) (aI (bF ak (aI (cw ak)))) (aI (bF ak (aI (cw ak)))))) ?v3)))))) aP) ?b5)
   (aq (aD (ib (r:=gU K) (dm hr) (bX dF (ia (pv 0) (bg (pv 4)) ak)) (aI (bF ak ak))))))))))),?main⟩
 case k1=>exact tI
 case k2=>exact zV
 case k3=>exact zV
 case k4=>exact tI
 case t1=>
  intro σ H Q h;cases h with
  | no h q=>
   cases h with
   | no a x0 x1 tl e2 ha=>
    refine⟨_,e2,a,_,_,.bj,rfl,rfl,bf.of ha,aC (j:=2) rfl,rfl,_,rfl,?_⟩;exact aY q
   | ne a x0 x1 v2 tl lk a0 kr tg Ly e2 ha hv e5 JO Lj JJ=>
    refine⟨_,e2,a,_,_,v2,rfl,rfl,bf.of ha,aC (j:=2) rfl,rfl,_,rfl,?_⟩;rw[IK hv];refine bE ⟨_,e5,lk,_,_,.ref a0,rfl,rfl,bf.of JO,aC (j:=0) rfl,a0,_,_,.str tg,rfl,rfl,bf.of Lj,aC (j:=0) rfl,rfl,_,rfl,?_⟩;rw[gg JJ];exact q
  | yes a x0 x1 v2 tl lk a0 kr Ly e2 ha hv e5 JO Lj q=>
   refine⟨_,e2,a,_,_,v2,rfl,rfl,bf.of ha,aC (j:=2) rfl,rfl,_,rfl,?_⟩;rw[IK hv];refine bE ⟨_,e5,lk,_,_,.ref a0,rfl,rfl,bf.of JO,aC (j:=0) rfl,a0,_,_,_,rfl,rfl,bf.of Lj,aC (j:=0) rfl,rfl,_,rfl,?_⟩;rw[IL rfl];exact q
 case t2=>
  intro σ H Q h;cases h with
  | no h q=>
   cases h with
   | no a x0 x1 tl e2 ha=>
    refine⟨_,e2,a,_,_,.bj,rfl,rfl,bf.of ha,aC (j:=2) rfl,rfl,_,rfl,?_⟩;exact aY q
   | ne a x0 x1 v2 tl lk a0 kr tg Ly e2 ha hv e5 JO Lj JJ=>
    refine⟨_,e2,a,_,_,v2,rfl,rfl,bf.of ha,aC (j:=2) rfl,rfl,_,rfl,?_⟩;rw[IK hv];refine bE ⟨_,e5,lk,_,_,.ref a0,rfl,rfl,bf.of JO,aC (j:=0) rfl,a0,_,_,.str tg,rfl,rfl,bf.of Lj,aC (j:=0) rfl,rfl,_,rfl,?_⟩;rw[gg JJ];exact q
  | yes a x0 x1 v2 tl lk a0 kr Ly e2 ha hv e5 JO Lj q=>
   refine⟨_,e2,a,_,_,v2,rfl,rfl,bf.of ha,aC (j:=2) rfl,rfl,_,rfl,?_⟩;rw[IK hv];refine bE ⟨_,e5,lk,_,_,.ref a0,rfl,rfl,bf.of JO,aC (j:=0) rfl,a0,_,_,_,rfl,rfl,bf.of Lj,aC (j:=0) rfl,rfl,_,rfl,?_⟩;rw[IL rfl];exact q
 case vl2=>
  rintro σ H Q ⟨wp,T,ps,os,ln,lf,rs,WH,e1,hS,ht,q⟩;have WM:=hS.r.len;refine⟨_,e1,T,rfl,⟨_,bf.of hS.t⟩,[],⟨rfl,fun j i h=>by simp at h⟩,cq (vs:=[]) (tc:=gx) WH.length (fun i=>WH.getD i .bj) (fun _=>true) (fun i v H'=>At K H' (bU (rs.getD i (.pl da))) v) (fun _ _ _ _ s z=>At.same s _ _ z) (by omega) (gb (bf.of hS.t)) (ja (bf.of hS.t)) (gL (bf.of hS.t)) (fun i H2 Q' hi s2 k=>k H2 (au.refl _)) (fun i H2 D l' Q' hi _ s2 _ KI k=>?_) fun lk H2 WI JO s2 JY hP=>?_⟩
  ·have er:rs[i]?=some (rs.getD i (.pl da)):=by rw[IP,IM (show i < rs.length by omega)];rfl
   obtain⟨a,ha,MP,KA⟩:=(hS.same s2).r.at er;obtain⟨v1,tl,h1,h2⟩:=KA.two;have ei:WH.getD i .bj=.ref a:=by rw[IP,ha];rfl
   rw[ei];exact⟨_,rfl,a,_,_,v1,rfl,rfl,bf.of h1,aC (j:=1) rfl,k _ _ (au.refl _) (At.wo KI _ _ h2)⟩
  ·have KW:=(hP.mono (fun i v z=>At.same (du H2 lk) _ _ z)).at
   rw[JF.mpr (fun _ _=>rfl),map_range WM] at KW;exact q lk WI H2 s2 JY KW
 case vl3=>
  rintro σ H Q ⟨wp,T,ps,os,ln,lf,rs,WH,e1,hS,ht,q⟩;have WM:=hS.r.len;refine⟨_,e1,T,rfl,⟨_,bf.of hS.t⟩,[],⟨rfl,fun j i h=>by simp at h⟩,cq (vs:=[]) (tc:=gx) WH.length (fun i=>WH.getD i .bj) (fun _=>true) (fun i v H'=>At K H' (bU (rs.getD i (.pl da))) v) (fun _ _ _ _ s z=>At.same s _ _ z) (by omega) (gb (bf.of hS.t)) (ja (bf.of hS.t)) (gL (bf.of hS.t)) (fun i H2 Q' hi s2 k=>k H2 (au.refl _)) (fun i H2 D l' Q' hi _ s2 _ KI k=>?_) fun lk H2 WI JO s2 JY hP=>?_⟩
  ·have er:rs[i]?=some (rs.getD i (.pl da)):=by rw[IP,IM (show i < rs.length by omega)];rfl
   obtain⟨a,ha,MP,KA⟩:=(hS.same s2).r.at er;obtain⟨v1,tl,h1,h2⟩:=KA.two;have ei:WH.getD i .bj=.ref a:=by rw[IP,ha];rfl
   rw[ei];exact⟨_,rfl,a,_,_,v1,rfl,rfl,bf.of h1,aC (j:=1) rfl,k _ _ (au.refl _) (At.wo KI _ _ h2)⟩
  ·have KW:=(hP.mono (fun i v z=>At.same (du H2 lk) _ _ z)).at
   rw[JF.mpr (fun _ _=>rfl),map_range WM] at KW;exact q lk WI H2 s2 JY KW
 case b1=>
  intro D0 σ H h;cases h with
  | go h q=>exact .no h (aY q)
  | yes wp T ps os ln lf rs WH a v2 b us y x fo N i t g1 d' nm ns d fs lk a0 kr hX Kz J8 hN h1 h2 h3 h4 e5 JO hF OJ hlS q=>
  subst Kz;obtain⟨v1,v4,ha⟩:=hX.r;have hF':=hF;obtain⟨w1,w3,Lj,_,_⟩:=hF';refine .yes a _ _ v2 _ lk a0 kr _ hX.e2 ha J8 e5 JO Lj (bE ?_);have RR:dep (.tup us)<=60:=IV (Vp.dep hX.hu) (by decide);refine⟨_,hX.e4,0,_,_,rfl,hX.x,rfl,fun y0 PX=>?_⟩;rw[av.mp PX];refine⟨rfl,_,rfl,?_⟩;rw[IL rfl];refine aY ⟨_,hX.e4,3,_,_,rfl,hX.x,rfl,fun y3 hy3=>⟨_,hX.e3,_,_,hy3,hX.y,RR,_,rfl,?_⟩⟩;rw[bo];refine aY ⟨_,hX.e0,_,hX.e4,2,_,_,rfl,hX.x,rfl,fun y2 KL=>⟨wp,ps,os,eS,ln,lf,y2,aQ (N+1),rfl,hX.s.w,hX.s.o.wf,hX.s.o.nb,KL,.th _ (aE h2),?_⟩⟩;have et2:jX os (aQ (N+1))=("method ":Str)++g1.nm:=by
   rw[kb h2];show jn "method" (yW os[t]?)=_;rw[h3,Ij];rfl
  rw[et2];refine⟨_,rfl,_,rfl,FZ (hX.s.o.nb t _ h3),rfl,_,rfl,?_⟩;rw[G4,IL rfl];refine aY ?_;have TQ:jX os (aQ N)=("a ":Str)++nm:=by
   rw[kb h1];show jn "a" (yW os[i]?)=_;rw[h4,F3];rfl
  refine⟨_,hX.e4,1,_,_,rfl,hX.x,rfl,fun y1 KN=>⟨wp,T,ps,os,ln,lf,rs,WH,hX.e1,hX.s,hX.lt,fun p5 ws H5 s5 h5 A5=>⟨p5,ws,aQ N,rs.map bU,rfl,bf.of h5,A5,At.same s5 _ _ KN,fun e he=>?_,_,rfl,?_⟩⟩⟩
  ·obtain⟨r,hr,rfl⟩:=JD.mp he;obtain⟨j,hj,er⟩:=JG hr;obtain⟨aj,_,_,Ts⟩:=hX.s.r.at (Jn.mpr ⟨hj,er⟩);exact IV Ts.vp.vd.2 (by decide)
  rw[hN];have K8:=hX.same s5;have Qs:=s5 _ _ JO;have NG:=hF.keep (au.pG (S:=Sx wp T) s5) OJ;have c5:jE c wp H H5:=au.chg s5;clear h5 A5 JO hF ha Lj;refine aY ⟨_,K8.e0,_,K8.e4,1,_,_,rfl,K8.x,rfl,fun z1 Lm=>⟨wp,ps,os,eS,ln,lf,z1,aQ N,rfl,K8.s.w,K8.s.o.wf,K8.s.o.nb,Lm,.th _ (aE h1),?_⟩⟩;rw[TQ];refine⟨_,rfl,_,rfl,AJ (hX.s.o.nb i _ h4),rfl,_,rfl,?_⟩;rw[Es,IL rfl];refine aY ?_;refine⟨wp,T,ps,os,ln,lf,rs,WH,a,v2,b,us,y,x,_,N,i,[aQ (N+1),.tup us],d',nm,ns,d,fs,K8,rfl,h1,h4,fun H6 s6=>?_⟩;have LR:=K8.same s6;have Oo:=s6 _ _ Qs;have TC:=NG.keep (au.pG (S:=Sx wp T) s6) OJ;have c6:jE c wp H H6:=c5.trans (au.chg s6);clear K8 Qs NG c5 s5 s6;have ec:∀d'',fM os ln lf (aQ (N+1)) us d''=([],ln,lf,gf g1 t (aQ N::us)):=fun d''=>by
   unfold fM;rw[bw,h2];show(([]:List Th),ln,lf,match os[t]? with | some (.fn g)=>gf g t (aQ N::us) | _=>kF)=_;rw[h3]
  have Pd:dep (gf g1 t (aQ N::us))<=50:=by
   unfold gf;split
   ·have z:=hX.s.o.dd t g1 h3;have z2:=g9 (n:=2) (ds:=aQ N::us++g1.df.drop (g1.df.length - (g1.np - (aQ N::us).length))) fun e he=>by
     rcases Jm.mp he with he | he
     ·rcases Jv.mp he with rfl | he
      ·rw[hJ];decide
      ·exact IV (hX.hu e he).vd.2 (by decide)
     ·exact IV (oz (List.mem_of_mem_drop he)) z
    rw[GS.dep,bM,bM,bM,bM,cy,hJ,GS.dep];omega
   ·decide +kernel
  refine⟨_,LR.e0,_,LR.e4,2,_,_,rfl,LR.x,rfl,fun z2 LK=>⟨_,LR.e3,wp,ps,os,eS,ln,lf,z2,y,aQ (N+1),us,rfl,LR.s.w,LR.s.o.wf,LR.s.o.nb,LR.s.o.db,LK,.th _ (aE h2),fun n hn=>?_,LR.y,hX.ul,hX.hu,by decide +kernel,IV hX.lo (by decide),hX.l1,hX.l2,fun d''=>?_⟩⟩
  ·rw[bw,h2] at hn;cases hn
  rw[ec];intro r7 H7 SD c7 w7 a7;have c7:=c7.chg (c:=c);have w7:cG K c H7 wp (ps++SD) os eS ln lf:=by
   have w7:cG K c H7 wp (ps++SD) (os++[]) eS ln lf:=w7;rw[Js] at w7;exact w7
  have a7:At K H7 (gf g1 t (aQ N::us)) r7:=a7;have f7:=c7.fx LR.s.w;have k7:=c7.pG LR.s.w (S:=Sx wp T) Sx.l Sx.n Sx.f;have hlk7:=k7.l _ _ hlS Oo;have hF7:=TC.keep k7 OJ;refine⟨_,e5,lk,_,_,.ref a0,rfl,rfl,bf.of hlk7,aC (j:=0) rfl,_,hX.e4,1,_,_,rfl,At.fx f7 _ _ LR.x,rfl,fun z1 Lm=>⟨jY,fun t8 LD=>⟨_,hX.e3,[aQ N],us,At.new LD (az.fu Lm),At.same (ae LD _) _ _ (At.fx f7 _ _ LR.y),small (by have:=hX.ul;rw[Jy];omega),fun r9 H9 s9 a9=>?_⟩⟩⟩;have Rf:=(ae LD (.tup [z1])).trans s9;refine⟨a0,r7,r9,t,g1,gf g1 t (aQ N::us),aQ N::us,rfl,hF7.keep (au.pG (S:=Sx wp T) Rf) OJ,At.same Rf _ _ a7,Pd,a9,by have:=hX.ul;rw[Jf];omega,hX.s.o.db t g1 h3,fun Kq J0=>?_⟩;rw[bo];exact q Kq _ ((c6.trans c7).trans (au.chg (Rf.trans J0))) (w7.same (Rf.trans J0))
 case b7=>
  rintro D0 σ H ⟨wp,T,ps,os,ln,lf,rs,WH,a,v2,b,us,y,x,fo,N,i,fr,d',nm,ns,d,fs,hX,rfl,h1,h4,q⟩;obtain⟨v1,v4,ha⟩:=hX.r;refine⟨_,hX.e2,a,_,_,.bl b,rfl,rfl,bf.of ha,aC (j:=3) rfl,_,rfl,?_⟩;refine bO (fun eb=>?_) (fun eb=>aY (q H (au.refl _)));have eb:b=true:=eb;subst eb;have efl:oq os (eB true) ns "word"=.val da:=by
   unfold oq;rw[show(eB true).lookup ("word":Str)=some da from by show oW.lookup ("word":Str)=_;unfold oW;rw[bG,IZ rfl]]
  refine⟨_,hX.e0,_,hX.e4,1,_,_,rfl,hX.x,rfl,fun z1 Lm=>⟨wp,ps,os,eS,ln,lf,z1,N,i,d',eB true,nm,ns,d,fs,"word",rfl,hX.s.w,hX.s.o.wf,IV hX.lo (by decide),Lm,h1,h4,?_⟩⟩;rw[efl];intro r2 H2 s2 a2;refine⟨jY,fun t3 JQ=>⟨eX,fun t4 JV=>?_⟩⟩;have s3:=ae JQ (.tup [.str "none"]);have s4:=s3.trans (ae JV (.tup [.str "value",.ref t3]));refine⟨_,eE da,At.same s4 _ _ a2,At.new JV (aZ (av.mpr rfl) (At.new JQ (az.fu (av.mpr rfl)))),by decide +kernel,_,rfl,?_⟩;rw[show bP (.tup [.str "value",da]) (eE da)=true from bo _];exact aY (q _ (s2.trans s4))
 case b2=>
  intro D0 σ H h;cases h with
  | go h q=>exact .no h (aY q)
  | yes wp T ps os ln lf rs WH a v2 b us y x fo N i s d' nm ns d fs KY lk a0 kr Ly hX Kz J8 hs hsv h1 h4 e5 JO Lj q=>
  subst Kz;obtain⟨v1,v4,ha⟩:=hX.r;refine .yes a _ _ v2 _ lk a0 kr _ hX.e2 ha J8 e5 JO Lj (bE ?_);have RR:dep (.tup us)<=2:=Vp.dep hX.hu;have Kj:=hsv.vd.2;refine⟨_,hX.e4,0,_,_,rfl,hX.x,rfl,fun y0 PX=>?_⟩;rw[av.mp PX];refine⟨rfl,_,rfl,?_⟩;rw[IL rfl];refine bE ⟨_,hX.e4,_,rfl,_,hX.x,fun r1 H1 s1 a1=>?_⟩;have a1:At K H1 (.tup (cutD [.str "start",aQ N,s,.tup us] (some ((2:Nat):Int)) none)) r1:=a1;rw[jS (by show 2<=4;decide)] at a1;have a1:At K H1 (.tup [s,.tup us]) r1:=a1;refine⟨_,hX.e2,a,_,_,v2,rfl,rfl,bf.of (s1 _ _ ha),aC (j:=2) rfl,_,hX.e3,eX,fun t2 JS=>?_⟩;have s2:=ae JS (.tup [v2,y]);refine⟨_,.tup [s,.tup us],At.same s2 _ _ a1,At.new JS (aZ (At.same s1 _ _ hs) (At.same s1 _ _ hX.y)),?_,_,rfl,?_⟩
  ·rw[GS.dep,bM,bM,bM];omega
  rw[bo];have Ku:=hX.same (s1.trans s2);refine bE ⟨_,Ku.e0,_,Ku.e4,1,_,_,rfl,Ku.x,rfl,fun z1 Lm=>⟨wp,ps,os,eS,ln,lf,z1,aQ N,rfl,Ku.s.w,Ku.s.o.wf,Ku.s.o.nb,Lm,.th _ (aE h1),?_⟩⟩;have TQ:jX os (aQ N)=("a ":Str)++nm:=by
   rw[kb h1];show jn "a" (yW os[i]?)=_;rw[h4,F3];rfl
  rw[TQ];refine⟨_,rfl,_,rfl,AJ (hX.s.o.nb i _ h4),rfl,?_⟩;rw[Es,IL rfl];exact q _ (s1.trans s2)
 case b3=>
  intro D0 σ H h;cases h with
  | go wp T ps os ln lf rs WH a v2 b us y x fo hX J8 hle q=>
   obtain⟨v1,v4,ha⟩:=hX.r;subst J8;obtain⟨py,vy,ey,sy,ay⟩:=aX.mp hX.y;subst ey;have ly:=ay.len;refine⟨_,hX.e2,a,_,_,.bj,rfl,rfl,bf.of ha,aC (j:=2) rfl,rfl,_,rfl,aY ?_⟩;refine⟨_,hX.e3,py,vy,rfl,.inr sy,_,hX.e2,a,_,_,.bl b,rfl,rfl,bf.of ha,aC (j:=3) rfl,.inr ⟨b,rfl,_,_,rfl,rfl,_,rfl,?_⟩⟩;have e:decide ((if b=true then(1:Int) else 0) < ((vy.length:Nat):Int))=false:=IK (by
    cases b with
    | true=>have hle:us.length<=1:=hle;show ¬(1:Int) < _;omega
    | false=>have hle:us.length<=0:=hle;show ¬(0:Int) < _;omega)
   rw[e];exact aY q
  | yes wp T ps os ln lf rs WH a v2 b us y x fo hX Kz O6 q=>
   subst Kz;obtain⟨v1,v4,ha⟩:=hX.r;obtain⟨py,vy,ey,sy,ay⟩:=aX.mp hX.y;subst ey;have ly:=ay.len;refine⟨_,hX.e2,a,_,_,v2,rfl,rfl,bf.of ha,aC (j:=2) rfl,rfl,_,rfl,?_⟩;refine bO (fun e=>bE ⟨_,hX.e4,eX,fun t2 JS=>?_⟩) (fun e=>?_)
   ·have s2:=ae JS (.tup [.str "fault",.str "KindFault"]);refine⟨_,kF,At.same s2 _ _ hX.x,At.new JS (aZ (av.mpr rfl) (av.mpr rfl)),by decide +kernel,?_⟩;rw[bo];exact q _ s2
   have J8:v2=.bj:=by
    have e:(!decide (v2=V.bj))=false:=e
    simpa using e
   have JR:DC b < us.length:=O6.resolve_left (fun z=>z J8);refine⟨_,hX.e3,py,vy,rfl,.inr sy,_,hX.e2,a,_,_,.bl b,rfl,rfl,bf.of ha,aC (j:=3) rfl,.inr ⟨b,rfl,_,_,rfl,rfl,_,rfl,?_⟩⟩;have e:decide ((if b=true then(1:Int) else 0) < ((vy.length:Nat):Int))=true:=IL (by
    cases b with
    | true=>have JR:1 < us.length:=JR;show(1:Int) < _;omega
    | false=>have JR:0 < us.length:=JR;show(0:Int) < _;omega)
   rw[e];refine bE ⟨_,hX.e4,eX,fun t2 JS=>?_⟩;have s2:=ae JS (.tup [.str "fault",.str "KindFault"]);refine⟨_,kF,At.same s2 _ _ hX.x,At.new JS (aZ (av.mpr rfl) (av.mpr rfl)),by decide +kernel,?_⟩;rw[bo];exact q _ s2
 case b4=>
  rintro D0 σ H ⟨wp,T,ps,os,ln,lf,rs,WH,a,v2,b,us,y,x,fo,N,hX,rfl,hN,q⟩;refine⟨_,hX.e4,0,_,_,rfl,hX.x,rfl,fun y0 PX=>?_⟩;rw[av.mp PX];refine⟨rfl,_,rfl,?_⟩;rw[IL rfl];refine aY ⟨_,hX.e4,1,_,_,rfl,hX.x,rfl,fun y1 KN=>⟨wp,T,ps,os,ln,lf,rs,WH,hX.e1,hX.s,hX.lt,fun p5 ws H5 s5 h5 A5=>⟨p5,ws,aQ N,rs.map bU,rfl,bf.of h5,A5,At.same s5 _ _ KN,fun e he=>?_,_,rfl,?_⟩⟩⟩
  ·obtain⟨r,hr,rfl⟩:=JD.mp he;obtain⟨j,hj,er⟩:=JG hr;obtain⟨aj,_,_,Ts⟩:=hX.s.r.at (Jn.mpr ⟨hj,er⟩);exact IV Ts.vp.vd.2 (by decide)
  rw[hN];exact aY (q _ s5)
 case wd=>
  rintro σ H Q ⟨y,us,e3,hy,hl,hd,q⟩;refine⟨_,e3,Jr _,fun t1 Kc=>⟨_,.tup [],At.same (ae Kc _) _ _ hy,At.new Kc (bq.mpr rfl),hd,_,rfl,?_⟩⟩;have s1:=ae Kc (.tup [])
  match us,hl,hy,q with
  | [],_,hy,q=>
   rw[bo];refine aY ⟨jY,fun t2 JS=>q _ _ (s1.trans (ae JS _)) (At.new JS (az.fu (av.mpr rfl)))⟩
  | [u],_,hy,q=>
   have e:bP (.tup [u]) (.tup [])=false:=by simp[bP,fv]
   rw[e];exact bE ⟨_,e3,0,_,_,rfl,At.same s1 _ _ hy,rfl,fun v hv=>q v _ s1 hv⟩
  | _::_::_,h,_,_=>exact Xc h (by simp)
 case v3=>
  rintro σ H Q ⟨wv,dw,e4,hA,q⟩;refine⟨_,e4,eX,fun t1 Kc=>?_⟩;have s1:=ae Kc (.tup [.str "value",wv]);have a1:At K (WX H t1 (.tup [.str "value",wv])) (eE dw) (.ref t1):=At.new Kc (aZ (av.mpr rfl) hA);generalize WX H t1 (.tup [.str "value",wv])=H1 at s1 a1 ⊢;refine⟨jY,fun t2 JS=>?_⟩;have s2:=ae JS (.tup [.str "none"]);have a2:At K (WX H1 t2 (.tup [.str "none"])) (da) (.ref t2):=At.new JS (az.fu (av.mpr rfl));generalize WX H1 t2 (.tup [.str "none"])=H2 at s2 a2 ⊢;refine⟨eX,fun t3 JQ=>?_⟩;have s3:=ae JQ (.tup [.str "value",.ref t2]);have a3:At K (WX H2 t3 (.tup [.str "value",.ref t2])) (eE da) (.ref t3):=At.new JQ (aZ (av.mpr rfl) a2);generalize WX H2 t3 (.tup [.str "value",.ref t2])=H3 at s3 a3 ⊢;refine⟨jY,fun t4 JV=>?_⟩;have s4:=ae JV (.tup [.str "none"]);have a4:At K (WX H3 t4 (.tup [.str "none"])) (da) (.ref t4):=At.new JV (az.fu (av.mpr rfl));generalize WX H3 t4 (.tup [.str "none"])=H4 at s4 a4 ⊢;refine⟨eX,fun t5 Qa=>?_⟩;have s5:=ae Qa (.tup [.str "value",.ref t4]);have a5:At K (WX H4 t5 (.tup [.str "value",.ref t4])) (eE da) (.ref t5):=At.new Qa (aZ (av.mpr rfl) a4);generalize WX H4 t5 (.tup [.str "value",.ref t4])=H5 at s5 a5 ⊢;refine⟨wD,fun p hp=>?_⟩;have s6:=ae hp (.lst [.ref t1,.ref t3,.ref t5]);refine q p _ _ (s1.trans (s2.trans (s3.trans (s4.trans (s5.trans s6))))) ao ?_;exact kJ (At.same (s2.trans (s3.trans (s4.trans (s5.trans s6)))) _ _ a1) (At.same (s4.trans (s5.trans s6)) _ _ a3) (At.same s6 _ _ a5)
 case b5=>
  intro D0 σ H h;cases h with
  | go a x0 x1 x2 v4 e2 ha q=>exact⟨_,e2,a,_,_,.bl false,rfl,rfl,bf.of ha,aC (j:=3) rfl,_,rfl,aY q⟩
  | yes wp T ps os ln lf rs WH a v2 b us y x fo N i d' nm ns d fs hX hb hσ K3 Kz h1 h4 q=>
  subst Kz;subst hb;obtain⟨v1,v4,ha⟩:=hX.r;refine⟨_,hX.e2,a,_,_,.bl true,rfl,rfl,bf.of ha,aC (j:=3) rfl,_,rfl,bE ?_⟩;have RR:=Vp.dep hX.hu;refine⟨y,us,hX.e3,hX.y,K3,IV RR (by decide),fun wv H1 s1 hwv=>?_⟩;have J2:=(hX.same s1).st (σ':=σ.set 6 (some wv)) (fun j hj=>IQ (by omega));have e6:sg (σ.set 6 (some wv)) 6 wv:=IT (by omega);have Kt:(σ.set 6 (some wv)).length=8:=by rw[Jk];exact hσ
  have Rz:dep (us.headD da)<=1:=by
   match us,hX.hu with
   | [],_=>decide +kernel
   | u::_,hu=>exact(hu u II).vd.2
  refine⟨wD,fun tp Nt=>⟨tp,rfl,⟨_,fh.of ao⟩,[.ref wp.W,x],⟨rfl,fun j i h=>?_⟩,?cmp⟩⟩
  ·match j,h with
   | 0,h=>cases h;exact⟨_,rfl,J2.e0⟩
   | 1,h=>cases h;exact⟨_,rfl,J2.e4⟩
   | j+2,h=>simp at h
  case cmp=>
  have s3:au H1 (WX H1 tp (.tup [.str "word",.str "cause",.str "context"])):=ae Nt _;have Rb:fh K (WX H1 tp (.tup [.str "word",.str "cause",.str "context"])) tp [.str "word",.str "cause",.str "context"]:=fh.of ao;generalize WX H1 tp (.tup [.str "word",.str "cause",.str "context"])=H3 at s3 Rb ⊢;refine cq (vs:=[.ref wp.W,x]) (tc:=gx) ([.str "word",.str "cause",.str "context"]:List V).length (fun i=>([.str "word",.str "cause",.str "context"]:List V).getD i .bj) (fun _=>true) (fun i v H'=>At K H' ([eE (us.headD da),eE da,eE da].getD i .bj) v) (fun _ _ _ _ s z=>At.same s _ _ z) (by show 3<=1000000;decide) (gZ Rb) (km Rb) (i9 Rb) (fun i H2 Q' hi s2 k=>k H2 (au.refl _)) (fun j H4 D l' Q' hi _ s4 _ KI k=>?_) fun D H4 Mx hD s4 L6 RW=>?_
  ·have QI:=J2.same (s3.trans s4);have one:∀nme (dd:GS.D),(fU us oW).lookup nme=some dd->(∀v H5,au H4 H5->At K (wo H5 D) (eE dd) v->Q' v H5)->qL (pq K c) [] E0 (gR (vh 1) (gR (tY (xD K) (vh 2) (tC (.int 1))) (gR (vh 0) su))) [some (.str nme),some (.ref wp.W),some x] H4 Q':=fun nme dd e1 k'=>by
    have efl:oq os (fU us oW) ns nme=.val dd:=by
     unfold oq;rw[e1]
    refine⟨_,rfl,_,rfl,1,_,_,rfl,QI.x,rfl,fun z1 Lm=>⟨_,rfl,wp,ps,os,eS,ln,lf,z1,N,i,d',fU us oW,nm,ns,d,fs,nme,rfl,QI.s.w,QI.s.o.wf,IV hX.lo (by decide),Lm,h1,h4,?_⟩⟩;rw[efl];exact fun r5 H5 s5 a5=>k' r5 H5 s5 (At.wo (s5 _ _ KI) _ _ a5)
   obtain⟨w1,w2,w3⟩:=y4 us K3
   match j,hi,k with
   | 0,_,k=>exact one "word" _ w1 k
   | 1,_,k=>exact one "cause" _ w2 k
   | 2,_,k=>exact one "context" _ w3 k
   | j+3,hi,_=>exact Xc hi (by show ¬j+3 < 3;omega)
  have A4:az K H4 [eE (us.headD da),eE da,eE da] Mx:=(RW.mono (fun i v z=>At.same (du H4 D) _ _ z)).at
  have Lb:=s3.trans s4;clear RW s4 s3;refine⟨_,(show sg ((σ.set 6 (some wv)).set 7 (some (.ref D))) 7 (.ref D) from IT (by omega)),wv,us.headD da,(IQ (by decide)).trans e6,At.same Lb _ _ hwv,fun p5 ws H5 s5 h5 A5=>⟨D,p5,Mx,ws,[eE (us.headD da),eE da,eE da],rfl,rfl,bf.of (s5 _ _ L6),bf.of h5,az.same s5 _ _ A4,A5,?_,q _ ((s1.trans Lb).trans s5)⟩⟩;rw[bM,bM,bM,bM];have e1:=oB Rz;have e2:=oB (d:=da) (n:=1) (by decide +kernel);omega
 case main=>
  obtain⟨v1,v2,v4,Lc,LZ,d2,JM,ha,LN,Kr,J8,LP,P4,_,_,_⟩:=hR;rw[cN hi] at LN;cases LN;have hst0:dk bQ "start" ns=st:=by rw[<-jQ (fT.app bQ _) (hW.wf.k i nm ns d fs hi).1];exact LP
  have WM:=hS.r.len;have Qe:At K H (st.getD .bj) v2:=by
   cases st with
   | none=>exact cB.mpr J8
   | some s=>exact J8
  have LH:oS bQ ln lf i ns us d'=AB bQ ln lf i (decide (9∈ns)) us d' (nh bQ st):=by rw[<-hst0];rfl
  have Nv:=uA bQ ln lf i (decide (9∈ns)) us d' (nh bQ st);rw[LH] at hS hx q;have ME:∀s,st=some s->Vp bQ s:=fun s e=>by
   obtain⟨r,hr,e2⟩:=KO s e;rw[<-e2];exact RG r hr
  clear LP LH;generalize hb:decide (9∈ns)=b at *;generalize ho:AB bQ ln lf i b us d' (nh bQ st)=o at *;have ll:(bQ++o.1).length<=bQ.length+2:=by rw[IJ];omega
  have lle:bQ.length<=(bQ++o.1).length:=by rw[IJ];omega
  have O8:(bQ++o.1)[i]?=some (.kd nm ns d fs):=cN hi;refine⟨_,rfl,T,rfl,⟨_,bf.of hS.t⟩,[.ref a],⟨rfl,fun j i h=>?_⟩,hU (vs:=[.ref a]) hS (by omega) (fun r=>bP (bU r) (st.getD .bj)) (fun r a1 H1 Q' _ _ s1 KH k=>?_) (fun a1 H1 Q' k=>⟨_,rfl,k⟩) fun lk H1 WI Mr s1 JO J6=>?_⟩
  ·match j,h with
   | 0,h=>cases h;exact⟨_,rfl,rfl⟩
   | j+1,h=>simp at h
  ·obtain⟨w1,tl,h1,h2⟩:=KH.two;exact⟨_,rfl,a1,_,_,w1,rfl,rfl,bf.of h1,aC (j:=1) rfl,_,rfl,a,_,_,v2,rfl,rfl,bf.of (s1 _ _ ha),aC (j:=2) rfl,bU r,st.getD .bj,h2,At.same s1 _ _ Qe,IV KH.vp.vd.2 (by decide),_,rfl,k H1 (au.refl _)⟩
  have nlk:lk∉Sx wp T:=hS.fresh Mr;have hX:u5 K c H1 [some (.ref wp.W),some (.ref T),some (.ref a),some y,some x,some (.ref lk),none,none] wp T ps (bQ++o.1) ln lf rs WH a v2 b us y x o.2.2.2:=⟨hS.same s1,rfl,rfl,rfl,rfl,rfl,⟨v1,v4,s1 _ _ ha⟩,At.same s1 _ _ hy,At.same s1 _ _ hx,fun u h=>(hu u h).mono lle,by omega,ht,by omega,L5,KD⟩;have KH:=s1 _ _ ha;have P5:=J8.fx (au.fx s1);have q1:∀H' JK,jE c wp H1 H'->cG K c H' wp JK (bQ++o.1) eS ln lf->Q (.bl true) H':=fun H' JK c' w'=>q H' JK ((au.chg s1).trans c') w';have q2:∀H',au H1 H'->Q (.bl true) H':=fun H' s'=>q1 H' ps (au.chg s') (hX.s.w.same s');have hN:=zZ RG;clear q hS hy hx J8 Qe ha Kr P4 Mr hl Nv;cases st with
  | none=>
   have J8:v2=.bj:=P5;subst J8;refine .go (.no a _ _ _ rfl KH) (.go (.no a _ _ _ rfl KH) ?_);have ho:(if DC b < us.length then([.ob i d' (eB b)],ln,lf,kF) else([.ob i d' (fU us (eB b))],ln,lf,eE (aQ bQ.length)))=o:=ho;by_cases hc:DC b < us.length
   ·rw[IZ hc] at ho;subst ho;exact .yes _ _ _ _ _ _ _ _ _ _ _ _ _ _ _ hX rfl (.inr hc) q2
   ·rw[IY hc] at ho;subst ho;refine .go _ _ _ _ _ _ _ _ _ _ _ _ _ _ _ hX rfl (by omega) (.go _ _ _ _ _ _ _ _ _ _ _ _ _ _ _ bQ.length hX rfl hN fun H5 s5=>?_);have K8:=hX.same s5;have LM:(bQ++[.ob i d' (fU us (eB b))])[bQ.length]?=some (.ob i d' (fU us (eB b))):=bD;cases b with
    | true=>
     refine .yes _ _ _ _ _ _ _ _ _ _ _ _ _ _ _ bQ.length i d' nm ns d fs K8 rfl rfl (by have:=hc;show us.length<=1;have e:DC true=1:=rfl;omega) rfl LM O8 fun H6 s6=>q2 H6 (s5.trans s6)
    | false=>
     refine .go a _ _ _ _ rfl (s5 _ _ KH) ?_;have S8:us=[]:=W8.mp (by have e:DC false=0:=rfl;omega);subst S8;have efl:oq (bQ++[.ob i d' (fU [] (eB false))]) [] ns "word"=.no:=by
      unfold oq;show nh _ (dk _ "word" ns)=_;rw[jQ (fT.app bQ _) (hW.wf.k i nm ns d fs hi).1,uM fun m hm=>?_]
      ·rfl
      ·obtain⟨KJ,LY,d1,KY,e1⟩:=(hW.wf.k i nm ns d fs hi).1 m hm;rw[e1];exact(hK m _ _ _ _ e1).2.2.2.2
     refine⟨_,rfl,_,rfl,1,_,_,rfl,K8.x,rfl,fun z1 Lm=>⟨wp,ps,_,eS,ln,lf,z1,bQ.length,i,d',[],nm,ns,d,fs,"word",rfl,K8.s.w,K8.s.o.wf,IV hX.lo (by decide),Lm,LM,O8,?_⟩⟩;rw[efl];intro r6 H6 s6 a6;refine⟨eX,fun t7 LF=>?_⟩;have s7:=ae LF (.tup [.str "fault",.str "FieldFault"]);refine⟨_,.tup [.str "fault",.str "FieldFault"],At.same s7 _ _ a6,At.new LF (aZ (av.mpr rfl) (av.mpr rfl)),by decide +kernel,?_⟩;rw[bo];exact q2 _ ((s5.trans s6).trans s7)
  | some s=>
   have Qf:=ME s rfl;have Tb:=Qf.mono lle;have J8:At K H1 s v2:=P5;have Lh:v2≠.bj:=by
    obtain⟨r,rfl⟩:=Qf.vd.jo;exact J8.jo
   have U6:ft (bQ++o.1) s=ft bQ s:=mP Qf.vd;obtain⟨a0,kr,r0,RN,haS0,O5,RP⟩:∃a0 kr r0,WI=.ref a0::kr/\a0∉Sx wp T/\gp K H1 (bQ++o.1) (Sx wp T) a0 r0/\bP (bU r0) s=true:=by
    obtain⟨r,hr,e2⟩:=KO s rfl;have hm:r∈rs.filter (fun r=>bP (bU r) s):=JC.mpr ⟨hr,by rw[e2];exact bo s⟩;have J6:cV K H1 (bQ++o.1) (Sx wp T) (rs.filter (fun r=>bP (bU r) s)) WI:=J6;have JW:∀r∈rs.filter (fun r=>bP (bU r) s),bP (bU r) s=true:=fun r h=>(JC.mp h).2;revert J6 hm JW;generalize rs.filter (fun r=>bP (bU r) s)=fl;intro hm J6 JW;cases J6 with
    | nil=>cases hm
    | cons h1 h2 h3=>exact⟨_,_,_,rfl,h2,h1,JW _ II⟩
   subst RN;obtain⟨w1,Ly,S3,_⟩:=O5.two;by_cases Oz:∃g,ft bQ s=some (.fn g)
   ·obtain⟨g1,hf⟩:=Oz;obtain⟨t,rfl,Mn⟩:=jr Qf.vd hf;have ho:AB bQ ln lf i b us d' (nh bQ (some (aQ t)))=o:=ho;have efr:nh bQ (some (aQ t))=.iP t:=by
     show(match ft bQ (aQ t) with | some (.fn _)=>FR.iP (lM (aQ t)) | _=>.val (aQ t))=_;rw[hf];rfl
    rw[efr] at ho;have ho:([.ob i d' (eB b),.mt t bQ.length],ln,lf,.tup [.str "start",aQ bQ.length,aQ (bQ.length+1),.tup us])=o:=ho;subst ho;have Oc:(bQ++[Th.ob i d' (eB b),.mt t bQ.length])[t]?=some (.fn g1):=cN Mn;have er:=O5.Il RP Oc;subst er;obtain⟨g2,L9,hF⟩:=O5;rw[Oc] at L9;cases L9;have LM:(bQ++[Th.ob i d' (eB b),.mt t bQ.length])[bQ.length]?=some (.ob i d' (eB b)):=by
     rw[Jj (IW _),Nat.sub_self];rfl
    have Te:(bQ++[Th.ob i d' (eB b),.mt t bQ.length])[bQ.length+1]?=some (.mt t bQ.length):=by
     rw[Jj (by omega),show bQ.length+1 - bQ.length=1 by omega];rfl
    exact .yes _ _ _ _ _ _ _ _ _ _ _ _ _ _ _ bQ.length i t g1 d' nm ns d fs lk a0 kr hX rfl Lh hN LM Te Oc O8 rfl JO hF haS0 nlk q1
   have ntf:gF r0≠"function":=fun z=>by
    obtain⟨g,e⟩:=O5.G1 Tb RP z;rw[U6] at e;exact Oz ⟨g,e⟩
   refine .go (.ne a _ _ v2 _ lk a0 kr (gF r0) (w1::Ly) rfl KH Lh rfl JO S3 ntf) ?_;have efr:nh bQ (some s)=.val s:=by
    show(match ft bQ s with | some (.fn _)=>FR.iP (lM s) | _=>.val s)=_;split
    ·rename_i g e;exact Xc ⟨g,e⟩ Oz
    ·rfl
   rw[efr] at ho;have ho:([.ob i d' (eB b)],ln,lf,if DX (ft bQ s) then .tup [.str "start",aQ bQ.length,s,.tup us] else kF)=o:=ho;by_cases Tf:∃x y,ft bQ s=some (.mt x y)
   ·obtain⟨x1,y1,hm⟩:=Tf;rw[hm] at ho;have ho:([.ob i d' (eB b)],ln,lf,.tup [.str "start",aQ bQ.length,s,.tup us])=o:=ho;subst ho;obtain⟨t,rfl,Mn⟩:=jr Qf.vd hm;have er:=O5.Ik RP (cN Mn);subst er;exact .yes _ _ _ _ _ _ _ _ _ _ _ _ _ _ _ bQ.length i (aQ t) d' nm ns d fs (eB b) lk a0 kr (w1::Ly) hX rfl Lh J8 Tb bD O8 rfl JO S3 q2
   ·have ntm:gF r0≠"method":=fun z=>by
     obtain⟨x1,y1,e⟩:=O5.G0 Tb RP z;rw[U6] at e;exact Tf ⟨x1,y1,e⟩
    have eM:DX (ft bQ s)=false:=by
     cases e:ft bQ s with
     | none=>rfl
     | some o=>cases o<;>first | rfl | exact Xc ⟨_,_,e⟩ Tf
    rw[eM] at ho;have ho:([.ob i d' (eB b)],ln,lf,kF)=o:=ho;subst ho;exact .go (.ne a _ _ v2 _ lk a0 kr (gF r0) (w1::Ly) rfl KH Lh rfl JO S3 ntm) (.yes _ _ _ _ _ _ _ _ _ _ _ _ _ _ _ hX rfl (.inl Lh) q2)
end
structure jU (K:Fg06) (c:cF) (H:Hp) (wp:Wp) (T:Addr) (ps:List Addr) (os:List Th) (ln:List Str) (lf:List Int) (rs:List Rw) (WH:List V) (sd L F:Addr) (l0:List Str) (f0:List Int):Prop where
 s:gH K c H wp T ps os ln lf rs WH
 r:cV K H os (L::F::Sx wp T) rs WH
 d:∃WI,H sd=some (.dK WI)/\fQ WI (.inr "lines":Key)=some (.ref L)/\fQ WI (.inr "left":Key)=some (.ref F)/\fQ WI (.inr "there":Key)=some (.ref T)
 hL:H L=some (.lst (l0.map V.str))
 hF:H F=some (.lst (f0.map V.int))
 nL:L∉Sx wp T
 nF:F∉Sx wp T
 AF:L≠F
theorem cV.sub {K H os S S'}(hs:∀a∈S,a∈S'):∀{rs vs},cV K H os S' rs vs->cV K H os S rs vs
 | _,_,.nil=>.nil
 | _,_,.cons (r:=r) h1 h2 h3=>.cons (by
   cases r with
   | mt i=>obtain⟨v1,v2,b,t,o,g,e1,e2,e3,e4,e5,e6,e7⟩:=h1;exact⟨v1,v2,b,t,o,g,e1,e2,e3,e4,e5,e6,fun z=>e7 (hs _ z)⟩
   | _=>exact h1) (fun z=>h2 (hs _ z)) (h3.sub hs)
theorem cV.add {K H os S L}(hL:∀(x:Str) r,H L≠some (.lst (.str x::r))):∀{rs vs},cV K H os S rs vs->cV K H os (L::S) rs vs
 | _,_,.nil=>.nil
 | _,_,.cons (r:=r) h1 h2 h3=>.cons (by
   cases r with
   | mt i=>
    obtain⟨v1,v2,b,t,o,g,e1,e2,e3,e4,e5,e6,e7⟩:=h1;refine⟨v1,v2,b,t,o,g,e1,e2,e3,e4,e5,e6,fun z=>?_⟩;rcases Jv.mp z with z | z
    ·obtain⟨w1,w3,e,_⟩:=e6;rw[z] at e;exact hL _ _ e
    ·exact e7 z
   | _=>exact h1) (fun z=>by
    rcases Jv.mp z with z | z
    ·obtain⟨v1,tl,e,_⟩:=h1.two;rw[z] at e;exact hL _ _ e
    ·exact h2 z) (h3.add hL)
section
variable {K:Fg06}{c:cF}{H H':Hp}{wp:Wp}{T:Addr}{ps:List Addr}{os:List Th}{ln:List Str}{lf:List Int}{rs:List Rw}{WH:List V}{JK:List Addr}{JI:List Th}{Kn l0 l1:List Str}{J9 f0 f1:List Int}{sd L F:Addr}
theorem jU.t (h:jU K c H wp T ps os ln lf rs WH sd L F l0 f0):gC H sd (.str "lines") (some (.ref L))/\gC H sd (.str "left") (some (.ref F))/\gC H sd (.str "there") (some (.ref T)):=by
 obtain⟨WI,e,e1,e2,e3⟩:=h.d;refine⟨?_,?_,?_⟩
 ·rw[<-e1];exact gC.k (k:=.inr "lines") e
 ·rw[<-e2];exact gC.k (k:=.inr "left") e
 ·rw[<-e3];exact gC.k (k:=.inr "there") e
theorem jU.step (h:jU K c H wp T ps os ln lf rs WH sd L F l0 f0) (s:jE c wp H H') (w':cG K c H' wp JK JI eS Kn J9) (o':kE JI) (ko:fT os JI):jU K c H' wp T JK JI Kn J9 rs WH sd L F l0 f0:=by
 have hm:∀{p o},H p=some o->p∉Sx wp T->(∀dx fs,o≠.ins c.Gr dx fs)->H' p=some o:=fun e n g=>(s.eZ (T:=T)) _ _ e n g;obtain⟨WI,e,e1⟩:=h.d;refine⟨h.s.step s w' o' ko,h.r.keep h.s.o.wf (s.pG h.s.w (IH _ (IH _ Sx.l)) (IH _ (IH _ Sx.n)) (IH _ (IH _ Sx.f))) ko,⟨WI,hm e (fun z=>?_) (fun _ _ z=>nomatch z),e1⟩,hm h.hL h.nL (fun _ _ z=>nomatch z),hm h.hF h.nF (fun _ _ z=>nomatch z),h.nL,h.nF,h.AF⟩;unfold Sx at z;simp only[List.mem_cons,List.not_mem_nil,or_false] at z;rcases z with rfl | rfl | rfl | rfl
 ·rw[h.s.w.t] at e;cases e
 ·rw[h.s.w.hn] at e;cases e
 ·rw[h.s.w.hf] at e;cases e
 ·rw[h.s.t] at e;cases e
theorem jU.same (h:jU K c H wp T ps os ln lf rs WH sd L F l0 f0) (s:au H H'):jU K c H' wp T ps os ln lf rs WH sd L F l0 f0:=h.step (au.chg s) (h.s.w.same s) h.s.o (fT.refl _)
theorem Sx.ne {a}(h:a∉Sx wp T):wp.l≠a/\wp.n≠a/\wp.f≠a/\T≠a:=⟨fun z=>h (z▸Sx.l),fun z=>h (z▸Sx.n),fun z=>h (z▸Sx.f),fun z=>h (z▸Sx.t)⟩
theorem jU.put {a xs}(h:jU K c H wp T ps os ln lf rs WH sd L F l0 f0) (ha:a=L\/a=F) (hx:H a=some (.lst xs)) (ys) (h1:WX H a (.lst ys) L=some (.lst (l1.map V.str))) (h2:WX H a (.lst ys) F=some (.lst (f1.map V.int))):jU K c (WX H a (.lst ys)) wp T ps os ln lf rs WH sd L F l1 f1:=by
 have hm:a∈L::F::Sx wp T:=by
  rcases ha with rfl | rfl
  ·exact II
  ·exact IH _ II
 have hn:a∉Sx wp T:=by
  rcases ha with rfl | rfl
  ·exact h.nL
  ·exact h.nF
 obtain⟨n1,n2,n3,n4⟩:=Sx.ne hn;have k:qG (L::F::Sx wp T) H (WX H a (.lst ys)):=qG.put hm hx;have r':=h.r.keep h.s.o.wf k (fT.refl _);obtain⟨WI,e,e1⟩:=h.d;have nsd:sd≠a:=cE e hx;exact⟨⟨h.s.w.lst hx n1 n2 n3,h.s.o,h.s.g,h.s.k,by rw[aB n4];exact h.s.t,r'.sub fun b hb=>IH _ (IH _ hb),h.s.n1,h.s.n2,h.s.n3⟩,r',⟨WI,by rw[aB nsd];exact e,e1⟩,h1,h2,h.nL,h.nF,h.AF⟩
end
inductive DE (K:Fg06) (H:Hp) (os:List Th) (u:D) (WI:List V):Prop
 | no:WI=[]->(∀k,gD os u k=false)->DE K H os u WI
 | yes a0 kr x0 x1 x2 x3 v4 (ns:List Nat):WI=.ref a0::kr->H a0=some (.lst [x0,x1,x2,x3,v4])->At K H (.tup (ns.map aQ)) v4->(∀k,gD os u k=((ns.map aQ).any fun e=>bP e k))->DE K H os u WI
theorem y9 {os u}(h:∀k d fs,ft os u≠some (.ob k d fs)) (k):gD os u k=false:=by
 unfold gD;split
 ·rename_i j d fs e;exact Xc e (h j d fs)
 ·rfl
theorem DE.of {K:Fg06}{H:Hp}{os:List Th}{S:List Addr}{rs:List Rw}{WH WI:List V}{u:D}(h:cV K H os S rs WH) (hu:Dr rs u) (hk:cV K H os S (rs.filter fun r=>iY r&&bP (bU r) u) WI):DE K H os u WI:=by
 have Ml:=hu.vp h;have JW:∀r∈rs.filter (fun r=>iY r&&bP (bU r) u),iY r=true/\bP (bU r) u=true:=fun r hr=>by
  have:=(JC.mp hr).2
  simpa using this
 have Nd:(rs.filter fun r=>iY r&&bP (bU r) u)=[]->∀k d fs,ft os u≠some (.ob k d fs):=fun e k d fs z=>by
  obtain⟨i,rfl,hi⟩:=Dr.ob h hu z;have:Rw.ob i∈rs.filter (fun r=>iY r&&bP (bU r) (aQ i)):=JC.mpr ⟨hi,by show(iY (.ob i)&&bP (aQ i) (aQ i))=true;rw[bo,Bool.and_true];exact IL rfl⟩;rw[e] at this;cases this
 revert JW Nd hk;generalize rs.filter (fun r=>iY r&&bP (bU r) u)=fl;intro hk JW Nd;cases hk with
 | nil=>exact .no rfl (y9 (Nd rfl))
 | cons h1 h2 h3=>
  rename_i r a0 rs' vs';obtain⟨e1,e2⟩:=JW _ II;obtain⟨i,rfl⟩:=uE e1;obtain⟨v1,v3,v4,k,d,fs,nm,ns,d',JM,g1,g2,g3,g4,g5,g6⟩:=h1;have eu:=nj Ml e2;subst eu;refine .yes a0 _ _ _ _ _ v4 ns rfl g1 g6 fun k'=>?_;unfold gD;rw[bw,g2];show((Dc os[k]?).map aQ).any _=_;rw[g3];rfl
theorem kinds_of {K H os S rs WH WI u}(h:cV K H os S rs WH) (hu:Dr rs u) (hk:cV K H os S (rs.filter fun r=>jZ r&&bP (bU r) u) WI):WI.isEmpty=!zO (ft os u):=by
 have Ml:=hu.vp h;have JW:∀r∈rs.filter (fun r=>jZ r&&bP (bU r) u),jZ r=true/\bP (bU r) u=true:=fun r hr=>by
  have:=(JC.mp hr).2
  simpa using this
 have Nd:(rs.filter fun r=>jZ r&&bP (bU r) u)=[]->zO (ft os u)=false:=fun e=>by
  cases ho:ft os u with
  | none=>rfl
  | some o=>
   cases o with
   | kd nm ns d fs=>
    obtain⟨i,st,rfl,hi⟩:=Dr.cl h hu ho;have:Rw.cl i st∈rs.filter (fun r=>jZ r&&bP (bU r) (aQ i)):=JC.mpr ⟨hi,by show(jZ (.cl i st)&&bP (aQ i) (aQ i))=true;rw[bo,Bool.and_true];exact IL rfl⟩;rw[e] at this;cases this
   | _=>rfl
 revert JW Nd hk;generalize rs.filter (fun r=>jZ r&&bP (bU r) u)=fl;intro hk JW Nd;cases hk with
 | nil=>rw[Nd rfl];rfl
 | cons h1 h2 h3=>
  rename_i r a0 rs' vs';obtain⟨e1,e2⟩:=JW _ II;obtain⟨i,st,rfl⟩:=qh e1;obtain⟨v1,v2,v4,nm,ns,d,fs,g1,g2,_⟩:=h1;have eu:=nj Ml e2;subst eu;rw[bw,g2];rfl
theorem nt {os JI}(wf:oK os) {u}(hu:Vp os u) (k):gD (os++JI) u k=gD os u k:=by
 unfold gD;rw[mP hu.vd];cases ho:ft os u with
 | none=>rfl
 | some o=>
  cases o with
  | ob j d fs=>
   obtain⟨i,rfl,hi⟩:=jr hu.vd ho;obtain⟨⟨nm,ns,d',JM,e⟩,_⟩:=wf.o i j d fs hi;show((Dc (os++JI)[j]?).map aQ).any _=((Dc os[j]?).map aQ).any _;rw[cN e,e]
  | _=>rfl
abbrev Hj:Stmt:=cj 83
structure yR (K:Fg06) (c:cF) (H:Hp) (σ:L2.St) (wp:Wp) (T:Addr) (ps:List Addr) (os:List Th) (ln:List Str) (lf:List Int) (rs:List Rw) (WH:List V) (sd L F:Addr) (l0:List Str) (f0:List Int) (w:Str) (us:List D) (y x:V) (fo:D):Prop where
 s:jU K c H wp T ps os ln lf rs WH sd L F l0 f0
 e0:sg σ 0 (.ref wp.W)
 e1:sg σ 1 (.ref sd)
 e2:sg σ 2 (.str w)
 e3:sg σ 3 y
 e4:sg σ 4 x
 y:At K H (.tup us) y
 x:At K H fo x
 dr:∀u∈us,Dr rs u
 lt:WH.length<=100
 lo:os.length<=850
 ll:l0.length<=900
 lg:f0.length<=900
 sl:σ.length=10
theorem yR.same {K c H H' σ wp T ps os ln lf rs WH sd L F l0 f0 w us y x fo}(h:yR K c H σ wp T ps os ln lf rs WH sd L F l0 f0 w us y x fo) (s:au H H'):yR K c H' σ wp T ps os ln lf rs WH sd L F l0 f0 w us y x fo:=⟨h.s.same s,h.e0,h.e1,h.e2,h.e3,h.e4,At.same s _ _ h.y,At.same s _ _ h.x,h.dr,h.lt,h.lo,h.ll,h.lg,h.sl⟩
theorem yR.st {K c H σ σ' wp T ps os ln lf rs WH sd L F l0 f0 w us y x fo}(h:yR K c H σ wp T ps os ln lf rs WH sd L F l0 f0 w us y x fo) (e:∀j,j < 5->σ'[j]?=σ[j]?) (el:σ'.length=σ.length):yR K c H σ' wp T ps os ln lf rs WH sd L F l0 f0 w us y x fo:=⟨h.s,(e 0 (by decide)).trans h.e0,(e 1 (by decide)).trans h.e1,(e 2 (by decide)).trans h.e2,(e 3 (by decide)).trans h.e3,(e 4 (by decide)).trans h.e4,h.y,h.x,h.dr,h.lt,h.lo,h.ll,h.lg,el.trans h.sl⟩
def yS (K:Fg06) (c:cF) (H:Hp) (wp:Wp) (T:Addr) (os:List Th) (ln:List Str) (lf:List Int) (rs:List Rw) (WH:List V) (sd L F:Addr) (Q:VK):Prop:=∀H' JK JI,hZ c (L::F::Sx wp T) H H'->jU K c H' wp T JK JI ln lf rs WH sd L F ln lf->fT os JI->JI.length=os.length->(∀B,jj os B->jj JI B)->Q (.bl true) H'
theorem hZ.mono {c S S' H H'}(h:hZ c S H H') (hs:∀a∈S,a∈S'):hZ c S' H H':=fun p o e n g=>h p o e (fun z=>n (hs _ z)) g
theorem yS.nx {K c H H' wp T ps os ln lf rs WH sd L F Q}(h:yS K c H wp T os ln lf rs WH sd L F Q) (s:au H H') (x:jU K c H wp T ps os ln lf rs WH sd L F ln lf):Q (.bl true) H':=h H' ps os (au.eZ s) (x.same s) (fT.refl _) rfl (fun _ z=>z)
inductive Gu (K:Fg06) (σ:L2.St) (H:Hp) (w:Str) (us:List D) (cn:Nat):Prop
 | mk y dc WI:sg σ 2 (.str w)->sg σ 3 y->sg σ 5 (.ref dc)->H dc=some (.dK WI)->fQ WI (.inr w:Key)=some (.int (cn:Nat))->At K H (.tup us) y->Gu K σ H w us cn
inductive GF (K:Fg06) (σ:L2.St) (H:Hp) (Q:VK):Prop
 | bad w us cn:Gu K σ H w us cn->us.length≠cn->Q (.bl true) H->GF K σ H Q
 | ok w us cn:Gu K σ H w us cn->us.length=cn->w≠"count"->Q (.bl false) H->GF K σ H Q
 | cnt w us cn k r My:Gu K σ H w us cn->us.length=cn->w="count"->us=.tup (.str k::r)::My->Q (.bl (!decide (k="number"))) H->GF K σ H Q
inductive Hn (K:Fg06) (c:cF) (D0:W0) (σ:L2.St) (H:Hp):Prop
 | go w:sg σ 2 (.str w)->w≠"say"->D0.nx σ H->Hn K c D0 σ H
 | yes wp T ps os ln lf rs WH sd L F l0 f0 w us y x fo u:yR K c H σ wp T ps os ln lf rs WH sd L F l0 f0 w us y x fo->w="say"->us=[u]->fo=eE da->ln=l0++[jX os u]->lf=f0->yS K c H wp T os ln lf rs WH sd L F D0.rt->Hn K c D0 σ H
inductive Hm (K:Fg06) (c:cF) (D0:W0) (σ:L2.St) (H:Hp):Prop
 | go w:sg σ 2 (.str w)->w≠"take"->D0.nx σ H->Hm K c D0 σ H
 | yes wp T ps os ln lf rs WH sd L F l0 f0 w us y x fo:yR K c H σ wp T ps os ln lf rs WH sd L F l0 f0 w us y x fo->w="take"->fo=eE (ic (f0.headD 0))->ln=l0->lf=f0.tail->yS K c H wp T os ln lf rs WH sd L F D0.rt->Hm K c D0 σ H
inductive GK (K:Fg06) (c:cF) (D0:W0) (σ:L2.St) (H:Hp):Prop
 | go w:sg σ 2 (.str w)->w≠"count"->D0.nx σ H->GK K c D0 σ H
 | ct w y i:sg σ 2 (.str w)->w="count"->sg σ 3 y->At K H (.tup [ic i]) y->i<=10000->D0.nx σ H->GK K c D0 σ H
 | yes w y x i:sg σ 2 (.str w)->w="count"->sg σ 3 y->sg σ 4 x->At K H (.tup [ic i]) y->At K H (.tup [.str "fault",.str "GreatFault"]) x->10000 < i->(∀H',au H H'->D0.rt (.bl true) H')->GK K c D0 σ H
inductive Hl (K:Fg06) (c:cF) (D0:W0) (σ:L2.St) (H:Hp):Prop
 | go w:sg σ 2 (.str w)->w≠"count"->D0.nx σ H->Hl K c D0 σ H
 | yes wp T ps os ln lf rs WH sd L F l0 f0 w us y x fo i N:yR K c H σ wp T ps os ln lf rs WH sd L F l0 f0 w us y x fo->w="count"->us=[ic i]->i<=10000->fo=eE (aQ N)->os[N]?=some (.gr "new" i 0)->ln=l0->lf=f0->yS K c H wp T os ln lf rs WH sd L F D0.rt->Hl K c D0 σ H
inductive He (K:Fg06) (c:cF) (j:Nat) (D0:W0) (σ:L2.St) (H:Hp):Prop
 | mk wp T ps os ln lf rs WH sd L F l0 f0 w us y x fo u:yR K c H σ wp T ps os ln lf rs WH sd L F l0 f0 w us y x fo->us[j]?=some u->(∀lk WI H',au H H'->H' lk=some (.lst WI)->DE K H' os u WI->D0.nx (σ.set 8 (some (.ref lk))) H')->He K c j D0 σ H
inductive Hk (K:Fg06) (c:cF) (D0:W0) (σ:L2.St) (H:Hp):Prop
 | go w:sg σ 2 (.str w)->w≠"elder"->D0.nx σ H->Hk K c D0 σ H
 | yes wp T ps os ln lf rs WH sd L F l0 f0 w us y x fo k u N:yR K c H σ wp T ps os ln lf rs WH sd L F l0 f0 w us y x fo->w="elder"->us=[k,u]->fo=(if gD os u k then eE (aQ N) else kF)->(gD os u k=true->os[N]?=some .vw)->(∀H',au H H'->D0.rt (.bl true) H')->Hk K c D0 σ H
theorem zL {us:List D}(h:us.length=2):∃a b,us=[a,b]:=by
 match us,h with
 | [a,b],_=>exact⟨a,b,rfl⟩
def zM:List (Key×V):=[(.inr "say",.int 1),(.inr "take",.int 0),(.inr "isa",.int 2),(.inr "count",.int 1),(.inr "elder",.int 2)]
theorem F1:eL [] zM=zM:=rfl
theorem F0 {w:Str}{cn:Nat}(h:(w="say"/\cn=1)\/(w="take"/\cn=0)\/(w="isa"/\cn=2)\/(w="elder"/\cn=2)\/(w="count"/\cn=1)):fQ zM (.inr w:Key)=some (.int (cn:Nat)):=by
 rcases h with ⟨rfl,rfl⟩ | ⟨rfl,rfl⟩ | ⟨rfl,rfl⟩ | ⟨rfl,rfl⟩ | ⟨rfl,rfl⟩<;>rfl
section
variable {P:Program}{w:World}{K:Fg06}{mg:Str->Option Value}{base:Heap}{f:Addr}{fd:FuncData}{c:cF}
inductive Be (K:Fg06) (c:cF) (vs:List V) (H:Hp) (Q:VK) (E:XK):Prop
 | mk wp T ps bQ l0 f0 rs WH sd L F w us y x:vs=[.ref wp.W,.ref sd,.str w,y,x]->w∈kq->oK bQ->jU K c H wp T ps (bQ++(ie bQ l0 f0 w us).1) (ie bQ l0 f0 w us).2.1 (ie bQ l0 f0 w us).2.2.1 rs WH sd L F l0 f0->At K H (.tup us) y->At K H (ie bQ l0 f0 w us).2.2.2 x->(∀u∈us,Dr rs u)->(∀u∈us,Vp bQ u)->WH.length<=100->bQ.length<=800->l0.length<=890->f0.length<=900->yS K c H wp T (bQ++(ie bQ l0 f0 w us).1) (ie bQ l0 f0 w us).2.1 (ie bQ l0 f0 w us).2.2.1 rs WH sd L F Q->Be K c vs H Q E
theorem sJ:aS ["_law_world","_law_state","_law_word","_law_values","_law_found","_law_counts","_law_wrong","_law_due","_law_things","_law_kinds"] ["_law_world","_law_state","_law_word","_law_values","_law_found"] (aw Hj):=fE
theorem FC (g:Glb9 mg) (F:eg K "_law_given" "_law_given" Hj f fd) (dTx:Def P w K mg base "_law_text" ["_law_world","_law_a"] 4 (A9 K c)) (dX:Def P w K mg base "text_of" ["world","a"] 3 (mv K c)) (dCo:Def P w K mg base "_law_counted" ["_law_world","_law_g","_law_end"] 5 (Bg K c)):bK P w K mg base eh 6 f fd ["_law_world","_law_state","_law_word","_law_values","_law_found"] (Be K c):=by
 refine F.fw sJ fun WK A outer s H vs Q E hr h=>?_;obtain⟨wp,T,ps,bQ,l0,f0,rs,WH,sd,L,F',w',us,y,x,rfl,Nr,SY,hS,hy,hx,KR,Ml,ht,hl,Nh,Vx,q⟩:=h;refine⟨_,(ag (dD 5 sJ.nd (L3.lF (L3.fj ak ah (L3.fj ak ah (L3.fj ak ah (L3.fj ak ah (L3.fj ak ah L3.lp)))))))
   (ag (dD 6 sJ.nd (fk (t':=GF K) (jv (ib j6 (aJ aU rfl g.fJ cX (cw (pv 3))) (L3.eI (fz hr) (pv 5) (pv 2))) (cZ (cT (ib bL (pv 2) ak) (cZ (ib j6 (bg (bg (pv 3))) ak))))) ?wr))
   (ag (br (bT (pv 6)) (aq (aD (ib (r:=gU K) (dm hr) (pv 4) (aI (bF ak ak))))) aP)
   (ag (cu (t':=Hn K c) (br (cR bL (pv 2) ak) (ag (bW (dZ Jo Jp Jq cp (L3.eI (fz hr) (pv 1) ak) (cw (bX dTx (bF (pv 0) (bg (pv 3)))))))
   (aq (aD (ib (r:=gU K) (dm hr) (pv 4) (aI (bF ak (aI (cw ak)))))))) aP) ?g1)
   (ag (cu (t':=Hm K c) (br (cR bL (pv 2) ak) (ag (dD 7 sJ.nd (bx (cR (nP hr) (L3.eI (fz hr) (pv 1) ak) (bB cJ)) (dZ Jo PySem.F.slot_list_pop PySem.F.type_list_pop rl (L3.eI (fz hr) (pv 1) ak) (cw ah)) ah))
   (aq (aD (ib (r:=gU K) (dm hr) (pv 4) (aI (bF ak (aI (bF ak (pv 7))))))))) aP) ?g2)
   (ag (cu (t':=GK K c) (br (LW.pt (cS (cR bL (pv 2) ak) (cv (cR gy (bg (bg (pv 3))) ah)))) (aq (aD (ib (r:=gU K) (dm hr) (pv 4) (aI (bF ak ak))))) aP) ?g3)
   (ag (cu (t':=Hl K c) (br (cR bL (pv 2) ak) (aq (aD (cT (ib bL (bg (pv 4)) ak) (cZ (bX dCo (ia (pv 0) (bg (pv 4)) (bg (bg (pv 3))))))))) aP) ?g4)
   (ag (cu (t':=Hk K c) (br (cR bL (pv 2) ak) (ag (cu (t':=He K c 1) (.mk (L2.cM (iy:=8) (cl:=[("_law_values",s.heap.objs.size+1)]) (Xs:=["_law_one"]) (Nf:=["_law_values"]) (js:=[3]) ?k1 rfl (LI.out (cx (L3.eI (fz hr) (pv 1) ak))) (fun C s0 H0 fp=>LG.out (i6 0 (show(["_law_one","_law_values"]:List Str).Nodup by decide +kernel))) (fun C s0 H0 fp=>gq (LT.out (LW.pt (cS (cR bL (ff K (pv 0) ah) ak) (cv (cR (r:=gU K) (dm hr) (ff K (pv 0) ah) (jJ (K:=K) rfl (pv 1)))))))) (fun C s0 H0 fp=>LE.out (pv 0)) sJ.nd rfl (Or.inl rfl))) ?th1)
   (ag (br (LW.pt (eY (cR (nR hr) (pv 8) (bB cJ)) (cY (fg (vA hr) (bg (pv 3)) (ff K (ff K (pv 8) ah) ah) rfl)))) (aq (aD (ib (r:=gU K) (dm hr) (pv 4) (aI (bF ak ak))))) aP)
   (aq (aD (cT (ib bL (bg (pv 4)) ak) (cZ (ib bL (bX dX (bF (pv 0) (bg (pv 4)))) ak))))))) aP) ?g5)
   (ag (.mk (L2.cM (iy:=9) (cl:=[("_law_values",s.heap.objs.size+1)]) (Xs:=["_law_one"]) (Nf:=["_law_values"]) (js:=[3]) ?k2 rfl (LI.out (cx (L3.eI (fz hr) (pv 1) ak))) (fun C s0 H0 fp=>LG.out (i6 0 (show(["_law_one","_law_values"]:List Str).Nodup by decide +kernel))) (fun C s0 H0 fp=>gq (LT.out (LW.pt (cS (cR bL (ff K (pv 0) ah) ak) (cv (cR (r:=gU K) (dm hr) (ff K (pv 0) ah) (jJ (K:=K) rfl (pv 1)))))))) (fun C s0 H0 fp=>LE.out (pv 0)) sJ.nd rfl (Or.inl rfl)))
   (ag (br (cR (nR hr) (pv 9) (bB cJ)) (aq (aD (ib (r:=gU K) (dm hr) (pv 4) (aI (bF ak ak))))) aP)
   (ag (cu (t':=He K c 0) (.mk (L2.cM (iy:=8) (cl:=[("_law_values",s.heap.objs.size+1)]) (Xs:=["_law_one"]) (Nf:=["_law_values"]) (js:=[3]) ?k3 rfl (LI.out (cx (L3.eI (fz hr) (pv 1) ak))) (fun C s0 H0 fp=>LG.out (i6 0 (show(["_law_one","_law_values"]:List Str).Nodup by decide +kernel))) (fun C s0 H0 fp=>gq (LT.out (LW.pt (cS (cR bL (ff K (pv 0) ah) ak) (cv (cR (r:=gU K) (dm hr) (ff K (pv 0) ah) (jJ (K:=K) rfl (pv 1)))))))) (fun C s0 H0 fp=>LE.out (pv 0)) sJ.nd rfl (Or.inl rfl))) ?th0)
   (aq (aD (ib (r:=gU K) (dm hr) (pv 4) (aI (bF ak (aI (bF ak (cT (ib (nP hr) (pv 8) (bB cJ)) (cZ (eJ (nQ hr) (bg (pv 3)) (ff K (ff K (pv 8) ah) ah) rfl))))))))))))))))))))),?main⟩
 case k1=>exact tI
 case k2=>exact tI
 case k3=>exact tI
 case wr=>
  intro σ H Q h;cases h with
  | bad w us cn hC JJ q=>
   obtain⟨y,dc,WI,e2,e3,e5,OD,hv,hy⟩:=hC;obtain⟨py,vy,rfl,sy,ay⟩:=aX.mp hy;have ly:=ay.len;have hg:gC H dc (.str w) (some (.int (cn:Nat))):=by rw[<-hv];exact gC.k (k:=.inr w) OD
   refine⟨_,e3,py,vy,rfl,.inr sy,_,e5,_,e2,dc,_,rfl,hg,rfl,_,rfl,?_⟩;rw[IK (fun z=>JJ (by injection z with z;omega))];exact bE q
  | ok w us cn hC he hw q=>
   obtain⟨y,dc,WI,e2,e3,e5,OD,hv,hy⟩:=hC;obtain⟨py,vy,rfl,sy,ay⟩:=aX.mp hy;have ly:=ay.len;have hg:gC H dc (.str w) (some (.int (cn:Nat))):=by rw[<-hv];exact gC.k (k:=.inr w) OD
   refine⟨_,e3,py,vy,rfl,.inr sy,_,e5,_,e2,dc,_,rfl,hg,rfl,_,rfl,?_⟩;rw[IL (by rw[<-he,ly])];refine aY ⟨_,e2,rfl,_,rfl,?_⟩;rw[gg hw];exact aY q
  | cnt w us cn k r My hC he hw M8 q=>
   obtain⟨y,dc,WI,e2,e3,e5,OD,hv,hy⟩:=hC;subst M8;have M4:=hy;obtain⟨py,vy,rfl,sy,ay⟩:=aX.mp hy;have ly:=ay.len;have hg:gC H dc (.str w) (some (.int (cn:Nat))):=by rw[<-hv];exact gC.k (k:=.inr w) OD
   refine⟨_,e3,py,vy,rfl,.inr sy,_,e5,_,e2,dc,_,rfl,hg,rfl,_,rfl,?_⟩;rw[IL (by rw[<-he,ly])];refine aY ⟨_,e2,rfl,_,rfl,?_⟩;rw[hw,IL rfl];refine bE ⟨_,e3,0,_,_,rfl,M4,rfl,fun z hz=>⟨0,_,_,rfl,hz,rfl,fun z2 LK=>?_⟩⟩;rw[av.mp LK];refine⟨rfl,?_⟩;rw[oC];exact q
 case g1=>
  intro D0 σ H h;cases h with
  | go w e2 hw q=>
   refine⟨_,e2,rfl,_,rfl,?_⟩;rw[gg hw];exact aY q
  | yes wp T ps os ln lf rs WH sd L F l0 f0 w us y x fo u hX hw M8 Kz L5 KD q=>
   subst hw M8 Kz L5 KD;refine⟨_,hX.e2,rfl,_,rfl,?_⟩;rw[IL rfl];have RM:=hX.ll;have O3:=(hX.dr u II).vp hX.s.s.r;refine bE ⟨_,hX.e1,sd,.ref L,rfl,hX.s.t.1,.inl ⟨rfl,_,bf.of hX.s.hL⟩,_,hX.e0,_,hX.e3,0,_,_,rfl,hX.y,rfl,fun z hz=>⟨wp,ps,os,eS,_,_,z,u,rfl,hX.s.s.w,hX.s.s.o.wf,hX.s.s.o.nb,hz,O3,fun H1 s1=>⟨L,_,.str (jX os u),rfl,rfl,s1 _ _ hX.s.hL,cm (by rw[IU];omega),?_⟩⟩⟩;have J2:=hX.same s1;have e:l0.map V.str++[V.str (jX os u)]=(l0++[jX os u]).map V.str:=by rw[Jt];rfl
   rw[e];have K5:=J2.s.put (l1:=l0++[jX os u]) (f1:=lf) (.inl rfl) J2.s.hL _ ao (by rw[aB (W3 hX.s.AF)];exact J2.s.hF);have b2:bC L H1 (WX H1 L (.lst ((l0++[jX os u]).map V.str))):=bC.put _ _;have Kx:=At.fx (b2.fx J2.s.hL rfl) _ _ J2.x;have c2:hZ c (L::F::Sx wp T) H (WX H1 L (.lst ((l0++[jX os u]).map V.str))):=(au.eZ s1).trans (b2.eZ II);revert K5 Kx c2;clear b2;generalize WX H1 L (.lst ((l0++[jX os u]).map V.str))=H2;intro K5 Kx c2;refine⟨_,hX.e4,jY,fun t3 JQ=>⟨eX,fun t4 JV=>?_⟩⟩;have s3:=ae JQ (.tup [.str "none"]);have s4:=s3.trans (ae JV (.tup [.str "value",.ref t3]));refine⟨_,eE da,At.same s4 _ _ Kx,At.new JV (aZ (av.mpr rfl) (At.new JQ (az.fu (av.mpr rfl)))),by decide +kernel,?_⟩;rw[bo];exact q _ ps os (c2.trans (au.eZ s4)) (K5.same s4) (fT.refl _) rfl (fun _ z=>z)
 case g2=>
  intro D0 σ H h;cases h with
  | go w e2 hw q=>
   refine⟨_,e2,rfl,_,rfl,?_⟩;rw[gg hw];exact aY q
  | yes wp T ps os ln lf rs WH sd L F l0 f0 w us y x fo hX hw Kz L5 KD q=>
   subst hw Kz L5 KD;refine⟨_,hX.e2,rfl,_,rfl,?_⟩;rw[IL rfl];refine bE ⟨_,hX.e1,sd,.ref F,rfl,hX.s.t.2.1,Jr _,fun n1 LM=>?_⟩;have s1:=ae LM (.lst []);have e1:WX H n1 (.lst []) n1=some (.lst []):=ao;generalize WX H n1 (.lst [])=H1 at s1 e1 ⊢;have J2:=hX.same s1;refine⟨F,n1,_,rfl,rfl,bf.of J2.s.hF,bf.of e1,_,rfl,?_⟩;cases f0 with
   | nil=>
    refine aY ?_;have e7:sg (σ.set 7 (some (.int 0))) 7 (.int 0):=IT (by have:=hX.sl;omega);refine⟨_,(IQ (by decide)).trans hX.e4,_,e7,eX,fun t3 JQ=>⟨eX,fun t4 JV=>?_⟩⟩;have s3:=ae JQ (.tup [.str "number",.int 0]);have s4:=s3.trans (ae JV (.tup [.str "value",.ref t3]));refine⟨_,eE (ic 0),At.same s4 _ _ J2.x,At.new JV (aZ (av.mpr rfl) (At.new JQ (aZ (av.mpr rfl) (bc.mpr rfl)))),by decide +kernel,?_⟩;rw[show bP (eE (ic (([]:List Int).headD 0))) (eE (ic 0))=true from bo _];exact q.nx (s1.trans s4) hX.s
   | cons i f0=>
    refine bE ⟨_,J2.e1,sd,.ref F,rfl,J2.s.t.2.1,.inl ⟨rfl,_,bf.of J2.s.hF⟩,F,_,0,0,.int i,rfl,rfl,J2.s.hF,by decide,by decide,by rw[IU,Jf];exact seqIndex_of (by decide) (by omega),rfl,?_⟩;have e:((i::f0).map V.int).eraseIdx 0=f0.map V.int:=rfl;rw[e];have K5:=J2.s.put (l1:=ln) (f1:=f0) (.inr rfl) J2.s.hF (f0.map V.int) (by rw[aB hX.s.AF];exact J2.s.hL) ao;have b2:bC F H1 (WX H1 F (.lst (f0.map V.int))):=bC.put _ _;have Kx:=At.fx (b2.fx J2.s.hF rfl) _ _ J2.x;have c2:hZ c (L::F::Sx wp T) H (WX H1 F (.lst (f0.map V.int))):=(au.eZ s1).trans (b2.eZ (IH _ II));revert K5 Kx c2;clear b2;generalize WX H1 F (.lst (f0.map V.int))=H2;intro K5 Kx c2;have e7:sg (σ.set 7 (some (.int i))) 7 (.int i):=IT (by have:=hX.sl;omega);refine⟨_,(IQ (by decide)).trans hX.e4,_,e7,eX,fun t3 JQ=>⟨eX,fun t4 JV=>?_⟩⟩;have s3:=ae JQ (.tup [.str "number",.int i]);have s4:=s3.trans (ae JV (.tup [.str "value",.ref t3]));refine⟨_,eE (ic i),At.same s4 _ _ Kx,At.new JV (aZ (av.mpr rfl) (At.new JQ (aZ (av.mpr rfl) (bc.mpr rfl)))),IV (oB (qu _)) (by decide),?_⟩;rw[show bP (eE (ic ((i::f0).headD 0))) (eE (ic i))=true from bo _];exact q _ ps os (c2.trans (au.eZ s4)) (K5.same s4) (fT.refl _) rfl (fun _ z=>z)
 case g3=>
  intro D0 σ H h;cases h with
  | go w e2 hw q=>
   refine⟨_,e2,rfl,_,rfl,?_⟩;rw[gg hw];exact aY (aY q)
  | ct w y i e2 hw e3 hy hi q=>
   refine⟨_,e2,rfl,_,rfl,?_⟩;rw[hw,IL rfl];refine bE ⟨_,e3,0,_,_,rfl,hy,rfl,fun z hz=>⟨1,_,_,rfl,hz,rfl,fun z2 LK=>?_⟩⟩;rw[bc.mp LK];refine⟨_,_,rfl,rfl,_,rfl,?_⟩;rw[IK (by show ¬(10000:Int) < i;omega)];exact aY q
  | yes w y x i e2 hw e3 e4 hy hx hi q=>
   refine⟨_,e2,rfl,_,rfl,?_⟩;rw[hw,IL rfl];refine bE ⟨_,e3,0,_,_,rfl,hy,rfl,fun z hz=>⟨1,_,_,rfl,hz,rfl,fun z2 LK=>?_⟩⟩;rw[bc.mp LK];refine⟨_,_,rfl,rfl,_,rfl,?_⟩;rw[IL (show(10000:Int) < i from hi)];refine bE ⟨_,e4,eX,fun t2 JS=>?_⟩;have s2:=ae JS (.tup [.str "fault",.str "GreatFault"]);refine⟨_,.tup [.str "fault",.str "GreatFault"],At.same s2 _ _ hx,At.new JS (aZ (av.mpr rfl) (av.mpr rfl)),by decide +kernel,?_⟩;rw[bo];exact q _ s2
 case g4=>
  intro D0 σ H h;cases h with
  | go w e2 hw q=>
   refine⟨_,e2,rfl,_,rfl,?_⟩;rw[gg hw];exact aY q
  | yes wp T ps os ln lf rs WH sd L F l0 f0 w us y x fo i N hX hw M8 hi Kz hN L5 KD q=>
   subst hw M8 Kz L5 KD;refine⟨_,hX.e2,rfl,_,rfl,?_⟩;rw[IL rfl];refine bE ⟨_,hX.e4,0,_,_,rfl,hX.x,rfl,fun z hz=>?_⟩;rw[av.mp hz];refine⟨rfl,_,rfl,?_⟩;rw[IL rfl];refine bE ⟨_,hX.e0,_,hX.e4,1,_,_,rfl,hX.x,rfl,fun z1 Lm=>⟨_,hX.e3,0,_,_,rfl,hX.y,rfl,fun z2 LK=>⟨1,_,_,rfl,LK,rfl,fun z3 PV=>?_⟩⟩⟩;rw[bc.mp PV];refine⟨wp,ps,os,eS,_,_,z1,N,i,rfl,hX.s.s.w,hX.s.s.o,Lm,hN,hi,fun H1 st h c1 w1=>?_⟩;exact q H1 ps _ ((c1.eZ (T:=T)).mono fun a ha=>IH _ (IH _ ha)) (hX.s.step c1 w1 (hX.s.s.o.set hN) (fT.set hN)) (fT.set hN) (Jk ..) (fun B hB=>hB.set)
 case th1=>
  rintro D0 σ H ⟨wp,T,ps,os,ln,lf,rs,WH,sd,L,F,l0,f0,w,us,y,x,fo,u,hX,hj,q⟩;have WM:=hX.s.s.r.len;have JR:=hX.lt;have O3:=hX.dr u (IX hj);refine⟨_,hX.e1,sd,.ref T,rfl,hX.s.t.2.2,T,rfl,⟨_,bf.of hX.s.s.t⟩,[y],⟨rfl,fun j i h=>?_⟩,hU (vs:=[y]) hX.s.s (by omega) (fun r=>iY r&&bP (bU r) u) (fun r a1 H1 Q' _ _ s1 KH k=>?_) (fun a1 H1 Q' k=>⟨_,rfl,k⟩) fun lk H1 WI Mr s1 JO J6=>q lk WI H1 s1 JO (DE.of (hX.s.s.same s1).r O3 J6)⟩
  ·match j,h with
   | 0,h=>cases h;exact⟨_,rfl,hX.e3⟩
   | j+1,h=>simp at h
  ·obtain⟨w1,tl,h1,h2⟩:=KH.two;refine⟨_,rfl,a1,_,_,.str (gF r),rfl,rfl,bf.of h1,aC (j:=0) rfl,rfl,_,rfl,?_⟩;rw[oC];refine bO (fun e=>?_) (fun e=>?_)
   ·have e:iY r=true:=e;rw[e,Bool.true_and] at k;exact⟨_,rfl,a1,_,_,w1,rfl,rfl,bf.of h1,aC (j:=1) rfl,_,rfl,1,_,_,rfl,At.same s1 _ _ hX.y,hj,fun z hz=>⟨bU r,u,h2,hz,IV KH.vp.vd.2 (by decide),_,rfl,k H1 (au.refl _)⟩⟩
   ·have e:iY r=false:=e;rw[e,Bool.false_and] at k;exact k H1 (au.refl _)
 case th0=>
  rintro D0 σ H ⟨wp,T,ps,os,ln,lf,rs,WH,sd,L,F,l0,f0,w,us,y,x,fo,u,hX,hj,q⟩;have WM:=hX.s.s.r.len;have JR:=hX.lt;have O3:=hX.dr u (IX hj);refine⟨_,hX.e1,sd,.ref T,rfl,hX.s.t.2.2,T,rfl,⟨_,bf.of hX.s.s.t⟩,[y],⟨rfl,fun j i h=>?_⟩,hU (vs:=[y]) hX.s.s (by omega) (fun r=>iY r&&bP (bU r) u) (fun r a1 H1 Q' _ _ s1 KH k=>?_) (fun a1 H1 Q' k=>⟨_,rfl,k⟩) fun lk H1 WI Mr s1 JO J6=>q lk WI H1 s1 JO (DE.of (hX.s.s.same s1).r O3 J6)⟩
  ·match j,h with
   | 0,h=>cases h;exact⟨_,rfl,hX.e3⟩
   | j+1,h=>simp at h
  ·obtain⟨w1,tl,h1,h2⟩:=KH.two;refine⟨_,rfl,a1,_,_,.str (gF r),rfl,rfl,bf.of h1,aC (j:=0) rfl,rfl,_,rfl,?_⟩;rw[oC];refine bO (fun e=>?_) (fun e=>?_)
   ·have e:iY r=true:=e;rw[e,Bool.true_and] at k;exact⟨_,rfl,a1,_,_,w1,rfl,rfl,bf.of h1,aC (j:=1) rfl,_,rfl,0,_,_,rfl,At.same s1 _ _ hX.y,hj,fun z hz=>⟨bU r,u,h2,hz,IV KH.vp.vd.2 (by decide),_,rfl,k H1 (au.refl _)⟩⟩
   ·have e:iY r=false:=e;rw[e,Bool.false_and] at k;exact k H1 (au.refl _)
 case g5=>
  intro D0 σ H h;cases h with
  | go w e2 hw q=>
   refine⟨_,e2,rfl,_,rfl,?_⟩;rw[gg hw];exact aY q
  | yes wp T ps os ln lf rs WH sd L F l0 f0 w us y x fo k u N hX hw M8 Kz S5 q=>
   subst hw M8;refine⟨_,hX.e2,rfl,_,rfl,?_⟩;rw[IL rfl];refine bE ⟨wp,T,ps,os,ln,lf,rs,WH,sd,L,F,l0,f0,_,[k,u],y,x,fo,u,hX,rfl,fun lk WI H1 s1 JO hT=>?_⟩;have J2:=(hX.same s1).st (σ':=σ.set 8 (some (.ref lk))) (fun j hj=>IQ (by omega)) (Jk ..);have e8:sg (σ.set 8 (some (.ref lk))) 8 (.ref lk):=IT (by have:=hX.sl;omega);refine⟨_,e8,Jr _,fun n2 Lh=>?_⟩;have s2:=ae Lh (.lst []);have e2:WX H1 n2 (.lst []) n2=some (.lst []):=ao;generalize WX H1 n2 (.lst [])=H2 at s2 e2 ⊢;have Ku:=J2.same s2;have K6:=s2 _ _ JO;have O0:=s1.trans s2;refine⟨lk,n2,_,rfl,rfl,bf.of K6,bf.of e2,_,rfl,?_⟩;cases hT with
   | no hk Oa=>
    subst hk;rw[Oa k,IY Jd] at Kz;subst Kz;refine bE (bE ⟨_,Ku.e4,eX,fun t3 JQ=>?_⟩);have s3:=ae JQ (.tup [.str "fault",.str "KindFault"]);refine⟨_,kF,At.same s3 _ _ Ku.x,At.new JQ (aZ (av.mpr rfl) (av.mpr rfl)),by decide +kernel,?_⟩;rw[bo];exact q _ (O0.trans s3)
   | yes a0 kr x0 x1 x2 x3 v4 ns hk Lj P4 Oa=>
    subst hk;refine aY ⟨_,Ku.e3,0,_,_,rfl,Ku.y,rfl,fun z hz=>⟨_,e8,lk,_,_,.ref a0,rfl,rfl,bf.of K6,aC (j:=0) rfl,a0,_,_,v4,rfl,rfl,bf.of (s2 _ _ Lj),aC (j:=4) rfl,k,ns.map aQ,hz,At.same s2 _ _ P4,fun e he=>?_,_,rfl,?_⟩⟩
    ·obtain⟨m,_,rfl⟩:=JD.mp he;rw[hJ];decide
    rw[IZ rfl,<-Oa k];cases hb:gD os u k with
    | false=>
     rw[hb,IY Jd] at Kz;subst Kz;refine bE ⟨_,Ku.e4,eX,fun t3 JQ=>?_⟩;have s3:=ae JQ (.tup [.str "fault",.str "KindFault"]);refine⟨_,kF,At.same s3 _ _ Ku.x,At.new JQ (aZ (av.mpr rfl) (av.mpr rfl)),by decide +kernel,?_⟩;rw[bo];exact q _ (O0.trans s3)
    | true=>
     rw[hb,IZ rfl] at Kz;subst Kz;refine aY ⟨_,Ku.e4,0,_,_,rfl,Ku.x,rfl,fun z hz=>?_⟩;rw[av.mp hz];refine⟨rfl,_,rfl,?_⟩;rw[IL rfl];have hN:=S5 hb;refine bE ⟨_,Ku.e0,_,Ku.e4,1,_,_,rfl,Ku.x,rfl,fun z1 Lm=>⟨wp,ps,os,eS,_,_,z1,aQ N,rfl,Ku.s.s.w,Ku.s.s.o.wf,Ku.s.s.o.nb,Lm,.th _ (aE hN),rfl,?_⟩⟩;rw[kb hN];show D0.rt (.bl (decide (V.str "view"=V.str "view"))) _;rw[IL rfl];exact q _ O0
 case main=>
  intro dc OD;refine⟨ao,zM,rfl,by decide,?_⟩;rw[F1];have s1:au H (WX (WX H dc (.dK [])) dc (.dK zM)):=fun p o e=>by
   have n:p≠dc:=cE e OD;rw[aB n,aB n];exact e
  have e1:WX (WX H dc (.dK [])) dc (.dK zM) dc=some (.dK zM):=ao;generalize WX (WX H dc (.dK [])) dc (.dK zM)=H1 at s1 e1 ⊢;obtain⟨cn,_,JJ,hc⟩:=uG Nr bQ l0 f0 us;have hC:Gu K [some (.ref wp.W),some (.ref sd),some (.str w'),some y,some x,some (.ref dc),none,none,none,none] H1 w' us cn:=⟨y,dc,zM,rfl,rfl,rfl,e1,F0 hc,At.same s1 _ _ hy⟩;have JN:=At.same s1 _ _ hx;have KN:=At.same s1 _ _ hy;have JL:=hS.same s1;have qq:yS K c H1 wp T (bQ++(ie bQ l0 f0 w' us).1) (ie bQ l0 f0 w' us).2.1 (ie bQ l0 f0 w' us).2.2.1 rs WH sd L F' Q:=fun H' JK JI c'=>q H' JK JI ((au.eZ s1).trans c');clear q hS hx hy;by_cases JY:us.length=cn
  rotate_left
  ·have eo:=JJ JY;rw[eo] at qq JL JN;refine .bad _ _ _ hC JY ⟨_,rfl,_,rfl,bE ⟨_,rfl,eX,fun t3 JQ=>?_⟩⟩;have s3:=ae JQ (.tup [.str "fault",.str "KindFault"]);refine⟨kF,kF,At.same s3 _ _ JN,At.new JQ (aZ (av.mpr rfl) (av.mpr rfl)),by decide +kernel,?_⟩;rw[bo];exact qq.nx s3 JL
  clear JJ;rcases hc with ⟨rfl,rfl⟩ | ⟨rfl,rfl⟩ | ⟨rfl,rfl⟩ | ⟨rfl,rfl⟩ | ⟨rfl,rfl⟩
  ·obtain⟨u,rfl⟩:=Xa.mp JY;rw[uI] at JL JN qq;have JL:jU K c H1 wp T ps (bQ++[]) (l0++[jX bQ u]) f0 rs WH sd L F' l0 f0:=JL;rw[Js] at JL;have qq:yS K c H1 wp T (bQ++[]) (l0++[jX bQ u]) f0 rs WH sd L F' Q:=qq;rw[Js] at qq;refine .ok _ _ _ hC rfl (by decide +kernel) ⟨_,rfl,_,rfl,aY ?_⟩;exact .yes wp T ps bQ _ _ rs WH sd L F' l0 f0 _ _ y x _ u ⟨JL,rfl,rfl,rfl,rfl,rfl,KN,JN,KR,ht,by omega,by omega,by omega,rfl⟩ rfl rfl rfl rfl rfl qq
  ·have S8:=W8.mp JY;subst S8;rw[uH] at JL JN qq;have JL:jU K c H1 wp T ps (bQ++[]) l0 f0.tail rs WH sd L F' l0 f0:=JL;rw[Js] at JL;have qq:yS K c H1 wp T (bQ++[]) l0 f0.tail rs WH sd L F' Q:=qq;rw[Js] at qq;refine .ok _ _ _ hC rfl (by decide +kernel) ⟨_,rfl,_,rfl,aY ?_⟩;exact .go _ rfl (by decide +kernel) (.yes wp T ps bQ _ _ rs WH sd L F' l0 f0 _ _ y x _ ⟨JL,rfl,rfl,rfl,rfl,rfl,KN,JN,KR,ht,by omega,by omega,by omega,rfl⟩ rfl rfl rfl rfl qq)
  ·obtain⟨u,k,rfl⟩:=zL JY;rw[yl] at JL JN qq;have JL:jU K c H1 wp T ps (bQ++[]) l0 f0 rs WH sd L F' l0 f0:=JL;rw[Js] at JL;have qq:yS K c H1 wp T (bQ++[]) l0 f0 rs WH sd L F' Q:=qq;rw[Js] at qq;have JN:At K H1 (if zO (ft bQ k) then eE (yV (gD bQ u k)) else kF) x:=JN;refine .ok _ _ _ hC rfl (by decide +kernel) ⟨_,rfl,_,rfl,aY (.go _ rfl (by decide +kernel) (.go _ rfl (by decide +kernel) (.go _ rfl (by decide +kernel) (.go _ rfl (by decide +kernel) (.go _ rfl (by decide +kernel) (?_))))))⟩;have O3:=KR u II;have hkd:=KR k (IH _ II);have WM:=JL.s.r.len;refine⟨_,rfl,sd,.ref T,rfl,JL.t.2.2,T,rfl,⟨_,bf.of JL.s.t⟩,[y],⟨rfl,fun j i h=>?_⟩,hU (vs:=[y]) JL.s (by omega) (fun r=>jZ r&&bP (bU r) k) (fun r a1 H2 Q' _ _ s2 KH kk=>?_) (fun a1 H2 Q' kk=>⟨_,rfl,kk⟩) fun lk H2 WI Mr s2 JO K9=>?_⟩
   ·match j,h with
    | 0,h=>cases h;exact⟨_,rfl,rfl⟩
    | j+1,h=>simp at h
   ·obtain⟨w1,tl,h1,h2⟩:=KH.two;refine⟨_,rfl,a1,_,_,.str (gF r),rfl,rfl,bf.of h1,aC (j:=0) rfl,rfl,_,rfl,?_⟩;rw[oC];refine bO (fun e=>?_) (fun e=>?_)
    ·have e:jZ r=true:=e;rw[e,Bool.true_and] at kk;exact⟨_,rfl,a1,_,_,w1,rfl,rfl,bf.of h1,aC (j:=1) rfl,_,rfl,1,_,_,rfl,At.same s2 _ _ KN,rfl,fun z hz=>⟨bU r,k,h2,hz,IV KH.vp.vd.2 (by decide),_,rfl,kk H2 (au.refl _)⟩⟩
    ·have e:jZ r=false:=e;rw[e,Bool.false_and] at kk;exact kk H2 (au.refl _)
   have hke:=kinds_of (JL.s.same s2).r hkd K9;refine⟨_,rfl,Jr _,fun n3 Te=>?_⟩;have s3:=ae Te (.lst []);have e3:WX H2 n3 (.lst []) n3=some (.lst []):=ao;generalize WX H2 n3 (.lst [])=H3 at s3 e3 ⊢;have LB:=s2.trans s3;refine⟨lk,n3,WI,rfl,rfl,bf.of (s3 _ _ JO),bf.of e3,_,rfl,?_⟩;rw[hke];cases hb:zO (ft bQ k) with
   | false=>
    rw[hb,IY Jd] at JN;refine bE ⟨_,rfl,eX,fun t4 JV=>?_⟩;have s4:=ae JV (.tup [.str "fault",.str "KindFault"]);refine⟨_,kF,At.same (LB.trans s4) _ _ JN,At.new JV (aZ (av.mpr rfl) (av.mpr rfl)),by decide +kernel,?_⟩;rw[bo];exact qq.nx (LB.trans s4) JL
   | true=>
    rw[hb,IZ rfl] at JN;refine aY ⟨wp,T,ps,bQ,_,_,rs,WH,sd,L,F',l0,f0,_,[u,k],y,x,_,u,⟨JL.same LB,rfl,rfl,rfl,rfl,rfl,At.same LB _ _ KN,At.same LB _ _ JN,KR,ht,by omega,by omega,by omega,rfl⟩,rfl,fun O1 Nq H4 s4 K6 hT=>?_⟩;have Lb:=LB.trans s4;refine⟨_,rfl,_,rfl,Jr _,fun n5 hn5=>?_⟩;have s5:=ae hn5 (.lst []);have e5:WX H4 n5 (.lst []) n5=some (.lst []):=ao;generalize WX H4 n5 (.lst [])=H5 at s5 e5 ⊢;have K0:=Lb.trans s5;refine⟨O1,n5,Nq,rfl,rfl,bf.of (s5 _ _ K6),bf.of e5,_,rfl,?_⟩;cases hT with
    | no hk Oa=>
     subst hk;rw[Oa k] at JN;refine aY ⟨eX,fun t6 Ky=>⟨eX,fun t7 LF=>?_⟩⟩;have s6:=ae Ky (.tup [.str "truth",.bl false]);have s7:=s6.trans (ae LF (.tup [.str "value",.ref t6]));refine⟨_,eE (yV false),At.same (K0.trans s7) _ _ JN,At.new LF (aZ (av.mpr rfl) (At.new Ky (aZ (av.mpr rfl) (cL.mpr rfl)))),by decide +kernel,?_⟩;rw[bo];exact qq.nx (K0.trans s7) JL
    | yes a0 kr x0 x1 x2 x3 v4 ns hk Lj P4 Oa=>
     subst hk;rw[Oa k] at JN;refine bE ⟨_,rfl,1,_,_,rfl,At.same K0 _ _ KN,rfl,fun z hz=>⟨_,rfl,O1,_,_,.ref a0,rfl,rfl,bf.of (s5 _ _ K6),aC (j:=0) rfl,a0,_,_,v4,rfl,rfl,bf.of (s5 _ _ Lj),aC (j:=4) rfl,k,ns.map aQ,hz,At.same s5 _ _ P4,fun e he=>?_,?_⟩⟩
     ·obtain⟨m,_,rfl⟩:=JD.mp he;rw[hJ];decide
     rw[IY Jd];generalize ((ns.map aQ).any fun e=>bP e k)=bb at JN ⊢;refine⟨eX,fun t6 Ky=>⟨eX,fun t7 LF=>?_⟩⟩;have s6:=ae Ky (.tup [.str "truth",.bl bb]);have s7:=s6.trans (ae LF (.tup [.str "value",.ref t6]));refine⟨_,eE (yV bb),At.same (K0.trans s7) _ _ JN,At.new LF (aZ (av.mpr rfl) (At.new Ky (aZ (av.mpr rfl) (cL.mpr rfl)))),by cases bb<;>decide +kernel,?_⟩;rw[bo];exact qq.nx (K0.trans s7) JL
  ·obtain⟨k,u,rfl⟩:=zL JY;have P0:=Ml u (IH _ II);refine .ok _ _ _ hC rfl (by decide +kernel) ⟨_,rfl,_,rfl,aY (.go _ rfl (by decide +kernel) (.go _ rfl (by decide +kernel) (.go _ rfl (by decide +kernel) (.go _ rfl (by decide +kernel) (?_)))))⟩;cases hb:gD bQ u k with
   | true=>
    have eo:ie bQ l0 f0 "elder" [k,u]=([.vw],l0,f0,eE (aQ bQ.length)):=by
     rw[rC];show(if gD bQ u k=true then _ else _)=_;rw[hb];rfl
    rw[eo] at JL JN qq;refine .yes wp T ps (bQ++[.vw]) l0 f0 rs WH sd L F' l0 f0 _ _ y x _ k u bQ.length ⟨JL,rfl,rfl,rfl,rfl,rfl,KN,JN,KR,ht,by rw[IJ];show _+1<=_;omega,by omega,by omega,rfl⟩ rfl rfl (by rw[nt SY P0,hb];rfl) (fun _=>bD) (fun H' s'=>qq.nx s' JL)
   | false=>
    have eo:ie bQ l0 f0 "elder" [k,u]=([],l0,f0,kF):=by
     rw[rC];show(if gD bQ u k=true then _ else _)=_;rw[hb];rfl
    rw[eo] at JL JN qq;refine .yes wp T ps (bQ++[]) l0 f0 rs WH sd L F' l0 f0 _ _ y x _ k u bQ.length ⟨JL,rfl,rfl,rfl,rfl,rfl,KN,JN,KR,ht,by rw[Js];omega,by omega,by omega,rfl⟩ rfl rfl (by rw[nt SY P0,hb];rfl) (fun z=>by rw[nt SY P0,hb] at z;cases z) (fun H' s'=>qq.nx s' JL)
  ·obtain⟨u,rfl⟩:=Xa.mp JY;rcases yE bQ l0 f0 (Ml u II) with ⟨i,rfl⟩ | ⟨k,r,rfl,hk,ek⟩
   ·have eu:ie bQ l0 f0 "count" [ic i]=AR bQ l0 f0 (ic i):=uJ bQ l0 f0 [ic i];rw[eu,yD] at JL JN qq;refine .cnt _ _ _ "number" [.int i] [] hC rfl rfl rfl ⟨_,rfl,_,rfl,?_⟩;rw[IL rfl];refine aY (.go _ rfl (by decide +kernel) (.go _ rfl (by decide +kernel) (?_)));by_cases hi:10000 < i
    ·rw[IZ hi] at JL JN qq;exact .yes _ y x i rfl rfl rfl rfl KN JN hi fun H' s'=>qq.nx s' JL
    ·rw[IY hi] at JL JN qq;refine .ct _ y i rfl rfl rfl KN (by omega) ?_;exact .yes wp T ps (bQ++[.gr "new" i 0]) l0 f0 rs WH sd L F' l0 f0 _ _ y x _ i bQ.length ⟨JL,rfl,rfl,rfl,rfl,rfl,KN,JN,KR,ht,by rw[IJ];show _+1<=_;omega,by omega,by omega,rfl⟩ rfl rfl (by omega) rfl bD rfl rfl qq
   ·have eu:ie bQ l0 f0 "count" [.tup (.str k::r)]=([],l0,f0,kF):=(uJ bQ l0 f0 _).trans ek;rw[eu] at JL JN qq;refine .cnt _ _ _ k r [] hC rfl rfl rfl ⟨_,rfl,_,rfl,?_⟩;rw[IK hk];refine bE ⟨_,rfl,eX,fun t3 JQ=>?_⟩;have s3:=ae JQ (.tup [.str "fault",.str "KindFault"]);refine⟨kF,kF,At.same s3 _ _ JN,At.new JQ (aZ (av.mpr rfl) (av.mpr rfl)),by decide +kernel,?_⟩;rw[bo];exact qq.nx s3 JL
end
end GS
namespace GS
open PySem PySem.Spec PySem.Builtin PyProof.Rows L2
open PySem.SeqAt
open PySem.MeetsSeq PySem.MeetsSeq2 PySem.MeetsSeq3
theorem lS {prog w A E s sl vt Q}(hs:s.heap.IsSliceOf sl .none .none vt) (pt:IsPart vt (some (-1)))
  (h:Q (1,-1,2) s):wpAny (model prog w) A (Builtin.Slice.sliceApplied (.ref sl) (pure ((2:Nat):Int))) Q E s:=by
 obtain⟨os,KP,OE,Kj⟩:=id hs;unfold Builtin.Slice.sliceApplied Builtin.Slice.sliceFields;refine Ja (Ja (wpAny_field KP Kj (x:=.none) rfl (Ja (wpAny_field KP Kj (x:=.none) rfl (Ja (wpAny_field KP Kj (x:=vt) rfl (Jb ?_)))))));refine Ja (HT.gS pt ?_);show wpAny _ _ (if((-1:Int) == 0)=true then _ else _) _ _ s;rw[IY (by decide)];refine Ja (HT.gS .none (Ja (HT.gS .none (Ja (Jb ?_)))));show wpAny _ _ (pure ((1:Int),(-1:Int),2)) _ _ s;exact Jb h
theorem mj {prog w A E s t sl a b vt Q}(ht:IsTup s.heap t #[a,b]) (hs:s.heap.IsSliceOf sl .none .none vt) (pt:IsPart vt (some (-1)))
  (h:Q (.ref s.heap.objs.size) { s with heap:=s.heap.push { cls:=.type "tuple",data:=.seq #[b,a] } }):wpAny (model prog w) A (getItem (.ref t) (.ref sl)) Q E s:=by
 have J4:sizeOk (.seq #[b,a]):=by
  show(#[b,a]:Array Value).size<=sizeLine;show 2<=sizeLine;decide
 obtain⟨os,KP,OE,Kj⟩:=id hs;have QL:s.TypeIs (.ref sl) "slice":=⟨os,KP,OE⟩;unfold getItem
 try with_reducible refine wpAny_holding ?_
 first | refine Ja (Jb ?_) | skip
 refine Ja (wpAny_sequenceKey ht.typeIs (by decide) ?_);refine Ja (wpAny_callSpecial?_slot (name:=Str.ofString "__getitem__") ht.typeIs PyProof.Rows.slot_tuple_getitem
  (wpAny_call_entry PyProof.Rows.slot_tuple_getitem ht.typeIs entry_tuple_getitem ?_ (args_tuple_getitem _ _)))
 show wpAny _ _ (Builtin.Tuple.tupleItemsOf (.ref t) >>= _) _ _ s;refine Ja (tupleItemsOf_ ht ?_);refine Ja (wpAny_typeOf QL ?_);rw[IZ (by decide)];refine Ja (lS hs pt ?_);show wpAny _ _ (if(((1:Int) == 0&&(-1:Int) == 1&&2 == (#[a,b]:Array Value).size)=true) then _ else _) _ _ s;rw[IY (by intro z;simp at z)];have e:((List.range 2).filterMap fun(m:Nat)=>(#[a,b]:Array Value)[((1:Int)+(m:Int)*(-1)).toNat]?).toArray=#[b,a]:=rfl;rw[e]
 first
  | exact Ja (m:=Builtin.Tuple.tupleExact _) (wpAny_newObj_type (Jb ⟨_,rfl,Jb h⟩) J4)
  | exact Ja (m:=Builtin.Tuple.tupleExact _) (wpAny_newObj_type (Ja (Jb (Jb ⟨_,rfl,Jb h⟩))) J4)
  | exact Ja (Ja (m:=Builtin.Tuple.tupleExact _) (wpAny_newObj_type (Jb (Jb ⟨_,rfl,Jb h⟩)) J4))
  | exact Ja (Ja (m:=Builtin.Tuple.tupleExact _) (wpAny_newObj_type (Jb ⟨_,rfl,Jb h⟩) J4))
def Eb (K:Fg06) (te:TE):TE:=fun σ H Q=>te σ H fun x H1=>∃a u v,x=.ref a/\fh K H1 a [u,v]/\∀p,H1 p=none->Q (.ref p) (WX H1 p (.tup [v,u]))
theorem zo {X e est te p2 pos}(he:L3.LE X e te) (ht:PO X (some est) (fun _ H Q=>Q (some (-1)) H)):L3.LE X (.Subscript e (.Slice none none (some est) p2) pos) (Eb X.K te):=L3.LE.mk (by
 intro WG s σ H Q I h;refine Subscript_ (dh (he.out WG s σ H _ I h) fun v s1 ⟨x,H1,I1,r1,q1⟩=>?_);obtain⟨a,u1,u2,rfl,hq,q⟩:=q1;refine wpAny_Slice (by
  rw[evalPart_none];refine Jb ?_;refine Jb ?_;refine dh (ht WG s1 σ H1 (fun o H=>o=some (-1)/\H=H1) I1 ⟨rfl,rfl⟩) fun vt s2 ⟨o,H2,I2,pt,eo,eH⟩=>?_;subst eo eH;have I4:Inv X WG σ H2 { s2 with heap:=s2.heap.push { cls:=.type "slice",data:=.fields #[.none,.none,vt] } }:=I2.kept (t':=s2.toks) fun b ob q=>Jc _ q;cases r1;obtain⟨WJ,r,U5,hz⟩:=I4.tuple hq;obtain⟨w1,w2,e2,r2,r3⟩:∃w1 w2,WJ=[w1,w2]/\RelV u1 w1/\RelV u2 w2:=by
   cases r with | cons h1 r=>
   cases r with | cons h2 r=>
   cases r;exact⟨_,_,rfl,h1,h2⟩
  subst e2;have hg:wpAny (model X.prog X.w) X.A (getItem (.ref a) (.ref s2.heap.objs.size)) (EP X WG σ Q) X.xe { s2 with heap:=s2.heap.push { cls:=.type "slice",data:=.fields #[.none,.none,vt] } }:=by
   refine mj U5 (Heap.IsSliceOf.new ..) pt ?_;refine⟨.ref _,_,I4.laid (t':=s2.toks) (o:=.tup [u2,u1]) (fun b ob q=>Jc _ q) (IW _) ?_,rfl,q _ (I4.cP.fresh (IW _))⟩;exact⟨eX,[w2,w1],.cons r3 (.cons r2 .nil),IsTup.new _ _⟩
  show wpAny (model X.prog X.w) X.A (subscriptTail e (.Slice none none (some est) p2) (.ref a) (.ref s2.heap.objs.size)) (EP X WG σ Q) X.xe { s2 with heap:=s2.heap.push { cls:=.type "slice",data:=.fields #[.none,.none,vt] } };exact tail_any (ops:=[.ref a,.ref s2.heap.objs.size]) U5.typeIs PyProof.Rows.slot_tuple_getitem.lookup hg (by with_unfolding_all rfl)))
end GS
namespace GS
open PySem PyProof.Rows
open L2 hiding ah jd bV ak pv bz fY aH ju eJ cZ cT jv bx fV ck bZ bR cJ bI bB aI fI aJ bS dZ fg bT fb cv cY cS eY gs fX ef gW cx ee cg aD bW iI iJ br fH d9 aP ag aq
open L3
theorem bC.split {p H H' ys}(b:bC p H H') (h:H' p=some (.lst ys)):au (WX H p (.lst ys)) H':=fun q o e=>by
 by_cases hq:q=p
 ·subst hq;rw[ao] at e;cases e;exact h
 ·rw[aB hq] at e;exact b q o hq e
section
variable {K:Fg06}{c:cF}{H H':Hp}{wp:Wp}{T:Addr}{ps:List Addr}{os:List Th}{ln:List Str}{lf:List Int}{rs:List Rw}{WH:List V}{l0:List Str}{f0:List Int}{sd L F p:Addr}{xs ys:List V}
theorem gH.but (h:gH K c H wp T ps os ln lf rs WH) (hx:H p=some (.lst xs)) (JJ:∀(x:Str) r,xs≠.str x::r) (np:p∉Sx wp T) (b:bC p H H') (hp:H' p=some (.lst ys)):gH K c H' wp T ps os ln lf rs WH:=by
 obtain⟨n1,n2,n3,n4⟩:=Sx.ne np;have r1:=h.r.add (L:=p) (fun x r e=>by rw[hx] at e;injection e with e;injection e with e;exact JJ x r e);have k:qG (p::Sx wp T) H (WX H p (.lst ys)):=qG.put II hx;have r2:=(r1.keep h.o.wf k (fT.refl _)).sub (S:=Sx wp T) fun a ha=>IH _ ha;have h1:gH K c (WX H p (.lst ys)) wp T ps os ln lf rs WH:=⟨h.w.lst hx n1 n2 n3,h.o,h.g,h.k,by rw[aB n4];exact h.t,r2,h.n1,h.n2,h.n3⟩;exact h1.same (b.split hp)
theorem jU.but (h:jU K c H wp T ps os ln lf rs WH sd L F l0 f0) (hx:H p=some (.lst xs)) (JJ:∀(x:Str) r,xs≠.str x::r) (np:p∉L::F::Sx wp T) (b:bC p H H') (hp:H' p=some (.lst ys)):jU K c H' wp T ps os ln lf rs WH sd L F l0 f0:=by
 have nS:p∉Sx wp T:=fun z=>np (IH _ (IH _ z));have nL:L≠p:=fun z=>np (z▸II);have nF:F≠p:=fun z=>np (z▸IH _ II);have r1:=h.r.add (L:=p) (fun x r e=>by rw[hx] at e;injection e with e;injection e with e;exact JJ x r e);have k:qG (p::L::F::Sx wp T) H (WX H p (.lst ys)):=qG.put II hx;have r2:=(r1.keep h.s.o.wf k (fT.refl _)).sub (S:=L::F::Sx wp T) fun a ha=>IH _ ha;obtain⟨WI,e,e1⟩:=h.d;exact⟨h.s.but hx JJ nS b hp,r2.same h.s.o.wf (b.split hp),⟨WI,b _ _ (cE e hx) e,e1⟩,b _ _ nL h.hL,b _ _ nF h.hF,h.nL,h.nF,h.AF⟩
theorem jU.sx (h:jU K c H wp T ps os ln lf rs WH sd L F l0 f0):∀a∈L::F::Sx wp T,∃xs,H a=some (.lst xs):=fun a m=>by
 rcases Jv.mp m with rfl | m
 ·exact⟨_,h.hL⟩
 ·rcases Jv.mp m with rfl | m
  ·exact⟨_,h.hF⟩
  ·unfold Sx at m;simp only[List.mem_cons,List.not_mem_nil,or_false] at m;rcases m with rfl | rfl | rfl | rfl
   ·exact⟨_,h.s.w.t⟩
   ·exact⟨_,h.s.w.hn⟩
   ·exact⟨_,h.s.w.hf⟩
   ·exact⟨_,h.s.t⟩
end
theorem hZ.GJ {K c S H H' a xs}(s:hZ c S H H') (n:a∉S) (h:bf K H a xs):bf K H' a xs:=by
 rcases h with (e | ⟨o',e⟩) | e
 ·exact .inl (.inl (s _ _ e n (fun _ _ z=>nomatch z)))
 ·exact .inl (.inr ⟨o',s _ _ e n (fun _ _ z=>nomatch z)⟩)
 ·exact .inr e
theorem iE.eZ {K c S H H' a b n}(h:iE K H a b n) (s:hZ c S H H') (ha:a∉S) (hb:b∉S):iE K H' a b n:=by
 obtain⟨⟨ns,h1,h2⟩,h3,h4⟩:=h;exact⟨⟨ns,s.GJ ha h1,h2⟩,h3,s _ _ h4 hb (fun _ _ z=>nomatch z)⟩
theorem jj.apps {B}:∀{o os},jj os B->(∀x∈o,∀nm ns d fs,x≠.kd nm ns d fs)->jj (os++o) B
 | [],os,h,_=>by rw[Js];exact h
 | x::o,os,h,ho=>by
  rw[List.append_cons];exact(h.one (ho x II)).apps fun y hy=>ho y (IH _ hy)
theorem C9 (os ln lf k b us d') (fr:FR):(∀x∈(AB os ln lf k b us d' fr).1,∀nm ns d fs,x≠.kd nm ns d fs)/\(AB os ln lf k b us d' fr).2.1=ln/\(AB os ln lf k b us d' fr).2.2.1=lf:=by
 cases fr with
 | no=>
  show(∀x∈(if(if b then 1 else 0) < us.length then(([.ob k d' (eB b)]:List Th),ln,lf,kF) else([.ob k d' (fU us (eB b))],ln,lf,eE (aQ os.length))).1,_)/\(if(if b then 1 else 0) < us.length then(([.ob k d' (eB b)]:List Th),ln,lf,kF) else([.ob k d' (fU us (eB b))],ln,lf,eE (aQ os.length))).2.1=_/\(if(if b then 1 else 0) < us.length then(([.ob k d' (eB b)]:List Th),ln,lf,kF) else([.ob k d' (fU us (eB b))],ln,lf,eE (aQ os.length))).2.2.1=_;by_cases hc:(if b then 1 else 0) < us.length
  ·rw[IZ hc];refine⟨fun x hx nm ns d fs e=>?_,rfl,rfl⟩;simp only[List.mem_cons,List.not_mem_nil,or_false] at hx;rw[hx] at e;cases e
  ·rw[IY hc];refine⟨fun x hx nm ns d fs e=>?_,rfl,rfl⟩;simp only[List.mem_cons,List.not_mem_nil,or_false] at hx;rw[hx] at e;cases e
 | val d=>
  refine⟨fun x hx nm ns d fs e=>?_,rfl,rfl⟩;have hx:x∈[Th.ob k d' (eB b)]:=hx;simp only[List.mem_cons,List.not_mem_nil,or_false] at hx;rw[hx] at e;cases e
 | iP t=>
  refine⟨fun x hx nm ns d fs e=>?_,rfl,rfl⟩;have hx:x∈[Th.ob k d' (eB b),.mt t os.length]:=hx;simp only[List.mem_cons,List.not_mem_nil,or_false] at hx;rcases hx with hx | hx<;>(rw[hx] at e;cases e)
theorem Dq (os ln lf n us):(∀x∈(ie os ln lf n us).1,∀nm ns d fs,x≠.kd nm ns d fs)/\(ie os ln lf n us).1.length<=1/\(ie os ln lf n us).2.1.length<=ln.length+1/\(ie os ln lf n us).2.2.1.length<=lf.length:=by
 have h0:∀d:D,(∀x∈(([],ln,lf,d):List Th×List Str×List Int×D).1,∀nm ns d fs,x≠.kd nm ns d fs)/\(([],ln,lf,d):List Th×List Str×List Int×D).1.length<=1/\(([],ln,lf,d):List Th×List Str×List Int×D).2.1.length<=ln.length+1/\(([],ln,lf,d):List Th×List Str×List Int×D).2.2.1.length<=lf.length:=fun d=>⟨fun x hx=>(by cases hx),Jr _,Nat.le_succ _,IW _⟩;have h1:∀o d,(∀nm ns d fs,o≠.kd nm ns d fs)->(∀x∈(([o],ln,lf,d):List Th×List Str×List Int×D).1,∀nm ns d fs,x≠.kd nm ns d fs)/\(([o],ln,lf,d):List Th×List Str×List Int×D).1.length<=1/\(([o],ln,lf,d):List Th×List Str×List Int×D).2.1.length<=ln.length+1/\(([o],ln,lf,d):List Th×List Str×List Int×D).2.2.1.length<=lf.length:=fun o d ho=>⟨fun x hx=>(by
  have hx:x∈[o]:=hx;simp only[List.mem_cons,List.not_mem_nil,or_false] at hx;rw[hx];exact ho),IW _,Nat.le_succ _,IW _⟩
 unfold ie;split
 ·split
  ·refine⟨fun x hx=>(by cases hx),Jr _,?_,IW _⟩;show(ln++[_]).length<=_;rw[IJ];exact IW _
  ·exact h0 _
 ·split
  ·split
   ·refine⟨fun x hx=>(by cases hx),Jr _,Nat.le_succ _,?_⟩;show lf.tail.length<=_;rw[List.length_tail];omega
   ·exact h0 _
  ·split
   ·split
    ·exact h0 _
    ·exact h0 _
   ·split
    ·split
     ·split
      ·exact h1 _ _ (fun _ _ _ _ z=>nomatch z)
      ·exact h0 _
     ·exact h0 _
    ·split
     ·unfold AR;split
      ·split
       ·split
        ·exact h0 _
        ·exact h1 _ _ (fun _ _ _ _ z=>nomatch z)
       ·exact h0 _
      ·exact h0 _
     ·exact h0 _
def GW (rs:List Rw):Prop:=∀i s,Rw.cl i (some s)∈rs->∃r∈rs,bU r=s
def DJ (os:List Th) (rs:List Rw):Prop:=∀i st,Rw.cl i st∈rs->∀nm ns d fs,os[i]?=some (.kd nm ns d fs)->∀n∈ns,∃st',Rw.cl n st'∈rs
def DL (os:List Th) (rs:List Rw):Prop:=∀i,Rw.ob i∈rs->∀k d fs,os[i]?=some (.ob k d fs)->∃st,Rw.cl k st∈rs
section
variable {K:Fg06}{H:Hp}{os JI:List Th}{S:List Addr}{rs:List Rw}{WH:List V}
theorem cV.mem (h:cV K H os S rs WH) {r}(hr:r∈rs):∃a,a∉S/\gp K H os S a r:=by
 obtain⟨j,hj,er⟩:=JG hr;obtain⟨aj,_,h1,h2⟩:=h.at (Jn.mpr ⟨hj,er⟩);exact⟨aj,h1,h2⟩
theorem cV.vp (h:cV K H os S rs WH):∀r∈rs,Vp os (bU r):=fun r hr=>let ⟨_,_,h2⟩:=h.mem hr;h2.vp
theorem DJ.kp (h:DJ os rs) (hr:cV K H os S rs WH) (k:fT os JI):DJ JI rs:=fun i st hi nm ns d fs e=>by
 obtain⟨a,_,v1,v2,v4,KJ,LY,d1,KY,_,e1,_⟩:=hr.mem hi;have e2:=k.o _ _ e1 (fun _ _ _ z=>nomatch z);rw[e] at e2;cases e2;exact h i st hi _ _ _ _ e1
theorem DL.kp (h:DL os rs) (hr:cV K H os S rs WH) (k:fT os JI):DL JI rs:=fun i hi k' d fs e=>by
 obtain⟨a,_,v1,v3,v4,k1,d1,KY,KJ,LY,d2,fs2,_,e1,_⟩:=hr.mem hi;have e2:=k.o _ _ e1 (fun _ _ _ z=>nomatch z);rw[e] at e2;cases e2;exact h i hi _ _ _ e1
theorem gp.kq {a r}(h:gp K H os S a r) {n}(e:ft os (bU r)=some (.kL n)):n∈kq/\∃i,r=.gv i n:=by
 cases r with
 | gv j w=>obtain⟨_,_,h2,h3,_⟩:=h;rw[show bU (.gv j w)=aQ j from rfl,bw,h2] at e;cases e;exact⟨h3,j,rfl⟩
 | cl j st=>obtain⟨_,_,_,_,_,_,_,_,h2,_⟩:=h;rw[show bU (.cl j st)=aQ j from rfl,bw,h2] at e;cases e
 | fn j=>obtain⟨_,h2,_⟩:=h;rw[show bU (.fn j)=aQ j from rfl,bw,h2] at e;cases e
 | ob j=>obtain⟨_,_,_,_,_,_,_,_,_,_,_,h2,_⟩:=h;rw[show bU (.ob j)=aQ j from rfl,bw,h2] at e;cases e
 | mt j=>obtain⟨_,_,_,_,_,_,_,h2,_⟩:=h;rw[show bU (.mt j)=aQ j from rfl,bw,h2] at e;cases e
 | vw j=>obtain⟨_,_,h2,_⟩:=h;rw[show bU (.vw j)=aQ j from rfl,bw,h2] at e;cases e
 | pl d=>obtain⟨_,_,h2,_⟩:=h;rw[show bU (.pl d)=d from rfl,(h2.vd os).2] at e;cases e
end
theorem uP {os}(h:kE os) {t g}(hg:os[t]?=some (.fn g)) {us}(hu:∀u∈us,Vp os u):GS.dep (gf g t us)<=50:=by
 unfold gf;split
 ·have z:=h.dd t g hg;have z2:=g9 (n:=2) (ds:=us++g.df.drop (g.df.length - (g.np - us.length))) fun e he=>by
   rcases Jm.mp he with he | he
   ·exact IV (hu e he).vd.2 (by decide)
   ·exact IV (oz (List.mem_of_mem_drop he)) z
  rw[GS.dep,bM,bM,bM,bM,cy,hJ,GS.dep];omega
 ·decide +kernel
def Gx:List Str:=["say","take","isa","count","elder"]
theorem DN:∀k,k < 5->Gx.getD k ""∈GS.kq:=by decide +kernel
theorem uL {w}(h:w∈GS.kq):∃i,i < 8/\(w,i)∈eS/\gfN.getD i ""=w:=by
 have:∀w∈GS.kq,∃i,i < 8/\(w,i)∈eS/\gfN.getD i ""=w:=by
  intro w hw;simp only[GS.kq,List.mem_cons,List.not_mem_nil,or_false] at hw;rcases hw with rfl | rfl | rfl | rfl | rfl
  ·exact⟨0,by decide +kernel⟩
  ·exact⟨1,by decide +kernel⟩
  ·exact⟨2,by decide +kernel⟩
  ·exact⟨3,by decide +kernel⟩
  ·exact⟨4,by decide +kernel⟩
 exact this w h
abbrev Ho:Stmt:=cj 85
theorem yM {xs:List V}{v:V}(h0:0 < xs.length) (h:xs[xs.length - 1]?=some v):j4 xs (-1)=some v:=by
 have e:sX xs.length (-1)=some (xs.length - 1):=by
  unfold sX;rw[IY (by decide)];split
  ·congr 1;omega
  ·omega
 unfold j4;rw[e];exact h
inductive tDw (K:Fg06) (c:cF) (σ:L2.St) (H:Hp) (Q:VK):Prop
 | mk wp T ps os ln lf rs WH m:sg σ 5 (.ref T)->sg σ 8 (.int m)->gH K c H wp T ps os ln lf rs WH->0 < WH.length->WH.length<=100->(∀v u H',au H H'->At K H' u v->Dr rs u->Q v H')->tDw K c σ H Q
inductive sPr (K:Fg06) (c:cF) (D0:W0) (σ:L2.St) (H:Hp):Prop
 | mk wp T ps os ln lf rs WH B n w y us:sg σ 4 (.int n)->sg σ 5 (.ref T)->sg σ 6 y->sg σ 9 (.str w)->σ.length=14->gH K c H wp T ps os ln lf rs WH->WH.length<=100->At K H (.tup us) y->(∀u∈us,Dr rs u)->us.length<=5->rs.filter iY≠[]->DJ os rs->DL os rs->jj os B->
   (∀σ' H' y' My,au H H'->(∀j,j≠6->j≠10->j≠11->σ'[j]?=σ[j]?)->σ'.length=14->sg σ' 6 y'->At K H' (.tup My) y'->(∀u∈My,Dr rs u)->My.length<=5->D0.nx σ' H')->sPr K c D0 σ H
inductive sP2 (K:Fg06) (D0:W0) (σ:L2.St) (H:Hp):Prop
 | mk rs n w y us:sg σ 4 (.int n)->sg σ 6 y->sg σ 9 (.str w)->σ.length=14->At K H (.tup us) y->(∀u∈us,Dr rs u)->us.length<=5->
   (∀σ' H' y' My,au H H'->(∀j,j≠6->σ'[j]?=σ[j]?)->σ'.length=14->sg σ' 6 y'->At K H' (.tup My) y'->(∀u∈My,Dr rs u)->My.length<=5->D0.nx σ' H')->sP2 K D0 σ H
structure CtX (K:Fg06) (c:cF) (H:Hp) (σ:L2.St) (wp:Wp) (T:Addr) (ps:List Addr) (os:List Th) (ln:List Str) (lf:List Int) (rs:List Rw) (WH:List V) (sd L F:Addr) (B:Nat) (us:List D) (y:V):Prop where
 s:jU K c H wp T ps os ln lf rs WH sd L F ln lf
 e0:sg σ 0 (.ref wp.W)
 e1:sg σ 1 (.ref sd)
 e5:sg σ 5 (.ref T)
 e6:sg σ 6 y
 y:At K H (.tup us) y
 dr:∀u∈us,Dr rs u
 ul:us.length<=5
 kd:jj os B
 si:GW rs
 lt:WH.length<=100
 lo:os.length<=790
 l1:ln.length<=880
 l2:lf.length<=900
structure GA (K:Fg06) (c:cF) (H:Hp) (σ:L2.St) (wp:Wp) (T:Addr) (ps:List Addr) (os:List Th) (ln:List Str) (lf:List Int) (rs:List Rw) (WH:List V) (sd L F:Addr) (B:Nat) (us:List D) (y:V) (x:V) (a1:Addr) (r:Rw) (o:List Th×List Str×List Int×D):Prop where
 s:jU K c H wp T ps (os++o.1) o.2.1 o.2.2.1 rs WH sd L F ln lf
 e0:sg σ 0 (.ref wp.W)
 e1:sg σ 1 (.ref sd)
 e5:sg σ 5 (.ref T)
 e6:sg σ 6 y
 jk:sg σ 10 (.ref a1)
 se:sg σ 12 x
 sl:σ.length=14
 y:At K H (.tup us) y
 x:At K H o.2.2.2 x
 a:gp K H (os++o.1) (Sx wp T) a1 r
 na:a1∉Sx wp T
 mem:r∈rs
 w0:kE os
 dr:∀u∈us,Dr rs u
 uv:∀u∈us,Vp os u
 rv:∀r∈rs,Vp os (bU r)
 ul:us.length<=5
 kd:jj os B
 si:GW rs
 lt:WH.length<=100
 lo:os.length<=790
 l1:ln.length<=880
 l2:lf.length<=900
def wg (K:Fg06) (c:cF) (H:Hp) (wp:Wp) (T:Addr) (os:List Th) (ln:List Str) (lf:List Int) (rs:List Rw) (WH:List V) (sd L F:Addr) (B:Nat) (Q:VK):Prop:=∀H' JK JI Kn J9,hZ c (L::F::Sx wp T) H H'->jU K c H' wp T JK JI Kn J9 rs WH sd L F Kn J9->fT os JI->JI.length<=os.length+2->jj JI B->Kn.length<=ln.length+1->J9.length<=lf.length->Q (.bl true) H'
theorem wg.mono {K c H H1 wp T os ln lf rs WH sd L F B Q}(h:wg K c H wp T os ln lf rs WH sd L F B Q) (s:hZ c (L::F::Sx wp T) H H1):wg K c H1 wp T os ln lf rs WH sd L F B Q:=fun H' JK JI Kn J9 c'=>h H' JK JI Kn J9 (s.trans c')
theorem A6 {L F:Addr}{S:List Addr}:∀a∈S,a∈L::F::S:=fun _ h=>IH _ (IH _ h)
theorem wg.gv {K c H wp T os ln lf rs WH sd L F B Q w us}(h:wg K c H wp T os ln lf rs WH sd L F B Q) (hk:jj os B):yS K c H wp T (os++(ie os ln lf w us).1) (ie os ln lf w us).2.1 (ie os ln lf w us).2.2.1 rs WH sd L F Q:=fun H' JK JI c' x' k' l' N3=>by
 obtain⟨g1,g2,g3,g4⟩:=Dq os ln lf w us;refine h H' JK JI _ _ c' x' ((fT.app _ _).trans k') ?_ (N3 B (hk.apps g1)) g3 g4;rw[l',IJ];omega
theorem wg.no {K c H H' wp T ps os ln lf rs WH sd L F B Q}(h:wg K c H wp T os ln lf rs WH sd L F B Q) (hk:jj os B) (x:jU K c H wp T ps (os++[]) ln lf rs WH sd L F ln lf) (s:au H H'):Q (.bl true) H':=by
 rw[Js] at x;exact h H' ps os ln lf (au.eZ s) (x.same s) (fT.refl _) (by omega) hk (by omega) (IW _)
inductive sC1 (K:Fg06) (c:cF) (D0:W0) (σ:L2.St) (H:Hp):Prop
 | mk wp T ps os ln lf rs WH sd L F B us y n w:CtX K c H σ wp T ps os ln lf rs WH sd L F B us y->sg σ 4 (.int n)->sg σ 9 (.str w)->w∈GS.kq->wg K c H wp T os ln lf rs WH sd L F B D0.rt->D0.nx σ H->sC1 K c D0 σ H
inductive Hu (K:Fg06) (c:cF) (D0:W0) (σ:L2.St) (H:Hp):Prop
 | go a1 tg tl:sg σ 10 (.ref a1)->H a1=some (.lst (.str tg::tl))->tg≠"given"->D0.nx σ H->Hu K c D0 σ H
 | yes wp T ps os ln lf rs WH sd L F B us y x a1 i w:GA K c H σ wp T ps os ln lf rs WH sd L F B us y x a1 (.gv i w) (ie os ln lf w us)->wg K c H wp T os ln lf rs WH sd L F B D0.rt->Hu K c D0 σ H
inductive Ht (K:Fg06) (c:cF) (D0:W0) (σ:L2.St) (H:Hp):Prop
 | go a1 tg tl:sg σ 10 (.ref a1)->H a1=some (.lst (.str tg::tl))->tg≠"class"->D0.nx σ H->Ht K c D0 σ H
 | yes wp T ps os ln lf rs WH sd L F B us y x a1 i st nm ns d fs d':GA K c H σ wp T ps os ln lf rs WH sd L F B us y x a1 (.cl i st) (oS os ln lf i ns us d')->os[i]?=some (.kd nm ns d fs)->wg K c H wp T os ln lf rs WH sd L F B D0.rt->Ht K c D0 σ H
inductive Hs (K:Fg06) (c:cF) (D0:W0) (σ:L2.St) (H:Hp):Prop
 | go a1 tg tl:sg σ 10 (.ref a1)->H a1=some (.lst (.str tg::tl))->tg≠"function"->D0.nx σ H->Hs K c D0 σ H
 | yes wp T ps os ln lf rs WH sd L F B us y x a1 i (g:sj):GA K c H σ wp T ps os ln lf rs WH sd L F B us y x a1 (.fn i) ([],ln,lf,gf g i us)->os[i]?=some (.fn g)->wg K c H wp T os ln lf rs WH sd L F B D0.rt->Hs K c D0 σ H
inductive Hr (K:Fg06) (c:cF) (D0:W0) (σ:L2.St) (H:Hp):Prop
 | go a1 tg tl:sg σ 10 (.ref a1)->H a1=some (.lst (.str tg::tl))->tg≠"method"->D0.nx σ H->Hr K c D0 σ H
 | yes wp T ps os ln lf rs WH sd L F B us y x a1 i t ow (g:sj):GA K c H σ wp T ps os ln lf rs WH sd L F B us y x a1 (.mt i) ([],ln,lf,gf g t (aQ ow::us))->os[i]?=some (.mt t ow)->os[t]?=some (.fn g)->wg K c H wp T os ln lf rs WH sd L F B D0.rt->Hr K c D0 σ H
section
variable {P:Program}{w:World}{K:Fg06}{mg:Str->Option Value}{base:Heap}{f:Addr}{fd:FuncData}{c:cF}
inductive Bf (K:Fg06) (c:cF) (vs:List V) (H:Hp) (Q:VK) (E:XK):Prop
 | mk wp T ps os ln lf rs WH sd L F B a b m:vs=[.ref wp.W,.ref sd,.ref a,.ref b]->jU K c H wp T ps os ln lf rs WH sd L F ln lf->iE K H a b m->a∉L::F::Sx wp T->b∉L::F::Sx wp T->m<=100000000000->jj os B->GW rs->DJ os rs->DL os rs->rs.filter iY≠[]->WH.length<=100->os.length<=790->ln.length<=880->lf.length<=900->(∀H' JK JI Kn J9 m',hZ c (b::L::F::Sx wp T) H H'->jU K c H' wp T JK JI Kn J9 rs WH sd L F Kn J9->iE K H' a b m'->m'<=m+10->fT os JI->JI.length<=os.length+2->jj JI B->Kn.length<=ln.length+1->J9.length<=lf.length->Q (.bl true) H')->Bf K c vs H Q E
theorem ke:aS ["_law_world","_law_state","_law_cells","_law_spot","_law_n","_law_there","_law_values","_law_k","_law_more","_law_word","_law_one","_law_pair","_law_found","_law_due"] ["_law_world","_law_state","_law_cells","_law_spot"] (aw Ho):=fE
theorem FE (g:Glb9 mg) (F:eg K "_law_called_right" "_law_called_right" Ho f fd) (dCe:Def P w K mg base "_law_cell" ["_law_cells","_law_spot"] 1 (mS K)) (dPl:Def P w K mg base "_law_plain" ["_law_n"] 1 (zc K)) (dK:Def P w K mg base "known" ["world","name"] 1 (qU K c)) (dCl:Def P w K mg base "called" ["world","a","values"] 7 (kZ K c)) (dGv:Def P w K mg base "_law_given" ["_law_world","_law_state","_law_word","_law_values","_law_found"] 6 (Be K c)) (dBg:Def P w K mg base "_law_begun" ["_law_world","_law_there","_law_one","_law_values","_law_found"] 8 (Bi K c)) (dE:Def P w K mg base "_law_entered" ["_law_found","_law_one","_law_values"] 2 (uk K)) (dFi:Def P w K mg base "_law_filled" ["_law_one","_law_values"] 1 (uh K)):bK P w K mg base eh 9 f fd ["_law_world","_law_state","_law_cells","_law_spot"] (Bf K c):=by
 refine F.fw ke fun WK A outer s H vs Q E hr h=>?_;obtain⟨wp,T,ps,os,ln,lf,rs,WH,sd,L,F',B,a,b,m,rfl,hX,RU,OJ,KS,hm,hK,VL,hOr,RX,LH,ht,hl,L5,KD,q⟩:=h;refine⟨_,(ag (dD 4 ke.nd (bX dCe (bF (pv 2) (pv 3))))
   (ag (dD 5 ke.nd (L3.eI (fz hr) (pv 1) ak))
   (ag (dD 6 ke.nd (bB cJ))
   (ag (d9 Ji rfl (cg rfl g.gG (cw (aH bJ (pv 4) ah))) (i6 7 ke.nd) (ag (dD 8 ke.nd (bX dCe (bF (pv 2) (pv 3))))
   (aq (bW (dZ Jo Jp Jq cp (pv 6) (cw (fk (t':=tDw K c) (bx (cR bL (aH bJ (pv 8) ah) ah) (ff K (ff K (pv 5) (aH bJ (aH bN (pv 8) ah) (aJ aU rfl g.fJ cX (cw (pv 5))))) ah) (bX dPl (cw (aH bN (pv 8) ah)))) ?dw)))))))
   (ag (dD 6 ke.nd (bS gw rfl g.p7 nq (cw (pv 6))))
   (ag (dD 9 ke.nd (ff K (bB (bI ak (lV ak ak ak ak))) (aH bJ (aH bN (pv 4) ah) ah)))
   (ag (cu (t':=sPr K c) (br (LW.pt (cS (cR bL (aH bJ (aH bN (pv 4) ah) ah) ah) (cv (fg vB (pv 9) (aI (bF ak ak)) rfl)))) (ag (dD 10 ke.nd (ff K (.mk (L2.dH (cl:=[]) (Xs:=["_law_one"]) (Nf:=[]) (js:=[]) ?k1 rfl (LI.out (cx (pv 5))) (fun C s0 H0 fp=>LG.out (i6 0 (show(["_law_one"]:List Str).Nodup by decide +kernel))) (fun C s0 H0 fp=>gq (LT.out (cR bL (ff K (pv 0) ah) ak))) (fun C s0 H0 fp=>LE.out (pv 0)))) (ju wx ah)))
   (ag (dD 11 ke.nd (aI (bF (ff K (pv 10) ah) (fV (r:=xD K) ixD (ff K (pv 10) ah) (aH bJ (aH bN (pv 4) ah) (aJ aU rfl g.fJ cX (cw (ff K (pv 10) ah)))) (fun _ _=>rfl)))))
   (aq (dD 6 ke.nd (bx (cR bL (pv 9) ak) (pv 11) (zo (pv 11) (fun WG s σ H Q I h=>L2.bZ (L2.ju L2.wx L2.ah) WG s σ H Q I ⟨_,rfl,_,rfl,h⟩))))))) aP) ?pr)
   (ag (cu (t':=sP2 K) (br (LW.pt (cS (cR bL (aH bJ (aH bN (pv 4) ah) ah) ah) (cv (cR bL (pv 9) ak)))) (aq (dD 6 ke.nd (aI (cw (aI (bF ak (aH iL (aH fR ah (aH bJ (aH bN (pv 4) ah) ah)) ah))))))) aP) ?p2)
   (ag (cu (t':=sC1 K c) (br (cR bL (aH bJ (aH bN (pv 4) ah) ah) ah) (aq (aD (bX dGv (bI (pv 0) (lV (pv 1) (pv 9) (pv 6) (bX dCl (ia (pv 0) (bX dK (bF (pv 0) (pv 9))) (pv 6)))))))) aP) ?c1)
   (ag (dD 10 ke.nd (ff K (pv 5) (aH bJ (aH bN (pv 4) ah) (aJ aU rfl g.fJ cX (cw (pv 5))))))
   (ag (dD 12 ke.nd (bX dCl (ia (pv 0) (ff K (pv 10) ah) (pv 6))))
   (ag (cu (t':=Hu K c) (br (cR bL (ff K (pv 10) ah) ak) (aq (aD (bX dGv (bI (pv 0) (lV (pv 1) (ff K (pv 10) ah) (pv 6) (pv 12)))))) aP) ?c2)
   (ag (cu (t':=Ht K c) (br (cR bL (ff K (pv 10) ah) ak) (aq (aD (bX dBg (bI (pv 0) (lV (pv 5) (pv 10) (pv 6) (pv 12)))))) aP) ?c3)
   (ag (cu (t':=Hs K c) (br (cR bL (ff K (pv 10) ah) ak) (aq (aD (bX dE (ia (pv 12) (pv 10) (pv 6))))) aP) ?c4)
   (ag (cu (t':=Hr K c) (br (cR bL (ff K (pv 10) ah) ak) (ag (dD 13 ke.nd (bX dFi (bF (ff K (pv 10) ah) (aH gK (aI (cw (ff K (pv 10) ah))) (pv 6)))))
   (aq (aD (bx (cR jx (pv 13) bV) (ib (r:=gU K) (dm hr) (pv 12) (aI (bF ak ak))) (ib (r:=gU K) (dm hr) (pv 12) (aI (ia ak (ff K (ff K (pv 10) ah) ah) (pv 13)))))))) aP) ?c5)
   (aq (aD (ib (r:=gU K) (dm hr) (pv 12) (aI (bF ak ak)))))))))))))))))))),?main⟩
 case k1=>exact zV
 case dw=>
  rintro σ H Q ⟨wp,T,ps,os,ln,lf,rs,WH,m,e5,e8,hS,h0,ht,q⟩;refine⟨_,e8,_,_,rfl,rfl,cW,rfl,_,rfl,bO (fun _=>?_) (fun _=>⟨_,e8,_,_,rfl,rfl,⟨by decide,by decide⟩,_,rfl,fun d v H' hP s a=>q v d H' s a (.inr hP)⟩)⟩;have WM:=hS.r.len;obtain⟨k,hk,Kg⟩:=gJ (a:=m / 2) (n:=WH.length) h0;obtain⟨r,Ka⟩:∃r,rs[k]?=some r:=⟨_,IM (by omega)⟩;obtain⟨a,ha,MP,KA⟩:=hS.r.at Ka;obtain⟨v1,tl,h1,h2⟩:=KA.two;refine⟨_,e5,_,e8,_,_,rfl,rfl,⟨by decide,by decide⟩,_,e5,T,_,rfl,.inl (bf.of hS.t),_,_,rfl,rfl,(by show(0:Int) < ((WH.length:Nat):Int);omega),T,_,_,.ref a,rfl,rfl,bf.of hS.t,?_,a,_,_,v1,rfl,rfl,bf.of h1,aC (j:=1) rfl,q v1 _ H (au.refl _) h2 (.inl ⟨r,IX Ka,rfl⟩)⟩;show j4 _ (m / 2 % ((WH.length:Nat):Int))=_;rw[hk];exact aC ha
 case p2=>
  rintro D0 σ H ⟨rs,n,w,y,us,e4,e6,e9,hσ,hy,KR,K3,q⟩;refine⟨_,e4,_,_,rfl,rfl,⟨by decide,by decide⟩,_,_,rfl,rfl,cW,rfl,_,rfl,bO (fun _=>⟨_,e9,rfl,_,rfl,bO (fun _=>?_) (fun _=>q σ H y us (au.refl _) (fun _ _=>rfl) hσ e6 hy KR K3)⟩) (fun _=>aY (q σ H y us (au.refl _) (fun _ _=>rfl) hσ e6 hy KR K3))⟩;refine⟨_,e4,_,_,rfl,rfl,⟨by decide,by decide⟩,_,_,rfl,rfl,cW,_,_,rfl,rfl,_,_,rfl,rfl,eX,fun t1 Kc=>⟨jY,fun t2 JS=>?_⟩⟩;have s1:=ae Kc (.tup [.str "number",.int (10000+n / 900 % 3 - 1)]);have a1:At K (WX H t1 (.tup [.str "number",.int (10000+n / 900 % 3 - 1)])) (ic (10000+n / 900 % 3 - 1)) (.ref t1):=At.new Kc (aZ (av.mpr rfl) (bc.mpr rfl));refine q _ _ (.ref t2) [ic (10000+n / 900 % 3 - 1)] (s1.trans (ae JS _)) (fun j hj=>IQ (W3 hj)) (by rw[Jk];exact hσ) (IT (by omega)) (At.new JS (az.fu a1)) (fun u hu=>?_) (by show 1<=5;decide);simp only[List.mem_cons,List.not_mem_nil,or_false] at hu;subst hu;refine .inr (.inl ⟨_,rfl,?_⟩);obtain⟨k,hk,Kg⟩:=gJ (a:=n / 900) (n:=3) (by decide);rw[show(n / 900 % 3:Int)=(k:Int) from hk]
  match k,Kg with
  | 0,_=>decide +kernel
  | 1,_=>decide +kernel
  | 2,_=>decide +kernel
 case pr=>
  rintro D0 σ H ⟨wp,T,ps,os,ln,lf,rs,WH,B,n,w,y,us,e4,e5,e6,e9,hσ,hS,ht,hy,KR,K3,LH,hOr,RX,hK,q⟩;refine⟨_,e4,_,_,rfl,rfl,⟨by decide,by decide⟩,_,_,rfl,rfl,cW,rfl,_,rfl,bO (fun _=>⟨_,e9,eX,fun t1 Kc=>?_⟩) (fun _=>aY (q σ H y us (au.refl _) (fun _ _ _ _=>rfl) hσ e6 hy KR K3))⟩;have s1:=ae Kc (.tup [.str "isa",.str "elder"]);have e1:fh K (WX H t1 (.tup [.str "isa",.str "elder"])) t1 [.str "isa",.str "elder"]:=fh.of ao;generalize WX H t1 (.tup [.str "isa",.str "elder"])=H1 at s1 e1 ⊢;refine⟨t1,_,rfl,.inr e1,rfl,rfl,_,rfl,bO (fun _=>?_) (fun _=>q σ H1 y us s1 (fun _ _ _ _=>rfl) hσ e6 (At.same s1 _ _ hy) KR K3)⟩;have JL:=hS.same s1;refine⟨_,e5,T,rfl,⟨_,bf.of JL.t⟩,[],⟨rfl,fun j i h=>by simp at h⟩,hU JL (by omega) iY (fun r a H2 Q' _ _ _ ha k=>?_) (fun a H2 Q' k=>⟨_,rfl,k⟩) fun lk H2 WI _ s2 JO K9=>?_⟩
  ·obtain⟨v1,tl,h1,h2⟩:=ha.two;refine⟨_,rfl,a,_,_,.str (gF r),rfl,rfl,bf.of h1,aC (j:=0) rfl,rfl,_,rfl,?_⟩;rw[oC];exact k H2 (au.refl _)
  have WM:=K9.len;have Qi:0 < WI.length:=by rw[WM];exact List.length_pos_iff.mpr LH
  obtain⟨r,Ka⟩:∃r,(rs.filter iY)[WI.length - 1]?=some r:=⟨_,IM (by omega)⟩;obtain⟨a,ha,_,KA⟩:=K9.at Ka;obtain⟨RH,hrb⟩:=JC.mp (IX Ka);obtain⟨i,rfl⟩:=uE hrb;obtain⟨v1,v3,v4,k,d,fs,nm,ns,d',JM,h1,h2,h3,h4,h5,h6⟩:=KA;obtain⟨⟨nr,Lp⟩,_⟩:=hK k nm ns d' JM h3;obtain⟨st,hck⟩:=RX i RH k d fs h2;obtain⟨p4,w4,rfl,sq4,al4⟩:=aX.mp h6;have lw4:=al4.len;rw[IU] at lw4;have lns:0 < ns.length:=by rw[Lp];exact Nat.succ_pos _
  obtain⟨j,hj,Ov⟩:=gJ (a:=n / 900) (n:=w4.length) (by omega);obtain⟨m,hm⟩:∃m,ns[j]?=some m:=⟨_,IM (by omega)⟩;obtain⟨st',hcm⟩:=hOr k st hck nm ns d' JM h3 m (IX hm);refine⟨_,rfl,lk,_,_,.ref a,rfl,rfl,bf.of JO,yM Qi ha,?_⟩;have jk:sg (σ.set 10 (some (.ref a))) 10 (.ref a):=IT (by omega);have e4':sg (σ.set 10 (some (.ref a))) 4 (.int n):=(IQ (by decide)).trans e4;refine⟨_,jk,a,_,_,v1,rfl,rfl,bf.of h1,aC (j:=1) rfl,_,jk,a,_,_,.ref p4,rfl,rfl,bf.of h1,aC (j:=4) rfl,_,e4',_,_,rfl,rfl,⟨by decide,by decide⟩,_,jk,a,_,_,.ref p4,rfl,rfl,bf.of h1,aC (j:=4) rfl,p4,w4,rfl,.inr sq4,_,_,rfl,rfl,(by show(0:Int) < ((w4.length:Nat):Int);omega),j,ns.map aQ,aQ m,?_,h6,by rw[I0,hm];rfl,fun vm RB=>⟨eX,fun t3 JQ=>?_⟩⟩
  ·show V.int (n / 900 % ((w4.length:Nat):Int))=_;rw[hj]
  have s3:=ae JQ (.tup [v1,vm]);have e3:fh K (WX H2 t3 (.tup [v1,vm])) t3 [v1,vm]:=fh.of ao;have a3:At K (WX H2 t3 (.tup [v1,vm])) (.tup [aQ i,aQ m]) (.ref t3):=At.new JQ (aZ h4 RB);have Mh:=(s1.trans s2).trans s3;generalize WX H2 t3 (.tup [v1,vm])=H3 at s3 e3 a3 Mh ⊢;have e9':sg ((σ.set 10 (some (.ref a))).set 11 (some (.ref t3))) 9 (.str w):=(IQ (by decide)).trans ((IQ (by decide)).trans e9);have Mc:sg ((σ.set 10 (some (.ref a))).set 11 (some (.ref t3))) 11 (.ref t3):=IT (by rw[Jk];omega);have VB:∀(x:V) j,j≠6->j≠10->j≠11->(((σ.set 10 (some (.ref a))).set 11 (some (.ref t3))).set 6 (some x))[j]?=σ[j]?:=fun x j n6 n10 Rn=>by
   rw[IQ (W3 n6),IQ (W3 Rn),IQ (W3 n10)]
  have U9:∀x:V,(((σ.set 10 (some (.ref a))).set 11 (some (.ref t3))).set 6 (some x)).length=14:=fun x=>by rw[Jk,Jk,Jk];exact hσ
  have Va:∀x:V,sg (((σ.set 10 (some (.ref a))).set 11 (some (.ref t3))).set 6 (some x)) 6 x:=fun x=>IT (by rw[Jk,Jk];omega);have d1:Dr rs (aQ i):=.inl ⟨_,RH,rfl⟩;have d2:Dr rs (aQ m):=.inl ⟨_,hcm,rfl⟩;refine⟨_,e9',rfl,_,rfl,bO (fun _=>⟨_,Mc,q _ H3 (.ref t3) [aQ i,aQ m] Mh (VB _) (U9 _) (Va _) a3 (fun u hu=>?_) (by show 2<=5;decide)⟩) (fun _=>⟨_,Mc,t3,v1,vm,rfl,e3,fun t4 JV=>?_⟩)⟩
  ·simp only[List.mem_cons,List.not_mem_nil,or_false] at hu;rcases hu with rfl | rfl
   ·exact d1
   ·exact d2
  ·refine q _ _ (.ref t4) [aQ m,aQ i] (Mh.trans (ae JV _)) (VB _) (U9 _) (Va _) (At.new JV (aZ (At.same s3 _ _ RB) (At.same s3 _ _ h4))) (fun u hu=>?_) (by show 2<=5;decide);simp only[List.mem_cons,List.not_mem_nil,or_false] at hu;rcases hu with rfl | rfl
   ·exact d2
   ·exact d1
 case c1=>
  rintro D0 σ H ⟨wp,T,ps,os,ln,lf,rs,WH,sd,L,F,B,us,y,n,w,hX,e4,e9,hw,q,qn⟩;refine⟨_,e4,_,_,rfl,rfl,⟨by decide,by decide⟩,_,_,rfl,rfl,cW,rfl,_,rfl,bO (fun _=>?_) (fun _=>qn)⟩;obtain⟨i,hi,Ti,MI⟩:=uL hw;have Kp:os[i]?=some (.kL w):=by rw[hX.s.s.g i hi,MI]
  have M7:∀u∈us,Vp os u:=fun u hu=>(hX.dr u hu).vp hX.s.s.r;have K3:=hX.ul;have Qr:=hX.lo;have Kt:=hX.l1;have JY:=hX.l2;refine⟨_,hX.e0,_,hX.e1,_,e9,_,hX.e6,_,hX.e0,_,hX.e0,_,e9,wp,ps,os,eS,ln,lf,w,rfl,hX.s.s.w,.inl ⟨i,Ti,fun vg RC=>⟨_,hX.e6,wp,ps,os,eS,ln,lf,vg,y,aQ i,us,rfl,hX.s.s.w,hX.s.s.o.wf,hX.s.s.o.nb,hX.s.s.o.db,RC,.th _ (aE Kp),fun n hn=>?_,hX.y,by omega,M7,by decide +kernel,by omega,by omega,by omega,fun d'=>?_⟩⟩⟩
  ·rw[bw,Kp] at hn;cases hn;exact hw
  have ec:fM os ln lf (aQ i) us d'=ie os ln lf w us:=by
   unfold fM;rw[bw,Kp]
  rw[ec];intro x H1 UC c1 w1 a1;have c1:=c1.chg (c:=c);have o1:kE (os++(ie os ln lf w us).1):=by rw[<-ec];exact uV hX.s.s.o (.th _ (aE Kp)) M7 d'
  have J2:=hX.s.step c1 w1 o1 (fT.app _ _);exact⟨wp,T,_,os,ln,lf,rs,WH,sd,L,F,w,us,y,x,rfl,hw,hX.s.s.o.wf,J2,At.fx (c1.fx hX.s.s.w) _ _ hX.y,a1,hX.dr,M7,hX.lt,by omega,by omega,by omega,(q.mono ((c1.eZ (T:=T)).mono A6)).gv hX.kd⟩
 case c2=>
  intro D0 σ H h;cases h with
  | go a1 tg tl jk ha JJ q=>
   refine⟨_,jk,a1,_,_,.str tg,rfl,rfl,bf.of ha,aC (j:=0) rfl,rfl,_,rfl,?_⟩;rw[gg JJ];exact aY q
  | yes wp T ps os ln lf rs WH sd L F B us y x a1 i w hX q=>
   obtain⟨v1,ha,Kp,hw,Kr⟩:=hX.a;refine⟨_,hX.jk,a1,_,_,_,rfl,rfl,bf.of ha,aC (j:=0) rfl,rfl,_,rfl,?_⟩;rw[IL rfl];have K3:=hX.ul;have Qr:=hX.lo;have Kt:=hX.l1;have JY:=hX.l2;exact bE ⟨_,hX.e0,_,hX.e1,_,hX.jk,a1,_,_,_,rfl,rfl,bf.of ha,aC (j:=2) rfl,_,hX.e6,_,hX.se,wp,T,_,os,ln,lf,rs,WH,sd,L,F,w,us,y,x,rfl,hw,hX.w0.wf,hX.s,hX.y,hX.x,hX.dr,hX.uv,hX.lt,by omega,by omega,by omega,q.gv hX.kd⟩
 case c3=>
  intro D0 σ H h;cases h with
  | go a1 tg tl jk ha JJ q=>
   refine⟨_,jk,a1,_,_,.str tg,rfl,rfl,bf.of ha,aC (j:=0) rfl,rfl,_,rfl,?_⟩;rw[gg JJ];exact aY q
  | yes wp T ps os ln lf rs WH sd L F B us y x a1 i st nm ns d fs d' hX hi q=>
   have hb:=C9 os ln lf i (decide (9∈ns)) us d' (nh os (dk os "start" ns));have Vj:=uA os ln lf i (decide (9∈ns)) us d' (nh os (dk os "start" ns));obtain⟨Li,QH,MN⟩:(∀x∈(oS os ln lf i ns us d').1,∀nm ns d fs,x≠.kd nm ns d fs)/\(oS os ln lf i ns us d').2.1=ln/\(oS os ln lf i ns us d').2.2.1=lf:=hb;have Vj:(oS os ln lf i ns us d').1.length<=2:=Vj;have hs:=hX.s;rw[QH,MN] at hs;have VG:=hX.a;obtain⟨v1,v2,v4,KJ,LY,d1,KY,ha,_⟩:=id VG;refine⟨_,hX.jk,a1,_,_,_,rfl,rfl,bf.of ha,aC (j:=0) rfl,rfl,_,rfl,?_⟩;rw[IL rfl];have K3:=hX.ul;have Qr:=hX.lo;have Kt:=hX.l1;have JY:=hX.l2;refine bE ⟨_,hX.e0,_,hX.e5,_,hX.jk,_,hX.e6,_,hX.se,wp,T,_,os,ln,lf,rs,WH,B,i,nm,ns,d,fs,st,us,d',a1,y,x,rfl,hs.s,hX.w0,hX.kd,hi,hX.na,VG,hX.y,by omega,hX.uv,hX.x,hX.rv,fun s e=>hX.si i s (e▸hX.mem),hX.lt,by omega,by omega,by omega,fun H1 UC c1 w1=>?_⟩;refine q H1 UC _ ln lf ((c1.eZ (T:=T)).mono A6) (hs.step c1 w1 hs.s.o (fT.refl _)) (fT.app _ _) (by rw[IJ];omega) (hX.kd.apps Li) (by omega) (IW _)
 case c4=>
  intro D0 σ H h;cases h with
  | go a1 tg tl jk ha JJ q=>
   refine⟨_,jk,a1,_,_,.str tg,rfl,rfl,bf.of ha,aC (j:=0) rfl,rfl,_,rfl,?_⟩;rw[gg JJ];exact aY q
  | yes wp T ps os ln lf rs WH sd L F B us y x a1 i g1 hX hi q=>
   obtain⟨g2,L9,hF⟩:=hX.a;rw[cN hi] at L9;cases L9;obtain⟨v1,v3,ha,_⟩:=id hF;refine⟨_,hX.jk,a1,_,_,_,rfl,rfl,bf.of ha,aC (j:=0) rfl,rfl,_,rfl,?_⟩;rw[IL rfl];have K3:=hX.ul;refine bE ⟨_,hX.se,_,hX.jk,_,hX.e6,a1,x,y,i,g1,_,us,rfl,hF,hX.x,uP hX.w0 hi hX.uv,hX.y,by omega,hX.w0.db i g1 hi,fun H1 s1=>?_⟩;rw[show bP ((([],ln,lf,gf g1 i us):List Th×List Str×List Int×D).2.2.2) (gf g1 i us)=true from bo _];exact q.no hX.kd hX.s s1
 case c5=>
  intro D0 σ H h;cases h with
  | go a1 tg tl jk ha JJ q=>
   refine⟨_,jk,a1,_,_,.str tg,rfl,rfl,bf.of ha,aC (j:=0) rfl,rfl,_,rfl,?_⟩;rw[gg JJ];exact aY q
  | yes wp T ps os ln lf rs WH sd L F B us y x a1 i t ow g1 hX hi hg q=>
   obtain⟨v1,v2,bb,t2,o2,g2,ha,NA,L9,Kr,J8,hF,KS⟩:=hX.a;rw[cN hi] at NA;cases NA;rw[cN hg] at L9;cases L9;have hx:At K H (gf g1 t (aQ ow::us)) x:=hX.x;have how:ow < os.length:=(hX.w0.wf.m i t ow hi).2;have M7:∀u∈aQ ow::us,Vp os u:=fun u hu=>by
    rcases Jv.mp hu with rfl | hu
    ·exact .th _ how
    ·exact hX.uv u hu
   have Pd:=uP hX.w0 hg M7;refine⟨_,hX.jk,a1,_,_,_,rfl,rfl,bf.of ha,aC (j:=0) rfl,rfl,_,rfl,?_⟩;rw[IL rfl];have K3:=hX.ul;refine bE ⟨_,hX.jk,a1,_,_,_,rfl,rfl,bf.of ha,aC (j:=3) rfl,_,hX.jk,a1,_,_,_,rfl,rfl,bf.of ha,aC (j:=2) rfl,jY,fun t1 Kc=>⟨_,hX.e6,[aQ ow],us,At.new Kc (az.fu J8),At.same (ae Kc _) _ _ hX.y,small (by rw[Jy];omega),fun r2 H2 s2 a2=>?_⟩⟩;have O0:=(ae Kc (.tup [v2])).trans s2;have VQ:=hF.keep (au.pG (S:=Sx wp T) O0) KS;refine⟨bb,r2,t,g1,aQ ow::us,rfl,VQ,a2,by rw[Jf];omega,hX.w0.db t g1 hg,fun r3 H3 s3 h3=>?_⟩;have Mh:=O0.trans s3;have se:sg (σ.set 13 (some r3)) 12 x:=(IQ (by decide)).trans hX.se;have jk:sg (σ.set 13 (some r3)) 10 (.ref a1):=(IQ (by decide)).trans hX.jk;have KZ:sg (σ.set 13 (some r3)) 13 r3:=IT (by have:=hX.sl;omega);rw[rJ] at hx Pd;cases hf:qo g1 (aQ ow::us) with
   | none=>
    rw[hf] at hx h3 Pd;have e:r3=.bj:=h3;refine⟨_,KZ,rfl,_,rfl,?_⟩;rw[e,IL rfl];refine bE ⟨_,e▸se,eX,fun t4 JV=>?_⟩;have s4:=ae JV (.tup [.str "fault",.str "KindFault"]);refine⟨kF,kF,At.same (Mh.trans s4) _ _ hx,At.new JV (aZ (av.mpr rfl) (av.mpr rfl)),by decide +kernel,?_⟩;rw[bo];exact q.no hX.kd hX.s (Mh.trans s4)
   | some dd=>
    rw[hf] at hx h3 Pd;have h3:At K H3 dd r3:=h3;have nv:r3≠.bj:=by
     unfold qo at hf;split at hf
     ·cases hf;exact h3.jo
     ·cases hf
    obtain⟨w1,w3,MN,S2,_⟩:=VQ.keep (au.pG (S:=Sx wp T) s3) KS;refine⟨_,KZ,rfl,_,rfl,?_⟩;rw[IK nv];refine aY ⟨_,se,_,jk,a1,_,_,_,rfl,rfl,bf.of (Mh _ _ ha),aC (j:=3) rfl,bb,_,_,w1,rfl,rfl,bf.of MN,aC (j:=1) rfl,_,KZ,wD,fun t4 JV=>?_⟩;have s4:=ae JV (.tup [.str "enter",w1,r3]);refine⟨_,.tup [.str "enter",aQ t,dd],At.same (Mh.trans s4) _ _ hx,At.new JV (kJ (av.mpr rfl) S2 h3),IV Pd (by decide),?_⟩;rw[bo];exact q.no hX.kd hX.s (Mh.trans s4)
 case main=>
  have JJ:∀(i:Int) (x:Str) r,([.int i]:List V)≠.str x::r:=fun i x r z=>nomatch z;refine⟨_,rfl,_,rfl,a,b,m,rfl,RU,by omega,fun n H1 hn0 _ b1 Li=>?_⟩;have J2:=hX.but RU.qR (JJ _) KS b1 Li;have OM:=RU.go b1 Li;have nbl:b≠L:=fun z=>KS (z▸II);refine⟨_,rfl,sd,.ref T,rfl,J2.t.2.2,?_⟩;refine⟨Jr _,fun vl L0=>?_⟩;have nvb:vl≠b:=cE L0 Li;have s2:au H1 (WX H1 vl (.lst [])):=ae L0 _;have e2:WX H1 vl (.lst []) vl=some (.lst []):=ao;generalize WX H1 vl (.lst [])=H2 at s2 e2 ⊢;obtain⟨N,hN,hN6⟩:=gJ (a:=n) (n:=6) (by decide);have WM:=J2.s.r.len;have h0:0 < WH.length:=by
   rw[WM];refine Nat.pos_of_ne_zero fun z=>LH ?_;rw[W8.mp z];rfl
  refine⟨_,rfl,_,_,rfl,rfl,cW,_,rfl,by omega,by omega,iZ (lo:=0) (n:=(n % 6).toNat) (fun k σ H'=>(∃o7 o8,σ=[some (.ref wp.W),some (.ref sd),some (.ref a),some (.ref b),some (.int n),some (.ref T),some (.ref vl),o7,o8,none,none,none,none,none])/\bC b H1 H'/\H' b=some (.lst [.int ((m+1+k:Nat):Int)])/\∃vs us,H' vl=some (.lst vs)/\az K H' us vs/\us.length=k/\∀u∈us,Dr rs u) ⟨⟨_,_,rfl⟩,au.but b s2,s2 _ _ Li,[],[],e2,bq.mpr rfl,rfl,fun u hu=>(by cases hu)⟩ ?t ?s⟩
  case t=>
   rintro k σ H3 hk ⟨⟨o7,o8,rfl⟩,b3,MN,vs,us,MC,QU,K3,KR⟩;have Nk:=OM.go b3 MN;refine⟨_,rfl,_,rfl,a,b,m+1+k,rfl,Nk,by omega,fun mo H4 _ _ b4 VE=>?_⟩;have N7:=b4 _ _ nvb MC;have fx4:=b4.fx MN rfl;have OS:bC b H1 H4:=b3.trans b4;have QI:=J2.but Li (JJ _) KS OS VE;refine⟨_,rfl,.inl ⟨rfl,_,bf.of N7⟩,wp,T,ps,os,ln,lf,rs,WH,mo,rfl,rfl,QI.s,h0,ht,fun v u H5 s5 hv hu=>⟨vl,vs,v,rfl,rfl,s5 _ _ N7,cm (by have:=QU.len;omega),?_⟩⟩;have f6:Fx H5 (WX H5 vl (.lst (vs++[v]))):=Fx.put (s5 _ _ N7) rfl;have hAu4:=az.fx f6 _ _ (az.same s5 _ _ (az.fx fx4 _ _ QU));refine⟨⟨_,_,rfl⟩,fun p o hp e=>?_,?_,vs++[v],us++[u],ao,?_,by rw[IJ,K3];rfl,fun u' Lf=>?_⟩
   ·rw[aB (cE e L0)];exact s5 _ _ (OS p o hp e)
   ·rw[aB (W3 nvb)];exact s5 _ _ VE
   ·exact az.append hAu4 (az.fu (At.fx f6 _ _ hv))
   ·rcases Jm.mp Lf with h | h
    ·exact KR u' h
    ·simp only[List.mem_cons,List.not_mem_nil,or_false] at h;rw[h];exact hu
  rintro σ H3 ⟨⟨o7,o8,rfl⟩,b3,MN,vs,us,MC,QU,K3,KR⟩;refine⟨_,rfl,vl,vs,rfl,.inl ⟨bf.of MC,fun t4 JV=>?_⟩⟩;have Nk:=OM.go b3 MN;have Tt:=J2.but Li (JJ _) KS b3 MN;have Sb:hZ c (b::L::F'::Sx wp T) H H3:=(b1.eZ II).trans (b3.eZ II);have s4:au H3 (WX H3 t4 (.tup vs)):=ae JV _;have a4:At K (WX H3 t4 (.tup vs)) (.tup us) (.ref t4):=At.new JV QU;clear QU MC e2 L0 nvb s2;generalize WX H3 t4 (.tup vs)=H4 at s4 a4 ⊢;refine⟨Er,fun l5 hl5=>?_⟩;have s5:au H4 (WX H4 l5 (.lst [.str "say",.str "take",.str "isa",.str "count",.str "elder"])):=ae hl5 _;have e5:WX H4 l5 (.lst [.str "say",.str "take",.str "isa",.str "count",.str "elder"]) l5=some (.lst (Gx.map V.str)):=ao;generalize WX H4 l5 (.lst [.str "say",.str "take",.str "isa",.str "count",.str "elder"])=H5 at s5 e5 ⊢;obtain⟨k5,hk5,Qz⟩:=gJ (a:=n / 6) (n:=5) (by decide);have Nr:=DN k5 Qz;refine⟨_,rfl,_,_,rfl,rfl,⟨by decide,by decide⟩,_,_,rfl,rfl,cW,l5,_,_,.str (Gx.getD k5 ""),rfl,rfl,bf.of e5,?_,?_⟩
  ·show j4 _ (n / 6 % ((5:Nat):Int))=_;rw[hk5];refine aC ?_;rw[I0,IP,IM (show k5 < Gx.length from Qz)];rfl
  generalize Gx.getD k5 ""=wd at Nr;have Sq:=s4.trans s5;have K8:=Tt.same Sq;refine⟨wp,T,ps,os,ln,lf,rs,WH,B,n,wd,.ref t4,us,rfl,rfl,rfl,rfl,rfl,K8.s,ht,At.same s5 _ _ a4,KR,by omega,LH,hOr,RX,hK,fun σ6 H6 y6 us6 s6 hσ6 Ot V9 a6 hdr6 hul6=>?_⟩;refine⟨rs,n,wd,y6,us6,(hσ6 4 (by decide) (by decide) (by decide)),V9,(hσ6 9 (by decide) (by decide) (by decide)),Ot,a6,hdr6,hul6,fun σ7 H7 y7 Ke s7 hσ7 Tg V5 a7 OB P8=>?_⟩;have V8:sg σ7 0 (.ref wp.W):=(hσ7 0 (by decide)).trans (hσ6 0 (by decide) (by decide) (by decide));have V7:sg σ7 1 (.ref sd):=(hσ7 1 (by decide)).trans (hσ6 1 (by decide) (by decide) (by decide));have V6:sg σ7 4 (.int n):=(hσ7 4 (by decide)).trans (hσ6 4 (by decide) (by decide) (by decide));have R6:sg σ7 5 (.ref T):=(hσ7 5 (by decide)).trans (hσ6 5 (by decide) (by decide) (by decide));have e79:sg σ7 9 (.str wd):=(hσ7 9 (by decide)).trans (hσ6 9 (by decide) (by decide) (by decide));have Rg:=(Sq.trans s6).trans s7;have K7:=Tt.same Rg;have QM:iE K H7 a b (m+1+(n % 6).toNat):=Nk.eZ (c:=c) (S:=[]) (au.eZ Rg) (by simp) (by simp);have Wh:hZ c (b::L::F'::Sx wp T) H H7:=Sb.trans (au.eZ Rg);have qq:wg K c H7 wp T os ln lf rs WH sd L F' B Q:=fun H' JK JI Kn J9 c' x' k' l' N3 g1 g2=>q H' JK JI Kn J9 _ (Wh.trans (c'.mono fun _ h=>IH _ h)) x' (QM.eZ c' OJ KS) (by omega) k' l' N3 g1 g2;clear q Wh Sb QM Nk OM RU K8 Tt J2 hX a6 a4 Rg Sq s4 s5 s6 s7 b1 b3 Li MN e5 hσ6 hσ7 LH hOr RX V9;have hT7:CtX K c H7 σ7 wp T ps os ln lf rs WH sd L F' B Ke y7:=⟨K7,V8,V7,R6,V5,a7,OB,P8,hK,VL,ht,hl,L5,KD⟩;refine⟨wp,T,ps,os,ln,lf,rs,WH,sd,L,F',B,Ke,y7,n,wd,hT7,V6,e79,Nr,qq,?_⟩;have WM:=K7.s.r.len;obtain⟨kr,hkr,hkr2⟩:=gJ (a:=n / 120) (n:=WH.length) h0;obtain⟨r,Ka⟩:∃r,rs[kr]?=some r:=⟨_,IM (by omega)⟩;obtain⟨a1,KH,Qq,J6⟩:=K7.s.r.at Ka;have hrm:=IX Ka;obtain⟨v1,tl,Kr,J8⟩:=J6.two;refine⟨_,R6,_,V6,_,_,rfl,rfl,⟨by decide,by decide⟩,_,R6,T,_,rfl,.inl (bf.of K7.s.t),_,_,rfl,rfl,(by show(0:Int) < ((WH.length:Nat):Int);omega),T,_,_,.ref a1,rfl,rfl,bf.of K7.s.t,?_,?_⟩
  ·show j4 _ (n / 120 % ((WH.length:Nat):Int))=_;rw[hkr];exact aC KH
  have M7:∀u∈Ke,Vp os u:=fun u hu=>(OB u hu).vp K7.s.r;have jk:sg (σ7.set 10 (some (.ref a1))) 10 (.ref a1):=IT (by omega);have V4:sg (σ7.set 10 (some (.ref a1))) 0 (.ref wp.W):=(IQ (by decide)).trans V8;have V3:sg (σ7.set 10 (some (.ref a1))) 6 y7:=(IQ (by decide)).trans V5;refine⟨_,V4,_,jk,a1,_,_,v1,rfl,rfl,bf.of Kr,aC (j:=1) rfl,_,V3,wp,ps,os,eS,ln,lf,v1,y7,bU r,Ke,rfl,K7.s.w,K7.s.o.wf,K7.s.o.nb,K7.s.o.db,J8,J6.vp,fun n hn=>(J6.kq hn).1,a7,by omega,M7,by decide +kernel,by omega,by omega,by omega,fun d'=>?_⟩;have o8:=uV (ln:=ln) (lf:=lf) K7.s.o J6.vp M7 d';intro x H8 SA c8 w8 a8;have c8:=c8.chg (c:=c);have VH:=K7.step c8 w8 o8 (fT.app _ _);have f8:=c8.fx K7.s.w;have q8:=qq.mono ((c8.eZ (T:=T)).mono A6);have Tu:=J6.keep K7.s.o.wf Qq (c8.pG K7.s.w Sx.l Sx.n Sx.f) (fT.app os (fM os ln lf (bU r) Ke d').1);obtain⟨w1,tl8,J3,_⟩:=Tu.two;have RG:=K7.s.r.vp;have E:∀o,fM os ln lf (bU r) Ke d'=o->GA K c H8 ((σ7.set 10 (some (.ref a1))).set 12 (some x)) wp T (ps++SA) os ln lf rs WH sd L F' B Ke y7 x a1 r o:=fun o eo=>by
   rw[eo] at VH a8 Tu;exact⟨VH,(IQ (by decide)).trans V4,(IQ (by decide)).trans ((IQ (by decide)).trans V7),(IQ (by decide)).trans ((IQ (by decide)).trans R6),(IQ (by decide)).trans V3,(IQ (by decide)).trans jk,IT (by rw[Jk];omega),by rw[Jk,Jk];exact Tg,At.fx f8 _ _ a7,a8,Tu,Qq,hrm,K7.s.o,OB,M7,RG,P8,hK,VL,ht,hl,L5,KD⟩
  have Kv:sg ((σ7.set 10 (some (.ref a1))).set 12 (some x)) 10 (.ref a1):=(IQ (by decide)).trans jk;have hcase:(fM os ln lf (bU r) Ke d'=([],ln,lf,kF)/\gF r≠"given"/\gF r≠"class"/\gF r≠"function"/\gF r≠"method")\/(∃i w1,r=.gv i w1)\/(∃i st,r=.cl i st)\/(∃i,r=.fn i)\/∃i,r=.mt i:=by
   cases r with
   | gv i w1=>exact .inr (.inl ⟨_,_,rfl⟩)
   | cl i st=>exact .inr (.inr (.inl ⟨_,_,rfl⟩))
   | fn i=>exact .inr (.inr (.inr (.inl ⟨_,rfl⟩)))
   | mt i=>exact .inr (.inr (.inr (.inr ⟨_,rfl⟩)))
   | ob i=>
    obtain⟨_,_,_,k,d,fs,_,_,_,_,_,Kp,_⟩:=J6;exact .inl ⟨by show fM os ln lf (aQ i) Ke d'=_;unfold fM;rw[bw,Kp],by show("object":Str)≠_;decide +kernel,by show("object":Str)≠_;decide +kernel,by show("object":Str)≠_;decide +kernel,by show("object":Str)≠_;decide +kernel⟩
   | vw i=>
    obtain⟨_,_,Kp,_⟩:=J6;exact .inl ⟨by show fM os ln lf (aQ i) Ke d'=_;unfold fM;rw[bw,Kp],by show("view":Str)≠_;decide +kernel,by show("view":Str)≠_;decide +kernel,by show("view":Str)≠_;decide +kernel,by show("view":Str)≠_;decide +kernel⟩
   | pl d=>
    obtain⟨_,_,RJ,_⟩:=J6;exact .inl ⟨by show fM os ln lf d Ke d'=_;unfold fM;rw[(RJ.vd os).2],by show("plain":Str)≠_;decide +kernel,by show("plain":Str)≠_;decide +kernel,by show("plain":Str)≠_;decide +kernel,by show("plain":Str)≠_;decide +kernel⟩
  rcases hcase with ⟨eo,n1,n2,n3,n4⟩ | ⟨i,w1,rfl⟩ | ⟨i,st,rfl⟩ | ⟨i,rfl⟩ | ⟨i,rfl⟩
  ·have hE:=E _ eo;refine .go a1 (gF r) _ Kv J3 n1 (.go a1 (gF r) _ Kv J3 n2 (.go a1 (gF r) _ Kv J3 n3 (.go a1 (gF r) _ Kv J3 n4 ?_)));refine⟨_,hE.se,eX,fun t9 K4=>?_⟩;have s9:=ae K4 (.tup [.str "fault",.str "KindFault"]);refine⟨kF,kF,At.same s9 _ _ hE.x,At.new K4 (aZ (av.mpr rfl) (av.mpr rfl)),by decide +kernel,?_⟩;rw[bo];exact q8.no hK hE.s s9
  ·obtain⟨_,_,Kp,_⟩:=J6;have eo:fM os ln lf (aQ i) Ke d'=ie os ln lf w1 Ke:=by unfold fM;rw[bw,Kp]
   exact .yes wp T _ os ln lf rs WH sd L F' B Ke y7 x a1 i w1 (E _ eo) q8
  ·obtain⟨_,_,_,nm,ns,d,fs,_,Kp,_⟩:=J6;have eo:fM os ln lf (aQ i) Ke d'=oS os ln lf i ns Ke d':=by unfold fM;rw[bw,Kp];rfl
   exact .go a1 _ _ Kv J3 (by show("class":Str)≠"given";decide +kernel) (.yes wp T _ os ln lf rs WH sd L F' B Ke y7 x a1 i st nm ns d fs d' (E _ eo) Kp q8)
  ·obtain⟨g1,Kp,_⟩:=J6;have eo:fM os ln lf (aQ i) Ke d'=([],ln,lf,gf g1 i Ke):=by unfold fM;rw[bw,Kp];rfl
   exact .go a1 _ _ Kv J3 (by show("function":Str)≠"given";decide +kernel) (.go a1 _ _ Kv J3 (by show("function":Str)≠"class";decide +kernel) (.yes wp T _ os ln lf rs WH sd L F' B Ke y7 x a1 i g1 (E _ eo) Kp q8))
  ·obtain⟨_,_,_,t,ow,g1,_,Kp,Mn,_⟩:=J6;have eo:fM os ln lf (aQ i) Ke d'=([],ln,lf,gf g1 t (aQ ow::Ke)):=by
    unfold fM;rw[bw,Kp];show(([]:List Th),ln,lf,match os[t]? with | some (.fn g)=>gf g t (aQ ow::Ke) | _=>kF)=_;rw[Mn]
   exact .go a1 _ _ Kv J3 (by show("method":Str)≠"given";decide +kernel) (.go a1 _ _ Kv J3 (by show("method":Str)≠"class";decide +kernel) (.go a1 _ _ Kv J3 (by show("method":Str)≠"function";decide +kernel) (.yes wp T _ os ln lf rs WH sd L F' B Ke y7 x a1 i t ow g1 (E _ eo) Kp Mn q8)))
end
end GS
namespace L2
open PySem PySem.Spec PyProof.Rows
def Ej (t:TA):TE:=fun σ H Q=>t σ H fun vs H1=>∃k:Nat,vs=[.int (k:Nat)]/\k<=1000/\∀l,H1 l=none->Q (.ref l) (WX H1 l (.lst ((List.range k).map fun i=>V.int (i:Nat))))
theorem ur {X a t p p2 pos Px}(hc:X.calm=true) (Vq:Gl X "list") (hml:X.mg "list"=none) (L0:bootBuiltins "list"=some (.type "list")) (hg:Gl X "range") (hm:X.mg "range"=none) (ha:PA X [a] t) (hs:starEach [a] X.env=[(false,eval a X.env)]:=by rfl)
  (K5:starEach [.Call (.Name "range" p) [a] [] pos] X.env=[(false,eval (.Call (.Name "range" p) [a] [] pos) X.env)]:=by rfl):PE X (.Call (.Name "list" p2) [.Call (.Name "range" p) [a] [] pos] [] Px) (Ej t):=by
 intro WG s σ H Q I h;refine wpAny_Call_Name_kw (kj I Vq hml L0 ?_ (by decide) (by decide));refine PyProof.Rows.callWith_type1 ?_ K5 rfl;rw[K5];show wpAny _ _ (spliced ((false,eval (.Call (.Name "range" p) [a] [] pos) X.env)::backTo Px [])) _ _ s;refine Calls.spliced_cons ?_;refine Call_ (kj I hg hm boot_range (PyProof.Rows.callWith_type1 (dh (ha pos WG s σ H _ I h) fun us s1 ⟨vs,H1,I1,r1,q1⟩=>?_) hs rfl));obtain⟨k,e,hk,q⟩:=q1;subst e;cases r1 with
 | cons r rr=>
  cases rr;obtain⟨tt,rfl⟩:=r;refine call_range_1 ?_;refine Calls.spliced_nil ?_;have I2:Inv X WG σ H1 { s1 with heap:=s1.heap.push { cls:=.type "range",data:=.fields #[.int 0 s1.toks,.int (k:Int) tt,.int 1 (s1.toks+1)] },toks:=s1.toks+1+1 }:=I1.kept fun b o e=>Jc _ e
  have hsz:Builtin.Range.rangeSize 0 (k:Int) 1=((k:Nat):Int):=by rw[rangeSize_one];split<;>omega
  refine call_list_range (I2.ok.hd hc) (IsRange.new ..) (small_one (by decide) (by decide) (by omega) (by omega)) hsz (by omega) fun h' tk acc c' kp hS hacc=>?_;refine⟨.ref _,_,I2.laid (t':=tk) kp (IW _) (show eG X.prog X.w _ h' _ (.lst ((List.range k).map fun i=>V.int (i:Nat))) from⟨by rw[IU,List.length_range];exact GS.small (by omega),acc.toList,c',?_,hS⟩),rfl,q _ (I2.cP.fresh (IW _))⟩;obtain⟨h1,h2⟩:=hacc;have key:∀n b as,as.length=n->(∀i v,as[i]?=some v->∃t,v=Value.int (0+((b+i:Nat):Int)*1) t)->WY ((List.range' b n).map fun i=>V.int (i:Nat)) as:=fun n=>by
   induction n with
   | zero=>intro b as e _;rw[W8.mp e];exact .nil
   | succ n ih=>
    intro b as e hh;cases as with
    | nil=>cases e
    | cons a as=>
     obtain⟨t,e1⟩:=hh 0 a rfl;rw[List.range'_succ,W5];refine .cons ⟨t,?_⟩ (ih (b+1) as (by simpa using e) fun i v hv=>?_)
     ·rw[e1];congr 1;omega
     ·obtain⟨t,e2⟩:=hh (i+1) v hv;exact⟨t,by rw[e2];congr 1;omega⟩
  rw[List.range_eq_range'];refine key k 0 acc.toList (by rw[Array.length_toList,h1]) fun i v hv=>?_;have:=h2 i v (by simpa using hv);obtain⟨t,e⟩:=this;exact⟨t,by rw[e];congr 1;omega⟩
end L2
namespace GS
open PySem PyProof.Rows L2
theorem rR {n:Nat}{te:TE}{H:Hp}{R:Addr->Hp->Prop}{vs:List V}(I:Addr->Nat->List V->Hp->Prop)
  (h0:∀D,H D=none->I D 0 [] (WX H D (.lst [])))
  (KO:∀D i ys H1 (Q':VK),H D=none->i < n->I D i ys H1->(∀v H4,H4 D=some (.lst ys)->I D (i+1) (ys++[v]) (WX H4 D (.lst (ys++[v])))->Q' v H4)->te (some (.int (0+(i:Int)))::vs.map some) H1 Q')
  (hl:∀D i ys H1,I D i ys H1->ys.length=i) (hn:n<=1000000)
  (q:∀D H' ys,H D=none->I D n ys H'->R D H'):
  ∀D,H D=none->∃W:Nat->Nat->List V->Hp->Prop,(∃m,W 0 m [] (WX H D (.lst [])))/\∀i m ys H,W i m ys H->
   ((wm 0 n).stop i H/\R D H)\/((wm 0 n).go i H/\∀x H' (ox:List (Option V)),ox.length=1->(wm 0 n).tT i H x H'->j7 0 x (ox++vs.map some) H' fun σ2 H2=>∃K1,K1.length=1/\σ2=K1++vs.map some/\gx σ2 H2 fun b H3=>
    if b=true then te σ2 H3 fun v H4=>H4 D=some (.lst ys)/\ys.length < sizeLine/\∃m',m' < m/\W (i+1) m' (ys++[v]) (WX H4 D (.lst (ys++[v]))) else ∃m',m' < m/\W (i+1) m' ys H3):=by
 intro D hD;refine⟨fun i m ys H'=>m=n - i/\i<=n/\I D i ys H',⟨n,rfl,Jr _,h0 D hD⟩,?_⟩;rintro i m ys H1 ⟨rfl,hi,hI⟩;by_cases JR:i < n
 ·refine .inr ⟨JR,fun x H' ox Oj hy=>?_⟩;obtain⟨rfl,rfl⟩:H'=H1/\x=V.int (0+(i:Int)):=hy;obtain⟨o,rfl⟩:∃o,ox=[o]:=by
   match ox,Oj with
   | [o],_=>exact⟨o,rfl⟩
  refine⟨[some (.int (0+(i:Int)))],rfl,rfl,?_⟩;unfold gx;dsimp only;rw[IZ rfl];exact KO D i ys _ _ hD JR hI fun v H4 e4 i4=>⟨e4,Ju (Jz _) (small (n:=ys.length+1) (by have:=hl _ _ _ _ hI;omega)),n - (i+1),by omega,rfl,JR,i4⟩
 ·have:i=n:=by omega
  subst this;exact .inl ⟨IW _,q D H1 ys hD hI⟩
end GS
namespace GS
open PySem PyProof.Rows
open L2 hiding ah jd bV ak pv bz fY aH ju eJ cZ cT jv bx fV ck bZ bR cJ bI bB aI fI aJ bS dZ fg bT fb cv cY cS eY gs fX ef gW cx ee cg aD bW iI iJ br fH d9 aP ag aq
open L3
abbrev HA:Stmt:=cj 86
theorem tU {ds}(h:ds.length=12):kE (bQ ds):=by
 refine⟨⟨fun i nm ns d fs e=>?_,fun i k d fs e=>?_,fun i t o e=>?_⟩,fun i o e=>?_,fun i g e=>?_,fun i g e=>?_⟩
 ·rcases jw h e with ⟨_,z⟩ | ⟨j,d',hj,rfl,z⟩
  ·cases z
  ·cases z;refine⟨fun n hn=>?_,fun _ _ z=>(nomatch z)⟩;obtain⟨h1,h2⟩:=(jL j hj).2.2.2.1 n hn;obtain⟨d2,e2⟩:=lZ h (j:=n - 8) (by omega);rw[show 8+(n - 8)=n by omega] at e2;exact⟨_,_,_,_,e2⟩
 ·rcases jw h e with ⟨_,z⟩ | ⟨j,d',hj,rfl,z⟩<;>cases z
 ·rcases jw h e with ⟨_,z⟩ | ⟨j,d',hj,rfl,z⟩<;>cases z
 ·rcases jw h e with ⟨hi,z⟩ | ⟨j,d',hj,rfl,z⟩
  ·rw[z];have:∀i,i < 8->(gfN.getD i "").length<=1000:=by decide +kernel
   exact this i hi
  ·rw[z];exact IV (jL j hj).2.2.2.2.2.1 (by decide)
 ·rcases jw h e with ⟨_,z⟩ | ⟨j,d',hj,rfl,z⟩<;>cases z
 ·rcases jw h e with ⟨_,z⟩ | ⟨j,d',hj,rfl,z⟩<;>cases z
structure kN (K:Fg06) (c:cF) (H:Hp) (wp:Wp) (ps:List Addr) (os:List Th) (ln:List Str) (lf:List Int):Prop where
 w:cG K c H wp ps os eS ln lf
 o:kE os
 g0:os[0]?=some (.kL "say")
 g1:os[1]?=some (.kL "take")
 lo:os.length<=850
 l1:ln.length<=900
 l2:lf.length<=900
section
variable {K:Fg06}{c:cF}{H H':Hp}{wp:Wp}{ps JK:List Addr}{os:List Th}{ln:List Str}{lf:List Int}{x y:V}{Q:VK}{E:XK}
theorem kN.same (h:kN K c H wp ps os ln lf) (s:au H H'):kN K c H' wp ps os ln lf:=⟨h.w.same s,h.o,h.g0,h.g1,h.lo,h.l1,h.l2⟩
theorem kN.new {ds}(hd:ds.length=12) (w:cG K c H wp ps (bQ ds) eS [] lf) (l2:lf.length<=900):kN K c H wp ps (bQ ds) [] lf:=⟨w,tU hd,ux (by decide),ux (by decide),by rw[mZ (by omega),hd];decide,Jr _,l2⟩
theorem kN.take (h:kN K c H wp ps os ln lf) (hx:At K H (aQ 1) x) (hy:At K H (.tup []) y) (q:∀r H' JK,oY wp H H'->kN K c H' wp JK os ln lf.tail->At K H' (eE (ic (lf.headD 0))) r->Q r H'):kZ K c [.ref wp.W,x,y] H Q E:=by
 have Qr:=h.lo;refine⟨wp,ps,os,eS,ln,lf,x,y,aQ 1,[],rfl,h.w,h.o.wf,h.o.nb,h.o.db,hx,.th _ (aE h.g1),fun n hn=>?_,hy,by decide,fun u hu=>(by cases hu),by decide +kernel,by omega,h.l1,h.l2,fun d'=>?_⟩
 ·rw[bw,h.g1] at hn;cases hn;decide +kernel
 have ec:fM os ln lf (aQ 1) [] d'=([],ln,lf.tail,eE (ic (lf.headD 0))):=by
  unfold fM;rw[bw,h.g1];exact uH os ln lf []
 rw[ec];intro r H' JK c' w' a';have w':cG K c H' wp (ps++JK) (os++[]) eS ln lf.tail:=w';rw[Js] at w';exact q r H' _ c' ⟨w',h.o,h.g0,h.g1,h.lo,h.l1,by have:=h.l2;rw[List.length_tail];omega⟩ a'
theorem kN.say (h:kN K c H wp ps os ln lf) {d}(hl:ln.length<=899) (hx:At K H (aQ 0) x) (hy:At K H (.tup [d]) y) (hd:Vp os d) (q:∀r H' JK,oY wp H H'->kN K c H' wp JK os (ln++[jX os d]) lf->Q r H'):kZ K c [.ref wp.W,x,y] H Q E:=by
 have Qr:=h.lo;refine⟨wp,ps,os,eS,ln,lf,x,y,aQ 0,[d],rfl,h.w,h.o.wf,h.o.nb,h.o.db,hx,.th _ (aE h.g0),fun n hn=>?_,hy,by show 1<=90;decide,fun u hu=>(by
  simp only[List.mem_cons,List.not_mem_nil,or_false] at hu;rw[hu];exact hd),by decide +kernel,by omega,h.l1,h.l2,fun d'=>?_⟩
 ·rw[bw,h.g0] at hn;cases hn;decide +kernel
 have ec:fM os ln lf (aQ 0) [d] d'=([],ln++[jX os d],lf,eE da):=by
  unfold fM;rw[bw,h.g0];exact uI os ln lf [d]
 rw[ec];intro r H' JK c' w' a';have w':cG K c H' wp (ps++JK) (os++[]) eS (ln++[jX os d]) lf:=w';rw[Js] at w';exact q r H' _ c' ⟨w',h.o,h.g0,h.g1,h.lo,by rw[IJ];show _+1<=_;omega,h.l2⟩
end
theorem kN.lst {K c H wp ps os ln}{lf:List Int} {D xs ys}(h:kN K c H wp ps os ln lf) (hD:H D=some (.lst xs)) (n1:wp.l≠D) (n2:wp.n≠D) (n3:wp.f≠D):kN K c (WX H D (.lst ys)) wp ps os ln lf:=⟨h.w.lst hD n1 n2 n3,h.o,h.g0,h.g1,h.lo,h.l1,h.l2⟩
theorem kN.ne {K c H wp ps os ln}{lf:List Int} {D}(h:kN K c H wp ps os ln lf) (hD:H D=none):wp.l≠D/\wp.n≠D/\wp.f≠D:=⟨fun y=>(by rw[<-y,h.w.t] at hD;cases hD),fun y=>(by rw[<-y,h.w.hn] at hD;cases hD),fun y=>(by rw[<-y,h.w.hf] at hD;cases hD)⟩
theorem head_drop (lf:List Int){k:Nat}(h:k < lf.length+2):(lf++[0,0])[k]?=some ((lf.drop k).headD 0):=by
 by_cases hk:k < lf.length
 ·rw[JB hk,IM hk,List.drop_eq_getElem_cons hk];rfl
 ·rw[Jj (by omega),List.drop_eq_nil_of_le (by omega)];obtain hz | hz:k - lf.length=0\/k - lf.length=1:=by omega
  ·rw[hz];rfl
  ·rw[hz];rfl
theorem i3 {K H}:∀xs:List Int,az K H (xs.map D.int) (xs.map V.int)
 | []=>bq.mpr rfl
 | x::xs=>ba.mpr ⟨_,_,rfl,bc.mpr rfl,i3 xs⟩
theorem rP (xs:List Int):bM (xs.map D.int)<=1:=g9 fun d hd=>by
 obtain⟨i,_,rfl⟩:=JD.mp hd;rw[fP];decide
def lN:List Int:=(List.range 40).map fun i=>((i:Nat):Int)
theorem Ay:((List.range 40).map fun i=>V.int (i:Nat))=lN.map V.int:=by unfold lN;rw[List.map_map];rfl
theorem Ff:∀k,k < 41->(lN.drop k).headD 0=(lN++[0]).getD k 0:=by decide +kernel
theorem Fe:∀k,k<=41->(lN++[0]).take (k+1)=(lN++[0]).take k++(if k < 41 then [(lN++[0]).getD k 0] else []):=by decide +kernel
section
variable {P:Program}{w:World}{K:Fg06}{mg:Str->Option Value}{base:Heap}{f:Addr}{fd:FuncData}{c:cF}
inductive Bj (K:Fg06) (c:cF) (vs:List V) (H:Hp) (Q:VK) (E:XK):Prop
 | mk wp ps os ln (lf:List Int) F (n:Int) nm:vs=[.ref wp.W,.ref F,.int n,.str nm]->kN K c H wp ps os ln lf->bf K H F (lf.map V.int)->lf.length<=800->(∀i,(nm,i)∉eS)->(∀H',Q (.bl true) H')->Bj K c vs H Q E
theorem xy:aS ["_law_world","_law_left","_law_n","_law_name","_law_due","_law_far","_law_told","_law_long"] ["_law_world","_law_left","_law_n","_law_name"] (aw HA):=fE
theorem FP (g:Glb9 mg) (z:iT K c) (F:eg K "_law_all_taken" "_law_all_taken" HA f fd) (dK:Def P w K mg base "known" ["world","name"] 1 (qU K c)) (dCl:Def P w K mg base "called" ["world","a","values"] 7 (kZ K c)) (MW:jD P w K mg base "World" c.W ["self","inputs"] 4 (zb K c)):bK P w K mg base eh 8 f fd ["_law_world","_law_left","_law_n","_law_name"] (Bj K c):=by
 refine F.fw xy fun WK A outer s H vs Q E hr h=>?_;obtain⟨wp,ps,os,ln,lf,Fl,n,nm,rfl,hw,hF,KD,Mo,q⟩:=h;refine⟨_,(ag (br (cR i7 (bX dK (bF (pv 0) (pv 3))) bV) (aq cH) aP)
   (ag (d9 Ji rfl (cx (aH pX (bS jc rfl g.nList oJ (cw (pv 1))) (bB (bF ah ah)))) (i6 4 xy.nd) (aq (br (cR (r:=q0 K) (kf hr) (bX dCl (ia (pv 0) (bX dK (bF (pv 0) ak)) (aI cJ))) (aI (bF ak (aI (bF ak (pv 4)))))) (aq cH) aP)))
   (ag (dD 5 xy.nd (L3.j5 MW hr (by decide) rfl (cw (.mk (L2.ur rfl rfl g.nList oJ rfl g.gG (L3.LA.out (cw ah)))))))
   (ag (.mk (L2.cM (iy:=6) (cl:=[("_law_far",s.heap.objs.size+1)]) (Xs:=["_law_k"]) (Nf:=["_law_far"]) (js:=[5]) ?k rfl (LI.out (cg rfl g.gG (cw ah))) (fun C s0 H0 fp=>LG.out (i6 0 (show(["_law_k","_law_far"]:List Str).Nodup by decide +kernel))) (fun C s0 H0 fp=>d6) (fun C s0 H0 fp=>LE.out (jJ (K:=K) rfl (jJ (K:=K) rfl (bX dCl (ia (pv 1) (bX dK (bF (pv 1) ak)) (aI cJ)))))) xy.nd rfl (Or.inl rfl)))
   (ag (dD 7 xy.nd (aH sO ak (aH iL ah (aH bJ (pv 2) ah))))
   (ag (bW (bX dCl (ia (pv 5) (bX dK (bF (pv 5) ak)) (aI (cw (aI (bF ak (pv 7))))))))
   (aq (aD (cT (ib (nR hr) (L3.bA (pv 0)) (bB cJ)) (cT (ib (r:=ra K) (m9 hr) (pv 6) (aH pX (.mk (L2.ur rfl rfl g.nList oJ rfl g.gG (L3.LA.out (cw ah)))) (bB (cw ah)))) (cZ (ib (r:=ra K) (m9 hr) (L3.bA (pv 5)) (bB (cw (pv 7))))))))))))))),?main⟩
 case k=>exact tI
 case main=>
  refine⟨_,rfl,_,rfl,wp,ps,os,eS,ln,lf,nm,rfl,hw.w,.inr ⟨Mo,rfl,_,rfl,aY ?_⟩⟩;refine⟨_,rfl,Fl,_,rfl,.inl hF,fun l1 Kt=>?_⟩;have s1:=ae Kt (.lst (lf.map V.int));have e1:WX H l1 (.lst (lf.map V.int)) l1=some (.lst (lf.map V.int)):=ao;generalize WX H l1 (.lst (lf.map V.int))=H1 at s1 e1 ⊢;refine⟨eX,fun l2 JY=>?_⟩;have s2:=ae JY (.lst [.int 0,.int 0]);have e2:WX H1 l2 (.lst [.int 0,.int 0]) l2=some (.lst [.int 0,.int 0]):=ao;generalize WX H1 l2 (.lst [.int 0,.int 0])=H2 at s2 e2 ⊢;refine⟨l1,l2,_,_,rfl,rfl,s2 _ _ e1,e2,small (by rw[IU];show _+2<=_;omega),fun l3 O7=>?_⟩;have s3:=ae O7 (.lst (lf.map V.int++[.int 0,.int 0]));have ex:lf.map V.int++[.int 0,.int 0]=(lf++[0,0]).map V.int:=by rw[Jt];rfl
  rw[ex] at s3 ⊢;have e3:WX H2 l3 (.lst ((lf++[0,0]).map V.int)) l3=some (.lst ((lf++[0,0]).map V.int)):=ao;have S1:=hw.same (s1.trans s2);obtain⟨m1,m2,m3⟩:=S1.ne O7;have PY:=S1.same s3;generalize WX H2 l3 (.lst ((lf++[0,0]).map V.int))=H3 at s3 e3 PY ⊢;clear S1 hF s1 s2 s3 e1 e2;refine⟨l3,rfl,⟨_,bf.of e3⟩,yt (K:=K) (a:=l3) (xs:=(lf++[0,0]).map V.int) (fun k σ H'=>(∃o4,σ=[some (.ref wp.W),some (.ref Fl),some (.int n),some (.str nm),o4,none,none,none])/\∃JK,H' l3=some (.lst ((lf++[0,0]).map V.int))/\kN K c H' wp JK os ln (lf.drop k)) ⟨⟨_,rfl⟩,ps,e3,PY⟩ (fun i σ H' _ h=>bf.of (by obtain⟨_,_,h,_⟩:=h;exact h)) ?t ?s⟩
  case t=>
   rintro k x σ H4 hk ⟨⟨o4,rfl⟩,JK,e4,N6⟩;have Kg:k < lf.length+2:=by
    have:=aE hk;rw[IU,IJ] at this;exact this
   rw[I0,head_drop lf Kg] at hk;injection hk with hk;rw[<-hk];refine⟨_,rfl,_,rfl,wp,JK,os,eS,ln,_,"take",rfl,N6.w,.inl ⟨1,by decide +kernel,fun vk Mm=>⟨Jr _,fun t5 Qa=>?_⟩⟩⟩;have s5:=ae Qa (.tup []);refine(N6.same s5).take (At.same s5 _ _ Mm) (At.new Qa (bq.mpr rfl)) fun r6 H6 ps6 c6 hw6 a6=>?_;have e6:=c6 _ _ (s5 _ _ e4) (W3 m1) (W3 m2) (W3 m3);refine⟨_,rfl,eX,fun t7 LF=>⟨eX,fun t8 LD=>?_⟩⟩;have s7:=ae LF (.tup [.str "number",.int ((lf.drop k).headD 0)]);have s8:=s7.trans (ae LD (.tup [.str "value",.ref t7]));refine⟨_,eE (ic ((lf.drop k).headD 0)),At.same s8 _ _ a6,At.new LD (aZ (av.mpr rfl) (At.new LF (aZ (av.mpr rfl) (bc.mpr rfl)))),IV (oB (qu _)) (by decide),_,rfl,?_⟩;rw[bo];refine aY ⟨⟨_,rfl⟩,ps6,s8 _ _ e6,?_⟩;have:=hw6.same s8;rw[List.tail_drop] at this;exact this
  rintro σ H4 ⟨⟨o4,rfl⟩,ps4,_,N6⟩;rw[IU,IJ,List.drop_eq_nil_of_le (Nat.le_add_right _ _)] at N6;refine⟨40,rfl,by decide,fun l6 Ot=>?_⟩;rw[Ay];have s6:=ae Ot (.lst (lN.map V.int));have e6:WX H4 l6 (.lst (lN.map V.int)) l6=some (.lst (lN.map V.int)):=ao;generalize WX H4 l6 (.lst (lN.map V.int))=H6 at s6 e6 ⊢;intro W2 dw hW OA JJ;obtain⟨s7,c7⟩:=gu (C:=c.W) hW OA JJ;generalize WX (WX H6 dw (.own W2)) W2 (.ins c.W dw [])=H7 at s7 c7 ⊢;have RA:=N6.same (s6.trans s7);refine⟨W2,dw,l6,lN,rfl,c7,bf.of (s7 _ _ e6),fun H8 pl pg pn pf SA ds8 Kj k8 nl ng nn nf w8=>⟨rfl,?_⟩⟩;have OX:au H6 H8:=fun p o e=>k8 p o (cE e hW) (s7 _ _ e);have S0:=N6.same (s6.trans OX);have J3:=kN.new Kj w8 (by decide +kernel);obtain⟨⟨dx,ND⟩,VI⟩:(∃dx,H8 wp.W=some (.ins c.W dx (wF (.ref wp.n) (.ref wp.f) wp.l wp.g)))/\H8 wp.f=some (.lst []):=⟨S0.w.wo,S0.w.hf⟩;have nfl:wp.f≠pl:=fun y=>by have:=RA.w.hf;rw[y,nl] at this;cases this
  have nfn:wp.f≠pn:=fun y=>by have:=RA.w.hf;rw[y,nn] at this;cases this
  have nff:wp.f≠pf:=fun y=>by have:=RA.w.hf;rw[y,nf] at this;cases this
  clear S0 RA N6 PY k8 OX s7 s6 c7 w8 e6 hw e3;generalize KP:bQ ds8=Mj at J3;refine⟨_,rfl,by decide,by decide,[.ref W2],⟨rfl,fun j i h=>?_⟩,rR (n:=41) (vs:=[.ref W2]) (fun D i ys H'=>H' D=some (.lst ys)/\ys=((lN++[0]).take i).map V.int/\i<=41/\oY ⟨W2,pl,pg,pn,pf⟩ H8 H'/\∃JK,kN K c H' ⟨W2,pl,pg,pn,pf⟩ JK Mj [] (lN.drop i)) (fun D hD=>⟨ao,rfl,by decide,au.oX (ae hD _),SA,J3.same (ae hD _)⟩) (fun D i ys H1 Q' hD hi hI k=>?_) (fun D i ys H1 hI=>?_) (by decide) fun D H9 ys hD hI=>?_⟩
  ·match j,h with
   | 0,h=>cases h;exact⟨_,rfl,rfl⟩
   | j+1,h=>simp at h
  ·obtain⟨eD,eys,hi41,cI,psI,hI⟩:=hI;obtain⟨d1,d2,d3⟩:=J3.ne hD;refine⟨_,rfl,_,rfl,⟨W2,pl,pg,pn,pf⟩,psI,Mj,eS,[],_,"take",rfl,hI.w,.inl ⟨1,by decide +kernel,fun vk Mm=>⟨Jr _,fun t2 JS=>?_⟩⟩⟩;have s2:=ae JS (.tup []);refine(hI.same s2).take (At.same s2 _ _ Mm) (At.new JS (bq.mpr rfl)) fun r3 H3 ps3 c3 PY a3=>⟨1,_,_,rfl,a3,rfl,fun z3 PV=>⟨1,_,_,rfl,PV,rfl,fun z4 hz4=>?_⟩⟩;have V2:=c3 _ _ (s2 _ _ eD) (W3 d1) (W3 d2) (W3 d3);rw[bc.mp hz4];refine k _ _ V2 ⟨ao,?_,by omega,fun p o e h1 h2 h3=>?_,ps3,?_⟩
   ·rw[Fe i (by omega),IZ hi,Jt,eys,Ff i hi];rfl
   ·rw[aB (cE e hD)];exact c3 p o (s2 _ _ (cI p o e h1 h2 h3)) h1 h2 h3
   ·have:=PY.lst (ys:=ys++[.int ((lN.drop i).headD 0)]) V2 d1 d2 d3;rw[List.tail_drop] at this;exact this
  ·obtain⟨_,eys,hi41,_⟩:=hI;rw[eys,IU,W6];have:(lN++[0]).length=41:=by decide +kernel
   omega
  obtain⟨eD,eys,_,c9,Sz,S7⟩:=hI;obtain⟨d1,d2,d3⟩:=J3.ne hD;have e41:List.take 41 (lN++[0])=lN++[0]:=by decide +kernel
  rw[e41] at eys;have QJ:=c9 _ _ ND (fun y=>by have:=J3.w.t;rw[<-y,ND] at this;cases this) (fun y=>by have:=J3.w.hn;rw[<-y,ND] at this;cases this) (fun y=>by have:=J3.w.hf;rw[<-y,ND] at this;cases this);have QK:=c9 _ _ VI nfl nfn nff;obtain⟨k10,hk10,hk10'⟩:=gJ (a:=n) (n:=150) (by decide);refine⟨_,rfl,_,_,rfl,rfl,cW,_,_,rfl,rfl,_,_,rfl,rfl,(by show(0:Int)<=200 - n % 150;omega),(by show 200 - n % 150<=4096;omega),by decide +kernel,?_⟩;generalize Vi:Txt.mul ("x":Str) (200 - n % 150)=lg;refine⟨_,rfl,_,rfl,⟨W2,pl,pg,pn,pf⟩,Sz,Mj,eS,[],_,"say",rfl,S7.w,.inl ⟨0,by decide +kernel,fun vk Mm=>⟨_,rfl,eX,fun LX Ks=>⟨jY,fun t12 Qd=>?_⟩⟩⟩⟩;have JT:=ae Ks (.tup [.str "text",.str lg]);have Kw:At K (WX H9 LX (.tup [.str "text",.str lg])) (DQ lg) (.ref LX):=At.new Ks (aZ (av.mpr rfl) (av.mpr rfl));have JU:=JT.trans (ae Qd (.tup [.ref LX]));refine(S7.same JU).say (d:=DQ lg) (by decide) (At.same JU _ _ Mm) (At.new Qd (az.fu Kw)) (.te lg) fun r13 Q8 ps13 OQ M6=>?_;have M6:kN K c Q8 ⟨W2,pl,pg,pn,pf⟩ ps13 Mj [lg] (lN.drop 41):=M6;have eD13:=OQ _ _ (JU _ _ eD) (W3 d1) (W3 d2) (W3 d3);have hWo13:=OQ _ _ (JU _ _ QJ) (fun y=>by have:=J3.w.t;rw[<-y,ND] at this;cases this) (fun y=>by have:=J3.w.hn;rw[<-y,ND] at this;cases this) (fun y=>by have:=J3.w.hf;rw[<-y,ND] at this;cases this);have hWf13:=OQ _ _ (JU _ _ QK) nfl nfn nff;clear QJ QK S7 c9 OQ JU JT Kw J3 ND VI KP eD;refine⟨_,rfl,wp.W,c.W,dx,_,_,rfl,hWo13,z.wc,z.w2,kS ..,Jr _,fun Rm hn14=>?_⟩;have Lb:=ae hn14 (.lst []);have NH:WX Q8 Rm (.lst []) Rm=some (.lst []):=ao;generalize WX Q8 Rm (.lst [])=Q7 at Lb NH ⊢;refine⟨wp.f,Rm,[],rfl,rfl,bf.of (Lb _ _ hWf13),bf.of NH,_,rfl,bE ?_⟩;refine⟨_,rfl,40,rfl,by decide,fun Ru hl15=>?_⟩;rw[Ay];have K0:=ae hl15 (.lst (lN.map V.int));have We:WX Q7 Ru (.lst (lN.map V.int)) Ru=some (.lst (lN.map V.int)):=ao;generalize WX Q7 Ru (.lst (lN.map V.int))=Wu at K0 We ⊢;refine⟨jY,fun SJ Qx=>⟨Ru,SJ,_,_,rfl,rfl,ae Qx _ _ _ We,ao,small (by rw[IU];show _+1<=_;decide +kernel),fun Rt hl17=>?_⟩⟩;have NY:=(ae Qx (.lst [.int 0])).trans (ae hl17 (.lst (lN.map V.int++[.int 0])));have Wc:WX (WX Wu SJ (.lst [.int 0])) Rt (.lst (lN.map V.int++[.int 0])) Rt=some (.lst ((lN++[0]).map V.int)):=by rw[Jt];exact ao
  generalize WX (WX Wu SJ (.lst [.int 0])) Rt (.lst (lN.map V.int++[.int 0]))=Wt at NY Wc ⊢;have Mg:=(Lb.trans K0).trans NY;refine⟨D,Rt,_,_,(lN++[0]).map GS.D.int,rfl,rfl,bf.of (Mg _ _ eD13),bf.of Wc,by rw[eys];exact i3 _,i3 _,IV (rP _) (by decide),_,rfl,bE ?_⟩;obtain⟨R8,NF⟩:=(M6.w.same Mg).wo;have Lh:=(M6.w.same Mg).hn;refine⟨_,rfl,W2,c.W,R8,_,_,rfl,NF,z.wc,z.w1,kQ ..,_,rfl,jY,fun l18 hl18=>?_⟩;exact⟨pn,l18,[.str lg],[.str lg],[.str lg],rfl,rfl,bf.of (ae hl18 _ _ _ Lh),bf.of ao,az.fu (av.mpr rfl),az.fu (av.mpr rfl),by rw[bM,bM,cy];decide,q _⟩
end
structure rY (os:List Th) (rs:List Rw) (B:Nat):Prop where
 kd:jj os B
 st:GW rs
 or:DJ os rs
 ob:DL os rs
 h8:∀j∈[0,1,3],∃st,Rw.cl (8+j) st∈rs
section
variable {K:Fg06}{H:Hp}{os JI:List Th}{S:List Addr}{rs:List Rw}{WH:List V}{B B':Nat}
theorem rY.grow (h:rY os rs B) (hr:cV K H os S rs WH) (k:fT os JI) (kd:jj JI B'):rY JI rs B':=⟨kd,h.st,h.or.kp hr k,h.ob.kp hr k,h.h8⟩
theorem rY.row (h:rY os rs B) {r}(h1:∀i st,r≠.cl i st) (h2:∀i,r≠.ob i):rY os (rs++[r]) B:=by
 have un:∀{x},x∈rs++[r]->x∈rs\/x=r:=fun hx=>by
  rcases Jm.mp hx with hx | hx
  ·exact .inl hx
  ·simp only[List.mem_cons,List.not_mem_nil,or_false] at hx;exact .inr hx
 refine⟨h.kd,fun i s hi=>?_,fun i st hi nm ns d fs e n hn=>?_,fun i hi k d fs e=>?_,fun j hj=>(h.h8 j hj).imp fun st z=>Jg _ z⟩
 ·rcases un hi with hi | hi
  ·obtain⟨r',Qg,e⟩:=h.st i s hi;exact⟨r',Jg _ Qg,e⟩
  ·exact Xc hi.symm (h1 _ _)
 ·rcases un hi with hi | hi
  ·exact(h.or i st hi nm ns d fs e n hn).imp fun _ z=>Jg _ z
  ·exact Xc hi.symm (h1 _ _)
 ·rcases un hi with hi | hi
  ·exact(h.ob i hi k d fs e).imp fun _ z=>Jg _ z
  ·exact Xc hi.symm (h2 _)
theorem rY.cls (h:rY JI rs B) (k:fT os JI) {st nm ns d fs}(e:JI[os.length]?=some (.kd nm ns d fs)) (el:ID os rs ns) (sd:Iy rs st):rY JI (rs++[.cl os.length st]) B:=by
 have un:∀{x},x∈rs++[Rw.cl os.length st]->x∈rs\/x=.cl os.length st:=fun hx=>by
  rcases Jm.mp hx with hx | hx
  ·exact .inl hx
  ·simp only[List.mem_cons,List.not_mem_nil,or_false] at hx;exact .inr hx
 refine⟨h.kd,fun i s hi=>?_,fun i NS hi MA SF d0 eB e0 n hn=>?_,fun i hi k d fs e=>?_,fun j hj=>(h.h8 j hj).imp fun st z=>Jg _ z⟩
 ·have lift:(∃r∈rs,bU r=s)->∃r∈rs++[Rw.cl os.length st],bU r=s:=fun⟨r',Qg,e⟩=>⟨r',Jg _ Qg,e⟩;rcases un hi with hi | hi
  ·exact lift (h.st i s hi)
  ·injection hi with _ hs;rcases sd s hs.symm with ⟨r,hr,e⟩ | ⟨i',LN⟩
   ·exact lift ⟨r,hr,e.symm⟩
   ·exact lift (h.st i' s LN)
 ·rcases un hi with hi | hi
  ·exact(h.or i NS hi MA SF d0 eB e0 n hn).imp fun _ z=>Jg _ z
  ·injection hi with O8 NA;subst O8;rw[e] at e0;cases e0;obtain⟨e',Lc,r,d',JM,st',rfl,he,MI⟩:=el;rcases Jv.mp hn with rfl | hn
   ·exact⟨st,Jh _ II⟩
   ·exact(h.or e' st' MI Lc r d' JM (k.o _ _ he (fun _ _ _ z=>nomatch z)) n hn).imp fun _ z=>Jg _ z
 ·rcases un hi with hi | hi
  ·exact(h.ob i hi k d fs e).imp fun _ z=>Jg _ z
  ·cases hi
theorem rY.obj (h:rY os rs B) {i k d fs st}(e:os[i]?=some (.ob k d fs)) (hk:Rw.cl k st∈rs):rY os (rs++[.ob i]) B:=by
 have un:∀{x},x∈rs++[Rw.ob i]->x∈rs\/x=.ob i:=fun hx=>by
  rcases Jm.mp hx with hx | hx
  ·exact .inl hx
  ·simp only[List.mem_cons,List.not_mem_nil,or_false] at hx;exact .inr hx
 refine⟨h.kd,fun i s hi=>?_,fun i0 NS hi MA SF d0 eB e0 n hn=>?_,fun i0 hi k0 d0 eB e0=>?_,fun j hj=>(h.h8 j hj).imp fun st z=>Jg _ z⟩
 ·rcases un hi with hi | hi
  ·obtain⟨r',Qg,e⟩:=h.st i s hi;exact⟨r',Jg _ Qg,e⟩
  ·cases hi
 ·rcases un hi with hi | hi
  ·exact(h.or i0 NS hi MA SF d0 eB e0 n hn).imp fun _ z=>Jg _ z
  ·cases hi
 ·rcases un hi with hi | hi
  ·exact(h.ob i0 hi k0 d0 eB e0).imp fun _ z=>Jg _ z
  ·cases hi;rw[e] at e0;cases e0;exact⟨st,Jg _ hk⟩
theorem rY.lo (h:rY os rs B) (hr:cV K H os S rs WH) (kd:jj JI B') (l:LoF os JI rs):rY JI (rs++[.cl os.length none,.ob (os.length+1),.mt (os.length+2),.vw (os.length+3)]) B':=by
 obtain⟨k,⟨ns,d1,f1,KJ,e1,el⟩,d2,f2,e2⟩:=l;have h1:=(h.grow hr k kd).cls k e1 el (st:=none) (fun s z=>nomatch z);have h2:=h1.obj e2 (st:=none) (Jh _ II);have h3:=(h2.row (r:=.mt (os.length+2)) (fun _ _ z=>nomatch z) (fun _ z=>nomatch z)).row (r:=.vw (os.length+3)) (fun _ _ z=>nomatch z) (fun _ z=>nomatch z);simp only[List.append_assoc,List.cons_append,List.nil_append] at h3;exact h3
end
theorem gA {p:Rw->Bool}{rs r:List Rw}(h:rs.filter p≠[]):(rs++r).filter p≠[]:=fun z=>by
 rw[List.filter_append] at z;exact h (List.append_eq_nil_iff.mp z).1
theorem oy {p:Rw->Bool}{rs:List Rw}{r:Rw}(h:r∈rs) (hp:p r=true):rs.filter p≠[]:=fun z=>by
 have:=JC.mpr ⟨h,hp⟩;rw[z] at this;cases this
inductive jh (K:Fg06) (c:cF) (H:Hp) (wp:Wp) (T:Addr) (lf:List Int) (n B:Nat) (hf ho:Prop):Prop
 | mk ps os rs WH:gH K c H wp T ps os [] lf rs WH->rY os rs B->os.length<=20+n->WH.length<=4+n->(hf->rs.filter isFn≠[])->(ho->rs.filter iY≠[])->rs.filter sZ≠[]->jh K c H wp T lf n B hf ho
theorem jh.mono {K c H wp T lf n B n' B' hf ho Vy Ko}(h:jh K c H wp T lf n B hf ho) (hn:n<=n') (hB:B<=B') (h1:Vy->hf) (h2:Ko->ho):jh K c H wp T lf n' B' Vy Ko:=by
 obtain⟨ps,os,rs,WH,a,b,e,f,g,i,j⟩:=h;exact⟨ps,os,rs,WH,a,⟨b.kd.mono hB,b.st,b.or,b.ob,b.h8⟩,by omega,by omega,fun z=>g (h1 z),fun z=>i (h2 z),j⟩
theorem jh.but {K c H H' wp T lf n B hf ho p xs ys}(h:jh K c H wp T lf n B hf ho) (hx:H p=some (.lst xs)) (JJ:∀(x:Str) r,xs≠.str x::r) (np:p∉Sx wp T) (b:bC p H H') (hp:H' p=some (.lst ys)):jh K c H' wp T lf n B hf ho:=by
 obtain⟨ps,os,rs,WH,a,r1,r2,r3,r4,r5,r6⟩:=h;exact⟨ps,os,rs,WH,a.but hx JJ np b hp,r1,r2,r3,r4,r5,r6⟩
structure u6 (K:Fg06) (H:Hp) (wp:Wp) (T a b pn F:Addr) (m:Nat) (xs:List Str) (fi:List Int):Prop where
 sp:iE K H a b m
 na:a∉Sx wp T
 nb:b∉Sx wp T
 hp:H pn=some (.lst (xs.map V.str))
 np:pn∉Sx wp T
 AD:pn≠b
 hF:H F=some (.lst (fi.map V.int))
 nF:F∉Sx wp T
 Df:F≠b
 DW:a≠F
 ha:∃zs,H a=some (.lst zs)
section
variable {K:Fg06}{c:cF}{H H':Hp}{wp:Wp}{T a b pn F:Addr}{m m':Nat}{xs:List Str}{fi:List Int}
theorem u6.eZ (h:u6 K H wp T a b pn F m xs fi) (s:hZ c (Sx wp T) H H'):u6 K H' wp T a b pn F m xs fi:=⟨h.sp.eZ s h.na h.nb,h.na,h.nb,s _ _ h.hp h.np (fun _ _ z=>nomatch z),h.np,h.AD,s _ _ h.hF h.nF (fun _ _ z=>nomatch z),h.nF,h.Df,h.DW,let ⟨zs,e⟩:=h.ha;⟨zs,s _ _ e h.na (fun _ _ z=>nomatch z)⟩⟩
theorem u6.go (h:u6 K H wp T a b pn F m xs fi) (b9:bC b H H') (hb:H' b=some (.lst [.int (m':Nat)])):u6 K H' wp T a b pn F m' xs fi:=⟨h.sp.go b9 hb,h.na,h.nb,b9 _ _ h.AD h.hp,h.np,h.AD,b9 _ _ h.Df h.hF,h.nF,h.Df,h.DW,let ⟨zs,e⟩:=h.ha;⟨zs,b9 _ _ h.sp.ne e⟩⟩
theorem u6.same (h:u6 K H wp T a b pn F m xs fi) (s:au H H'):u6 K H' wp T a b pn F m xs fi:=h.eZ (c:=⟨0,0,0,0,0,0,0,0⟩) (au.eZ s)
end
theorem cV.Gs {K:Fg06}{H:Hp}{os:List Th}{S:List Addr}{L:Addr}{xs:List Str}(hL:H L=some (.lst (xs.map V.str))):∀{rs:List Rw}{vs:List V},cV K H os S rs vs->cV K H os (L::S) rs vs
 | _,_,.nil=>.nil
 | _,_,.cons (r:=r) h1 h2 h3=>by
  have no:∀{a:Addr}{x:Str}{i:Nat}{v1:V}{tl:List V}{d:D},H a=some (.lst (.str x::v1::tl))->At K H d v1->Vp os d->a≠L:=fun {a x i v1 tl d} e hd hv z=>by
   obtain⟨rr,rfl⟩:=hv.vd.jo;obtain⟨p,ws,rfl,_⟩:=aX.mp hd;rw[z,hL] at e;injection e with e;injection e with e
   match xs,e with
   | _::_::_,e=>simp at e
  refine .cons ?_ (fun z=>?_) (h3.Gs hL)
  ·cases r with
   | mt i=>
    obtain⟨v1,v2,b,t,o,g,e1,e2,e3,e4,e5,e6,e7⟩:=h1;refine⟨v1,v2,b,t,o,g,e1,e2,e3,e4,e5,e6,fun z=>?_⟩;rcases Jv.mp z with z | z
    ·obtain⟨w1,w3,e,S2,_⟩:=e6;exact no (i:=0) e S2 (.th t (aE e3)) z
    ·exact e7 z
   | _=>exact h1
  ·rcases Jv.mp z with z | z
   ·obtain⟨v1,tl,e,hv⟩:=h1.two;exact no (i:=0) e hv h1.vp z
   ·exact h2 z
section
variable {K:Fg06}{c:cF}{H H':Hp}{wp:Wp}{T:Addr}{ps:List Addr}{os:List Th}{ln:List Str}{lf:List Int}{rs:List Rw}{WH:List V}{l0:List Str}{f0:List Int}{sd L F:Addr}{w2:Wp}{Ll:List Addr}{MZ:List Th}{ln2:List Str}{MB:List Int}
theorem jU.other (h:jU K c H wp T ps os ln lf rs WH sd L F l0 f0) (v:kN K c H w2 Ll MZ ln2 MB) (n1:w2.l∉L::F::Sx wp T) (n2:w2.n∉L::F::Sx wp T) (n3:w2.f∉L::F::Sx wp T) (s:oY w2 H H'):jU K c H' wp T ps os ln lf rs WH sd L F l0 f0:=by
 have keep:∀{p:Addr}{o:HO},H p=some o->(∀xs,o=.lst xs->p∈L::F::Sx wp T)->H' p=some o:=fun {p o} e ho=>by
  refine s p o e (fun y=>?_) (fun y=>?_) (fun y=>?_)
  ·rw[y,v.w.t] at e;injection e with e;exact n1 (y▸ho _ e.symm)
  ·rw[y,v.w.hn] at e;injection e with e;exact n2 (y▸ho _ e.symm)
  ·rw[y,v.w.hf] at e;injection e with e;exact n3 (y▸ho _ e.symm)
 have inS:∀{p},p∈Sx wp T->p∈L::F::Sx wp T:=fun z=>IH _ (IH _ z);have w':cG K c H' wp ps os eS ln lf:=h.s.w.keep fun p o e h1 h2 h3 h4=>keep e fun xs ex=>by
  rcases h1 xs ex with rfl | rfl | rfl
  ·exact inS Sx.l
  ·exact inS Sx.n
  ·exact inS Sx.f
 have r1:=((h.r.Gs v.w.hn).add (L:=w2.l) (fun x r e=>by rw[v.w.t] at e;injection e with e;injection e with e;cases hp:Ll with | nil=>rw[hp] at e;cases e | cons a b=>rw[hp] at e;cases e)).add (L:=w2.f) (fun x r e=>by rw[v.w.hf] at e;injection e with e;injection e with e;cases hp:MB with | nil=>rw[hp] at e;cases e | cons a b=>rw[hp] at e;cases e);have fx:Fx H H':=fun p o e z=>keep e fun xs ex=>by rw[ex] at z;cases z
 have kp:qG (w2.f::w2.l::w2.n::L::F::Sx wp T) H H':=⟨fun p ys hn e=>s p _ e (fun y=>hn (y▸IH _ II)) (fun y=>hn (y▸IH _ (IH _ II))) (fun y=>hn (y▸II)),fx⟩;have r2:=(r1.keep h.s.o.wf kp (fT.refl _)).sub (S:=L::F::Sx wp T) fun a ha=>IH _ (IH _ (IH _ ha));obtain⟨WI,e,e1⟩:=h.d;exact⟨⟨w',h.s.o,h.s.g,h.s.k,keep h.s.t fun _ _=>inS Sx.t,r2.sub fun a ha=>inS ha,h.s.n1,h.s.n2,h.s.n3⟩,r2,⟨WI,keep e (fun _ z=>nomatch z),e1⟩,keep h.hL fun _ _=>II,keep h.hF fun _ _=>IH _ II,h.nL,h.nF,h.AF⟩
theorem kN.keep {S ds}(h:kN K c H w2 Ll (bQ ds) ln2 MB) (hd:ds.length=12) (nG:c.G≠c.Gr) (nK:c.Kd≠c.Gr) (nW:c.W≠c.Gr) (hS:∀a∈S,∃xs,H a=some (.lst xs)) (n1:w2.l∉S) (n2:w2.n∉S) (n3:w2.f∉S) (s:hZ c S H H'):kN K c H' w2 Ll (bQ ds) ln2 MB:=by
 refine⟨h.w.keep fun p o e h1 h2 h3 h4=>s p o e (fun z=>?_) (fun dx fs z=>?_),h.o,h.g0,h.g1,h.lo,h.l1,h.l2⟩
 ·obtain⟨xs,ex⟩:=hS p z;rw[e] at ex;injection ex with ex;rcases h1 xs ex with rfl | rfl | rfl
  ·exact n1 z
  ·exact n2 z
  ·exact n3 z
 ·rcases h3 c.Gr dx fs z with rfl | hp
  ·obtain⟨Lv,e'⟩:=h.w.wo;rw[e',z] at e;injection e with e;injection e with e;exact nW e
  ·obtain⟨i,hi,ei⟩:=JG hp;have e1:Ll[i]?=some p:=Jn.mpr ⟨hi,ei⟩;have NA:i < (bQ ds).length:=by rw[<-h.w.n];exact hi
   have e2:(bQ ds)[i]?=some (bQ ds)[i]:=IM NA;have ob:=h.w.o i p _ e1 e2;rcases jw hd e2 with ⟨_,ez⟩ | ⟨j,d',_,_,ez⟩
   ·rw[ez] at ob;obtain⟨Lv,e'⟩:=ob;rw[e',z] at e;injection e with e;injection e with e;exact nG e
   ·rw[ez] at ob;obtain⟨Lv,_,_,e',_⟩:=ob;rw[e',z] at e;injection e with e;injection e with e;exact nK e
theorem iT.ne (z:iT K c):c.G≠c.Gr/\c.Kd≠c.Gr:=by
 refine⟨fun e=>?_,fun e=>?_⟩
 ·have h1:=z.tG.tR;have h2:=z.tR.tR;rw[e,h2] at h1;cases h1
 ·have h1:=z.tK.tR;have h2:=z.tR.tR;rw[e,h2] at h1;cases h1
end
theorem oY.Gh {c w2 H H'}(s:oY w2 H H'):hZ c [w2.l,w2.n,w2.f] H H':=fun p o e h _=>s p o e (fun y=>h (y▸II)) (fun y=>h (y▸IH _ II)) (fun y=>h (y▸IH _ (IH _ II)))
theorem yB (ns:List Int) (lo hi):∃ms:List Int,jg (ns.map V.int) lo hi=ms.map V.int/\ms.length<=ns.length:=by
 refine⟨(ns.drop (HT.fG (ns.map V.int).length 0 lo)).take (HT.fG (ns.map V.int).length (ns.map V.int).length hi - HT.fG (ns.map V.int).length 0 lo),?_,?_⟩
 ·unfold jg;rw[List.map_take,List.map_drop]
 ·rw[W6,List.length_drop];omega
theorem HZ {nm}:∀i,(nm++("q":Str),i)∉eS:=fun i h=>by
 have all:∀p∈eS,p.1.cps.toList.getLast?≠some 113:=by decide +kernel
 refine all _ h ?_;show(nm++("q":Str)).cps.toList.getLast?=_;rw[uX,show("q":Str).cps.toList=[113] from by decide +kernel,List.getLast?_append];rfl
abbrev Bm:Stmt:=cj 87
inductive sR3 (K:Fg06) (c:cF) (D0:W0) (σ:L2.St) (H:Hp):Prop
 | mk wp T ps os lf rs WH j vv:sg σ 7 (.ref wp.W)->sg σ 8 (.ref T)->sg σ 9 (.str (rj j))->sg σ 10 vv->gH K c H wp T ps os [] lf rs WH->WH.length<=50->j∈[0,1,3]->At K H (aQ (8+j)) vv->(∀H' a,hZ c (Sx wp T) H H'->gH K c H' wp T ps os [] lf (rs++[.cl (8+j) none]) (WH++[.ref a])->D0.nx σ H')->sR3 K c D0 σ H
inductive sD0 (K:Fg06) (c:cF) (D0:W0) (σ:L2.St) (H:Hp):Prop
 | mk (wp:Wp) (T:Addr) (lf:List Int) (n B:Nat) (hf ho:Prop) (pn:Addr) (xs:List Str) (dd m:Int):sg σ 7 (.ref wp.W)->sg σ 8 (.ref T)->sg σ 3 (.ref pn)->sg σ 13 (.int m)->sg σ 14 (.int dd)->H pn=some (.lst (xs.map V.str))->xs.length=12->(∀x∈xs,x.length<=100)->jh K c H wp T lf n B hf ho->n<=60->B<=37->(∀H',hZ c (Sx wp T) H H'->jh K c H' wp T lf (n+1) B (hf\/dd=0) ho->D0.nx σ H')->sD0 K c D0 σ H
inductive sD1 (K:Fg06) (c:cF) (D0:W0) (σ:L2.St) (H:Hp):Prop
 | mk (wp:Wp) (T:Addr) (lf:List Int) (n B:Nat) (hf ho:Prop) (pn:Addr) (xs:List Str) (dd m:Int):sg σ 7 (.ref wp.W)->sg σ 8 (.ref T)->sg σ 3 (.ref pn)->sg σ 13 (.int m)->sg σ 14 (.int dd)->H pn=some (.lst (xs.map V.str))->xs.length=12->(∀x∈xs,x.length<=100)->jh K c H wp T lf n B hf ho->n<=60->B<=37->(∀H',hZ c (Sx wp T) H H'->jh K c H' wp T lf (n+1) (B+1) hf ho->D0.nx σ H')->sD1 K c D0 σ H
inductive sD2 (K:Fg06) (c:cF) (D0:W0) (σ:L2.St) (H:Hp):Prop
 | mk wp T lf n B hf ho dd m t:sg σ 7 (.ref wp.W)->sg σ 8 (.ref T)->sg σ 12 (.int t)->sg σ 13 (.int m)->sg σ 14 (.int dd)->jh K c H wp T lf n B hf ho->n<=60->B<=37->lf.length<=900->(dd=2\/t=2->hf)->(∀H',hZ c (Sx wp T) H H'->jh K c H' wp T lf (n+4) (B+1) hf (ho\/t=2)->D0.nx σ H')->sD2 K c D0 σ H
inductive sO7 (K:Fg06) (c:cF) (D0:W0) (σ:L2.St) (H:Hp):Prop
 | mk w2 Ll MZ ln2 MB t:sg σ 12 (.int t)->sg σ 16 (.ref w2.W)->kN K c H w2 Ll MZ ln2 MB->(t=7->MB=[5,6])->(∀H' JK J9,oY w2 H H'->kN K c H' w2 JK MZ ln2 J9->(t=7->J9=[6])->(t≠7->J9=MB)->D0.nx σ H')->sO7 K c D0 σ H
theorem jT {K H}:∀xs:List Str,az K H (xs.map D.str) (xs.map V.str)
 | []=>bq.mpr rfl
 | x::xs=>ba.mpr ⟨_,_,rfl,av.mpr rfl,jT xs⟩
theorem rM (xs:List Str):bM (xs.map D.str)<=1:=g9 fun d hd=>by
 obtain⟨i,_,rfl⟩:=JD.mp hd;rw[cy];decide
def yU (k:Nat):List Str:=(List.range k).map fun i=>DT (.int ((i:Nat):Int))
def GO (k:Nat):List Int:=if k<=7 then [5,6] else [6]
theorem rq {k}(h:k<=100):((k:Nat):Int).natAbs.log2 < 1920:=by
 have:=Nat.log2_le_self ((k:Nat):Int).natAbs;omega
inductive tDd (σ:L2.St) (H:Hp) (Q:VK):Prop
 | mk t m:sg σ 12 (.int t)->sg σ 13 (.int m)->(∀dd,(t < 2->dd=0)->Q (.int dd) H)->tDd σ H Q
theorem n40 (first):∃N:Nat,N<=40/\j4 [V.int (first % 4),V.int (40 - first % 32)] (first / 4 % 2)=some (.int (N:Nat)):=by
 obtain⟨k,hk,Kg⟩:=gJ (a:=first / 4) (n:=2) (by decide);rw[show(first / 4 % 2:Int)=(k:Int) from hk]
 match k,Kg with
 | 0,_=>exact⟨(first % 4).toNat,by omega,by rw[aC (j:=0) rfl];congr 2;omega⟩
 | 1,_=>exact⟨(40 - first % 32).toNat,by omega,by rw[aC (j:=1) rfl];congr 2;omega⟩
theorem zN {ds}(h:ds.length=12):jj (bQ ds) 4:=fun i nm ns d fs e=>by
 rcases jw h e with ⟨_,z⟩ | ⟨j,d',hj,rfl,z⟩
 ·cases z
 ·cases z;have:∀j,j < 12->(∀n∈iX j,n<=8+j)/\(iX j).length<=4:=by decide +kernel
  obtain⟨h1,h2⟩:=this j hj;exact⟨(jL j hj).1,(jL j hj).2.1,h1,h2,rfl⟩
def DU:List Rw:=[.cl 8 none,.cl 9 none,.cl 11 none]
theorem FX {ds}(h:ds.length=12):rY (bQ ds) DU 4:=by
 have hm:∀{i st},Rw.cl i st∈DU->st=none/\(i=8\/i=9\/i=11):=fun {i st} hi=>by
  unfold DU at hi;simp only[List.mem_cons,List.not_mem_nil,or_false,Rw.cl.injEq] at hi;rcases hi with ⟨rfl,rfl⟩ | ⟨rfl,rfl⟩ | ⟨rfl,rfl⟩
  ·exact⟨rfl,.inl rfl⟩
  ·exact⟨rfl,.inr (.inl rfl)⟩
  ·exact⟨rfl,.inr (.inr rfl)⟩
 have MI:∀n,(n=8\/n=9\/n=11)->∃st',Rw.cl n st'∈DU:=fun n hn=>by
  rcases hn with rfl | rfl | rfl
  ·exact⟨none,II⟩
  ·exact⟨none,IH _ II⟩
  ·exact⟨none,IH _ (IH _ II)⟩
 refine⟨zN h,fun i s hi=>?_,fun i st hi nm ns d fs e n hn=>?_,fun i hi=>?_,fun j hj=>MI _ ?_⟩
 ·cases (hm hi).1
 ·refine MI n ?_;have all:∀j∈[0,1,3],∀n∈iX j,n=8\/n=9\/n=11:=by decide +kernel
  rcases(hm hi).2 with rfl | rfl | rfl
  ·obtain⟨d',e'⟩:=lZ h (j:=0) (by decide);rw[e] at e';cases e';exact all 0 (by decide) n hn
  ·obtain⟨d',e'⟩:=lZ h (j:=1) (by decide);rw[e] at e';cases e';exact all 1 (by decide) n hn
  ·obtain⟨d',e'⟩:=lZ h (j:=3) (by decide);rw[e] at e';cases e';exact all 3 (by decide) n hn
 ·unfold DU at hi;simp at hi
 ·simp only[List.mem_cons,List.not_mem_nil,or_false] at hj;rcases hj with rfl | rfl | rfl
  ·exact .inl rfl
  ·exact .inr (.inl rfl)
  ·exact .inr (.inr rfl)
theorem AK:∀j∈[0,1,3],j < 12/\decide (9∈iX j)=!decide (rj j="Thing")/\(rj j,8+j)∈eS/\(iX j).length<=4:=by decide +kernel
theorem wy {ds d}:cutD (d::ds) (some ((1:Nat):Int)) none=ds:=jS (by show 1<=_+1;omega)
section
variable {P:Program}{w:World}{K:Fg06}{mg:Str->Option Value}{base:Heap}{f:Addr}{fd:FuncData}{c:cF}
inductive qT (K:Fg06) (vs:List V) (H:Hp) (Q:VK) (E:XK):Prop
 | mk a (ns:List Int):vs=[.ref a]->bf K H a (ns.map V.int)->ns.length<=63->(∀H',Q (.bl true) H')->qT K vs H Q E
theorem gk:aS ["_law_script","_law_cells","_law_spot","_law_names_here","_law_first","_law_inputs","_law_handed","_law_world","_law_there","_law_name","_law_value","_law_word","_law_turn","_law_n","_law_deed","_law_state","_law_other"] ["_law_script"] (aw Bm):=fE
theorem CH (g:Glb9 mg) (z:iT K c) (nW:c.W≠c.Gr) (F:eg K "law" "law" Bm f fd) (dAt:Def P w K mg base "_law_cell_at" ["_law_script","_law_k"] 1 (xq K)) (dCe:Def P w K mg base "_law_cell" ["_law_cells","_law_spot"] 1 (mS K)) (dDr:Def P w K mg base "_law_names" ["_law_n"] 1 (xk K)) (dPl:Def P w K mg base "_law_plain" ["_law_n"] 1 (zc K)) (MW:jD P w K mg base "World" c.W ["self","inputs"] 4 (zb K c)) (dK:Def P w K mg base "known" ["world","name"] 1 (qU K c)) (dO:Def P w K mg base "order_of" ["world","elders"] 5 (qS K c)) (dCl:Def P w K mg base "called" ["world","a","values"] 7 (kZ K c)) (dLf:Def P w K mg base "_law_function" ["_law_world","_law_there","_law_n","_law_name"] 4 (Bc K c)) (dLc:Def P w K mg base "_law_class" ["_law_world","_law_there","_law_n","_law_name"] 6 (Bd K c)) (dLo:Def P w K mg base "_law_object" ["_law_world","_law_there","_law_n"] 8 (zd K c)) (dCr:Def P w K mg base "_law_called_right" ["_law_world","_law_state","_law_cells","_law_spot"] 9 (Bf K c)) (dAT:Def P w K mg base "_law_all_taken" ["_law_world","_law_left","_law_n","_law_name"] 8 (Bj K c)):bK P w K mg base eh 10 f fd ["_law_script"] (qT K):=by
 refine F.fw gk fun WK A outer s H vs Q E hr h=>?_;obtain⟨sc,ns,rfl,RF,Lp,q⟩:=h;refine⟨_,(ag (dD 1 gk.nd (bR k9 (pv 0) (bZ ah) (bZ ah)))
   (ag (dD 2 gk.nd (bB (cw ah)))
   (ag (dD 3 gk.nd (bX dDr (cw (bX dAt (bF (pv 0) ah)))))
   (ag (dD 4 gk.nd (bX dAt (bF (pv 0) ah)))
   (ag (.mk (L2.cM (iy:=5) (cl:=[("_law_spot",s.heap.objs.size+2),("_law_cells",s.heap.objs.size+1)]) (Xs:=["_law_k"]) (Nf:=["_law_spot","_law_cells"]) (js:=[2,1]) ?k1 rfl (LI.out (cg rfl g.gG (cw (ff K (bB (bF (aH bJ (pv 4) ah) (aH iL ah (aH bJ (pv 4) ah)))) (aH bJ (aH bN (pv 4) ah) ah))))) (fun C s0 H0 fp=>LG.out (i6 0 (show(["_law_k","_law_spot","_law_cells"]:List Str).Nodup by decide +kernel))) (fun C s0 H0 fp=>d6) (fun C s0 H0 fp=>LE.out (aH iL (aH bJ (bX dCe (bF (pv 2) (pv 1))) ah) ah)) gk.nd rfl (Or.inl rfl)))
   (ag (dD 6 gk.nd (bS jc rfl g.nList oJ (cw (pv 5))))
   (ag (dD 7 gk.nd (L3.j5 MW hr (by decide) rfl (cw (pv 6))))
   (ag (bW (dZ Jo Jp Jq cp (pv 6) (cw ah)))
   (ag (dD 8 gk.nd (bB cJ))
   (ag (d9 Ji rfl (ee (aI (ia ak ak ak))) (i6 9 gk.nd) (ag (dD 10 gk.nd (bX dK (bF (pv 7) (pv 9))))
   (aq (cu (t':=sR3 K c) (bW (dZ Jo Jp Jq cp (pv 8) (cw (bB (bI ak (lV (pv 10) bV (ib j6 (pv 9) ak) (aH gK (aI (cw (pv 10))) (bR zf (bg (bX dO (bF (pv 7) (L3.lq (cw (pv 10)))))) (bZ ah) ck)))))))) ?r3))))
   (ag (dD 11 gk.nd (ff K (bB (ia ak ak ak)) (aH bJ (bX dCe (bF (pv 1) (pv 2))) ah)))
   (ag (bW (dZ Jo Jp Jq cp (pv 8) (cw (bB (ia ak (bX dK (bF (pv 7) (pv 11))) (pv 11))))))
   (ag (d9 Ji rfl (cg rfl g.gG (cw ah)) (i6 12 gk.nd) (ag (dD 13 gk.nd (bX dCe (bF (pv 1) (pv 2))))
   (ag (dD 14 gk.nd (fk (t':=tDd) (bx (cR uy (pv 12) ah) ah (aH bJ (pv 13) ah)) ?dd))
   (ag (cu (t':=sD0 K c) (br (LW.pt (cS (cR bL (pv 14) ah) (cv (fb (bT (bX dLf (lV (pv 7) (pv 8) (aH bN (pv 13) ah) (ff K (pv 3) (aH bJ (aH bN (pv 13) ah) ah))))))))) (aq cH) aP) ?d0)
   (ag (cu (t':=sD1 K c) (br (LW.pt (cS (cR bL (pv 14) ah) (cv (fb (bT (bX dLc (lV (pv 7) (pv 8) (aH bN (pv 13) ah) (ff K (pv 3) (aH bJ (aH bN (pv 13) ah) ah))))))))) (aq cH) aP) ?d1)
   (aq (cu (t':=sD2 K c) (br (LW.pt (cS (LW.pt (eY (cR bL (pv 14) ah) (cY (cR bL (pv 12) ah)))) (cv (fb (bT (bX dLo (ia (pv 7) (pv 8) (aH bN (pv 13) ah)))))))) (aq cH) aP) ?d2)))))))
   (ag (bW (dZ Jo Jp Jq cp (pv 8) (cw (bB (bF ak (bX dPl (cw (bX dCe (bF (pv 1) (pv 2))))))))))
   (ag (dD 15 gk.nd (L3.lF (L3.fj ak (bB cJ) (L3.fj ak (pv 5) (L3.fj ak (pv 8) L3.lp)))))
   (ag (dD 16 gk.nd (L3.j5 MW hr (by decide) rfl (cw (bB (bF ah ah)))))
   (ag (d9 Ji rfl (cg rfl g.gG (cw ah)) (i6 12 gk.nd) (ag (br (LW.pt (eY (fb (bT (bX dCr (lV (pv 7) (pv 15) (pv 1) (pv 2))))) (cY (cR (pW hr) (L3.bA (pv 7)) (L3.eI (fz hr) (pv 15) ak))))) (aq cH) aP)
   (ag (cu (t':=sO7 K c) (br (LW.pt (cS (cR bL (pv 12) ah) (cv (cR (r:=q0 K) (kf hr) (bX dCl (ia (pv 16) (bX dK (bF (pv 16) ak)) (aI cJ))) (aI (bF ak (aI (bF ak ah)))))))) (aq cH) aP) ?o7)
   (aq (bW (bX dCl (ia (pv 16) (bX dK (bF (pv 16) ak)) (aI (cw (aI (bF ak (pv 12))))))))))))
   (ag (br (LW.pt (eY (cR (pW hr) (L3.bA (pv 16)) (.mk (L2.dH (cl:=[]) (Xs:=["_law_turn"]) (Nf:=[]) (js:=[]) ?k2 rfl (LI.out (cg rfl g.gG (cw ah))) (fun C s0 H0 fp=>LG.out (i6 0 (show(["_law_turn"]:List Str).Nodup by decide +kernel))) (fun C s0 H0 fp=>d6) (fun C s0 H0 fp=>LE.out (bS mq rfl g.zH uW (cw (pv 0))))))) (cY (cR (pW hr) (L3.bA (pv 16)) (bB (cw ah)))))) (aq cH) aP)
   (aq (aD (cT (ib (r:=ra K) (m9 hr) (L3.bA (pv 7)) (L3.eI (fz hr) (pv 15) ak)) (cZ (bX dAT (lV (pv 7) (L3.eI (fz hr) (pv 15) ak) (pv 4) (aH gX (ff K (pv 3) ah) ak))))))))))))))))))))))))),?main⟩
 case k1=>exact tI
 case k2=>exact zV
 case r3=>
  rintro D0 σ H ⟨wp,T,ps,os,lf,rs,WH,j,vv,e7,e8,e9,jk,hS,ht,hj,LL,q⟩;obtain⟨Ow,hd9,_,Nv⟩:=AK j hj;obtain⟨⟨rest,O6⟩,Lq,_,Kh,_,Qp,_⟩:=jL j Ow;obtain⟨d,hi⟩:=hS.k j Ow;rw[O6] at hi Lq Nv;refine⟨_,e8,.inl ⟨rfl,_,bf.of hS.t⟩,_,jk,_,e9,rfl,_,jk,jY,fun t1 Kc=>?_⟩;have s1:=ae Kc (.tup [vv]);have a1:At K (WX H t1 (.tup [vv])) (.tup [aQ (8+j)]) (.ref t1):=At.new Kc (az.fu LL);have PZ:=At.same s1 _ _ LL;generalize WX H t1 (.tup [vv])=H1 at s1 a1 PZ ⊢;have JL:=hS.same s1;refine⟨_,e7,_,jk,jY,fun t2 o2 JS Nc=>?_⟩;have s2:au H1 (WX H1 t2 (.mB o2 (.tup [vv]))):=ae JS _;have a2:At K (WX H1 t2 (.mB o2 (.tup [vv]))) (.tup [aQ (8+j)]) (.ref t2):=At.De JS (az.fu PZ);have p2:DG (WX H1 t2 (.mB o2 (.tup [vv]))) (.ref t2):=⟨t2,o2,_,rfl,ao,Nc⟩;generalize WX H1 t2 (.mB o2 (.tup [vv]))=H2 at s2 a2 p2 ⊢;have LV:=JL.same s2;refine⟨wp,ps,os,eS,[],lf,.ref t2,8+j,rj j,rest,d,[],rfl,LV.w,hi,Lq,by omega,a2,p2,fun r3 H3 s3 a3=>⟨1,_,_,rfl,a3,rfl,fun vo Kf=>⟨_,rfl,_,Kf,fun r4 H4 s4 a4=>?_⟩⟩⟩;have a4:At K H4 (.tup (cutD (aQ (8+j)::rest.map aQ) (some ((1:Nat):Int)) none)) r4:=a4;rw[wy] at a4;have Lb:=(s2.trans s3).trans s4;refine⟨[aQ (8+j)],rest.map aQ,At.same Lb _ _ a1,a4,small (by rw[IU,Jy];rw[Jf] at Nv;omega),fun r5 H5 s5 a5=>⟨Er,fun a6 Pf=>?_⟩⟩;have Pr:=(s1.trans Lb).trans s5;have LU:=hS.same Pr;have s6:=ae Pf (.lst [.str "class",vv,.bj,.bl (!decide (V.str (rj j)=V.str "Thing")),r5]);have KU:=LU.same s6;refine⟨T,WH,.ref a6,rfl,rfl,KU.t,cm (by omega),q _ a6 ((au.eZ (Pr.trans s6)).trans ((bC.put _ _).eZ Sx.t)) (KU.push ?_ (LU.fresh Pf))⟩;refine⟨vv,.bj,r5,rj j,(8+j)::rest,d,[],?_,hi,At.same (Pr.trans s6) _ _ LL,rfl,ou fun m hm=>?_,At.same s6 _ _ a5,⟨_,rfl⟩,Lq,?_⟩
  ·rw[ao,<-O6,hd9,oC]
  ·rw[<-O6] at hm;obtain⟨h1,h2⟩:=Kh m hm;obtain⟨d2,e2⟩:=hS.k (m - 8) (by omega);rw[show 8+(m - 8)=m by omega] at e2;rw[e2];rfl
  ·have:∀j∈[0,1,3],∀n∈iX j,n<=8+j:=by decide +kernel
   rw[<-O6];exact this j hj
 case o7=>
  rintro D0 σ H ⟨w2,Ll,MZ,ln2,MB,t,se,Wd,hV,h7,q⟩;refine⟨_,se,rfl,_,rfl,bO (fun e=>?_) (fun e=>aY (q H Ll MB (au.oX (au.refl _)) hV (fun y=>Xc e (by rw[y];decide)) (fun _=>rfl)))⟩;have et:t=7:=by have:=Jl e;injection this
  have JY:=h7 et;subst JY;refine⟨_,Wd,_,Wd,w2,Ll,MZ,eS,ln2,_,"take",rfl,hV.w,.inl ⟨1,by decide +kernel,fun vk Mm=>⟨Jr _,fun t1 Kc=>?_⟩⟩⟩;have s1:=ae Kc (.tup []);refine(hV.same s1).take (At.same s1 _ _ Mm) (At.new Kc (bq.mpr rfl)) fun r2 H2 JK c2 hV2 a2=>?_;refine⟨eX,fun t3 JQ=>⟨eX,fun t4 JV=>?_⟩⟩;have s3:=ae JQ (.tup [.str "number",.int 5]);have s4:=s3.trans (ae JV (.tup [.str "value",.ref t3]));refine⟨eE (ic 5),eE (ic 5),At.same s4 _ _ a2,At.new JV (aZ (av.mpr rfl) (At.new JQ (aZ (av.mpr rfl) (bc.mpr rfl)))),by decide +kernel,_,rfl,?_⟩;rw[bo];exact aY (q _ JK [6] (((au.oX s1).trans c2).trans (au.oX s4)) (hV2.same s4) (fun _=>rfl) (fun y=>Xc et y))
 case dd=>
  rintro σ H Q ⟨t,m,se,KZ,q⟩;refine⟨_,se,_,_,rfl,rfl,_,rfl,bO (fun e=>q 0 fun _=>rfl) (fun e=>⟨_,KZ,_,_,rfl,rfl,cW,q _ fun h=>Xc (JH e) (by omega)⟩)⟩
 case d0=>
  rintro D0 σ H ⟨wp,T,lf,n,B,hf,ho,pn,xs,dd,m,e7,e8,e3,KZ,NH,hp,KC,N5,⟨ps,os,rs,WH,hS,hI,lo,lt,h1,h2,h3⟩,hn,hB,q⟩;refine⟨_,NH,rfl,_,rfl,bO (fun e=>?_) (fun e=>aY (q H (au.eZ (au.refl _)) ⟨ps,os,rs,WH,hS,hI,by omega,by omega,fun zz=>zz.elim h1 (fun y=>Xc e (by rw[y];decide)),h2,h3⟩))⟩;obtain⟨k,hk,Kg⟩:=gJ (a:=m / 7) (n:=12) (by decide);obtain⟨nm,Mo⟩:∃nm,xs[k]?=some nm:=⟨_,IM (by omega)⟩;have Qp:=N5 nm (IX Mo);have OI:j4 (xs.map V.str) (m / 7 % 12)=some (.str nm):=by
   rw[show(m / 7 % 12:Int)=(k:Int) from hk];refine aC ?_;rw[I0,Mo];rfl
  refine⟨_,e7,_,e8,_,KZ,_,_,rfl,rfl,⟨by decide,by decide⟩,_,e3,_,KZ,_,_,rfl,rfl,⟨by decide,by decide⟩,_,_,rfl,rfl,cW,pn,_,_,.str nm,rfl,rfl,bf.of hp,OI,wp,T,ps,os,[],lf,rs,WH,m / 3,nm,rfl,hS,by omega,Qp,by omega,fun H' JK g1 a1 c' Mv=>⟨_,rfl,aY (q H' c' ⟨JK,_,_,_,Mv,(hI.grow hS.r (fT.app _ _) (hI.kd.one (o:=.fn g1) (fun _ _ _ _ z=>nomatch z))).row (r:=.fn os.length) (fun _ _ z=>nomatch z) (fun _ z=>nomatch z),by rw[IJ];show _+1<=_;omega,by rw[IJ];show _+1<=_;omega,fun _=>oy (Jh _ II) (IL rfl),fun zz=>gA (h2 zz),gA h3⟩)⟩⟩
 case d1=>
  rintro D0 σ H ⟨wp,T,lf,n,B,hf,ho,pn,xs,dd,m,e7,e8,e3,KZ,NH,hp,KC,N5,⟨ps,os,rs,WH,hS,hI,lo,lt,h1,h2,h3⟩,hn,hB,q⟩;refine⟨_,NH,rfl,_,rfl,bO (fun e=>?_) (fun e=>aY (q H (au.eZ (au.refl _)) ((jh.mk ps os rs WH hS hI lo lt h1 h2 h3).mono (by omega) (by omega) id id)))⟩;obtain⟨k,hk,Kg⟩:=gJ (a:=m / 7) (n:=12) (by decide);obtain⟨nm,Mo⟩:∃nm,xs[k]?=some nm:=⟨_,IM (by omega)⟩;have Qp:=N5 nm (IX Mo);have OI:j4 (xs.map V.str) (m / 7 % 12)=some (.str nm):=by
   rw[show(m / 7 % 12:Int)=(k:Int) from hk];refine aC ?_;rw[I0,Mo];rfl
  refine⟨_,e7,_,e8,_,KZ,_,_,rfl,rfl,⟨by decide,by decide⟩,_,e3,_,KZ,_,_,rfl,rfl,⟨by decide,by decide⟩,_,_,rfl,rfl,cW,pn,_,_,.str nm,rfl,rfl,bf.of hp,OI,wp,T,ps,os,[],lf,rs,WH,B,m / 3,nm,rfl,hS,hI.kd,by omega,by omega,Qp,by omega,fun zz=>h3 (by rw[zz];rfl),hI.h8,fun H' JK LZ d' JM st' a1 c' Mv N3 sd' el'=>⟨_,rfl,aY (q H' c' ⟨JK,_,_,_,Mv,(hI.grow hS.r (fT.app _ _) N3).cls (fT.app _ _) bD el' sd',by rw[IJ];show _+1<=_;omega,by rw[IJ];show _+1<=_;omega,fun zz=>gA (h1 zz),fun zz=>gA (h2 zz),gA h3⟩)⟩⟩
 case d2=>
  rintro D0 σ H ⟨wp,T,lf,n,B,hf,ho,dd,m,t,e7,e8,se,KZ,NH,⟨ps,os,rs,WH,hS,hI,lo,lt,h1,h2,h3⟩,hn,hB,KD,hff,q⟩;have UR:(dd=2\/t=2)->∀Q':VK,(∀H',hZ c (Sx wp T) H H'->jh K c H' wp T lf (n+4) (B+1) hf (ho\/t=2)->Q' (.bl true) H')->zd K c [.ref wp.W,.ref T,.int (m / 3)] H Q' E0:=fun hdt Q' k=>by
   refine⟨wp,T,ps,os,[],lf,rs,WH,B,m / 3,rfl,hS,hI.kd,by omega,by omega,Jr _,KD,by omega,h3,h1 (hff hdt),fun H' JK JI NO c' Mv N3 l' lo'=>k H' c' ⟨JK,JI,_,NO,Mv,hI.lo hS.r N3 lo',by omega,?_,fun zz=>gA (h1 zz),fun _=>oy (Jh _ (IH _ II)) (IL rfl),gA h3⟩⟩;have z1:=Mv.r.len;have z2:=hS.r.len;rw[IJ] at z1;have z3:([Rw.cl os.length none,.ob (os.length+1),.mt (os.length+2),.vw (os.length+3)]:List Rw).length=4:=rfl;omega
  refine⟨_,NH,rfl,_,rfl,bO (fun e=>bE ⟨_,e7,_,e8,_,KZ,_,_,rfl,rfl,⟨by decide,by decide⟩,UR (.inl ?_) _ fun H' c' t'=>⟨_,rfl,aY (q H' c' t')⟩⟩) (fun _=>⟨_,se,rfl,_,rfl,bO (fun e=>⟨_,e7,_,e8,_,KZ,_,_,rfl,rfl,⟨by decide,by decide⟩,UR (.inr ?_) _ fun H' c' t'=>⟨_,rfl,aY (q H' c' t')⟩⟩) (fun e=>aY (q H (au.eZ (au.refl _)) ((jh.mk ps os rs WH hS hI lo lt h1 h2 h3).mono (by omega) (by omega) id fun zz=>zz.elim id fun y=>Xc e (by rw[y];decide))))⟩)⟩
  ·have:=Jl e;injection this
  ·have:=Jl e;injection this
 case main=>
  have JJ:∀(i:Int) (x:Str) r,([.int i]:List V)≠.str x::r:=fun i x r z=>nomatch z;refine⟨_,rfl,_,rfl,_,rfl,sc,_,rfl,RF,fun a ha=>?_⟩;obtain⟨ms,em,hm⟩:=yB ns (some 1) (some 40);rw[em];have s1:au H (WX H a (.lst (ms.map V.int))):=ae ha _;have a1:WX H a (.lst (ms.map V.int)) a=some (.lst (ms.map V.int)):=ao;generalize WX H a (.lst (ms.map V.int))=H1 at s1 a1 ⊢;refine⟨jY,fun b hb=>?_⟩;have nab:a≠b:=cE a1 hb;have s2:=s1.trans (ae hb (.lst [.int 0]));have a2:=ae hb (.lst [.int 0]) _ _ a1;have b2:WX H1 b (.lst [.int 0]) b=some (.lst [.int ((0:Nat):Int)]):=ao;generalize WX H1 b (.lst [.int 0])=H2 at s2 a2 b2 ⊢;refine⟨_,rfl,sc,ns,0,rfl,s2.seq RF,fun fi0=>⟨fi0,rfl,fun pn WW H3 s3 Qk RK KC N5=>?_⟩⟩;have a3:=s3 _ _ a2;have b3:=s3 _ _ b2;have AD:pn≠b:=cE Qk b2;refine⟨_,rfl,sc,ns,0,rfl,(s2.trans s3).seq RF,fun first=>?_⟩;clear s1 s2 s3 a1 a2 b2 Qk ha hb RF;obtain⟨N,hN,QS⟩:=n40 first
  refine⟨_,rfl,_,_,rfl,rfl,cW,_,rfl,_,_,rfl,rfl,cW,_,_,rfl,rfl,eX,fun l4 L6=>?_⟩;have s4:=ae L6 (.lst [.int (first % 4),.int (40 - first % 32)]);have e4:WX H3 l4 (.lst [.int (first % 4),.int (40 - first % 32)]) l4=some (.lst [.int (first % 4),.int (40 - first % 32)]):=ao;generalize WX H3 l4 (.lst [.int (first % 4),.int (40 - first % 32)])=H4 at s4 e4 ⊢;have a4:=s4 _ _ a3;have b4:=s4 _ _ b3;have p4:=s4 _ _ RK;have Uv:iE K H4 a b 0:=⟨⟨ms,bf.of a4,by omega⟩,nab,b4⟩;refine⟨_,rfl,_,_,rfl,rfl,⟨by decide,by decide⟩,_,_,rfl,rfl,cW,l4,_,_,.int (N:Nat),rfl,rfl,bf.of e4,QS,_,rfl,by omega,by omega,[.ref b,.ref a],⟨rfl,fun j i h=>?_⟩,rR (n:=((N:Nat):Int).toNat) (vs:=[.ref b,.ref a]) (fun D i ys H'=>bC b H4 H'/\H' b=some (.lst [.int ((i:Nat):Int)])/\H' D=some (.lst ys)/\∃fi:List Int,ys=fi.map V.int/\fi.length=i) (fun D hD=>⟨au.but b (ae hD _),ae hD _ _ _ b4,ao,[],rfl,rfl⟩) (fun D i ys H1 Q' hD hi hI k=>?_) (fun D i ys H1 hI=>?_) (by omega) fun F H5 ys R0 hI=>?_⟩
  ·match j,h with
   | 0,h=>cases h;exact⟨_,rfl,rfl⟩
   | 1,h=>cases h;exact⟨_,rfl,rfl⟩
   | j+2,h=>simp at h
  ·obtain⟨b1,Li,hD1,fi,rfl,Pa⟩:=hI;have nDb:D≠b:=cE hD b4;refine⟨_,rfl,_,rfl,a,b,i,rfl,Uv.go b1 Li,by omega,fun n H2 _ _ b2 QH=>⟨_,_,rfl,rfl,cW,_,_,rfl,rfl,k _ _ (b2 _ _ nDb hD1) ⟨fun p o hp e=>?_,?_,ao,fi++[n % 100 - 50],by rw[Jt];rfl,by rw[IJ,Pa];rfl⟩⟩⟩
   ·rw[aB (cE e hD)];exact b2 _ _ hp (b1 _ _ hp e)
   ·rw[aB (W3 nDb)];exact QH
  ·obtain⟨_,_,_,fi,rfl,Pa⟩:=hI;rw[IU];exact Pa
  obtain⟨b5,Pe,NG,fi,rfl,Pa⟩:=hI;have Df:F≠b:=cE R0 b4;have DW:a≠F:=cE a4 R0;have a5:=b5 _ _ nab a4;have p5:=b5 _ _ AD p4;have npF:pn≠F:=cE p4 R0;have Pa:fi.length<=40:=by omega
  clear s4 e4 a4 b4 p4 Uv a3 b3 RK b5 QS L6 R0;obtain⟨m0,RL,Pe⟩:∃m0:Nat,m0<=40/\H5 b=some (.lst [.int (m0:Nat)]):=⟨_,by omega,Pe⟩;refine⟨_,rfl,F,_,rfl,.inl (bf.of NG),fun hd O9=>?_⟩;have s6:=ae O9 (.lst (fi.map V.int));have e6:WX H5 hd (.lst (fi.map V.int)) hd=some (.lst (fi.map V.int)):=ao;have nhb:hd≠b:=cE O9 Pe;have nhF:hd≠F:=cE O9 NG;have nha:hd≠a:=cE O9 a5;have nhp:hd≠pn:=cE O9 p5;generalize WX H5 hd (.lst (fi.map V.int))=H6 at s6 e6 ⊢;refine⟨_,rfl,fun W dw hW OA Vg=>?_⟩;obtain⟨s7,c7⟩:=gu (C:=c.W) hW OA Vg;generalize WX (WX H6 dw (.own W)) W (.ins c.W dw [])=H7 at s7 c7 ⊢;have NV:=s6.trans s7;refine⟨W,dw,hd,fi,rfl,c7,bf.of (s7 _ _ e6),fun H8 pl pg pm pf ps ds Kj k8 nl ng nn nf w8=>⟨rfl,?_⟩⟩;have OX:au H6 H8:=fun p o e=>k8 p o (cE e hW) (s7 _ _ e);have Pq:=s6.trans OX;have nS:∀{p:Addr}{o:HO},H6 p=some o->p≠pl/\p≠pm/\p≠pf:=fun {p o} e=>⟨fun y=>(by rw[y] at e;rw[s7 _ _ e] at nl;cases nl),fun y=>(by rw[y] at e;rw[s7 _ _ e] at nn;cases nn),fun y=>(by rw[y] at e;rw[s7 _ _ e] at nf;cases nf)⟩;have e8:=OX _ _ e6;obtain⟨h1,h2,h3⟩:=nS e6;refine⟨_,rfl,.inl ⟨rfl,_,bf.of e8⟩,hd,_,.int 7,rfl,rfl,e8,cm (by rw[IU];omega),?_⟩;have w9:cG K c (WX H8 hd (.lst (fi.map V.int++[.int 7]))) ⟨W,pl,pg,pm,pf⟩ ps (bQ ds) eS [] fi:=w8.lst e8 (W3 h1) (W3 h2) (W3 h3);have b9:bC hd H8 (WX H8 hd (.lst (fi.map V.int++[.int 7]))):=bC.put _ _;have a9:=b9 _ _ (W3 nha) (Pq _ _ a5);have p9:=b9 _ _ (W3 nhp) (Pq _ _ p5);have RS:=b9 _ _ (W3 nhb) (Pq _ _ Pe);have RZ:=b9 _ _ (W3 nhF) (Pq _ _ NG);obtain⟨UL,UK,PK⟩:=nS (s6 _ _ a5);obtain⟨UH,UG,UE⟩:=nS (s6 _ _ p5);obtain⟨UJ,UI,PH⟩:=nS (s6 _ _ Pe);obtain⟨UO,UN,UM⟩:=nS (s6 _ _ NG);clear h1 h2 h3 nS e8 e6 Pq OX NV s7 s6 c7 k8 nl ng nn nf w8 O9 hW OA Vg a5 p5 Pe NG b9;generalize WX H8 hd (.lst (fi.map V.int++[.int 7]))=H9 at w9 a9 p9 RS RZ ⊢;refine⟨Jr _,fun T hT=>?_⟩;have J0:=ae hT (.lst []);have Sn:WX H9 T (.lst []) T=some (.lst []):=ao;generalize WX H9 T (.lst [])=Kq at J0 Sn ⊢;have nT:∀{p:Addr}{o:HO},H9 p=some o->p≠T:=fun e y=>by rw[y,hT] at e;cases e
  have sx:∀{p:Addr},p≠pl->p≠pm->p≠pf->p≠T->p∉Sx ⟨W,pl,pg,pm,pf⟩ T:=fun h1 h2 h3 h4 z=>by
   unfold Sx at z;simp only[List.mem_cons,List.not_mem_nil,or_false] at z;rcases z with z | z | z | z
   ·exact h1 z
   ·exact h2 z
   ·exact h3 z
   ·exact h4 z
  have T9:u6 K Kq ⟨W,pl,pg,pm,pf⟩ T a b pn F m0 WW fi:=⟨⟨⟨ms,bf.of (J0 _ _ a9),by omega⟩,nab,J0 _ _ RS⟩,sx UL UK PK (nT a9),sx UJ UI PH (nT RS),J0 _ _ p9,sx UH UG UE (nT p9),AD,J0 _ _ RZ,sx UO UN UM (nT RZ),Df,DW,⟨_,J0 _ _ a9⟩⟩;have Sh:gH K c Kq ⟨W,pl,pg,pm,pf⟩ T ps (bQ ds) [] fi [] []:=⟨w9.same J0,tU Kj,fun j hj=>ux hj,fun j hj=>lZ Kj hj,Sn,.nil,nT w9.t,nT w9.hn,nT w9.hf⟩;clear J0 Sn w9 a9 p9 RS RZ hT nT sx UL UK PK UJ UI PH UH UG UE UO UN UM;generalize U3:(⟨W,pl,pg,pm,pf⟩:Wp)=wp at T9 Sh;have eW:W=wp.W:=by rw[<-U3]
  subst eW;clear U3 nha nhF nhp nhb npF Df DW AD nab;refine⟨wD,fun LX Ks=>?_⟩;have JT:=ae Ks (.tup [.str "Thing",.str "Fault",.str "KindFault"]);have Mc:WX Kq LX (.tup [.str "Thing",.str "Fault",.str "KindFault"]) LX=some (.tup (([0,1,3]:List Nat).map fun j=>V.str (rj j))):=by rw[ao];rfl
  have Rn:=Sh.fresh Ks;generalize WX Kq LX (.tup [.str "Thing",.str "Fault",.str "KindFault"])=Sk at JT Mc ⊢;have Wk:=T9.same JT;have Wn:=Sh.same JT;refine⟨LX,rfl,⟨_,fh.of Mc⟩,ni (K:=K) (a:=LX) (xs:=([0,1,3]:List Nat).map fun j=>V.str (rj j)) (fun k σ H'=>(∃o9 Np,σ=[some (.ref sc),some (.ref a),some (.ref b),some (.ref pn),some (.int first),some (.ref F),some (.ref hd),some (.ref wp.W),some (.ref T),o9,Np,none,none,none,none,none,none])/\u6 K H' wp T a b pn F m0 WW fi/\H' LX=some (.tup (([0,1,3]:List Nat).map fun j=>V.str (rj j)))/\∃WH,gH K c H' wp T ps (bQ ds) [] fi ((([0,1,3]:List Nat).take k).map fun j=>Rw.cl (8+j) none) WH) ⟨⟨_,_,rfl⟩,Wk,Mc,[],Wn⟩ (fun i σ H' _ h=>fh.of h.2.2.1) ?t3 ?s3⟩
  case t3=>
   rintro k x σ Sj hk ⟨⟨o9,Np,rfl⟩,Q3,se,WH,NK⟩;rw[I0] at hk;obtain⟨j,hj⟩:∃j,([0,1,3]:List Nat)[k]?=some j:=by
    cases h:([0,1,3]:List Nat)[k]? with
    | none=>rw[h] at hk;cases hk
    | some j=>exact⟨j,rfl⟩
   rw[hj] at hk;injection hk with hk;rw[<-hk];have Vn:=IX hj;obtain⟨Ow,_,hjg,_⟩:=AK j Vn;have hl12:=NK.r.len;rw[IU,W6] at hl12;have h3l:([0,1,3]:List Nat).length=3:=rfl;refine⟨_,rfl,_,rfl,wp,ps,bQ ds,eS,[],fi,rj j,rfl,NK.w,.inl ⟨8+j,hjg,fun vv LL=>?_⟩⟩;refine⟨wp,T,ps,bQ ds,fi,_,WH,j,vv,rfl,rfl,rfl,rfl,NK,by omega,Vn,LL,fun Q8 a13 OQ Sg=>⟨⟨_,_,rfl⟩,Q3.eZ OQ,OQ _ _ se Rn (fun _ _ z=>nomatch z),WH++[.ref a13],?_⟩⟩;rw[List.take_add_one,hj,Jt];exact Sg
  rintro σ Sj ⟨⟨o9,Np,rfl⟩,Q3,_,WH,NK⟩;have NK:gH K c Sj wp T ps (bQ ds) [] fi DU WH:=NK;clear T9 Wk Sh Wn JT Mc Rn Ks;refine⟨wD,fun PQ Ou=>?_⟩;have LB:=ae Ou (.lst [.str "say",.str "isa",.str "take"]);have KZ:WX Sj PQ (.lst [.str "say",.str "isa",.str "take"]) PQ=some (.lst (([("say":Str),"isa","take"]).map V.str)):=ao;have PJ:PQ≠b:=cE Ou Q3.sp.qR;generalize WX Sj PQ (.lst [.str "say",.str "isa",.str "take"])=Q8 at LB KZ ⊢;have Q2:=Q3.same LB;have Sg:=NK.same LB;refine⟨_,rfl,_,rfl,a,b,m0,rfl,Q2.sp,by omega,fun UP Q7 _ _ OS OH=>?_⟩;have Wj:=Q2.go OS OH;have OU:=Sg.but Q2.sp.qR (JJ _) Q2.nb OS OH;obtain⟨Rv,hk14,Nz⟩:=gJ (a:=UP) (n:=3) (by decide);have w3:∀k,k < 3->([("say":Str),"isa","take"]).getD k ""∈GS.kq:=by decide +kernel
  have Nr:=w3 Rv Nz;refine⟨_,_,rfl,rfl,cW,PQ,_,_,.str (([("say":Str),"isa","take"]).getD Rv ""),rfl,rfl,bf.of (OS _ _ PJ KZ),?_,?_⟩
  ·show j4 _ (UP % ((3:Nat):Int))=_;rw[hk14];refine aC ?_;rw[I0,IP,IM (show Rv < ([("say":Str),"isa","take"]).length from Nz)];rfl
  generalize ([("say":Str),"isa","take"]).getD Rv ""=wd at Nr;obtain⟨ig,Ti,higm,hign⟩:=uL Nr;have Kp:(bQ ds)[ig]?=some (.kL wd):=by rw[OU.g ig Ti,hign]
  clear Q3 Q2 NK Sg LB KZ PJ OS OH Ou;refine⟨_,rfl,.inl ⟨rfl,_,bf.of OU.t⟩,_,rfl,_,rfl,wp,ps,bQ ds,eS,[],fi,wd,rfl,OU.w,.inl ⟨ig,higm,fun vg RC=>⟨_,rfl,wD,fun Pk OL=>?_⟩⟩⟩;have K0:=ae OL (.lst [.str "given",vg,.str wd]);have Ug:=OU.same K0;have JQ:=OU.r.len;have Ue:=Ug.push (a:=Pk) (r:=.gv ig wd) ⟨vg,ao,Kp,Nr,At.same K0 _ _ RC⟩ (OU.fresh OL);have T8:u6 K (WX (WX Q7 Pk (.lst [.str "given",vg,.str wd])) T (.lst (WH++[.ref Pk]))) wp T a b pn F (m0+1) WW fi:=(Wj.same K0).eZ (c:=c) ((bC.put _ _).eZ Sx.t);refine⟨T,WH,.ref Pk,rfl,rfl,Ug.t,cm (by rw[JQ];decide),?_⟩;generalize WX (WX Q7 Pk (.lst [.str "given",vg,.str wd])) T (.lst (WH++[.ref Pk]))=H16 at Ue T8 ⊢;have Wm:jh K c H16 wp T fi 0 4 False False:=⟨ps,bQ ds,_,_,Ue,(FX Kj).row (fun _ _ z=>nomatch z) (fun _ z=>nomatch z),by rw[mZ (by omega),Kj];decide,by rw[IJ,JQ];show 3+1<=4;decide,fun z=>z.elim,fun z=>z.elim,oy (r:=.cl 8 none) (Jg _ II) rfl⟩;clear OU Ug Ue K0 Wj OL RC JQ;refine⟨_,rfl,by decide,by decide,iZ (lo:=0) (n:=9) (fun k σ H'=>(∃o9 Np o11 PD Rl Rk,σ=[some (.ref sc),some (.ref a),some (.ref b),some (.ref pn),some (.int first),some (.ref F),some (.ref hd),some (.ref wp.W),some (.ref T),o9,Np,o11,PD,Rl,Rk,none,none])/\∃m,u6 K H' wp T a b pn F m WW fi/\m<=41+k/\jh K c H' wp T fi (6*k) (4+2*k) (1<=k) (3<=k)) ⟨⟨_,_,_,_,_,_,rfl⟩,m0+1,T8,by omega,Wm.mono (IW _) (IW _) (fun z=>Xc z (by decide)) (fun z=>Xc z (by decide))⟩ ?t9 ?s9⟩
  case t9=>
   rintro k σ Wt hk ⟨⟨o9,Np,o11,PD,Rl,Rk,rfl⟩,m,MU,hm17,T17⟩;refine⟨_,rfl,_,rfl,a,b,m,rfl,MU.sp,by omega,fun PL H18 _ _ Pj LQ=>?_⟩;have Wi:=MU.go Pj LQ;have T18:=T17.but MU.sp.qR (JJ _) MU.nb Pj LQ;refine⟨0+(k:Int),PL,rfl,rfl,fun dd Ni=>?_⟩;refine⟨wp,T,fi,6*k,4+2*k,1<=k,3<=k,pn,WW,dd,PL,rfl,rfl,rfl,rfl,rfl,Wi.hp,KC,N5,T18,by omega,by omega,fun Uj c19 T19=>?_⟩;have Q1:=Wi.eZ c19;refine⟨wp,T,fi,6*k+1,4+2*k,_,3<=k,pn,WW,dd,PL,rfl,rfl,rfl,rfl,rfl,Q1.hp,KC,N5,T19,by omega,by omega,fun H20 c20 T20=>?_⟩;refine⟨wp,T,fi,6*k+1+1,4+2*k+1,_,3<=k,dd,PL,0+(k:Int),rfl,rfl,rfl,rfl,rfl,T20,by omega,by omega,by omega,fun hz=>?_,fun OW c21 T21=>⟨⟨_,_,_,_,_,_,rfl⟩,m+1,(Q1.eZ c20).eZ c21,by omega,T21.mono (by omega) (by omega) (fun _=>?_) (fun z=>?_)⟩⟩
   ·rcases hz with h | h
    ·by_cases Kg:k < 2
     ·exact .inr (Ni (by omega))
     ·exact .inl (by omega)
    ·exact .inl (by omega)
   ·by_cases Kg:k < 2
    ·exact .inr (Ni (by omega))
    ·exact .inl (by omega)
   ·by_cases Kg:3<=k
    ·exact .inl Kg
    ·exact .inr (by omega)
  rintro σ Wt ⟨⟨o9,Np,o11,PD,Rl,Rk,rfl⟩,m,MU,hm17,⟨Pw,Py,rs,WH,Ud,Wo,lo17,lt17,_,Nw,_⟩⟩;have LH:rs.filter iY≠[]:=Nw (by decide);clear T8 Wm Nw;refine⟨_,rfl,.inl ⟨rfl,_,bf.of Ud.t⟩,_,rfl,_,rfl,a,b,m,rfl,MU.sp,by omega,fun PL H18 _ _ Pj LQ=>⟨_,rfl,fun Sa Ra Uj QR NX P6=>?_⟩⟩;have Uc:=(Ud.but MU.sp.qR (JJ _) MU.nb Pj LQ).same NX;have Q1:=(MU.go Pj LQ).same NX;refine⟨eX,fun NI OK=>?_⟩;have Ri:=ae OK (.lst [.str "plain",Ra]);have Ub:=Uc.same Ri;have Q5:=Ub.push (a:=NI) (r:=.pl Sa) ⟨Ra,ao,QR,At.same Ri _ _ P6⟩ (Uc.fresh OK);have NJ:u6 K (WX (WX Uj NI (.lst [.str "plain",Ra])) T (.lst (WH++[.ref NI]))) wp T a b pn F (m+1) WW fi:=(Q1.same Ri).eZ (c:=c) ((bC.put _ _).eZ Sx.t);refine⟨T,WH,.ref NI,rfl,rfl,Ub.t,cm (by omega),?_⟩;have OV:=Wo.row (r:=.pl Sa) (fun _ _ z=>nomatch z) (fun _ z=>nomatch z);have LH:=gA (r:=[.pl Sa]) LH;have PM:(WH++[V.ref NI]).length<=60:=by rw[IJ];show _+1<=_;omega
  revert Q5 NJ OV LH PM;generalize WX (WX Uj NI (.lst [.str "plain",Ra])) T (.lst (WH++[.ref NI]))=OW;generalize WH++[V.ref NI]=Sl;generalize rs++[Rw.pl Sa]=Pt;intro Q5 NJ OV LH PM;clear Ud Uc Ub NX Ri MU Q1 Wo Pj LQ P6 QR OK;intro sd RE;refine⟨Jr _,fun L hL=>?_⟩;have nLsd:sd≠L:=cE ao hL;have MQ:OW L=none:=by rw[aB (W3 nLsd)] at hL;exact hL
  refine⟨_,rfl,_,rfl,by rw[aB nLsd];exact ao,[(.inr "lines",.ref L),(.inr "left",.ref F),(.inr "there",.ref T)],rfl,by show 3<=15;decide,?_⟩;have Rh:au OW (WX (WX (WX OW sd (.dK [])) L (.lst [])) sd (.dK (eL [] [(.inr "lines",.ref L),(.inr "left",.ref F),(.inr "there",.ref T)]))):=fun p o e=>by
   have h1:p≠sd:=cE e RE;have h2:p≠L:=cE e MQ;rw[aB h1,aB h2,aB h1];exact e
  have T2:WX (WX (WX OW sd (.dK [])) L (.lst [])) sd (.dK (eL [] [(.inr "lines",.ref L),(.inr "left",.ref F),(.inr "there",.ref T)])) sd=some (.dK (eL [] [(.inr "lines",.ref L),(.inr "left",.ref F),(.inr "there",.ref T)])):=ao;have Rr:WX (WX (WX OW sd (.dK [])) L (.lst [])) sd (.dK (eL [] [(.inr "lines",.ref L),(.inr "left",.ref F),(.inr "there",.ref T)])) L=some (.lst []):=by rw[aB (W3 nLsd)];exact ao
  generalize WX (WX (WX OW sd (.dK [])) L (.lst [])) sd (.dK (eL [] [(.inr "lines",.ref L),(.inr "left",.ref F),(.inr "there",.ref T)]))=Si at Rh T2 Rr ⊢;have Lw:=NJ.same Rh;have Ua:=Q5.same Rh;have nLx:=Q5.fresh MQ;have AF:L≠F:=cE MQ NJ.hF;have UB:=(Ua.r.add (L:=F) (fun x r e=>by rw[Lw.hF] at e;injection e with e;injection e with e;cases hq:fi with | nil=>rw[hq] at e;cases e | cons a b=>rw[hq] at e;cases e)).add (L:=L) (fun x r e=>by rw[Rr] at e;injection e with e;injection e with e;cases e);have T7:jU K c Si wp T Pw Py [] fi Pt Sl sd L F [] fi:=⟨Ua,UB,⟨_,T2,rfl,rfl,rfl⟩,Rr,Lw.hF,nLx,Lw.nF,AF⟩;have naL:a∉L::F::Sx wp T:=fun zz=>by
   rcases Jv.mp zz with y | zz
   ·obtain⟨zs,e⟩:=NJ.ha;rw[y,MQ] at e;cases e
   ·rcases Jv.mp zz with y | zz
    ·exact Lw.DW y
    ·exact Lw.na zz
  have nbL:b∉L::F::Sx wp T:=fun zz=>by
   rcases Jv.mp zz with y | zz
   ·have e:=NJ.sp.qR;rw[y,MQ] at e;cases e
   ·rcases Jv.mp zz with y | zz
    ·exact Lw.Df y.symm
    ·exact Lw.nb zz
  have npL:pn∉b::L::F::Sx wp T:=fun zz=>by
   rcases Jv.mp zz with y | zz
   ·exact Lw.AD y
   ·rcases Jv.mp zz with y | zz
    ·have e:=NJ.hp;rw[y,MQ] at e;cases e
    ·rcases Jv.mp zz with y | zz
     ·have e:=Lw.hp;rw[y,Lw.hF] at e;injection e with e;injection e with e;have hl:=Xd List.length e;rw[IU,IU,KC] at hl;cases hq:fi with
      | nil=>rw[hq] at hl;cases hl
      | cons i0 r0=>
       cases RI:WW with
       | nil=>rw[RI] at KC;cases KC
       | cons s0 r1=>rw[hq,RI] at e;cases e
     ·exact Lw.np zz
  have NU:=Lw.sp;have Oh:=Lw.hp;have hA22:=Lw.ha;clear NJ Q5 Rh T2 Rr UB Ua hL MQ RE nLsd Lw;refine⟨eX,fun Rq Qw=>?_⟩;have OZ:=ae Qw (.lst [.int 5,.int 6]);have TY:WX Si Rq (.lst [.int 5,.int 6]) Rq=some (.lst (([5,6]:List Int).map V.int)):=ao;generalize WX Si Rq (.lst [.int 5,.int 6])=Ws at OZ TY ⊢;intro W2 T1 NF QB Qn;obtain⟨NW,T5⟩:=gu (C:=c.W) NF QB Qn;generalize WX (WX Ws T1 (.own W2)) W2 (.ins c.W T1 [])=H24 at NW T5 ⊢;refine⟨W2,T1,Rq,[5,6],rfl,T5,bf.of (NW _ _ TY),fun Ui ql qg qn qf Ll QY QC U1 PF ng2 SG SH Up=>⟨rfl,?_⟩⟩;have Uz:au Ws Ui:=fun p o e=>U1 p o (cE e NF) (NW _ _ e);have Lz:=OZ.trans Uz;have fr:∀{p:Addr}{o:HO},Si p=some o->p≠ql/\p≠qn/\p≠qf:=fun {p o} e=>⟨fun y=>(by rw[y] at e;rw[NW _ _ (OZ _ _ e)] at PF;cases PF),fun y=>(by rw[y] at e;rw[NW _ _ (OZ _ _ e)] at SG;cases SG),fun y=>(by rw[y] at e;rw[NW _ _ (OZ _ _ e)] at SH;cases SH)⟩;have V25:kN K c Ui ⟨W2,ql,qg,qn,qf⟩ Ll (bQ QY) [] [5,6]:=kN.new QC Up (by decide);have nql:∀p∈b::L::F::Sx wp T,p≠ql/\p≠qn/\p≠qf:=fun p hp=>by
   rcases Jv.mp hp with rfl | hp
   ·exact fr NU.qR
   ·obtain⟨xs,e⟩:=T7.sx p hp;exact fr e
  obtain⟨zsA,eA⟩:=hA22;obtain⟨fa1,fa2,fa3⟩:=fr eA;obtain⟨V1,V0,VZ⟩:=fr Oh;have Y25:=T7.same Lz;have sp25:iE K Ui a b (m+1):=NU.eZ (c:=c) (S:=[]) (au.eZ Lz) (by simp) (by simp);have hp25:=Lz _ _ Oh;have kd25:=OV;clear T7 NU Oh eA Lz Uz NW OZ TY T5 U1 PF ng2 SG SH Up fr Qw NF QB Qn;obtain⟨nG,nK⟩:=z.ne;have nLs:∀{S:List Addr},(∀p∈S,p∈b::L::F::Sx wp T)->ql∉S/\qn∉S/\qf∉S:=fun hs=>⟨fun zz=>(nql _ (hs _ zz)).1 rfl,fun zz=>(nql _ (hs _ zz)).2.1 rfl,fun zz=>(nql _ (hs _ zz)).2.2 rfl⟩;obtain⟨x1,x2,x3⟩:=nLs (S:=L::F::Sx wp T) (fun p hp=>IH _ hp);obtain⟨y1,y2,y3⟩:=nLs (S:=b::L::F::Sx wp T) (fun p hp=>hp);have PH:b∉([ql,qn,qf]:List Addr):=fun zz=>by
   obtain⟨h1,h2,h3⟩:=nql b II;simp only[List.mem_cons,List.not_mem_nil,or_false] at zz;rcases zz with y | y | y
   ·exact h1 y
   ·exact h2 y
   ·exact h3 y
  have PK:a∉([ql,qn,qf]:List Addr):=fun zz=>by
   simp only[List.mem_cons,List.not_mem_nil,or_false] at zz;rcases zz with y | y | y
   ·exact fa1 y
   ·exact fa2 y
   ·exact fa3 y
  refine⟨_,rfl,by decide,by decide,iZ (lo:=0) (n:=16) (fun k σ H'=>(∃PD,σ=[some (.ref sc),some (.ref a),some (.ref b),some (.ref pn),some (.int first),some (.ref F),some (.ref hd),some (.ref wp.W),some (.ref T),o9,Np,o11,PD,Rl,Rk,some (.ref sd),some (.ref W2)])/\(∃ps os ln lf m',jU K c H' wp T ps os ln lf Pt Sl sd L F ln lf/\iE K H' a b m'/\m'<=100+10*k/\jj os (4+2*9)/\DJ os Pt/\DL os Pt/\os.length<=80+2*k/\ln.length<=k/\lf.length<=40)/\H' pn=some (.lst (WW.map V.str))/\∃Ll,kN K c H' ⟨W2,ql,qg,qn,qf⟩ Ll (bQ QY) (yU k) (GO k)) ⟨⟨_,rfl⟩,⟨Pw,Py,[],fi,m+1,Y25,sp25,by omega,OV.kd,OV.or,OV.ob,by omega,Jr _,Pa⟩,hp25,Ll,V25⟩ ?t16 ?Ss⟩
  case t16=>
   rintro k σ Wr hk ⟨⟨o12',rfl⟩,⟨NZ,N0,N2,M0,UQ,Pm,NT,hm26,PU,Pz,PB,lo26,ll26,lf26'⟩,Og,Pu,Q4⟩;refine⟨_,rfl,_,rfl,_,rfl,_,rfl,wp,T,NZ,N0,N2,M0,Pt,Sl,sd,L,F,4+2*9,a,b,UQ,rfl,Pm,NT,naL,nbL,by omega,PU,OV.st,Pz,PB,LH,by omega,by omega,by omega,by omega,fun Q6 ps27 os27 PN lf27 m27 Wf Q0 sp27 hm27 PR lo27 kd27 ll27 lf27'=>⟨_,rfl,aY ?_⟩⟩;have hS26:∀p∈b::L::F::Sx wp T,∃xs,Wr p=some (.lst xs):=fun p hp=>by
    rcases Jv.mp hp with rfl | hp
    ·exact⟨_,NT.qR⟩
    ·exact Pm.sx p hp
   have Wl:=Q4.keep QC nG nK nW hS26 y1 y2 y3 Wf;have hp27:=Wf _ _ Og npL (fun _ _ z=>nomatch z);obtain⟨dx27,hW27⟩:=Q0.s.w.wo;refine⟨_,rfl,wp.W,c.W,dx27,_,_,rfl,hW27,z.wc,z.w1,kQ ..,_,rfl,sd,.ref L,rfl,Q0.t.1,wp.n,L,_,_,PN.map GS.D.str,rfl,rfl,bf.of Q0.s.w.hn,bf.of Q0.hL,jT _,jT _,IV (rM _) (by decide),_,rfl,aY ?_⟩;refine⟨⟨W2,ql,qg,qn,qf⟩,Pu,bQ QY,yU k,GO k,0+(k:Int),rfl,rfl,Wl,fun y=>?_,fun Wq ps28 lf28 T4 Sf g1 g2=>?_⟩
   ·have:k=7:=by omega
    rw[this];rfl
   have Md:=Q0.other Wl x1 x2 x3 T4;have sp28:=sp27.eZ (T4.Gh (c:=c)) PK PH;have Na:=T4 _ _ hp27 V1 V0 VZ;have elf:lf28=GO (k+1):=by
    by_cases hk7:k=7
    ·rw[g1 (by omega),hk7];rfl
    ·rw[g2 (by omega)];unfold GO;by_cases Vm:k<=7
     ·rw[IZ Vm,IZ (by omega)]
     ·rw[IY Vm,IY (by omega)]
   rw[elf] at Sf;refine⟨_,rfl,_,rfl,⟨W2,ql,qg,qn,qf⟩,ps28,bQ QY,eS,yU k,_,"say",rfl,Sf.w,.inl ⟨0,by decide +kernel,fun vk Mm=>⟨_,rfl,eX,fun Sm Qc=>⟨jY,fun t30 Qb=>?_⟩⟩⟩⟩;have s29:=ae Qc (.tup [.str "number",.int (0+(k:Int))]);have a29:At K (WX Wq Sm (.tup [.str "number",.int (0+(k:Int))])) (ic (k:Int)) (.ref Sm):=At.new Qc (aZ (av.mpr rfl) (bc.mpr (by rw[Int.zero_add])));have OY:=s29.trans (ae Qb (.tup [.ref Sm]));refine(Sf.same OY).say (d:=ic (k:Int)) (by unfold yU;rw[IU,List.length_range];omega) (At.same OY _ _ Mm) (At.new Qb (az.fu a29)) (.nu _ (rq (by omega))) fun r31 H31 ps31 T3 V31=>?_;have Y30:=Md.same OY;have Y31:=Y30.other (Sf.same OY) x1 x2 x3 T3;have sp31:=(sp28.eZ (c:=c) (S:=[]) (au.eZ OY) (by simp) (by simp)).eZ (T3.Gh (c:=c)) PK PH;refine⟨⟨_,rfl⟩,⟨ps27,os27,PN,lf27,m27,Y31,sp31,by omega,kd27,Pz.kp Pm.s.r PR,PB.kp Pm.s.r PR,by omega,by omega,by omega⟩,T3 _ _ (OY _ _ Na) V1 V0 VZ,ps31,?_⟩;have etx:yU k++[jX (bQ QY) (ic (k:Int))]=yU (k+1):=by
    unfold yU;rw[List.range_succ,Jt,sk];rfl
   rw[<-etx];exact V31
  rintro σ Wr ⟨⟨o12',rfl⟩,⟨NZ,N0,N2,M0,UQ,Pm,NT,_,PU,_,_,lo26,ll26,lf26'⟩,Og,Pu,Q4⟩;obtain⟨R8,NF⟩:=Q4.w.wo;have Lh:=Q4.w.hn;have hf2:=Q4.w.hf;refine⟨_,rfl,W2,c.W,R8,_,_,rfl,NF,z.wc,z.w1,kQ ..,_,rfl,by decide,by decide,[],⟨rfl,fun j i h=>by simp at h⟩,cq (vs:=[]) (tc:=gx) 16 (fun i=>V.int (0+(i:Int))) (fun _=>true) (fun i v H'=>At K H' (.str (DT (.int ((i:Nat):Int)))) v) (fun _ _ _ _ s z=>At.same s _ _ z) (by decide) og sY qe (fun i H2 Q' hi s2 k=>k H2 (au.refl _)) (fun i H1 D l' Q' hi _ s1 _ KI k=>?_) fun D Q6 ys hD Sr hl27 hP=>?_⟩
  ·refine⟨_,rfl,_,rfl,.inl ⟨_,rfl,?_⟩,k _ _ (au.refl _) (av.mpr ?_)⟩
   ·rw[Int.zero_add];exact rq (by omega)
   ·rw[Int.zero_add]
  have KW:=(hP.mono (fun i v z=>At.same (du Q6 D) _ _ z)).at
  rw[JF.mpr (fun _ _=>rfl)] at KW;have KW:az K Q6 ((yU 16).map GS.D.str) ys:=by
   unfold yU;rw[List.map_map];exact KW
  refine⟨qn,D,_,ys,(yU 16).map GS.D.str,rfl,rfl,bf.of (Sr _ _ Lh),bf.of hl27,jT _,KW,IV (rM _) (by decide),_,rfl,aY ?_⟩;refine⟨_,rfl,W2,c.W,R8,_,_,rfl,Sr _ _ NF,z.wc,z.w2,kS ..,jY,fun Rp hl28=>?_⟩;have Uy:=ae hl28 (.lst [.int 6]);have Wa:WX Q6 Rp (.lst [.int 6]) Rp=some (.lst [.int 6]):=ao;generalize WX Q6 Rp (.lst [.int 6])=Wq at Uy Wa ⊢;have Mf:=Sr.trans Uy;refine⟨qf,Rp,_,_,[.int 6],rfl,rfl,bf.of (Mf _ _ hf2),bf.of Wa,az.fu (bc.mpr rfl),az.fu (bc.mpr rfl),by decide +kernel,_,rfl,aY ?_⟩;have Md:=Pm.same Mf;have Na:=Mf _ _ Og;obtain⟨dx28,hW28⟩:=Md.s.w.wo;obtain⟨MA,nr,Qo⟩:∃MA nr,WW=MA::nr:=by
   cases hq:WW with
   | nil=>rw[hq] at KC;cases KC
   | cons s0 r1=>exact⟨s0,r1,rfl⟩
  have Qp:=N5 MA (by rw[Qo];exact II);rw[Qo] at Na;refine⟨_,rfl,wp.W,c.W,dx28,_,_,rfl,hW28,z.wc,z.w2,kS ..,_,rfl,sd,.ref F,rfl,Md.t.2.1,wp.f,F,_,_,M0.map GS.D.int,rfl,rfl,bf.of Md.s.w.hf,bf.of Md.hF,i3 _,i3 _,IV (rP _) (by decide),_,rfl,bE ?_⟩;refine⟨_,rfl,_,rfl,sd,.ref F,rfl,Md.t.2.1,_,rfl,_,rfl,pn,_,_,.str MA,rfl,rfl,bf.of Na,aC (j:=0) rfl,_,_,rfl,rfl,small (by show MA.length+1<=_;omega),wp,NZ,N0,N2,M0,F,first,MA++("q":Str),rfl,⟨Md.s.w,Md.s.o,Md.s.g 0 (by decide),Md.s.g 1 (by decide),by omega,by omega,by omega⟩,bf.of Md.hF,by omega,HZ,q⟩
end
def bh (K:Fg06) (mg:Str->Option Value) (name:Str) (st:Stmt):Prop:=∃f fd,mg name=some (.ref f)/\eg K name name st f fd
theorem fun_at9 {K h mg name st f oc od an osl kV doc pm WK ct}(X:K.In h) (G:h.Ns mainGlobals mg)
  (a:PySem.W.nsIn K mainGlobals name=some (some (.ref f))) (l:K.lookup f=some ⟨oc,od,.func (PySem.W.fnOf name name (gP st) (gN st) (aw st) .none kV doc pm an WK ct),osl⟩)
  (c:PySem.W.codeIn K WK name=true) (k:PySem.W.keepIn K (.ref f)=true):bh K mg name st:=⟨f,_,PySem.W.mg_of X G a,yp l c k⟩
def fm (K:Fg06) (mg:Str->Option Value) (name WL:Str) (st:Stmt) (C:Addr):Prop:=∃f fd,mg name=some (.ref C)/\Mk K C f/\eg K "__init__" WL st f fd
theorem ini_at9 {K h mg name WL st C f oc od an osl kV doc pm WK ct}(X:K.In h) (G:h.Ns mainGlobals mg)
  (a:PySem.W.nsIn K mainGlobals name=some (some (.ref C))) (m:Mk K C f) (l:K.lookup f=some ⟨oc,od,.func (PySem.W.fnOf "__init__" WL (gP st) (gN st) (aw st) .none kV doc pm an WK ct),osl⟩) (cc:PySem.W.codeIn K WK WL=true) (k:PySem.W.keepIn K (.ref f)=true):fm K mg name WL st C:=
 ⟨f,_,PySem.W.mg_of X G a,m,yp l cc k⟩
structure Cz (K:Fg06) (mg:Str->Option Value) (c:cF):Prop where
 z:iT K c
 nW:c.W≠c.Gr
 iF:fm K mg "Function" "Function.__init__" zA c.F
 iG:fm K mg "Given" "Given.__init__" zx c.G
 iM:fm K mg "Method" "Method.__init__" zu c.M
 iK:fm K mg "Kind" "Kind.__init__" zv c.Kd
 iO:fm K mg "Object" "Object.__init__" zt c.O
 iR:fm K mg "Giver" "Giver.__init__" zy c.Gr
 iV:fm K mg "View" "View.__init__" zr c.Vw
 iW:fm K mg "World" "World.__init__" GL c.W
theorem cz_at {K mg F G M Kd O R Vw W}(jF:fm K mg "Function" "Function.__init__" zA F) (jG:fm K mg "Given" "Given.__init__" zx G) (jM:fm K mg "Method" "Method.__init__" zu M) (jK:fm K mg "Kind" "Kind.__init__" zv Kd) (jO:fm K mg "Object" "Object.__init__" zt O) (jR:fm K mg "Giver" "Giver.__init__" zy R) (jV:fm K mg "View" "View.__init__" zr Vw) (jW:fm K mg "World" "World.__init__" GL W) (z:iT K ⟨F,G,M,Kd,O,R,Vw,W⟩) (nW:W≠R):∃c,Cz K mg c:=⟨⟨F,G,M,Kd,O,R,Vw,W⟩,z,nW,jF,jG,jM,jK,jO,jR,jV,jW⟩
def nH:List Str->List Value->Bool
 | [],[]=>true
 | x::xs,.str y _::vs=>x == y&&nH xs vs
 | _,_=>false
def vM (K:Fg06):Value->Option (List Value)
 | .ref a=>match K.lookup a with
  | some ⟨.type "tuple",_,.seq WJ _,_⟩=>if WJ.size<=sizeLine then some WJ.toList else none
  | _=>none
 | _=>none
def ub (K:Fg06) (xs:List Str) (v:Value):Bool:=match vM K v with
 | some vs=>nH xs vs
 | none=>false
def xI (K:Fg06) (x:Str×List Str) (v:Value):Bool:=match vM K v with
 | some [.str y _,u]=>x.1 == y&&ub K x.2 u
 | _=>false
def lX (K:Fg06):List (Str×List Str)->List Value->Bool
 | [],[]=>true
 | x::xs,v::vs=>xI K x v&&lX K xs vs
 | _,_=>false
def xG (K:Fg06) (xs:List (Str×List Str)) (v:Value):Bool:=match vM K v with
 | some vs=>lX K xs vs
 | none=>false
theorem nc {K v vs}(h:vM K v=some vs):∃a,v=.ref a/\∀H us,WY us vs->fh K H a us:=by
 unfold vM at h;split at h
 ·rename_i a;refine⟨a,rfl,fun H us r=>?_⟩;split at h
  ·rename_i d WJ n sl hl;split at h
   ·rename_i hz;injection h with h;exact .inr ⟨_,WJ,n,hl,rfl,rfl,hz,by rw[h];exact r⟩
   ·cases h
  ·cases h
 ·cases h
theorem qP {K:Fg06}:∀{xs:List Str}{vs:List Value},nH xs vs=true->WY (xs.map V.str) vs
 | [],[],_=>.nil
 | [],_::_,h=>by simp[nH] at h
 | x::xs,[],h=>by simp[nH] at h
 | x::xs,v::vs,h=>by
  cases v with
  | str y t=>
   rw[nH,Xb] at h;exact .cons ⟨t,by rw[eq_of_beq h.1]⟩ (qP (K:=K) h.2)
  | _=>simp[nH] at h
theorem nB {K H}:∀(xs:List Str),az K H (xs.map D.str) (xs.map V.str)
 | []=>bq.mpr rfl
 | x::xs=>ba.mpr ⟨_,_,rfl,av.mpr rfl,nB xs⟩
theorem qM {K:Fg06}{xs:List Str}{v:Value}(h:ub K xs v=true):∃a,v=.ref a/\∀H,fh K H a (xs.map V.str):=by
 unfold ub at h;split at h
 ·rename_i vs e;obtain⟨a,rfl,q⟩:=nc e;exact⟨a,rfl,fun H=>q H _ (qP (K:=K) h)⟩
 ·cases h
theorem xH {K:Fg06}{x:Str×List Str}{v:Value}(h:xI K x v=true):∃a,v=.ref a/\∀H,At K H (.tup [.str x.1,.tup (x.2.map D.str)]) (.ref a):=by
 unfold xI at h;split at h
 ·rename_i y t u e;rw[Xb] at h;obtain⟨a,rfl,q⟩:=nc e;obtain⟨b,rfl,q2⟩:=qM h.2;refine⟨a,rfl,fun H=>aX.mpr ⟨a,[.str x.1,.ref b],rfl,q H _ (.cons ⟨t,by rw[eq_of_beq h.1]⟩ (.cons rfl .nil)),aZ (av.mpr rfl) (aX.mpr ⟨b,_,rfl,q2 H,nB x.2⟩)⟩⟩
 ·cases h
theorem pA {K}:∀{xs vs},lX K xs vs=true->∃us:List V,WY us vs/\∀H,az K H (xs.map fun x=>.tup [.str x.1,.tup (x.2.map D.str)]) us
 | [],[],_=>⟨[],.nil,fun _=>bq.mpr rfl⟩
 | [],_::_,h=>by simp[lX] at h
 | x::xs,[],h=>by simp[lX] at h
 | x::xs,v::vs,h=>by
  rw[lX,Xb] at h;obtain⟨a,rfl,q⟩:=xH h.1;obtain⟨us,r,q2⟩:=pA h.2;exact⟨.ref a::us,.cons rfl r,fun H=>ba.mpr ⟨_,_,rfl,q H,q2 H⟩⟩
theorem tree_s {K h mg p x}(xs:List Str) (X:K.In h) (G:h.Ns mainGlobals mg) (a:PySem.W.nsIn K mainGlobals x=some (some (.ref p))) (e:ub K xs (.ref p)=true):TreeG K mg x (xs.map D.str):=by
 obtain⟨q,eq,r⟩:=qM e;cases eq;exact⟨p,_,PySem.W.mg_of X G a,fun H=>⟨r H,nB xs⟩⟩
theorem tree_c {K h mg p}(X:K.In h) (G:h.Ns mainGlobals mg) (a:PySem.W.nsIn K mainGlobals "GIVEN_CLASSES"=some (some (.ref p))) (e:xG K jf (.ref p)=true):TreeG K mg "GIVEN_CLASSES" gcD:=by
 unfold xG at e;split at e
 ·rename_i vs ev;obtain⟨q,eq,r⟩:=nc ev;cases eq;obtain⟨us,r1,r2⟩:=pA e;exact⟨p,us,PySem.W.mg_of X G a,fun H=>⟨r H us r1,r2 H⟩⟩
 ·cases e
theorem int_at9 {K h mg name x z t}(X:K.In h) (G:h.Ns mainGlobals mg) (a:PySem.W.nsIn K mainGlobals name=some (some (.int x t))) (e:x=z):∃t,mg name=some (.int z t):=⟨t,by rw[<-e];exact PySem.W.mg_of X G a⟩
def keysOk (P:Params):List DictEntry->Prop
 | []=>True
 | e::r=>(∃x t,e.key=.str x t/\e.hash=PyData.keyHash P x)/\keysOk P r
theorem keysOk.all {P}:∀{l},keysOk P l->∀e∈l,∃x t,e.key=.str x t/\e.hash=PyData.keyHash P x
 | [],_,e,m=>by simp at m
 | a::l,h,e,m=>by
  rcases Jv.mp m with rfl | m
  ·exact h.1
  ·exact keysOk.all h.2 e m
def AY (K:Fg06) (lo hi:Nat) (v:Value):Bool:=match vM K v with
 | some [.int a _,.int b _]=>decide (a=(lo:Nat))&&decide (b=(hi:Nat))
 | _=>false
def Gj (K:Fg06) (es:Array DictEntry) (p:Str×Nat×Nat):Bool:=match findBy Value.isStrOf es p.1 with
 | some v=>AY K p.2.1 p.2.2 v
 | none=>false
theorem za {K lo hi v}(h:AY K lo hi v=true):∃a,v=.ref a/\∀H,At K H (.tup [.int (lo:Nat),.int (hi:Nat)]) (.ref a):=by
 unfold AY at h;split at h
 ·rename_i a t b u e;rw[Xb] at h;obtain⟨p,rfl,q⟩:=nc e;have h1:=Jl h.1;have h2:=Jl h.2;subst h1 h2;exact⟨p,rfl,fun H=>aX.mpr ⟨p,[.int (lo:Nat),.int (hi:Nat)],rfl,q H _ (.cons ⟨t,rfl⟩ (.cons ⟨u,rfl⟩ .nil)),aZ (bc.mpr rfl) (bc.mpr rfl)⟩⟩
 ·cases h
theorem bnd_at {w K h mg a es n}(X:K.In h) (G:h.Ns mainGlobals mg) (e0:PySem.W.nsIn K mainGlobals "VALUES_OF_GIVEN"=some (some (.ref a))) (l:K.lookup a=some ⟨.type "dict",none,.dict es n,#[]⟩) (hk:keysOk w.params es.toList) (hb:zX.all (Gj K es)=true):BndG w K mg:=by
 refine⟨a,es,n,PySem.W.mg_of X G e0,l,fun e he=>hk.all e (by simpa using he),fun nm lo hi hm=>?_⟩;have:=List.all_eq_true.mp hb _ hm;unfold Gj at this;split at this
 ·rename_i v ev;obtain⟨u,rfl,q⟩:=za this;exact⟨u,ev,q⟩
 ·cases this
theorem rD {α β:Type}{f g:α->Option β}:∀{l:List α},(∀x∈l,f x=g x)->l.filterMap f=l.filterMap g
 | [],_=>rfl
 | a::l,h=>by rw[List.filterMap_cons,List.filterMap_cons,h a (II ..),rD fun x m=>h x (IH _ m)]
theorem wq:∀{ps:List Str}{us:List Value},ps.Nodup->us.length=ps.length->ps.filterMap (fun n=>((ps.zip us).lookup n).map (fun x=>(n,x)))=ps.zip us
 | [],_,_,_=>rfl
 | p::ps,[],_,h=>by cases h
 | p::ps,u::us,hn,h=>by
  have hn:=List.nodup_cons.mp hn;rw[List.zip_cons_cons,List.filterMap_cons_some (b:=(p,u)) (by simp[List.lookup])];congr 1;refine(rD (g:=fun n=>((ps.zip us).lookup n).map (fun x=>(n,x))) ?_).trans ?_
  rotate_left
  ·exact wq hn.2 (Nat.succ.inj h)
  ·intro x m;have e:(x == p)=false:=beq_eq_false_iff_ne.mpr fun e=>hn.1 (e▸m);simp[List.lookup,e]
theorem Dj:∀{ps:List Str}{us:List Value},us.length=ps.length->ps.filter (fun n=>((ps.zip us).lookup n).isNone)=[]:=by
 intro ps us h;rw[List.filter_eq_nil_iff];intro x m
 induction ps generalizing us with
 | nil=>cases m
 | cons p ps ih=>
  cases us with
  | nil=>cases h
  | cons u us=>
   rw[List.zip_cons_cons,List.lookup];by_cases e:(x == p)=true
   ·rw[e];simp
   ·have e:(x == p)=false:=by simpa using e
    rw[e];refine ih (Nat.succ.inj h) ?_;rcases Jv.mp m with rfl | m
    ·simp at e
    ·exact m
def HK (p:Arguments) (ps:List Str):Prop:=p.posonlyargs=[]/\p.args.map (·.arg)=ps/\p.vararg=none/\p.kwonlyargs=[]/\p.kwarg=none/\ps.Nodup
theorem rV {K:Fg06}{x WL:Str}{st:Stmt}{f:Addr}{fd:FuncData}{ps:List Str}(F:eg K x WL st f fd) (h:HK (gP st) ps):Binds K fd ps []:=by
 refine F.binds fun kV doc pm an WK ct us hl=>?_;obtain⟨h1,h2,h3,h4,h5,h6⟩:=h;have JY:¬us.length > ps.length:=by omega
 unfold bindArgs;simp only[PySem.W.fnOf,h1,h2,h3,h4,h5,List.map_nil,List.nil_append,List.forIn_nil,pure_bind,seqItems?];simp[hl,Dj hl,wq h6 hl];rfl
section
variable (P:Program) (w:World) (base:Heap){K:Fg06}{mg:Str->Option Value}{name:Str}{st:Stmt}
theorem df {ps lv sp}(f:bh K mg name st) (h:∀{f:Addr}{fd:FuncData},eg K name name st f fd->bK P w K mg base eh lv f fd ps sp) (hb:HK (gP st) ps:=by exact⟨rfl,rfl,rfl,rfl,rfl,by decide +kernel⟩):Def P w K mg base name ps lv sp:=by
 obtain⟨a,d,m,F⟩:=f;exact Dy F m (rV F hb) (h F)
theorem AI {ps lv sp C f fd WL}(m:mg name=some (.ref C)) (k:Mk K C f) (F:eg K "__init__" WL st f fd) (h:bK P w K mg base eh lv f fd ps sp) (hb:HK (gP st) ps:=by exact⟨rfl,rfl,rfl,rfl,rfl,by decide +kernel⟩):jD P w K mg base name C ps lv sp:=⟨_,_,m,k,rV F hb,h⟩
end
section
variable {P:Program}{w:World}{K:Fg06}{mg:Str->Option Value}
theorem law_ofC (g:Glb9 mg) (cz:∃c,Cz K mg c) (tN:TreeG K mg "NONE" [.str "none"]) (tf:TreeG K mg "GIVEN_FUNCTIONS" gfD) (tc:TreeG K mg "GIVEN_CLASSES" gcD) (tF:TreeG K mg "FAULT_FIELDS" (fldN.map D.str)) (tK:TreeG K mg "KIND_FAULT" [.str "fault",.str "KindFault"]) (hCt:∃t,mg "MOST_COUNT"=some (.int 10000 t)) (hMC:∃t,mg "MOST_CLASSES"=some (.int 40 t)) (B:BndG w K mg) (f0:bh K mg "is_same" xJ) (f1:bh K mg "is_behind_head" B3) (f2:bh K mg "place_of_free" xM) (f3:bh K mg "without_head" HL) (f4:bh K mg "merged" BX) (f5:bh K mg "added" Cg) (f6:bh K mg "thing_of" HN) (f7:bh K mg "known" HS) (f8:bh K mg "is_class" B2) (f9:bh K mg "is_giver" B0) (QW:bh K mg "new_class" BW) (R4:bh K mg "function" B4) (f12:bh K mg "function_of" B5) (f13:bh K mg "new_view" HM) (f14:bh K mg "new_method" HR) (f15:bh K mg "new_count" Cc) (f16:bh K mg "is_fault_class" B1) (f17:bh K mg "new_object" BU) (f18:bh K mg "state_of" BO) (f19:bh K mg "set_state" BN) (f20:bh K mg "found_in" B7) (f21:bh K mg "found_by_way" B8) (f22:bh K mg "order_of_owner" BS) (f23:bh K mg "field_of" B6) (f24:bh K mg "can_be_put" Ce) (f25:bh K mg "put_field" BP) (f26:bh K mg "named" BV) (f27:bh K mg "text_of_thing" BL) (f28:bh K mg "text_of" BK) (f29:bh K mg "entered" B9) (f30:bh K mg "said" xK) (f31:bh K mg "taken_input" BM) (f32:bh K mg "is_under" BJ) (f33:bh K mg "told_isa" BZ) (f34:bh K mg "viewed" BI) (f35:bh K mg "counted" Ca) (f36:bh K mg "state_to_go" HQ) (f37:bh K mg "asked" Cf) (f38:bh K mg "counted_on" Cb) (f39:bh K mg "object_of" BR) (f40:bh K mg "called_given" HV) (f41:bh K mg "called" Cd) (f42:bh K mg "order_of" BQ) (f43:bh K mg "class_of" HU) (f44:bh K mg "_law_cell_at" Br) (f45:bh K mg "_law_cell" sL) (f46:bh K mg "_law_plain" Hf) (f47:bh K mg "_law_names" Bq) (f48:bh K mg "_law_function" Hh) (f49:bh K mg "_law_filled" Bo) (f50:bh K mg "_law_entered" Bp) (f51:bh K mg "_law_text" Hd) (f52:bh K mg "_law_counted" Hq) (f53:bh K mg "_law_class" Hi) (f54:bh K mg "_law_object" Hg) (f55:bh K mg "_law_begun" Hv) (f56:bh K mg "_law_given" Hj) (f57:bh K mg "_law_called_right" Ho) (f58:bh K mg "_law_all_taken" HA) (fL:bh K mg "law" Bm)
  {fa:Addr}(Vv:mg "law"=some (.ref fa)):
  ∃fd:FuncData,(∀s v,BindsTo s fd ⟨[v],[]⟩ [("_law_script",v)])/\∀base:Heap,bK P w K mg base eh 10 fa fd ["_law_script"] (qT K):=by
 obtain⟨c,z,nW,⟨aF,dF,mF,kF,FF⟩,⟨aG,dG,mG,kG,FG⟩,⟨aM,dM,mM,kM,FM⟩,⟨aK,dK,mK,kK,FK⟩,⟨aO,dO,mO,kO,FO⟩,⟨aR,dR,mR,kR,FR⟩,⟨aV,dV,mV,kV,FV⟩,⟨aW,dW,mW,kW,FW⟩⟩:=cz;obtain⟨aL,dL,mL,FL⟩:=fL;rw[mL] at Vv;have ea:aL=fa:=by injection Vv with e;injection e
 subst ea;refine⟨dL,fun s v=>?_,fun base=>?_⟩
 ·obtain⟨oc,od,kV,doc,pm,an,WK,ct,osl,rfl,lk,LJ⟩:=FL.ex;exact .of_eq rfl
 have MF:=AI P w base mF kF FF (CS z FF);have MG:=AI P w base mG kG FG (CN z FG);have MM:=AI P w base mM kM FM (CF z FM);have MK:=AI P w base mK kK FK (CI z FK);have MO:=AI P w base mO kO FO (CB z FO);have MR:=AI P w base mR kR FR (CO z FR);have MV:=AI P w base mV kV FV (Cn z FV);have D0:=df P w base f0 fun h=>FA g h;have D1:=df P w base f1 fun h=>CM g h D0;have D2:=df P w base f2 fun h=>zF g h D1;have D3:=df P w base f3 fun h=>Fm g h D0;have D4:=df P w base f4 fun h=>CG g h D2 D3;have D5:=df P w base f5 fun h=>C8 g z h;have D6:=df P w base f6 fun h=>Fq z h;have D7:=df P w base f7 fun h=>Fz z h;have D8:=df P w base f8 fun h=>CL g z mK h D6;have D9:=df P w base f9 fun h=>CK g z mR h D6;have WE:=df P w base QW fun h=>CD g z MK h D5;have D11:=df P w base R4 fun h=>CP MF h D5;have D12:=df P w base f12 fun h=>CQ z h D6;have D13:=df P w base f13 fun h=>Fo MV h D5;have D14:=df P w base f14 fun h=>Fu MM h D5;have D15:=df P w base f15 fun h=>C3 MR h D5;have WD:=df P w base f16 fun h=>FD z h D8 D7 D6;have D17:=df P w base f17 fun h=>CA g z tN tF MO h WD D5;have WC:=df P w base f18 fun h=>Ct z h D6;have D19:=df P w base f19 fun h=>Cs z nW h D6;have D20:=df P w base f20 fun h=>CU z h D6;have D21:=df P w base f21 fun h=>CW g z mF h D6 D20 D14;have WB:=df P w base f22 fun h=>Cy z h D6;have Ul:=df P w base f23 fun h=>CT g z mO h D6 WB D21;have D24:=df P w base f24 fun h=>C5 g z mO h;have D25:=df P w base f25 fun h=>Cu z tN h D6 D24;have D26:=df P w base f26 fun h=>CC h;have D27:=df P w base f27 fun h=>Cq g z mF mG mM mK mO mR h D6 D26;have Pn:=df P w base f28 fun h=>Cp g h D6 D27;have D29:=df P w base f29 fun h=>CY g z tK h D6;have D30:=df P w base f30 fun h=>zE z tN h Pn;have D31:=df P w base f31 fun h=>Cr g z h;have WA:=df P w base f32 fun h=>Co g z mO h D6 WB;have D33:=df P w base f33 fun h=>CJ z tK h D8 WA;have D34:=df P w base f34 fun h=>Cm z tK h D13 WA;have D35:=df P w base f35 fun h=>C1 tK hCt h D15;have D36:=df P w base f36 fun h=>Fs h D9 WC;have D37:=df P w base f37 fun h=>C7 tN h D36;have D38:=df P w base f38 fun h=>C2 z nW h D6 D19;have D39:=df P w base f39 fun h=>Cw g z mM tK h D6 D17 Ul WD D25;have D40:=df P w base f40 fun h=>FJ g B tK h D30 D31 D33 D34 D35;have Q9:=df P w base f41 fun h=>C4 g z mF mG mM mK tK h D6 D29 D39 D40;have Uk:=df P w base f42 fun h=>Cv g z hMC h D8 D6 D4;have Wz:=df P w base f43 fun h=>FI h WE;have D44:=df P w base f44 fun h=>C6 g h;have Wy:=df P w base f45 fun h=>xP g h;have Wx:=df P w base f46 fun h=>Ft h;have D47:=df P w base f47 fun h=>C0 g h;have D48:=df P w base f48 fun h=>Fw g h D11 D12;have Ww:=df P w base f49 fun h=>CV g h;have Wv:=df P w base f50 fun h=>CZ h Ww;have D51:=df P w base f51 fun h=>Fp g h Pn;have D52:=df P w base f52 fun h=>FH g h D9 WC Pn D37 D38;have D53:=df P w base f53 fun h=>Fy g h D7 Uk Wz;have D54:=df P w base f54 fun h=>Fv g h D7 Uk Wz Q9 Ul Pn;have D55:=df P w base f55 fun h=>FN g h Pn Ul Q9 Wv;have D56:=df P w base f56 fun h=>FC g h D51 Pn D52;have D57:=df P w base f57 fun h=>FE g h Wy Wx D7 Q9 D56 D55 Wv Ww;have MW:=AI P w base mW kW FW (Fn g z tf tc MG FW D5 WE);have D58:=df P w base f58 fun h=>FP g z h D7 Q9 MW;exact CH g z nW FL D44 Wy D47 Wx MW D7 Uk Q9 D48 D53 D54 D57 D58
end
theorem walkD {l:PySem.W.OpenLaw}{q:Program}{loose:List Str}{XP:(Str->Option Value)->Heap->Prop}{YP:World->Heap->Prop}{d:DefRec}{K:Params->Fg06}(hn:l.most=some 63) (Ls:d.params.defaults=[])
  (hY:∀(w:World) (h:Heap),YP w h->(K w.params).In h)
  (F:∀(w:World) (mg:Str->Option Value) (fa:Addr) (h:Heap),(K w.params).In h->h.Ns mainGlobals mg->mg d.name=some (.ref fa)->
   ∃fd:FuncData,(∀(s:Shared) (u:Value),BindsTo s fd ⟨[u],[]⟩ [("_law_script",u)])/\∀base:Heap,bK l.prog w (K w.params) mg base eh 10 fa fd ["_law_script"] (qT (K w.params))):
  PySem.W.WalkO q loose XP YP l.row.toRowW d [] (fun f vs=>PySem.call f vs):=
 L2.y8 (n:=63) (k:=10) (x:="_law_script") (CX:=fun _=>eh) (sp:=fun w=>qT (K w.params)) hn (by decide) Ls ⟨rfl,by decide,by decide,rfl⟩ hY (fun w mg fa h a b c=>let ⟨fd,p,q⟩:=F w mg fa h a b c;⟨fd,p,fun base _ _=>q base⟩) (fun _ _ a ns hl _ hS=>⟨a,ns,rfl,hS,hl,fun _=>rfl⟩) fun _ _ _ _ _ z=>z
end GS
open PySem PySem.W
set_option maxRecDepth 100000 in
set_option maxHeartbeats 0 in
theorem PySem.Challenge.cw_grassnake_k12_calls_holds : PySem.Challenge.rw_grassnake_k12_calls.Holds := by
  refine holds_law GS.said9 fun said => ?_
  refine W.holds_open (q := GS.q9) (loose := GS.lo9) (Xt := fun s => xlAt GS.q9 [] s && recOk (RowW.records (OpenRow.toRowW (OpenLaw.row GS.r9))) s) (XP := XL GS.q9 []) (Yf := Hook.obs (kHook GS.K9h GS.asK9h GS.eK9h)) (Ya := Hook.val (kHook GS.K9h GS.asK9h GS.eK9h)) (YP := Hook.says (kHook GS.K9h GS.asK9h GS.eK9h)) (N := 8436) GS.left9 (Hook.of _) (Hook.keeps _) (fun s e => xl_of s (Bool.and_eq_true_iff.mp e).1) XL.keeps (by rfl) (by rfl) (by rfl) (fun s e => recFacts_of (Bool.and_eq_true_iff.mp e).2) (by rfl) said (by decide +kernel) ⟨rfl, rfl, rfl, rfl, rfl, by decide +kernel⟩ ?hw ?hc
  case hw => w_witness2
  k_fill
  refine GS.walkD (l := GS.r9) rfl rfl (fun w h Y => PySem.W.kIn_of Y) ?F
  case F =>
    intro w mg fa h KX G hmg
    have g : GS.Glb9 mg := by
      refine' ⟨?_, ?_, ?_, ?_, ?_, ?_, ?_, ?_, ?_, ?_, ?_, ?_, ?_, ?_, ?_, ?_, ?_⟩
      all_goals (refine' PySem.W.mg_none_of KX G ?a; (case a => k_is))
    have hCt : ∃ t, mg "MOST_COUNT" = some (.int 10000 t) := by
      refine' GS.int_at9 KX G ?a ?e; (case a => k_is); (case e => decide)
    have hMC : ∃ t, mg "MOST_CLASSES" = some (.int 40 t) := by
      refine' GS.int_at9 KX G ?a ?e; (case a => k_is); (case e => decide)
    have tN : GS.TreeG (L2.KOf KX) mg "NONE" [.str "none"] := by
      dsimp only [L2.KOf]
      refine' GS.tree_s ["none"] KX G ?a ?e; (case a => k_is); (case e => kernel_rfl)
    have tK : GS.TreeG (L2.KOf KX) mg "KIND_FAULT" [.str "fault", .str "KindFault"] := by
      dsimp only [L2.KOf]
      refine' GS.tree_s ["fault", "KindFault"] KX G ?a ?e; (case a => k_is); (case e => kernel_rfl)
    have tf : GS.TreeG (L2.KOf KX) mg "GIVEN_FUNCTIONS" GS.gfD := by
      dsimp only [L2.KOf]
      refine' GS.tree_s GS.gfN KX G ?a ?e; (case a => k_is); (case e => kernel_rfl)
    have tc : GS.TreeG (L2.KOf KX) mg "GIVEN_CLASSES" GS.gcD := by
      dsimp only [L2.KOf]
      refine' GS.tree_c KX G ?a ?e; (case a => k_is); (case e => kernel_rfl)
    have tF : GS.TreeG (L2.KOf KX) mg "FAULT_FIELDS" (GS.fldN.map GS.D.str) := by
      dsimp only [L2.KOf]
      refine' GS.tree_s GS.fldN KX G ?a ?e; (case a => k_is); (case e => kernel_rfl)
    have B : GS.BndG w (L2.KOf KX) mg := by
      dsimp only [L2.KOf]
      refine' GS.bnd_at KX G ?a ?l ?k ?e; (case a => k_is); (case l => k_is); (case k => exact ⟨⟨_, _, rfl, rfl⟩, ⟨_, _, rfl, rfl⟩, ⟨_, _, rfl, rfl⟩, ⟨_, _, rfl, rfl⟩, ⟨_, _, rfl, rfl⟩, ⟨_, _, rfl, rfl⟩, ⟨_, _, rfl, rfl⟩, ⟨_, _, rfl, rfl⟩, True.intro⟩); (case e => kernel_rfl)
    have cz : ∃ c, GS.Cz (L2.KOf KX) mg c := by
      dsimp only [L2.KOf]
      refine' GS.cz_at (GS.ini_at9 KX G ?_ ⟨?_, ?_, ?_, ?_⟩ ?_ ?_ ?_) (GS.ini_at9 KX G ?_ ⟨?_, ?_, ?_, ?_⟩ ?_ ?_ ?_) (GS.ini_at9 KX G ?_ ⟨?_, ?_, ?_, ?_⟩ ?_ ?_ ?_) (GS.ini_at9 KX G ?_ ⟨?_, ?_, ?_, ?_⟩ ?_ ?_ ?_) (GS.ini_at9 KX G ?_ ⟨?_, ?_, ?_, ?_⟩ ?_ ?_ ?_) (GS.ini_at9 KX G ?_ ⟨?_, ?_, ?_, ?_⟩ ?_ ?_ ?_) (GS.ini_at9 KX G ?_ ⟨?_, ?_, ?_, ?_⟩ ?_ ?_ ?_) (GS.ini_at9 KX G ?_ ⟨?_, ?_, ?_, ?_⟩ ?_ ?_ ?_) ⟨⟨?_, ?_, ?_, ?_⟩, ?_, ?_, ?_, ?_, ⟨?_, ?_, ?_, ?_⟩, ?_, ?_, ?_, ?_, ⟨?_, ?_, ?_, ?_⟩, ?_, ⟨?_, ?_, ?_, ?_⟩, ?_, ?_, ⟨?_, ?_, ?_, ?_⟩, ?_, ?_, ?_, ?_, ?_, ?_, ⟨?_, ?_, ?_, ?_⟩, ?_, ?_, ⟨?_, ?_, ?_, ?_⟩, ?_, ?_, ?_, ?_, ?_, ⟨?_, ?_, ?_, ?_⟩, ?_, ?_, ⟨?_, ?_, ?_, ?_, ?_, ?_⟩, ⟨?_, ?_, ?_, ?_, ?_, ?_⟩, ⟨?_, ?_, ?_, ?_, ?_, ?_⟩, ⟨?_, ?_, ?_, ?_, ?_, ?_⟩, ⟨?_, ?_, ?_, ?_, ?_, ?_⟩, ⟨?_, ?_, ?_, ?_, ?_, ?_⟩, ⟨?_, ?_, ?_, ?_, ?_, ?_⟩, ⟨?_, ?_, ?_, ?_, ?_, ?_, ?_, ?_⟩, ⟨?_, ?_, ?_, ?_, ?_, ?_, ?_, ?_⟩, ⟨?_, ?_, ?_, ?_, ?_, ?_, ?_, ?_⟩, ⟨?_, ?_, ?_, ?_, ?_, ?_, ?_, ?_⟩, ⟨?_, ?_, ?_, ?_, ?_, ?_, ?_, ?_⟩, ⟨?_, ?_, ?_, ?_, ?_, ?_, ?_, ?_⟩⟩ ?_
      repeat any_goals first | k_is | (unfold L2.NoAttr; k_is) | rfl
      all_goals decide
    refine GS.law_ofC g cz tN tf tc tF tK hCt hMC B ?_ ?_ ?_ ?_ ?_ ?_ ?_ ?_ ?_ ?_ ?_ ?_ ?_ ?_ ?_ ?_ ?_ ?_ ?_ ?_ ?_ ?_ ?_ ?_ ?_ ?_ ?_ ?_ ?_ ?_ ?_ ?_ ?_ ?_ ?_ ?_ ?_ ?_ ?_ ?_ ?_ ?_ ?_ ?_ ?_ ?_ ?_ ?_ ?_ ?_ ?_ ?_ ?_ ?_ ?_ ?_ ?_ ?_ ?_ ?_ hmg
    all_goals ((try dsimp only [L2.KOf]); refine' GS.fun_at9 KX G ?_ ?_ ?_ ?_; repeat any_goals k_is)
