import PyProof.Rows.All
import OpenK.AllK
import Wide.All
import Wide.FinOn
import Lean
import PyProof.EqAt
import PyProof.EqKinds
import PyProof.TupleCall
import PyProof.CompFree
import PyProof.StrWalks
import PyProof.ReprRoads
import PyProof.ReprLen
import PyProof.ToksMono
import KE.IntTextLaws
import PyProof.NeKinds
import PyProof.CallFns
import PyProof.CompUse
import KE.KDictOf
import PyProof.AttrMissHeap
import PyProof.Walks
import PyProof.ZipIter
import PyProof.Rows.ZipGen
import PyProof.DictWalks
import PySem.Challenge.RW_grassnake_k11_fields_and_texts
set_option Elab.async false
set_option linter.all false
set_option maxRecDepth 100000
set_option maxHeartbeats 4000000
namespace GS
open PySem
noncomputable section
abbrev p9 := PySem.Challenge.pw_grassnake_k11_fields_and_texts
abbrev r9 := PySem.Challenge.rw_grassnake_k11_fields_and_texts
noncomputable def tp9 (i : Nat) : Stmt := p9.main.body.getD i (.Pass ⟨0,0,0,0⟩)
def iC (i : Nat) : Stmt → Stmt
  | .ClassDef _ _ _ body _ _ _ _ _ _ _ => body.getD i (.Pass ⟨0,0,0,0⟩)
  | _ => .Pass ⟨0,0,0,0⟩
def fA (s : Stmt) : Arguments := match s with
  | .FunctionDef _ a _ _ _ _ _ _ _ _ => a
  | _ => { posonlyargs := [],args := [],vararg := none,kwonlyargs := [],kw_defaults := [],kwarg := none,defaults := [] }
def fB (s : Stmt) : List Stmt := match s with
  | .FunctionDef _ _ b _ _ _ _ _ _ _ => b
  | _ => []
def fS (s : Stmt) : Scope := match s with
  | .FunctionDef _ _ _ _ _ _ c _ _ _ => c
  | _ => { kind := .function,names := [],isGenerator := false,isCoroutine := false }
def eO (P : Params) (k : Str) (t : Nat) (v : Value) : DictEntry := ⟨PyData.keyHash P k,.str k t,v⟩
def eR (P : Params) (k : Str) (t a : Nat) : DictEntry := eO P k t (.ref a)
def dO (es : List DictEntry) (n : Nat) : Obj := ⟨.type "dict",none,.dict es.toArray n,#[]⟩
def tO (vs : List Value) : Obj := ⟨.type "tuple",none,.seq vs.toArray 0,#[]⟩
def fO (m : Str) (t : Nat) (st : Stmt) (n q : Str) (c : Nat) : Obj := ⟨.type "function",none,.func (PySem.W.fnOf n q (fA st) (fB st) (fS st) .none .none .none (.str m t) none (.ref c) .none),#[]⟩
def fD (m : Str) (t : Nat) (st : Stmt) (n q : Str) (c d : Nat) : Obj := ⟨.type "function",none,.func (PySem.W.fnOf n q (fA st) (fB st) (fS st) (.ref d) .none .none (.str m t) none (.ref c) .none),#[]⟩
noncomputable def cO (a : Nat) (v : Bool) (n q : Str) (t l k u : Nat) : Obj := ⟨.type "code",none,.fields #[.str n t,.str q (t + 1),.str "/claim/cut.py" (t + 2),.int l 0,.int k 0,.int 0 0,.int 0 0,.int 3 0,.ref (if v then a - 5 else a - 3),.bool true,.int 181 0,.ref (if v then a - 4 else a - 2),.none,if v then .ref (a - 3) else .none,if v then .ref (a - 2) else .none,.ref (a - 1),.int u 0,.int l 0,.str "/claim/cut.py" (u + 1)],#[]⟩
noncomputable def kO (n : Str) (bs mro : List Value) (ns : Nat) (sub : List Value) (sl : Array (Option Value)) : Obj := ⟨.type "type",none,.cls { name := n,bases := bs,mro := mro,ns := ns,qualname := n,subclasses := sub },sl⟩
abbrev oT (a : Nat) (n : Str) := cO a true n n
abbrev oF (a : Nat) (n : Str) := cO a false n n
abbrev fm1 := fO "grassnake.store" 187
abbrev fn1 (i : Nat) (n : Str) := fm1 (tp9 i) n n
abbrev fm2 := fO "grassnake.fields" 640
abbrev fn2 (i : Nat) (n : Str) := fm2 (tp9 i) n n
abbrev fm3 := fO "grassnake.calls" 746
abbrev fn3 (i : Nat) (n : Str) := fm3 (tp9 i) n n
abbrev fm4 := fO "grassnake.orders" 918
abbrev fn4 (i : Nat) (n : Str) := fm4 (tp9 i) n n
abbrev fm5 := fO "law_grassnake_k11_fields_and_texts" 970
abbrev fn5 (i : Nat) (n : Str) := fm5 (tp9 i) n n
abbrev fm6 := fO "grassnake.faults" 735
abbrev fn6 (i : Nat) (n : Str) := fm6 (tp9 i) n n
noncomputable def rO (n q : Str) (st : Stmt) : Obj := ⟨.none,none,.func { PySem.W.fnOf n q (fA st) (fB st) (fS st) .none .none .none .none none .none .none with globals := 0 },#[]⟩
noncomputable abbrev rN (i : Nat) (n : Str) := rO n n (tp9 i)
def nO (vs : List Value) : Obj := ⟨.none,none,.fields vs.toArray,#[]⟩
def gO (c : String) (vs : List Value) : Obj := ⟨.type c,none,.fields vs.toArray,#[]⟩
def qO (sl : List (Option Value)) : Obj := { cls := .type "frame",slots := sl.toArray }
def nT (xs : List (Nat × Nat × Nat)) : Obj := nO (xs.flatMap fun t => [.int t.1 0,.int t.2.1 0,.ref t.2.2])
def t12 : List (Nat × Nat × Nat) := [(6,0,48),(15,0,69),(19,0,90),(24,0,111),(31,0,132),(36,0,153),(44,0,174),(49,0,195),(60,0,214),(63,0,221),(65,0,228),(67,0,235),(69,0,242),(71,0,249),(74,0,256),(76,0,263),(78,0,268),(81,0,275),(83,0,282),(85,0,289),(87,0,296),(89,0,303),(91,0,310),(93,0,317),(97,0,324),(103,0,331),(108,0,338),(110,0,345),(113,0,352),(125,0,359),(127,0,366),(133,0,373),(135,0,380),(145,0,387),(150,0,394),(157,0,411),(163,0,418),(174,0,425),(177,0,432),(180,0,439),(182,0,446),(184,0,453),(186,0,460),(190,0,467),(193,0,474),(202,0,481),(207,0,488),(215,0,495),(234,0,502),(245,0,509),(247,0,514),(249,0,519),(255,0,524),(258,0,529),(269,0,534),(279,0,541),(282,0,548),(286,0,555),(293,0,560),(302,0,567),(305,0,572),(321,0,579),(327,0,584),(335,0,589),(355,0,594),(366,0,599),(381,0,606),(390,0,611),(405,0,618),(430,0,625),(436,0,630)]
def o11 (P : Params) : Obj := tO []
def oR (P : Params) : List Obj := gO "code" [(.str "<module>" 182),(.str "<module>" 183),(.str "/claim/cut.py" 184),(.int 1 0),(.int 0 0),(.int 0 0),(.int 0 0),(.int 0 0),(.ref 11),(.bool false),(.int 181 0),(.ref 12),.none,.none,.none,.none,(.int 185 0),(.int 1 0),(.str "/claim/cut.py" 186)]::qO [some (.ref 13),some (.ref 3),some (.ref 3),none,some (.str "__main__" 164),none,some (.ref 0)]::tO [(.str "none" 189)]::tO [(.str "say" 191),(.str "take" 192),(.str "isa" 193),(.str "elder" 194),(.str "count" 195),(.str "go" 196),(.str "throw" 197),(.str "shut" 198)]::tO []::tO [(.str "Thing" 200),(.ref 17)]::tO [(.str "Thing" 202)]::tO [(.str "Fault" 201),(.ref 19)]::tO [(.str "Fault" 204),(.str "Thing" 205)]::tO [(.str "NameFault" 203),(.ref 21)]::tO [(.str "Fault" 207),(.str "Thing" 208)]::tO [(.str "KindFault" 206),(.ref 23)]::tO [(.str "Fault" 210),(.str "Thing" 211)]::tO [(.str "NoughtFault" 209),(.ref 25)]::tO [(.str "Fault" 213),(.str "Thing" 214)]::tO [(.str "GreatFault" 212),(.ref 27)]::tO [(.str "Fault" 216),(.str "Thing" 217)]::tO [(.str "FieldFault" 215),(.ref 29)]::tO [(.str "Fault" 219),(.str "Thing" 220)]::tO [(.str "OrderFault" 218),(.ref 31)]::tO [(.str "Fault" 222),(.str "Thing" 223)]::tO [(.str "EndFault" 221),(.ref 33)]::tO [(.str "Fault" 225),(.str "Thing" 226)]::tO [(.str "ShutFault" 224),(.ref 35)]::tO [(.str "Fault" 228),(.str "Thing" 229)]::tO [(.str "DeepFault" 227),(.ref 37)]::tO [(.str "NameFault" 231),(.str "Fault" 232),(.str "Thing" 233)]::tO [(.str "UnboundFault" 230),(.ref 39)]::tO [(.ref 18),(.ref 20),(.ref 22),(.ref 24),(.ref 26),(.ref 28),(.ref 30),(.ref 32),(.ref 34),(.ref 36),(.ref 38),(.ref 40)]::tO [(.str "word" 235),(.str "cause" 236),(.str "context" 237)]::tO []::gO "builtin_function_or_method" [(.builtin "type.__prepare__"),(.type "type")]::dO [eO P "__module__" 246 (.str "grassnake.store" 187),eO P "__qualname__" 248 (.str "Function" 247),eO P "__firstlineno__" 250 (.int 6 249),eR P "__init__" 263 56,eR P "__static_attributes__" 270 57] 5::tO []::nO [(.int 8 0),(.int 4 0),(.ref 55)]::gO "code" [(.str "Function" 241),(.str "Function" 242),(.str "/claim/cut.py" 243),(.int 6 0),(.int 0 0),(.int 0 0),(.int 0 0),(.int 0 0),(.ref 46),(.bool false),(.int 181 0),(.ref 47),.none,.none,.none,.none,(.int 244 0),(.int 6 0),(.str "/claim/cut.py" 245)]::qO [some (.ref 48),some (.ref 3),some (.ref 45),none,some (.str "grassnake.store" 187),none,some (.ref 0)]::tO []::nO []::tO [(.str "self" 254),(.str "name" 255),(.str "params" 256),(.str "defaults" 257),(.str "code" 258),(.str "around" 259),(.str "gives" 260)]::tO []::rO "__init__" "Function.__init__" (iC 0 (tp9 5))::cO 55 true "__init__" "Function.__init__" 251 8 7 261::fm1 (iC 0 (tp9 5)) "__init__" "Function.__init__" 55::tO [(.str "around" 264),(.str "code" 265),(.str "defaults" 266),(.str "gives" 267),(.str "name" 268),(.str "params" 269)]::dO [eO P "__module__" 246 (.str "grassnake.store" 187),eO P "__firstlineno__" 250 (.int 6 249),eR P "__init__" 263 56,eR P "__static_attributes__" 270 57,eR P "__dict__" 272 60,eR P "__weakref__" 274 61,eO P "__doc__" 275 .none] 4::kO "Function" [(.type "object")] [(.ref 59),(.type "object")] 58 [] #[none,none,some (.str "Function" 239),some (.str "Function" 247),some (.builtin "object.__new__"),some (.bool true)]::gO "getset_descriptor" [(.str "__dict__" 271),(.ref 59),(.builtin "function.__dict__"),(.builtin "function.__dict__#set")]::gO "getset_descriptor" [(.str "__weakref__" 273),(.ref 59),(.builtin "ExceptionGroup.__weakref__"),.none]::gO "super" [(.ref 59),(.ref 59),(.ref 59)]::gO "builtin_function_or_method" [(.builtin "object.__init_subclass__"),(.ref 59)]::tO []::gO "builtin_function_or_method" [(.builtin "type.__prepare__"),(.type "type")]::dO [eO P "__module__" 285 (.str "grassnake.store" 187),eO P "__qualname__" 287 (.str "Given" 286),eO P "__firstlineno__" 289 (.int 15 288),eR P "__init__" 297 77,eR P "__static_attributes__" 299 78] 5::tO []::nO [(.int 17 0),(.int 4 0),(.ref 76)]::gO "code" [(.str "Given" 280),(.str "Given" 281),(.str "/claim/cut.py" 282),(.int 15 0),(.int 0 0),(.int 0 0),(.int 0 0),(.int 0 0),(.ref 67),(.bool false),(.int 181 0),(.ref 68),.none,.none,.none,.none,(.int 283 0),(.int 15 0),(.str "/claim/cut.py" 284)]::qO [some (.ref 69),some (.ref 3),some (.ref 66),none,some (.str "grassnake.store" 187),none,some (.ref 0)]::tO []::nO []::tO [(.str "self" 293),(.str "name" 294)]::tO []::rO "__init__" "Given.__init__" (iC 0 (tp9 6))::cO 76 true "__init__" "Given.__init__" 290 17 2 295::fm1 (iC 0 (tp9 6)) "__init__" "Given.__init__" 76::tO [(.str "name" 298)]::dO [eO P "__module__" 285 (.str "grassnake.store" 187),eO P "__firstlineno__" 289 (.int 15 288),eR P "__init__" 297 77,eR P "__static_attributes__" 299 78,eR P "__dict__" 301 81,eR P "__weakref__" 303 82,eO P "__doc__" 304 .none] 4::kO "Given" [(.type "object")] [(.ref 80),(.type "object")] 79 [] #[none,none,some (.str "Given" 278),some (.str "Given" 286),some (.builtin "object.__new__"),some (.bool true)]::gO "getset_descriptor" [(.str "__dict__" 300),(.ref 80),(.builtin "function.__dict__"),(.builtin "function.__dict__#set")]::gO "getset_descriptor" [(.str "__weakref__" 302),(.ref 80),(.builtin "ExceptionGroup.__weakref__"),.none]::gO "super" [(.ref 80),(.ref 80),(.ref 80)]::gO "builtin_function_or_method" [(.builtin "object.__init_subclass__"),(.ref 80)]::tO []::gO "builtin_function_or_method" [(.builtin "type.__prepare__"),(.type "type")]::dO [eO P "__module__" 314 (.str "grassnake.store" 187),eO P "__qualname__" 316 (.str "Method" 315),eO P "__firstlineno__" 318 (.int 19 317),eR P "__init__" 327 98,eR P "__static_attributes__" 330 99] 5::tO []::nO [(.int 21 0),(.int 4 0),(.ref 97)]::gO "code" [(.str "Method" 309),(.str "Method" 310),(.str "/claim/cut.py" 311),(.int 19 0),(.int 0 0),(.int 0 0),(.int 0 0),(.int 0 0),(.ref 88),(.bool false),(.int 181 0),(.ref 89),.none,.none,.none,.none,(.int 312 0),(.int 19 0),(.str "/claim/cut.py" 313)]::qO [some (.ref 90),some (.ref 3),some (.ref 87),none,some (.str "grassnake.store" 187),none,some (.ref 0)]::tO []::nO []::tO [(.str "self" 322),(.str "target" 323),(.str "owner" 324)]::tO []::rO "__init__" "Method.__init__" (iC 0 (tp9 7))::cO 97 true "__init__" "Method.__init__" 319 21 3 325::fm1 (iC 0 (tp9 7)) "__init__" "Method.__init__" 97::tO [(.str "owner" 328),(.str "target" 329)]::dO [eO P "__module__" 314 (.str "grassnake.store" 187),eO P "__firstlineno__" 318 (.int 19 317),eR P "__init__" 327 98,eR P "__static_attributes__" 330 99,eR P "__dict__" 332 102,eR P "__weakref__" 334 103,eO P "__doc__" 335 .none] 4::kO "Method" [(.type "object")] [(.ref 101),(.type "object")] 100 [] #[none,none,some (.str "Method" 307),some (.str "Method" 315),some (.builtin "object.__new__"),some (.bool true)]::gO "getset_descriptor" [(.str "__dict__" 331),(.ref 101),(.builtin "function.__dict__"),(.builtin "function.__dict__#set")]::gO "getset_descriptor" [(.str "__weakref__" 333),(.ref 101),(.builtin "ExceptionGroup.__weakref__"),.none]::gO "super" [(.ref 101),(.ref 101),(.ref 101)]::gO "builtin_function_or_method" [(.builtin "object.__init_subclass__"),(.ref 101)]::tO []::gO "builtin_function_or_method" [(.builtin "type.__prepare__"),(.type "type")]::dO [eO P "__module__" 345 (.str "grassnake.store" 187),eO P "__qualname__" 347 (.str "Kind" 346),eO P "__firstlineno__" 349 (.int 24 348),eR P "__init__" 360 119,eR P "__static_attributes__" 365 120] 5::tO []::nO [(.int 26 0),(.int 4 0),(.ref 118)]::gO "code" [(.str "Kind" 340),(.str "Kind" 341),(.str "/claim/cut.py" 342),(.int 24 0),(.int 0 0),(.int 0 0),(.int 0 0),(.int 0 0),(.ref 109),(.bool false),(.int 181 0),(.ref 110),.none,.none,.none,.none,(.int 343 0),(.int 24 0),(.str "/claim/cut.py" 344)]::qO [some (.ref 111),some (.ref 3),some (.ref 108),none,some (.str "grassnake.store" 187),none,some (.ref 0)]::tO []::nO []::tO [(.str "self" 353),(.str "name" 354),(.str "order" 355),(.str "fields" 356),(.str "is_given" 357)]::tO []::rO "__init__" "Kind.__init__" (iC 0 (tp9 8))::cO 118 true "__init__" "Kind.__init__" 350 26 5 358::fm1 (iC 0 (tp9 8)) "__init__" "Kind.__init__" 118::tO [(.str "fields" 361),(.str "is_given" 362),(.str "name" 363),(.str "order" 364)]::dO [eO P "__module__" 345 (.str "grassnake.store" 187),eO P "__firstlineno__" 349 (.int 24 348),eR P "__init__" 360 119,eR P "__static_attributes__" 365 120,eR P "__dict__" 367 123,eR P "__weakref__" 369 124,eO P "__doc__" 370 .none] 4::kO "Kind" [(.type "object")] [(.ref 122),(.type "object")] 121 [] #[none,none,some (.str "Kind" 338),some (.str "Kind" 346),some (.builtin "object.__new__"),some (.bool true)]::gO "getset_descriptor" [(.str "__dict__" 366),(.ref 122),(.builtin "function.__dict__"),(.builtin "function.__dict__#set")]::gO "getset_descriptor" [(.str "__weakref__" 368),(.ref 122),(.builtin "ExceptionGroup.__weakref__"),.none]::gO "super" [(.ref 122),(.ref 122),(.ref 122)]::gO "builtin_function_or_method" [(.builtin "object.__init_subclass__"),(.ref 122)]::tO []::gO "builtin_function_or_method" [(.builtin "type.__prepare__"),(.type "type")]::dO [eO P "__module__" 380 (.str "grassnake.store" 187),eO P "__qualname__" 382 (.str "Object" 381),eO P "__firstlineno__" 384 (.int 31 383),eR P "__init__" 393 140,eR P "__static_attributes__" 396 141] 5::tO []::nO [(.int 33 0),(.int 4 0),(.ref 139)]::gO "code" [(.str "Object" 375),(.str "Object" 376),(.str "/claim/cut.py" 377),(.int 31 0),(.int 0 0),(.int 0 0),(.int 0 0),(.int 0 0),(.ref 130),(.bool false),(.int 181 0),(.ref 131),.none,.none,.none,.none,(.int 378 0),(.int 31 0),(.str "/claim/cut.py" 379)]::qO [some (.ref 132),some (.ref 3),some (.ref 129),none,some (.str "grassnake.store" 187),none,some (.ref 0)]::tO []::nO []::tO [(.str "self" 388),(.str "kind" 389),(.str "fields" 390)]::tO []::rO "__init__" "Object.__init__" (iC 0 (tp9 9))::cO 139 true "__init__" "Object.__init__" 385 33 3 391::fm1 (iC 0 (tp9 9)) "__init__" "Object.__init__" 139::tO [(.str "fields" 394),(.str "kind" 395)]::dO [eO P "__module__" 380 (.str "grassnake.store" 187),eO P "__firstlineno__" 384 (.int 31 383),eR P "__init__" 393 140,eR P "__static_attributes__" 396 141,eR P "__dict__" 398 144,eR P "__weakref__" 400 145,eO P "__doc__" 401 .none] 4::kO "Object" [(.type "object")] [(.ref 143),(.type "object")] 142 [] #[none,none,some (.str "Object" 373),some (.str "Object" 381),some (.builtin "object.__new__"),some (.bool true)]::gO "getset_descriptor" [(.str "__dict__" 397),(.ref 143),(.builtin "function.__dict__"),(.builtin "function.__dict__#set")]::gO "getset_descriptor" [(.str "__weakref__" 399),(.ref 143),(.builtin "ExceptionGroup.__weakref__"),.none]::gO "super" [(.ref 143),(.ref 143),(.ref 143)]::gO "builtin_function_or_method" [(.builtin "object.__init_subclass__"),(.ref 143)]::tO []::gO "builtin_function_or_method" [(.builtin "type.__prepare__"),(.type "type")]::dO [eO P "__module__" 411 (.str "grassnake.store" 187),eO P "__qualname__" 413 (.str "Giver" 412),eO P "__firstlineno__" 415 (.int 36 414),eR P "__init__" 425 161,eR P "__static_attributes__" 431 162] 5::tO []::nO [(.int 38 0),(.int 4 0),(.ref 160)]::gO "code" [(.str "Giver" 406),(.str "Giver" 407),(.str "/claim/cut.py" 408),(.int 36 0),(.int 0 0),(.int 0 0),(.int 0 0),(.int 0 0),(.ref 151),(.bool false),(.int 181 0),(.ref 152),.none,.none,.none,.none,(.int 409 0),(.int 36 0),(.str "/claim/cut.py" 410)]::qO [some (.ref 153),some (.ref 3),some (.ref 150),none,some (.str "grassnake.store" 187),none,some (.ref 0)]::tO []::nO []::tO [(.str "self" 419),(.str "name" 420),(.str "frame" 421),(.str "many" 422)]::tO []::rO "__init__" "Giver.__init__" (iC 0 (tp9 10))::cO 160 true "__init__" "Giver.__init__" 416 38 4 423::fm1 (iC 0 (tp9 10)) "__init__" "Giver.__init__" 160::tO [(.str "frame" 426),(.str "handed" 427),(.str "many" 428),(.str "name" 429),(.str "state" 430)]::dO [eO P "__module__" 411 (.str "grassnake.store" 187),eO P "__firstlineno__" 415 (.int 36 414),eR P "__init__" 425 161,eR P "__static_attributes__" 431 162,eR P "__dict__" 433 165,eR P "__weakref__" 435 166,eO P "__doc__" 436 .none] 4::kO "Giver" [(.type "object")] [(.ref 164),(.type "object")] 163 [] #[none,none,some (.str "Giver" 404),some (.str "Giver" 412),some (.builtin "object.__new__"),some (.bool true)]::gO "getset_descriptor" [(.str "__dict__" 432),(.ref 164),(.builtin "function.__dict__"),(.builtin "function.__dict__#set")]::gO "getset_descriptor" [(.str "__weakref__" 434),(.ref 164),(.builtin "ExceptionGroup.__weakref__"),.none]::gO "super" [(.ref 164),(.ref 164),(.ref 164)]::gO "builtin_function_or_method" [(.builtin "object.__init_subclass__"),(.ref 164)]::tO []::gO "builtin_function_or_method" [(.builtin "type.__prepare__"),(.type "type")]::dO [eO P "__module__" 446 (.str "grassnake.store" 187),eO P "__qualname__" 448 (.str "View" 447),eO P "__firstlineno__" 450 (.int 44 449),eR P "__init__" 459 182,eR P "__static_attributes__" 462 183] 5::tO []::nO [(.int 46 0),(.int 4 0),(.ref 181)]::gO "code" [(.str "View" 441),(.str "View" 442),(.str "/claim/cut.py" 443),(.int 44 0),(.int 0 0),(.int 0 0),(.int 0 0),(.int 0 0),(.ref 172),(.bool false),(.int 181 0),(.ref 173),.none,.none,.none,.none,(.int 444 0),(.int 44 0),(.str "/claim/cut.py" 445)]::qO [some (.ref 174),some (.ref 3),some (.ref 171),none,some (.str "grassnake.store" 187),none,some (.ref 0)]::tO []::nO []::tO [(.str "self" 454),(.str "kind" 455),(.str "owner" 456)]::tO []::rO "__init__" "View.__init__" (iC 0 (tp9 11))::cO 181 true "__init__" "View.__init__" 451 46 3 457::fm1 (iC 0 (tp9 11)) "__init__" "View.__init__" 181::tO [(.str "kind" 460),(.str "owner" 461)]::dO [eO P "__module__" 446 (.str "grassnake.store" 187),eO P "__firstlineno__" 450 (.int 44 449),eR P "__init__" 459 182,eR P "__static_attributes__" 462 183,eR P "__dict__" 464 186,eR P "__weakref__" 466 187,eO P "__doc__" 467 .none] 4::kO "View" [(.type "object")] [(.ref 185),(.type "object")] 184 [] #[none,none,some (.str "View" 439),some (.str "View" 447),some (.builtin "object.__new__"),some (.bool true)]::gO "getset_descriptor" [(.str "__dict__" 463),(.ref 185),(.builtin "function.__dict__"),(.builtin "function.__dict__#set")]::gO "getset_descriptor" [(.str "__weakref__" 465),(.ref 185),(.builtin "ExceptionGroup.__weakref__"),.none]::gO "super" [(.ref 185),(.ref 185),(.ref 185)]::gO "builtin_function_or_method" [(.builtin "object.__init_subclass__"),(.ref 185)]::tO []::gO "builtin_function_or_method" [(.builtin "type.__prepare__"),(.type "type")]::dO [eO P "__module__" 477 (.str "grassnake.store" 187),eO P "__qualname__" 479 (.str "World" 478),eO P "__firstlineno__" 481 (.int 49 480),eR P "__init__" 487 201,eR P "__static_attributes__" 492 202] 5::tO []::nO [(.int 51 0),(.int 4 0),(.ref 200)]::gO "code" [(.str "World" 472),(.str "World" 473),(.str "/claim/cut.py" 474),(.int 49 0),(.int 0 0),(.int 0 0),(.int 0 0),(.int 0 0),(.ref 193),(.bool false),(.int 181 0),(.ref 194),.none,.none,.none,.none,(.int 475 0),(.int 49 0),(.str "/claim/cut.py" 476)]::qO [some (.ref 195),some (.ref 3),some (.ref 192),none,some (.str "grassnake.store" 187),none,some (.ref 0)]::tO []::nO []::rO "__init__" "World.__init__" (iC 0 (tp9 12))::cO 200 false "__init__" "World.__init__" 482 51 2 485::fm1 (iC 0 (tp9 12)) "__init__" "World.__init__" 200::tO [(.str "given" 488),(.str "left" 489),(.str "lines" 490),(.str "things" 491)]::dO [eO P "__module__" 477 (.str "grassnake.store" 187),eO P "__firstlineno__" 481 (.int 49 480),eR P "__init__" 487 201,eR P "__static_attributes__" 492 202,eR P "__dict__" 494 205,eR P "__weakref__" 496 206,eO P "__doc__" 497 .none] 4::kO "World" [(.type "object")] [(.ref 204),(.type "object")] 203 [] #[none,none,some (.str "World" 470),some (.str "World" 478),some (.builtin "object.__new__"),some (.bool true)]::gO "getset_descriptor" [(.str "__dict__" 493),(.ref 204),(.builtin "function.__dict__"),(.builtin "function.__dict__#set")]::gO "getset_descriptor" [(.str "__weakref__" 495),(.ref 204),(.builtin "ExceptionGroup.__weakref__"),.none]::gO "super" [(.ref 204),(.ref 204),(.ref 204)]::gO "builtin_function_or_method" [(.builtin "object.__init_subclass__"),(.ref 204)]::tO []::nO []::tO [(.str "world" 503),(.str "thing" 504)]::tO []::rN 13 "added"::oT 214 "added" 500 60 2 505::fn1 13 "added" 214::tO []::nO []::tO [(.str "world" 511),(.str "a" 512)]::tO []::rN 14 "thing_of"::oT 221 "thing_of" 508 63 2 513::fn1 14 "thing_of" 221::tO []::nO []::tO [(.str "world" 519),(.str "name" 520)]::tO []::rN 15 "known"::oT 228 "known" 516 65 2 521::fn1 15 "known" 228::tO []::nO []::tO [(.str "world" 527),(.str "name" 528),(.str "params" 529),(.str "defaults" 530),(.str "code" 531),(.str "around" 532),(.str "gives" 533)]::tO []::rN 16 "function"::oT 235 "function" 524 67 7 534::fn1 16 "function" 235::tO []::nO []::tO [(.str "world" 540),(.str "target" 541),(.str "owner" 542)]::tO []::rN 17 "new_method"::oT 242 "new_method" 537 69 3 543::fn1 17 "new_method" 242::tO []::nO []::tO [(.str "world" 549),(.str "name" 550),(.str "behind" 551),(.str "fields" 552),(.str "is_given" 553),(.str "own" 554)]::tO []::rN 18 "new_class"::oT 249 "new_class" 546 71 5 555::fn1 18 "new_class" 249::tO []::nO []::tO [(.str "world" 561),(.str "a" 562)]::tO []::rN 19 "is_class"::oT 256 "is_class" 558 74 2 563::fn1 19 "is_class" 256::tO []::nO []::tO [(.str "world" 569),(.str "a" 570)]::tO []::rN 20 "is_fault_class"::oT 263 "is_fault_class" 566 76 2 571::fn1 20 "is_fault_class" 263::tO []::nO []::rN 21 "new_object"::oF 268 "new_object" 574 78 2 577::fn1 21 "new_object" 268::tO []::nO []::tO [(.str "world" 583),(.str "kind" 584),(.str "owner" 585)]::tO []::rN 22 "new_view"::oT 275 "new_view" 580 81 3 586::fn1 22 "new_view" 275::tO []::nO []::tO [(.str "world" 592),(.str "name" 593),(.str "frame" 594)]::tO []::rN 23 "giver"::oT 282 "giver" 589 83 3 595::fn1 23 "giver" 282::tO []::nO []::tO [(.str "world" 601),(.str "many" 602)]::tO []::rN 24 "new_count"::oT 289 "new_count" 598 85 2 603::fn1 24 "new_count" 289::tO []::nO []::tO [(.str "world" 609),(.str "a" 610)]::tO []::rN 25 "is_giver"::oT 296 "is_giver" 606 87 2 611::fn1 25 "is_giver" 296::tO []::nO []::tO [(.str "world" 617),(.str "g" 618)]::tO []::rN 26 "frame_of"::oT 303 "frame_of" 614 89 2 619::fn1 26 "frame_of" 303::tO []::nO []::tO [(.str "world" 625),(.str "g" 626)]::tO []::rN 27 "state_of"::oT 310 "state_of" 622 91 2 627::fn1 27 "state_of" 310::tO []::nO []::tO [(.str "world" 633),(.str "g" 634),(.str "state" 635),(.str "thing" 636)]::tO []::rN 28 "set_state"::oT 317 "set_state" 630 93 3 637::fn1 28 "set_state" 317::tO []::nO []::tO [(.str "world" 645),(.str "classes" 646),(.str "name" 647),(.str "one" 648),(.str "fields" 649)]::tO []::rN 30 "found_in"::oT 324 "found_in" 642 97 3 650::fn2 30 "found_in" 324::tO []::nO []::tO [(.str "world" 656),(.str "owner" 657),(.str "classes" 658),(.str "name" 659),(.str "found" 660)]::tO []::rN 31 "found_by_way"::oT 331 "found_by_way" 653 103 4 661::fn2 31 "found_by_way" 331::tO []::nO []::tO [(.str "world" 667),(.str "owner" 668)]::tO []::rN 32 "order_of_owner"::oT 338 "order_of_owner" 664 108 2 669::fn2 32 "order_of_owner" 338::tO []::nO []::tO [(.str "world" 675),(.str "view" 676),(.str "name" 677),(.str "order" 678)]::tO []::rN 33 "found_of_view"::oT 345 "found_of_view" 672 110 3 679::fn2 33 "found_of_view" 345::tO []::nO []::tO [(.str "world" 685),(.str "a" 686),(.str "name" 687),(.str "thing" 688),(.str "found" 689)]::tO []::rN 34 "field_of"::oT 352 "field_of" 682 113 3 690::fn2 34 "field_of" 352::tO []::nO []::tO [(.str "thing" 696)]::tO []::rN 35 "can_be_put"::oT 359 "can_be_put" 693 125 1 697::fn2 35 "can_be_put" 359::tO []::nO []::tO [(.str "world" 703),(.str "a" 704),(.str "name" 705),(.str "v" 706),(.str "thing" 707)]::tO []::rN 36 "put_field"::oT 366 "put_field" 700 127 4 708::fn2 36 "put_field" 366::tO []::nO []::tO [(.str "word" 714),(.str "name" 715)]::tO []::rN 37 "named"::oT 373 "named" 711 133 2 716::fn2 37 "named" 373::tO []::nO []::tO [(.str "world" 722),(.str "thing" 723)]::tO []::rN 38 "text_of_thing"::oT 380 "text_of_thing" 719 135 2 724::fn2 38 "text_of_thing" 380::tO []::nO []::tO [(.str "world" 730),(.str "a" 731)]::tO []::rN 39 "text_of"::oT 387 "text_of" 727 145 2 732::fn2 39 "text_of" 387::tO []::nO []::tO [(.str "world" 740),(.str "a" 741),(.str "thing" 742)]::tO []::rN 41 "is_fault"::oT 394 "is_fault" 737 150 2 743::fn6 41 "is_fault" 394::tO [(.str "fault" 750),(.str "KindFault" 751)]::dO [eR P "say" 753 398,eR P "take" 756 399,eR P "isa" 759 400,eR P "elder" 762 401,eR P "count" 765 402,eR P "go" 768 403,eR P "throw" 771 404,eR P "shut" 774 405] 8::tO [(.int 1 754),(.int 1 755)]::tO [(.int 0 757),(.int 0 758)]::tO [(.int 2 760),(.int 2 761)]::tO [(.int 2 763),(.int 2 764)]::tO [(.int 1 766),(.int 1 767)]::tO [(.int 1 769),(.int 2 770)]::tO [(.int 2 772),(.int 2 773)]::tO [(.int 1 775),(.int 1 776)]::tO []::nO []::tO [(.str "world" 789),(.str "f" 790),(.str "values" 791),(.str "target" 792),(.str "lacking" 793)]::tO []::rN 46 "entered"::oT 411 "entered" 786 157 3 794::fn3 46 "entered" 411::tO []::nO []::tO [(.str "world" 800),(.str "kind" 801),(.str "values" 802),(.str "made" 803),(.str "start" 804),(.str "is_method" 805)]::tO []::rN 47 "object_of"::oT 418 "object_of" 797 163 3 806::fn3 47 "object_of" 418::tO []::nO []::tO [(.str "world" 812),(.str "x" 813)]::tO []::rN 48 "said"::oT 425 "said" 809 174 2 814::fn3 48 "said" 425::tO []::nO []::tO [(.str "world" 820),(.str "n" 821)]::tO []::rN 49 "taken_input"::oT 432 "taken_input" 817 177 1 822::fn3 49 "taken_input" 432::tO []::nO []::tO [(.str "world" 828),(.str "x" 829),(.str "kind" 830)]::tO []::rN 50 "is_under"::oT 439 "is_under" 825 180 3 831::fn3 50 "is_under" 439::tO []::nO []::tO [(.str "world" 837),(.str "x" 838),(.str "kind" 839)]::tO []::rN 51 "told_isa"::oT 446 "told_isa" 834 182 3 840::fn3 51 "told_isa" 446::tO []::nO []::tO [(.str "world" 846),(.str "kind" 847),(.str "x" 848)]::tO []::rN 52 "viewed"::oT 453 "viewed" 843 184 3 849::fn3 52 "viewed" 453::tO []::nO []::tO [(.str "world" 855),(.str "n" 856)]::tO []::rN 53 "counted"::oT 460 "counted" 852 186 2 857::fn3 53 "counted" 460::tO []::nO []::tO [(.str "world" 863),(.str "g" 864),(.str "state" 865)]::tO []::rN 54 "state_to_go"::oT 467 "state_to_go" 860 190 2 866::fn3 54 "state_to_go" 467::tO []::nO []::tO [(.str "world" 872),(.str "g" 873),(.str "v" 874),(.str "state" 875)]::tO []::rN 55 "gone_on"::oT 474 "gone_on" 869 193 3 876::fn3 55 "gone_on" 474::tO []::nO []::tO [(.str "world" 882),(.str "g" 883),(.str "fault" 884),(.str "state" 885)]::tO []::rN 56 "thrown"::oT 481 "thrown" 879 202 3 886::fn3 56 "thrown" 481::tO []::nO []::tO [(.str "world" 892),(.str "g" 893),(.str "state" 894)]::tO []::rN 57 "shut_down"::oT 488 "shut_down" 889 207 2 895::fn3 57 "shut_down" 488::tO []::nO []::tO [(.str "world" 901),(.str "name" 902),(.str "values" 903),(.str "bounds" 904)]::tO []::rN 58 "called_given"::oT 495 "called_given" 898 215 3 905::fn3 58 "called_given" 495::tO []::nO []::tO [(.str "world" 911),(.str "a" 912),(.str "values" 913),(.str "thing" 914)]::tO []::rN 59 "called"::oT 502 "called" 908 234 3 915::fn3 59 "called" 502::tO []::nO []::tO [(.str "one" 925),(.str "other" 926)]::tO []::rN 62 "is_same"::oT 509 "is_same" 922 245 2 927::fn4 62 "is_same" 509::tO []::nO []::rN 63 "is_behind_head"::oF 514 "is_behind_head" 930 247 2 933::fn4 63 "is_behind_head" 514::tO []::nO []::rN 64 "place_of_free"::oF 519 "place_of_free" 936 249 1 939::fn4 64 "place_of_free" 519::tO []::nO []::rN 65 "without_head"::oF 524 "without_head" 942 255 2 945::fn4 65 "without_head" 524::tO []::nO []::rN 66 "merged"::oF 529 "merged" 948 258 1 951::fn4 66 "merged" 529::tO []::nO []::rN 67 "order_of"::oF 534 "order_of" 954 269 2 957::fn4 67 "order_of" 534::tO []::nO []::tO [(.str "world" 963),(.str "name" 964),(.str "order" 965),(.str "fields" 966)]::tO []::rN 68 "class_of"::oT 541 "class_of" 960 279 4 967::fn4 68 "class_of" 541::tO []::nO []::tO [(.str "_law_script" 975),(.str "_law_k" 976)]::tO []::rN 70 "_law_cell_at"::oT 548 "_law_cell_at" 972 282 2 977::fn5 70 "_law_cell_at" 548::tO []::nO []::tO [(.str "_law_cells" 983),(.str "_law_spot" 984),(.str "_law_k" 985),(.str "_law_base" 986)]::tO []::rN 71 "_law_cell"::oT 555 "_law_cell" 980 286 2 987::fn5 71 "_law_cell" 555::tO []::nO []::rN 72 "_law_names"::oF 560 "_law_names" 990 293 1 993::fn5 72 "_law_names" 560::tO []::nO []::tO [(.str "_law_n" 999),(.str "_law_some" 1000)]::tO []::rN 73 "_law_plain"::oT 567 "_law_plain" 996 302 1 1001::fn5 73 "_law_plain" 567::tO []::nO []::rN 74 "_law_merged"::oF 572 "_law_merged" 1004 305 1 1007::fn5 74 "_law_merged" 572::tO []::nO []::tO [(.str "_law_found" 1013),(.str "_law_word" 1014)]::tO []::rN 75 "_law_given_orders"::oT 579 "_law_given_orders" 1010 321 0 1015::fn5 75 "_law_given_orders" 579::tO []::nO []::rN 76 "_law_order"::oF 584 "_law_order" 1018 327 2 1021::fn5 76 "_law_order" 584::tO []::nO []::rN 77 "_law_class"::oF 589 "_law_class" 1024 335 5 1027::fn5 77 "_law_class" 589::tO []::nO []::rN 78 "_law_object"::oF 594 "_law_object" 1030 355 3 1033::fn5 78 "_law_object" 594::tO []::nO []::rN 79 "_law_view"::oF 599 "_law_view" 1036 366 3 1039::fn5 79 "_law_view" 599::tO []::nO []::tO [(.str "_law_there" 1045),(.str "_law_one" 1046),(.str "_law_name" 1047),(.str "_law_order_here" 1048),(.str "_law_k" 1049),(.str "_law_owner" 1050)]::tO []::rN 80 "_law_due"::oT 606 "_law_due" 1042 381 3 1051::fn5 80 "_law_due" 606::tO []::nO []::rN 81 "_law_asked"::oF 611 "_law_asked" 1054 390 5 1057::fn5 81 "_law_asked" 611::tO []::nO []::tO [(.str "_law_world" 1063),(.str "_law_there" 1064),(.str "_law_cells" 1065),(.str "_law_spot" 1066),(.str "_law_names_here" 1067),(.str "_law_methods" 1068),(.str "_law_n" 1069),(.str "_law_more" 1070),(.str "_law_one" 1071),(.str "_law_name" 1072),(.str "_law_value" 1073),(.str "_law_found" 1074)]::tO []::rN 82 "_law_deed"::oT 618 "_law_deed" 1060 405 6 1075::fn5 82 "_law_deed" 618::tO []::nO []::tO [(.str "_law_world" 1081),(.str "_law_there" 1082),(.str "_law_one" 1083),(.str "_law_due_here" 1084)]::tO []::rN 83 "_law_texts_right"::oT 625 "_law_texts_right" 1078 430 2 1085::fn5 83 "_law_texts_right" 625::tO []::nO []::rN 84 "law"::oF 630 "law" 1088 436 1 1091::fn5 84 "law" 630::[]
def oAll (P : Params) (g : Obj) (m : Nat) : List Obj := W.boot_o_0 P :: W.boot_o_1 P :: W.boot_o_2 P :: g :: W.boot_o_4 P :: W.boot_o_5 P :: W.boot_o_6 P :: W.boot_o_7 P :: W.boot_o_8 P :: W.boot_o_9 P :: W.boot_o_10 P :: o11 P :: nT (t12.take m) :: oR P
def ev : List Obj → List Obj
  | [] => []
  | [x] => [x]
  | x :: _ :: r => x :: ev r
def bt : Nat → List Obj → W.BT
  | 0,_ => .nil
  | _,[] => .nil
  | f + 1,x :: r => .node x (bt f (ev r)) (bt f (ev r.tail))
def l0 (P : Params) : List Obj := (oAll P (W.boot_o_3 P) 0).take 15
def l1 (P : Params) : List Obj := (oAll P (dO [eO P "__name__" 165 (.str "grassnake.store" 187),eO P "__doc__" 166 .none,eO P "__package__" 167 .none,eO P "__loader__" 168 (.builtin "__main__.__loader__#opaque"),eO P "__spec__" 169 .none,eR P "__annotations__" 170 6,eR P "__builtins__" 171 4,eO P "__file__" 173 (.str "/claim/cut.py" 172),eO P "__cached__" 174 .none,eR P "NONE" 190 15,eR P "GIVEN_FUNCTIONS" 199 16,eR P "GIVEN_CLASSES" 234 41,eR P "FAULT_FIELDS" 238 42,eR P "Function" 277 59,eR P "Given" 306 80,eR P "Method" 337 101,eR P "Kind" 372 122,eR P "Object" 403 143,eR P "Giver" 438 164,eR P "View" 469 185,eR P "World" 499 204,eR P "added" 507 215,eR P "thing_of" 515 222,eR P "known" 523 229,eR P "function" 536 236,eR P "new_method" 545 243] 26) 13).take 244
def l2 (P : Params) : List Obj := (oAll P (dO [eO P "__name__" 165 (.str "grassnake.calls" 746),eO P "__doc__" 166 .none,eO P "__package__" 167 .none,eO P "__loader__" 168 (.builtin "__main__.__loader__#opaque"),eO P "__spec__" 169 .none,eR P "__annotations__" 170 6,eR P "__builtins__" 171 4,eO P "__file__" 173 (.str "/claim/cut.py" 172),eO P "__cached__" 174 .none,eR P "NONE" 190 15,eR P "GIVEN_FUNCTIONS" 199 16,eR P "GIVEN_CLASSES" 234 41,eR P "FAULT_FIELDS" 238 42,eR P "Function" 277 59,eR P "Given" 306 80,eR P "Method" 337 101,eR P "Kind" 372 122,eR P "Object" 403 143,eR P "Giver" 438 164,eR P "View" 469 185,eR P "World" 499 204,eR P "added" 507 215,eR P "thing_of" 515 222,eR P "known" 523 229,eR P "function" 536 236,eR P "new_method" 545 243,eR P "new_class" 557 250,eR P "is_class" 565 257,eR P "is_fault_class" 573 264,eR P "new_object" 579 269,eR P "new_view" 588 276,eR P "giver" 597 283,eR P "new_count" 605 290,eR P "is_giver" 613 297,eR P "frame_of" 621 304,eR P "state_of" 629 311,eR P "set_state" 639 318,eR P "found_in" 652 325,eR P "found_by_way" 663 332,eR P "order_of_owner" 671 339,eR P "found_of_view" 681 346,eR P "field_of" 692 353,eR P "can_be_put" 699 360,eR P "put_field" 710 367,eR P "named" 718 374,eR P "text_of_thing" 726 381,eR P "text_of" 734 388,eR P "is_fault" 745 395,eO P "MOST_COUNT" 749 (.int 10000 748),eR P "KIND_FAULT" 752 396] 50) 35).take 397
def l3 (P : Params) : List Obj := (oAll P (dO [eO P "__name__" 165 (.str "grassnake.calls" 746),eO P "__doc__" 166 .none,eO P "__package__" 167 .none,eO P "__loader__" 168 (.builtin "__main__.__loader__#opaque"),eO P "__spec__" 169 .none,eR P "__annotations__" 170 6,eR P "__builtins__" 171 4,eO P "__file__" 173 (.str "/claim/cut.py" 172),eO P "__cached__" 174 .none,eR P "NONE" 190 15,eR P "GIVEN_FUNCTIONS" 199 16,eR P "GIVEN_CLASSES" 234 41,eR P "FAULT_FIELDS" 238 42,eR P "Function" 277 59,eR P "Given" 306 80,eR P "Method" 337 101,eR P "Kind" 372 122,eR P "Object" 403 143,eR P "Giver" 438 164,eR P "View" 469 185,eR P "World" 499 204,eR P "added" 507 215,eR P "thing_of" 515 222,eR P "known" 523 229,eR P "function" 536 236,eR P "new_method" 545 243,eR P "new_class" 557 250,eR P "is_class" 565 257,eR P "is_fault_class" 573 264,eR P "new_object" 579 269,eR P "new_view" 588 276,eR P "giver" 597 283,eR P "new_count" 605 290,eR P "is_giver" 613 297,eR P "frame_of" 621 304,eR P "state_of" 629 311,eR P "set_state" 639 318,eR P "found_in" 652 325,eR P "found_by_way" 663 332,eR P "order_of_owner" 671 339,eR P "found_of_view" 681 346,eR P "field_of" 692 353,eR P "can_be_put" 699 360,eR P "put_field" 710 367,eR P "named" 718 374,eR P "text_of_thing" 726 381,eR P "text_of" 734 388,eR P "is_fault" 745 395,eO P "MOST_COUNT" 749 (.int 10000 748),eR P "KIND_FAULT" 752 396,eR P "VALUES_OF_GIVEN" 785 397,eR P "entered" 796 412,eR P "object_of" 808 419,eR P "said" 816 426,eR P "taken_input" 824 433,eR P "is_under" 833 440,eR P "told_isa" 842 447,eR P "viewed" 851 454] 58) 42).take 455
def l4 (P : Params) : List Obj := (oAll P (dO [eO P "__name__" 165 (.str "law_grassnake_k11_fields_and_texts" 970),eO P "__doc__" 166 .none,eO P "__package__" 167 .none,eO P "__loader__" 168 (.builtin "__main__.__loader__#opaque"),eO P "__spec__" 169 .none,eR P "__annotations__" 170 6,eR P "__builtins__" 171 4,eO P "__file__" 173 (.str "/claim/cut.py" 172),eO P "__cached__" 174 .none,eR P "NONE" 190 15,eR P "GIVEN_FUNCTIONS" 199 16,eR P "GIVEN_CLASSES" 234 41,eR P "FAULT_FIELDS" 238 42,eR P "Function" 277 59,eR P "Given" 306 80,eR P "Method" 337 101,eR P "Kind" 372 122,eR P "Object" 403 143,eR P "Giver" 438 164,eR P "View" 469 185,eR P "World" 499 204,eR P "added" 507 215,eR P "thing_of" 515 222,eR P "known" 523 229,eR P "function" 536 236,eR P "new_method" 545 243,eR P "new_class" 557 250,eR P "is_class" 565 257,eR P "is_fault_class" 573 264,eR P "new_object" 579 269,eR P "new_view" 588 276,eR P "giver" 597 283,eR P "new_count" 605 290,eR P "is_giver" 613 297,eR P "frame_of" 621 304,eR P "state_of" 629 311,eR P "set_state" 639 318,eR P "found_in" 652 325,eR P "found_by_way" 663 332,eR P "order_of_owner" 671 339,eR P "found_of_view" 681 346,eR P "field_of" 692 353,eR P "can_be_put" 699 360,eR P "put_field" 710 367,eR P "named" 718 374,eR P "text_of_thing" 726 381,eR P "text_of" 734 388,eR P "is_fault" 745 395,eO P "MOST_COUNT" 749 (.int 10000 748),eR P "KIND_FAULT" 752 396,eR P "VALUES_OF_GIVEN" 785 397,eR P "entered" 796 412,eR P "object_of" 808 419,eR P "said" 816 426,eR P "taken_input" 824 433,eR P "is_under" 833 440,eR P "told_isa" 842 447,eR P "viewed" 851 454,eR P "counted" 859 461,eR P "state_to_go" 868 468,eR P "gone_on" 878 475,eR P "thrown" 888 482,eR P "shut_down" 897 489,eR P "called_given" 907 496,eR P "called" 917 503,eO P "MOST_CLASSES" 921 (.int 40 920),eR P "is_same" 929 510,eR P "is_behind_head" 935 515,eR P "place_of_free" 941 520,eR P "without_head" 947 525,eR P "merged" 953 530,eR P "order_of" 959 535,eR P "class_of" 969 542,eR P "_law_cell_at" 979 549,eR P "_law_cell" 989 556,eR P "_law_names" 995 561,eR P "_law_plain" 1003 568,eR P "_law_merged" 1009 573,eR P "_law_given_orders" 1017 580,eR P "_law_order" 1023 585,eR P "_law_class" 1029 590,eR P "_law_object" 1035 595,eR P "_law_view" 1041 600,eR P "_law_due" 1053 607,eR P "_law_asked" 1059 612,eR P "_law_deed" 1077 619,eR P "_law_texts_right" 1087 626,eR P "law" 1093 631] 88) 71).take 632
noncomputable abbrev pr9 : Program := r9.row.prog
noncomputable def env9 : Env := { scope := pr9.main.scope,locals := mainNs,globals := mainNs,cells := [],code := .ref 13,frame := some 14 }
noncomputable abbrev b9 : List Stmt := W.behindTheImports pr9
noncomputable abbrev c9 : Code := .body b9 env9
abbrev z9 : Pos := ⟨0,0,0,0⟩
noncomputable abbrev tf9 : List Frame := [W.topFrame z9]
noncomputable def st9 (l : List Obj) (n t : Nat) (os : OsState) : W.SharedT := ⟨bt 12 l,n,{},#[],{},t,os⟩
noncomputable def lA : List Stmt := p9.main.body.take 18
noncomputable def lB : List Stmt := (p9.main.body.drop 18).take 27
noncomputable def lC : List Stmt := (p9.main.body.drop 45).take 8
noncomputable def lD : List Stmt := p9.main.body.drop 53
def K9h (P : Params) : W.Frag := (nat_lit 2,⟨.none,none,.dict #[] 0,#[]⟩)::(nat_lit 3,dO [eO P "__name__" 165 (.str "law_grassnake_k11_fields_and_texts" 970),eO P "__doc__" 166 .none,eO P "__package__" 167 .none,eO P "__loader__" 168 (.builtin "__main__.__loader__#opaque"),eO P "__spec__" 169 .none,eR P "__annotations__" 170 6,eR P "__builtins__" 171 4,eO P "__file__" 173 (.str "/claim/cut.py" 172),eO P "__cached__" 174 .none,eR P "NONE" 190 15,eR P "GIVEN_FUNCTIONS" 199 16,eR P "GIVEN_CLASSES" 234 41,eR P "FAULT_FIELDS" 238 42,eR P "Function" 277 59,eR P "Given" 306 80,eR P "Method" 337 101,eR P "Kind" 372 122,eR P "Object" 403 143,eR P "Giver" 438 164,eR P "View" 469 185,eR P "World" 499 204,eR P "added" 507 215,eR P "thing_of" 515 222,eR P "known" 523 229,eR P "function" 536 236,eR P "new_method" 545 243,eR P "new_class" 557 250,eR P "is_class" 565 257,eR P "is_fault_class" 573 264,eR P "new_object" 579 269,eR P "new_view" 588 276,eR P "giver" 597 283,eR P "new_count" 605 290,eR P "is_giver" 613 297,eR P "frame_of" 621 304,eR P "state_of" 629 311,eR P "set_state" 639 318,eR P "found_in" 652 325,eR P "found_by_way" 663 332,eR P "order_of_owner" 671 339,eR P "found_of_view" 681 346,eR P "field_of" 692 353,eR P "can_be_put" 699 360,eR P "put_field" 710 367,eR P "named" 718 374,eR P "text_of_thing" 726 381,eR P "text_of" 734 388,eR P "is_fault" 745 395,eO P "MOST_COUNT" 749 (.int 10000 748),eR P "KIND_FAULT" 752 396,eR P "VALUES_OF_GIVEN" 785 397,eR P "entered" 796 412,eR P "object_of" 808 419,eR P "said" 816 426,eR P "taken_input" 824 433,eR P "is_under" 833 440,eR P "told_isa" 842 447,eR P "viewed" 851 454,eR P "counted" 859 461,eR P "state_to_go" 868 468,eR P "gone_on" 878 475,eR P "thrown" 888 482,eR P "shut_down" 897 489,eR P "called_given" 907 496,eR P "called" 917 503,eO P "MOST_CLASSES" 921 (.int 40 920),eR P "is_same" 929 510,eR P "is_behind_head" 935 515,eR P "place_of_free" 941 520,eR P "without_head" 947 525,eR P "merged" 953 530,eR P "order_of" 959 535,eR P "class_of" 969 542,eR P "_law_cell_at" 979 549,eR P "_law_cell" 989 556,eR P "_law_names" 995 561,eR P "_law_plain" 1003 568,eR P "_law_merged" 1009 573,eR P "_law_given_orders" 1017 580,eR P "_law_order" 1023 585,eR P "_law_class" 1029 590,eR P "_law_object" 1035 595,eR P "_law_view" 1041 600,eR P "_law_due" 1053 607,eR P "_law_asked" 1059 612,eR P "_law_deed" 1077 619,eR P "_law_texts_right" 1087 626,eR P "law" 1093 631] 88)::(nat_lit 15,tO [(.str "none" 189)])::(nat_lit 16,tO [(.str "say" 191),(.str "take" 192),(.str "isa" 193),(.str "elder" 194),(.str "count" 195),(.str "go" 196),(.str "throw" 197),(.str "shut" 198)])::(nat_lit 17,tO [])::(nat_lit 18,tO [(.str "Thing" 200),(.ref 17)])::(nat_lit 19,tO [(.str "Thing" 202)])::(nat_lit 20,tO [(.str "Fault" 201),(.ref 19)])::(nat_lit 21,tO [(.str "Fault" 204),(.str "Thing" 205)])::(nat_lit 22,tO [(.str "NameFault" 203),(.ref 21)])::(nat_lit 23,tO [(.str "Fault" 207),(.str "Thing" 208)])::(nat_lit 24,tO [(.str "KindFault" 206),(.ref 23)])::(nat_lit 25,tO [(.str "Fault" 210),(.str "Thing" 211)])::(nat_lit 26,tO [(.str "NoughtFault" 209),(.ref 25)])::(nat_lit 27,tO [(.str "Fault" 213),(.str "Thing" 214)])::(nat_lit 28,tO [(.str "GreatFault" 212),(.ref 27)])::(nat_lit 29,tO [(.str "Fault" 216),(.str "Thing" 217)])::(nat_lit 30,tO [(.str "FieldFault" 215),(.ref 29)])::(nat_lit 31,tO [(.str "Fault" 219),(.str "Thing" 220)])::(nat_lit 32,tO [(.str "OrderFault" 218),(.ref 31)])::(nat_lit 33,tO [(.str "Fault" 222),(.str "Thing" 223)])::(nat_lit 34,tO [(.str "EndFault" 221),(.ref 33)])::(nat_lit 35,tO [(.str "Fault" 225),(.str "Thing" 226)])::(nat_lit 36,tO [(.str "ShutFault" 224),(.ref 35)])::(nat_lit 37,tO [(.str "Fault" 228),(.str "Thing" 229)])::(nat_lit 38,tO [(.str "DeepFault" 227),(.ref 37)])::(nat_lit 39,tO [(.str "NameFault" 231),(.str "Fault" 232),(.str "Thing" 233)])::(nat_lit 40,tO [(.str "UnboundFault" 230),(.ref 39)])::(nat_lit 41,tO [(.ref 18),(.ref 20),(.ref 22),(.ref 24),(.ref 26),(.ref 28),(.ref 30),(.ref 32),(.ref 34),(.ref 36),(.ref 38),(.ref 40)])::(nat_lit 42,tO [(.str "word" 235),(.str "cause" 236),(.str "context" 237)])::(nat_lit 55,cO 55 true "__init__" "Function.__init__" 251 8 7 261)::(nat_lit 56,fm1 (iC 0 (tp9 5)) "__init__" "Function.__init__" 55)::(nat_lit 58,dO [eO P "__module__" 246 (.str "grassnake.store" 187),eO P "__firstlineno__" 250 (.int 6 249),eR P "__init__" 263 56,eR P "__static_attributes__" 270 57,eR P "__dict__" 272 60,eR P "__weakref__" 274 61,eO P "__doc__" 275 .none] 4)::(nat_lit 59,kO "Function" [(.type "object")] [(.ref 59),(.type "object")] 58 [] #[none,none,some (.str "Function" 239),some (.str "Function" 247),some (.builtin "object.__new__"),some (.bool true)])::(nat_lit 76,cO 76 true "__init__" "Given.__init__" 290 17 2 295)::(nat_lit 77,fm1 (iC 0 (tp9 6)) "__init__" "Given.__init__" 76)::(nat_lit 79,dO [eO P "__module__" 285 (.str "grassnake.store" 187),eO P "__firstlineno__" 289 (.int 15 288),eR P "__init__" 297 77,eR P "__static_attributes__" 299 78,eR P "__dict__" 301 81,eR P "__weakref__" 303 82,eO P "__doc__" 304 .none] 4)::(nat_lit 80,kO "Given" [(.type "object")] [(.ref 80),(.type "object")] 79 [] #[none,none,some (.str "Given" 278),some (.str "Given" 286),some (.builtin "object.__new__"),some (.bool true)])::(nat_lit 97,cO 97 true "__init__" "Method.__init__" 319 21 3 325)::(nat_lit 98,fm1 (iC 0 (tp9 7)) "__init__" "Method.__init__" 97)::(nat_lit 100,dO [eO P "__module__" 314 (.str "grassnake.store" 187),eO P "__firstlineno__" 318 (.int 19 317),eR P "__init__" 327 98,eR P "__static_attributes__" 330 99,eR P "__dict__" 332 102,eR P "__weakref__" 334 103,eO P "__doc__" 335 .none] 4)::(nat_lit 101,kO "Method" [(.type "object")] [(.ref 101),(.type "object")] 100 [] #[none,none,some (.str "Method" 307),some (.str "Method" 315),some (.builtin "object.__new__"),some (.bool true)])::(nat_lit 118,cO 118 true "__init__" "Kind.__init__" 350 26 5 358)::(nat_lit 119,fm1 (iC 0 (tp9 8)) "__init__" "Kind.__init__" 118)::(nat_lit 121,dO [eO P "__module__" 345 (.str "grassnake.store" 187),eO P "__firstlineno__" 349 (.int 24 348),eR P "__init__" 360 119,eR P "__static_attributes__" 365 120,eR P "__dict__" 367 123,eR P "__weakref__" 369 124,eO P "__doc__" 370 .none] 4)::(nat_lit 122,kO "Kind" [(.type "object")] [(.ref 122),(.type "object")] 121 [] #[none,none,some (.str "Kind" 338),some (.str "Kind" 346),some (.builtin "object.__new__"),some (.bool true)])::(nat_lit 139,cO 139 true "__init__" "Object.__init__" 385 33 3 391)::(nat_lit 140,fm1 (iC 0 (tp9 9)) "__init__" "Object.__init__" 139)::(nat_lit 142,dO [eO P "__module__" 380 (.str "grassnake.store" 187),eO P "__firstlineno__" 384 (.int 31 383),eR P "__init__" 393 140,eR P "__static_attributes__" 396 141,eR P "__dict__" 398 144,eR P "__weakref__" 400 145,eO P "__doc__" 401 .none] 4)::(nat_lit 143,kO "Object" [(.type "object")] [(.ref 143),(.type "object")] 142 [] #[none,none,some (.str "Object" 373),some (.str "Object" 381),some (.builtin "object.__new__"),some (.bool true)])::(nat_lit 160,cO 160 true "__init__" "Giver.__init__" 416 38 4 423)::(nat_lit 161,fm1 (iC 0 (tp9 10)) "__init__" "Giver.__init__" 160)::(nat_lit 163,dO [eO P "__module__" 411 (.str "grassnake.store" 187),eO P "__firstlineno__" 415 (.int 36 414),eR P "__init__" 425 161,eR P "__static_attributes__" 431 162,eR P "__dict__" 433 165,eR P "__weakref__" 435 166,eO P "__doc__" 436 .none] 4)::(nat_lit 164,kO "Giver" [(.type "object")] [(.ref 164),(.type "object")] 163 [] #[none,none,some (.str "Giver" 404),some (.str "Giver" 412),some (.builtin "object.__new__"),some (.bool true)])::(nat_lit 181,cO 181 true "__init__" "View.__init__" 451 46 3 457)::(nat_lit 182,fm1 (iC 0 (tp9 11)) "__init__" "View.__init__" 181)::(nat_lit 184,dO [eO P "__module__" 446 (.str "grassnake.store" 187),eO P "__firstlineno__" 450 (.int 44 449),eR P "__init__" 459 182,eR P "__static_attributes__" 462 183,eR P "__dict__" 464 186,eR P "__weakref__" 466 187,eO P "__doc__" 467 .none] 4)::(nat_lit 185,kO "View" [(.type "object")] [(.ref 185),(.type "object")] 184 [] #[none,none,some (.str "View" 439),some (.str "View" 447),some (.builtin "object.__new__"),some (.bool true)])::(nat_lit 200,cO 200 false "__init__" "World.__init__" 482 51 2 485)::(nat_lit 201,fm1 (iC 0 (tp9 12)) "__init__" "World.__init__" 200)::(nat_lit 203,dO [eO P "__module__" 477 (.str "grassnake.store" 187),eO P "__firstlineno__" 481 (.int 49 480),eR P "__init__" 487 201,eR P "__static_attributes__" 492 202,eR P "__dict__" 494 205,eR P "__weakref__" 496 206,eO P "__doc__" 497 .none] 4)::(nat_lit 204,kO "World" [(.type "object")] [(.ref 204),(.type "object")] 203 [] #[none,none,some (.str "World" 470),some (.str "World" 478),some (.builtin "object.__new__"),some (.bool true)])::(nat_lit 214,oT 214 "added" 500 60 2 505)::(nat_lit 215,fn1 13 "added" 214)::(nat_lit 221,oT 221 "thing_of" 508 63 2 513)::(nat_lit 222,fn1 14 "thing_of" 221)::(nat_lit 228,oT 228 "known" 516 65 2 521)::(nat_lit 229,fn1 15 "known" 228)::(nat_lit 235,oT 235 "function" 524 67 7 534)::(nat_lit 236,fn1 16 "function" 235)::(nat_lit 242,oT 242 "new_method" 537 69 3 543)::(nat_lit 243,fn1 17 "new_method" 242)::(nat_lit 249,oT 249 "new_class" 546 71 5 555)::(nat_lit 250,fn1 18 "new_class" 249)::(nat_lit 256,oT 256 "is_class" 558 74 2 563)::(nat_lit 257,fn1 19 "is_class" 256)::(nat_lit 263,oT 263 "is_fault_class" 566 76 2 571)::(nat_lit 264,fn1 20 "is_fault_class" 263)::(nat_lit 268,oF 268 "new_object" 574 78 2 577)::(nat_lit 269,fn1 21 "new_object" 268)::(nat_lit 275,oT 275 "new_view" 580 81 3 586)::(nat_lit 276,fn1 22 "new_view" 275)::(nat_lit 282,oT 282 "giver" 589 83 3 595)::(nat_lit 283,fn1 23 "giver" 282)::(nat_lit 324,oT 324 "found_in" 642 97 3 650)::(nat_lit 325,fn2 30 "found_in" 324)::(nat_lit 331,oT 331 "found_by_way" 653 103 4 661)::(nat_lit 332,fn2 31 "found_by_way" 331)::(nat_lit 338,oT 338 "order_of_owner" 664 108 2 669)::(nat_lit 339,fn2 32 "order_of_owner" 338)::(nat_lit 345,oT 345 "found_of_view" 672 110 3 679)::(nat_lit 346,fn2 33 "found_of_view" 345)::(nat_lit 352,oT 352 "field_of" 682 113 3 690)::(nat_lit 353,fn2 34 "field_of" 352)::(nat_lit 359,oT 359 "can_be_put" 693 125 1 697)::(nat_lit 360,fn2 35 "can_be_put" 359)::(nat_lit 366,oT 366 "put_field" 700 127 4 708)::(nat_lit 367,fn2 36 "put_field" 366)::(nat_lit 373,oT 373 "named" 711 133 2 716)::(nat_lit 374,fn2 37 "named" 373)::(nat_lit 380,oT 380 "text_of_thing" 719 135 2 724)::(nat_lit 381,fn2 38 "text_of_thing" 380)::(nat_lit 387,oT 387 "text_of" 727 145 2 732)::(nat_lit 388,fn2 39 "text_of" 387)::(nat_lit 396,tO [(.str "fault" 750),(.str "KindFault" 751)])::(nat_lit 397,dO [eR P "say" 753 398,eR P "take" 756 399,eR P "isa" 759 400,eR P "elder" 762 401,eR P "count" 765 402,eR P "go" 768 403,eR P "throw" 771 404,eR P "shut" 774 405] 8)::(nat_lit 398,tO [(.int 1 754),(.int 1 755)])::(nat_lit 399,tO [(.int 0 757),(.int 0 758)])::(nat_lit 400,tO [(.int 2 760),(.int 2 761)])::(nat_lit 401,tO [(.int 2 763),(.int 2 764)])::(nat_lit 402,tO [(.int 1 766),(.int 1 767)])::(nat_lit 403,tO [(.int 1 769),(.int 2 770)])::(nat_lit 404,tO [(.int 2 772),(.int 2 773)])::(nat_lit 405,tO [(.int 1 775),(.int 1 776)])::(nat_lit 411,oT 411 "entered" 786 157 3 794)::(nat_lit 412,fn3 46 "entered" 411)::(nat_lit 418,oT 418 "object_of" 797 163 3 806)::(nat_lit 419,fn3 47 "object_of" 418)::(nat_lit 439,oT 439 "is_under" 825 180 3 831)::(nat_lit 440,fn3 50 "is_under" 439)::(nat_lit 453,oT 453 "viewed" 843 184 3 849)::(nat_lit 454,fn3 52 "viewed" 453)::(nat_lit 495,oT 495 "called_given" 898 215 3 905)::(nat_lit 496,fn3 58 "called_given" 495)::(nat_lit 502,oT 502 "called" 908 234 3 915)::(nat_lit 503,fn3 59 "called" 502)::(nat_lit 509,oT 509 "is_same" 922 245 2 927)::(nat_lit 510,fn4 62 "is_same" 509)::(nat_lit 514,oF 514 "is_behind_head" 930 247 2 933)::(nat_lit 515,fn4 63 "is_behind_head" 514)::(nat_lit 519,oF 519 "place_of_free" 936 249 1 939)::(nat_lit 520,fn4 64 "place_of_free" 519)::(nat_lit 524,oF 524 "without_head" 942 255 2 945)::(nat_lit 525,fn4 65 "without_head" 524)::(nat_lit 529,oF 529 "merged" 948 258 1 951)::(nat_lit 530,fn4 66 "merged" 529)::(nat_lit 534,oF 534 "order_of" 954 269 2 957)::(nat_lit 535,fn4 67 "order_of" 534)::(nat_lit 541,oT 541 "class_of" 960 279 4 967)::(nat_lit 542,fn4 68 "class_of" 541)::(nat_lit 548,oT 548 "_law_cell_at" 972 282 2 977)::(nat_lit 549,fn5 70 "_law_cell_at" 548)::(nat_lit 555,oT 555 "_law_cell" 980 286 2 987)::(nat_lit 556,fn5 71 "_law_cell" 555)::(nat_lit 560,oF 560 "_law_names" 990 293 1 993)::(nat_lit 561,fn5 72 "_law_names" 560)::(nat_lit 567,oT 567 "_law_plain" 996 302 1 1001)::(nat_lit 568,fn5 73 "_law_plain" 567)::(nat_lit 572,oF 572 "_law_merged" 1004 305 1 1007)::(nat_lit 573,fn5 74 "_law_merged" 572)::(nat_lit 579,oT 579 "_law_given_orders" 1010 321 0 1015)::(nat_lit 580,fn5 75 "_law_given_orders" 579)::(nat_lit 589,oF 589 "_law_class" 1024 335 5 1027)::(nat_lit 590,fn5 77 "_law_class" 589)::(nat_lit 594,oF 594 "_law_object" 1030 355 3 1033)::(nat_lit 595,fn5 78 "_law_object" 594)::(nat_lit 599,oF 599 "_law_view" 1036 366 3 1039)::(nat_lit 600,fn5 79 "_law_view" 599)::(nat_lit 606,oT 606 "_law_due" 1042 381 3 1051)::(nat_lit 607,fn5 80 "_law_due" 606)::(nat_lit 611,oF 611 "_law_asked" 1054 390 5 1057)::(nat_lit 612,fn5 81 "_law_asked" 611)::(nat_lit 618,oT 618 "_law_deed" 1060 405 6 1075)::(nat_lit 619,fn5 82 "_law_deed" 618)::(nat_lit 625,oT 625 "_law_texts_right" 1078 430 2 1085)::(nat_lit 626,fn5 83 "_law_texts_right" 625)::(nat_lit 630,oF 630 "law" 1088 436 1 1091)::(nat_lit 631,fn5 84 "law" 630)::[]
noncomputable def asK9h : List Nat := [2,3,15,16,17,18,19,20,21,22,23,24,25,26,27,28,29,30,31,32,33,34,35,36,37,38,39,40,41,42,55,56,58,59,76,77,79,80,97,98,100,101,118,119,121,122,139,140,142,143,160,161,163,164,181,182,184,185,200,201,203,204,214,215,221,222,228,229,235,236,242,243,249,250,256,257,263,264,268,269,275,276,282,283,324,325,331,332,338,339,345,346,352,353,359,360,366,367,373,374,380,381,387,388,396,397,398,399,400,401,402,403,404,405,411,412,418,419,439,440,453,454,495,496,502,503,509,510,514,515,519,520,524,525,529,530,534,535,541,542,548,549,555,556,560,561,567,568,572,573,579,580,589,590,594,595,599,600,606,607,611,612,618,619,625,626,630,631]
abbrev lo9 : List Str := ["VALUES_OF_GIVEN"]
theorem eK9h (P : Params) : asK9h = (K9h P).map (·.1) := by kernel_rfl
noncomputable def q9 : Program := { p9 with main := { p9.main with body := [1,2,3,4,5,6,7,8,9,10,11,12,13,14,15,16,17,18,19,20,21,22,23,24,25,26,27,28,30,31,32,33,34,35,36,37,38,39,41,43,44,45,46,47,48,49,50,51,52,53,54,55,56,57,58,59,61,62,63,64,65,66,67,68,70,71,72,73,74,75,76,77,78,79,80,81,82,83,84].filterMap fun i => p9.main.body[i]? } }
theorem said9 : r9.wellSaid = true := by decide +kernel
end
end GS
set_option Elab.async false
set_option linter.all false
set_option maxRecDepth 100000
set_option maxHeartbeats 4000000
namespace GS
open PySem
theorem pre9 (w : World) (os : OsState) : W.topGo treeTable pr9 w 11 (some (.ref 6)) 12 ⟨W.boot_heap w.params, #[], W.boot_drawn, W.boot_toks, os⟩ (W.topStub pr9) = some (⟨⟨(l0 w.params).toArray, {}⟩, #[], {}, 187, os⟩, ⟨denote treeTable c9, c9, z9, tf9⟩) := by kernel_rfl
theorem blk9 (w : World) (os : OsState) : W.segRun treeTable pr9 w 11 (some (.ref 6)) 1 1 ⟨⟨(l0 w.params).toArray, {}⟩, #[], {}, 187, os⟩ (W.blockOf b9 env9 c9 z9 tf9) = some (.next, (st9 (l0 w.params) 15 187 os).abs, c9, z9) := by kernel_rfl
theorem pA9 (w : World) (os : OsState) : W.segRunT treeTable pr9 w 11 (some (.ref 6)) 1 2110 (st9 (l0 w.params) 15 187 os) (W.piecesOf lA env9 c9 z9 tf9) = some (.next, st9 (l1 w.params) 244 546 os, c9, ⟨69, 0, 70, 46⟩) := by kernel_rfl
theorem pB9 (w : World) (os : OsState) : W.segRunT treeTable pr9 w 11 (some (.ref 6)) 1 728 (st9 (l1 w.params) 244 546 os) (W.piecesOf lB env9 c9 ⟨69, 0, 70, 46⟩ tf9) = some (.next, st9 (l2 w.params) 397 753 os, c9, ⟨155, 0, 155, 10⟩) := by kernel_rfl
def qC (os : OsState) (w : World) : Prop := W.segRunT treeTable pr9 w 11 (some (.ref 6)) 1 375 (st9 (l2 w.params) 397 753 os) (W.piecesOf lC env9 c9 ⟨155, 0, 155, 10⟩ tf9) = some (.next, st9 (l3 w.params) 455 852 os, c9, ⟨184, 0, 185, 90⟩)
theorem pCf (os : OsState) (w : World) : qC os (w.withFollow "special-get-raises" false) := by unfold qC; kernel_rfl
theorem pCt (os : OsState) (w : World) : qC os (w.withFollow "special-get-raises" true) := by unfold qC; kernel_rfl
theorem pD9 (w : World) (os : OsState) : W.segRunT treeTable pr9 w 11 (some (.ref 6)) 1 878 (st9 (l3 w.params) 455 852 os) (W.piecesOf lD env9 c9 ⟨184, 0, 185, 90⟩ tf9) = some (.next, st9 (l4 w.params) 632 1094 os, c9, ⟨436, 0, 465, 109⟩) := by kernel_rfl
theorem fin9 (w : World) (os : OsState) : W.topRun treeTable pr9 w 11 (some (.ref 6)) 2 (st9 (l4 w.params) 632 1094 os).abs ⟨W.doneF .next, c9, ⟨436, 0, 465, 109⟩, tf9⟩ = some ⟨⟨(l4 w.params).toArray, {}⟩, #[], {}, 1094, os⟩ := by kernel_rfl
theorem eb9 : b9 = lA ++ (lB ++ (lC ++ (lD ++ []))) := by kernel_rfl
theorem run9 (w : World) (os : OsState) : W.topRun treeTable pr9 w 11 (some (.ref 6)) (12 + (1 + (2110 + (728 + (375 + (878 + 2)))))) ⟨W.boot_heap w.params, #[], W.boot_drawn, W.boot_toks, os⟩ (W.topStub pr9) = some ⟨⟨(l4 w.params).toArray, {}⟩, #[], {}, 1094, os⟩ := by
  refine W.go_top (pre9 w os) (W.piece_block (blk9 w os) ?_)
  have e : W.restOf b9 env9 c9 z9 tf9 = W.restOf (lA ++ (lB ++ (lC ++ (lD ++ [])))) env9 c9 z9 tf9 := congrArg (fun l => W.restOf l env9 c9 z9 tf9) eb9
  rw [e]
  exact W.piece_app (W.segRun_of (pA9 w os)) (W.piece_app (W.segRun_of (pB9 w os)) (W.piece_app (W.segRun_of (W.byRow2 "special-get-raises" (pCf os) (pCt os) w)) (W.piece_app (W.segRun_of (pD9 w os)) (W.piece_nil (fin9 w os)))))
theorem left9 : W.LeftO pr9 q9 lo9 (fun s => W.xlAt q9 [] s && W.recOk (W.RowW.records (W.OpenRow.toRowW (W.OpenLaw.row r9))) s) (W.Hook.obs (W.kHook K9h asK9h eK9h)) (W.Hook.val (W.kHook K9h asK9h eK9h)) 8280 :=
  W.LeftO.of_pieces (M := 12 + (1 + (2110 + (728 + (375 + (878 + 2)))))) (H₀ := fun P => W.boot_heap P) (H₁ := fun P => ⟨(l4 P).toArray, {}⟩) (W.boot_open (by kernel_rfl) rfl (fun s => by rfl)) (fun w => by kernel_rfl) run9 rfl (fun w => by kernel_rfl)
end GS
abbrev Fg06:=PySem.W.Frag
abbrev Iq:=@List.mem_cons_of_mem
abbrev Ir:=@List.mem_cons_self
abbrev Iu:=@List.length_append
abbrev Iv:=@decide_eq_false
abbrev Iw:=@decide_eq_true
abbrev Iy:=@List.getElem?_eq_getElem
abbrev Iz:=@List.getD_eq_getElem?_getD
abbrev IA:=@List.getElem?_set_ne
abbrev IB:=@List.getElem?_set_self
abbrev IC:=@List.length_map
abbrev ID:=@Nat.le_trans
abbrev IE:=@Nat.le_refl
abbrev IG:=@List.mem_of_getElem?
abbrev IH:=@if_neg
abbrev II:=@if_pos
abbrev IJ:=@List.getElem?_map
abbrev IK:=@PySem.wpAny_bind
abbrev IL:=@PySem.wpAny_pure
abbrev IM:=@PySem.Heap.get?_push_of_some
abbrev IP:=@Bool.false_ne_true
abbrev IQ:=@PySem.mem_of_lookup
abbrev IT:=@List.length_cons
abbrev IU:=@List.mem_append_left
abbrev IV:=@List.mem_append_right
abbrev IW:=@PySem.PassesOwn.never
abbrev IX:=@List.getElem?_append_right
abbrev IY:=@List.length_set
abbrev IZ:=@of_decide_eq_true
abbrev I0:=@List.mem_append
abbrev Ja:=@List.getElem?_eq_some_iff
abbrev Jb:=@PySem.F.plainAttrs_list
abbrev Jc:=@PySem.F.slot_list_append
abbrev Jd:=@PySem.F.type_list_append
abbrev Je:=@Nat.zero_le
abbrev Jf:=@List.append_nil
abbrev Jg:=@List.map_append
abbrev Jh:=@Nat.lt_of_lt_of_le
abbrev Ji:=@List.mem_cons
abbrev Jj:=@PySem.Heap.lt_size
abbrev Jk:=@Nat.ne_of_lt
abbrev Jl:=@List.length_singleton
abbrev Jm:=@Nat.lt_succ_self
abbrev Jn:=@PySem.Heap.get?_push_size
abbrev Jo:=@List.getElem?_append_left
abbrev Jp:=@List.mem_filter
abbrev Jq:=@List.mem_map
abbrev Jr:=@PySem.wpAny_mono
abbrev U5:=@List.filter_eq_self
abbrev U6:=@List.getElem_of_mem
abbrev U7:=@of_decide_eq_false
abbrev U8:=@Ne.symm
abbrev U9:=@List.size_toArray
abbrev Va:=@List.map_cons
abbrev Vb:=@List.length_take
abbrev Vc:=@List.mem_singleton
abbrev Ve:=@List.length_eq_zero_iff
abbrev Vf:=@Nat.lt_irrefl
abbrev Vg:=@List.length_eq_one_iff
abbrev Vh:=@Bool.and_eq_true
abbrev Vi:=@absurd
abbrev Vj:=@congrArg
set_option Elab.async false
set_option linter.all false
namespace GS
section
variable {α:Type} [DecidableEq α]
def cw (c:α):List α->List α
 | []=>[]
 | x::xs=>if x=c then xs else x::xs
def bx (c:α) (rs:List (List α)):Bool:=rs.any fun r=>decide (c∈r.tail)
def eA (rs:List (List α)):List α:=(rs.filterMap List.head?).filter fun c=>!bx c rs
def fj (rs:List (List α)) (f:List (List α)->Option (List α)):Option (List α):=
 if rs.all List.isEmpty=true then some [] else match eA rs with
  | []=>none
  | c::_=>(f (rs.map (cw c))).map (c::·)
def kP:Nat->List (List α)->Option (List α)
 | 0,rs=>if rs.all List.isEmpty=true then some [] else none
 | n+1,rs=>fj rs (kP n)
def kT (rs:List (List α)):Nat:=(rs.map List.length).foldr (·+·) 0
def mg (rs:List (List α)):Option (List α):=kP (kT rs) rs
theorem eM (r:List α) (rs:List (List α)):kT (r::rs)=r.length+kT rs:=rfl
theorem pj (c:α):∀r:List α,(cw c r).length<=r.length
 | []=>IE _
 | x::xs=>by
  rw[cw];split
  ·exact Nat.le_succ _
  ·exact IE _
theorem yx {c:α}{r:List α}(h:r.head?=some c):(cw c r).length < r.length:=by
 cases r with
 | nil=>cases h
 | cons x xs=>simp at h;subst h;simp[cw]
theorem mQ (c:α):∀rs:List (List α),kT (rs.map (cw c))<=kT rs
 | []=>IE _
 | r::rs=>by
  have h1:=mQ c rs;have h2:=pj c r;rw[Va,eM,eM];omega
theorem tj {c:α}{r:List α}{rs:List (List α)}:c∈(r::rs).filterMap List.head?↔r.head?=some c\/c∈rs.filterMap List.head?:=by
 simp only[List.mem_filterMap,List.mem_cons];constructor
 ·rintro⟨a,rfl | ha,e⟩
  ·exact .inl e
  ·exact .inr ⟨a,ha,e⟩
 ·rintro(e | ⟨a,ha,e⟩)
  ·exact⟨r,.inl rfl,e⟩
  ·exact⟨a,.inr ha,e⟩
theorem gK (c:α):∀{rs:List (List α)},c∈rs.filterMap List.head?->kT (rs.map (cw c)) < kT rs
 | [],h=>by simp at h
 | r::rs,h=>by
  have h1:=mQ c rs;have h2:=pj c r;rw[Va,eM,eM];cases tj.mp h with
  | inl hc=>have:=yx hc;omega
  | inr hc=>have:=gK c hc;omega
theorem ke:∀{rs:List (List α)},kT rs=0->rs.all List.isEmpty=true
 | [],_=>rfl
 | r::rs,h=>by
  rw[eM] at h;have h1:=ke (rs:=rs) (by omega);have h2:r=[]:=Ve.mp (by omega);rw[List.all_cons,h1,h2];rfl
theorem yG:∀(n m:Nat) (rs:List (List α)),kT rs<=n->kT rs<=m->kP n rs=kP m rs:=by
 intro n
 induction n with
 | zero=>
  intro m rs h1 h2;have he:=ke (rs:=rs) (by omega);cases m with
  | zero=>rfl
  | succ m=>rw[kP,kP,fj,II he,II he]
 | succ n ih=>
  intro m rs h1 h2;cases m with
  | zero=>
   have he:=ke (rs:=rs) (by omega);rw[kP,kP,fj,II he,II he]
  | succ m=>
   rw[kP,kP,fj,fj];cases hf:eA rs with
   | nil=>rfl
   | cons c cs=>
    have hc:c∈eA rs:=by rw[hf];exact Ir
    have hl:=gK c (Jp.mp hc).1;dsimp only;rw[ih m _ (by omega) (by omega)]
theorem qk (rs:List (List α)):mg rs=fj rs mg:=by
 unfold mg;cases ht:kT rs with
 | zero=>
  have he:=ke ht;rw[kP,fj,II he,II he]
 | succ n=>
  rw[kP,fj,fj];cases hf:eA rs with
  | nil=>rfl
  | cons c cs=>
   have hc:c∈eA rs:=by rw[hf];exact Ir
   have hl:=gK c (Jp.mp hc).1;dsimp only;rw[yG n (kT (rs.map (cw c))) _ (by omega) (IE _)]
theorem uL {rs:List (List α)}(h:rs.all List.isEmpty=true):mg rs=some []:=by rw[qk,fj,II h]
theorem rj {rs:List (List α)}(h:¬rs.all List.isEmpty=true) (hf:eA rs=[]):mg rs=none:=by rw[qk,fj,IH h,hf]
theorem uK {rs:List (List α)}{c:α}{cs:List α}(hf:eA rs=c::cs):mg rs=(mg (rs.map (cw c))).map (c::·):=by
 have hc:c∈eA rs:=by rw[hf];exact Ir
 have hh:=(Jp.mp hc).1;have h:¬rs.all List.isEmpty=true:=fun z=>by
  rw[List.mem_filterMap] at hh;obtain⟨r,hr,e⟩:=hh;have:=List.all_eq_true.mp z r hr;rw[List.isEmpty_iff.mp this] at e;cases e
 rw[qk,fj,IH h,hf]
def lU (rs:List (List α)):List (List α):=rs.filter fun r=>!r.isEmpty
theorem eK (rs:List (List α)):lU ([]::rs)=lU rs:=rfl
theorem gL (x:α) (xs rs):lU ((x::xs)::rs)=(x::xs)::lU rs:=rfl
theorem lp:∀rs:List (List α),(lU rs).filterMap List.head?=rs.filterMap List.head?
 | []=>rfl
 | []::rs=>by rw[eK,lp rs];rfl
 | (x::xs)::rs=>by rw[gL,List.filterMap_cons,List.filterMap_cons,lp rs]
theorem jY (c:α):∀rs:List (List α),bx c (lU rs)=bx c rs
 | []=>rfl
 | []::rs=>by rw[eK,jY c rs];rfl
 | (x::xs)::rs=>by
  have h:=jY c rs;unfold bx at h ⊢;rw[gL,List.any_cons,List.any_cons,h]
theorem yA (rs:List (List α)):eA (lU rs)=eA rs:=by
 unfold eA;rw[lp];refine congrFun (Vj List.filter (funext fun c=>?_)) _;rw[jY]
theorem jq:∀rs:List (List α),kT (lU rs)=kT rs
 | []=>rfl
 | []::rs=>by rw[eK,jq rs,eM];simp
 | (x::xs)::rs=>by rw[gL,eM,eM,jq rs]
theorem uI (rs:List (List α)):(lU rs).all List.isEmpty=rs.all List.isEmpty:=by
 induction rs with
 | nil=>rfl
 | cons r rs ih=>cases r with
  | nil=>rw[eK,ih];rfl
  | cons x xs=>rw[gL,List.all_cons,List.all_cons];rfl
theorem qf (c:α):∀rs:List (List α),lU ((lU rs).map (cw c))=lU (rs.map (cw c))
 | []=>rfl
 | []::rs=>by rw[eK,qf c rs];rfl
 | (x::xs)::rs=>by
  have h:=qf c rs;rw[gL,Va,Va];cases e:cw c (x::xs) with
  | nil=>rw[eK,eK,h]
  | cons y ys=>rw[gL,gL,h]
theorem ql:∀(n:Nat) (rs:List (List α)),kP n (lU rs)=kP n rs
 | 0,rs=>by rw[kP,kP,uI]
 | n+1,rs=>by
  rw[kP,kP,fj,fj,uI,yA];split
  ·rfl
  ·split
   ·rfl
   ·rw[<-ql n,qf,ql n]
theorem yF (rs:List (List α)):mg (lU rs)=mg rs:=by unfold mg;rw[jq,ql]
def iX (rs:List (List α)) (i:Nat):Bool:=match rs[i]? with
 | some (c::_)=>!bx c (rs.take i++rs.drop (i+1))
 | _=>false
theorem nP {c:α}{rs:List (List α)}{i:Nat}{r:List α}(h:rs[i]?=some r):bx c rs=(decide (c∈r.tail)||bx c (rs.take i++rs.drop (i+1))):=by
 obtain⟨hi,e⟩:=Ja.mp h;have:rs=rs.take i++r::rs.drop (i+1):=by
  rw[<-e,<-List.drop_eq_getElem_cons hi,List.take_append_drop]
 conv=>lhs;rw[this]
 unfold bx;rw[List.any_append,List.any_append,List.any_cons];cases decide (c∈r.tail)<;>cases (List.take i rs).any (fun r=>decide (c∈r.tail))<;>rfl
theorem kZ {rs:List (List α)}{i:Nat}{c:α}{cs:List α}(h:rs[i]?=some (c::cs)) (hn:(c::cs).Nodup):iX rs i=!bx c rs:=by
 rw[nP h,iX,h];have:decide (c∈(c::cs).tail)=false:=Iv (List.nodup_cons.mp hn).1;rw[this];rfl
theorem wt {rs:List (List α)}(hn:∀r∈rs,r≠[]/\r.Nodup) (h:∀i,i < rs.length->iX rs i=false):eA rs=[]:=by
 unfold eA;rw[List.filter_eq_nil_iff];intro c hc;rw[List.mem_filterMap] at hc;obtain⟨r,hr,e⟩:=hc;obtain⟨i,hi,ei⟩:=U6 hr;cases r with
 | nil=>cases e
 | cons x xs=>
  cases e;have h1:=kZ (Ja.mpr ⟨hi,ei⟩) (hn _ hr).2;rw[h i hi] at h1;rw[<-h1];decide
theorem tw {rs:List (List α)}{i:Nat}{c:α}{cs:List α}(hn:∀r∈rs,r≠[]/\r.Nodup) (hi:rs[i]?=some (c::cs)) (ho:iX rs i=true) (h:∀j,j < i->iX rs j=false):∃more,eA rs=c::more:=by
 obtain⟨hl,e⟩:=Ja.mp hi;have hs:rs=rs.take i++(c::cs)::rs.drop (i+1):=by
  rw[<-e,<-List.drop_eq_getElem_cons hl,List.take_append_drop]
 have hc:bx c rs=false:=by
  have:=kZ hi (hn _ (IG hi)).2;rw[ho] at this;revert this;cases bx c rs<;>simp
 have ht:((rs.take i).filterMap List.head?).filter (fun c=>!bx c rs)=[]:=by
  rw[List.filter_eq_nil_iff];intro d hd;rw[List.mem_filterMap] at hd;obtain⟨r,hr,er⟩:=hd;obtain⟨j,hj,ej⟩:=U6 hr;rw[Vb] at hj;have J2:rs[j]?=some r:=by
   rw[Ja];exact⟨by omega,by rw[<-ej,List.getElem_take]⟩
  cases r with
  | nil=>cases er
  | cons x xs=>
   cases er;have h1:=kZ J2 (hn _ (IG J2)).2;rw[h j (by omega)] at h1;rw[<-h1];decide
 unfold eA;generalize hp:(fun c=>!bx c rs)=p at ht ⊢;refine⟨((rs.drop (i+1)).filterMap List.head?).filter p,?_⟩;have hpc:p c=true:=by rw[<-hp];show(!bx c rs)=true;rw[hc];rfl
 conv=>lhs;rw[hs]
 rw[List.filterMap_append,List.filter_append,ht,List.nil_append,List.filterMap_cons];show List.filter p (c::_)=_;rw[List.filter_cons_of_pos hpc]
theorem k7 (c:α):∀r:List α,(cw c r).Sublist r
 | []=>List.Sublist.refl _
 | x::xs=>by
  rw[cw];split
  ·exact List.sublist_cons_self ..
  ·exact List.Sublist.refl _
theorem qZ {c:α}{r:List α}(h:r.Nodup):(cw c r).Nodup:=h.sublist (k7 c r)
theorem yw {c:α}{rs:List (List α)}(h:bx c rs=false):∀r∈rs.map (cw c),c∉r:=by
 intro r hr hc;obtain⟨q,hq,rfl⟩:=Jq.mp hr;have h1:¬c∈q.tail:=by
  intro z;have:bx c rs=true:=List.any_eq_true.mpr ⟨q,hq,Iw z⟩;rw[h] at this;cases this
 cases q with
 | nil=>cases hc
 | cons x xs=>
  rw[cw] at hc;split at hc
  ·exact h1 hc
  ·rename_i hx;cases hc with
   | head=>exact hx rfl
   | tail _ z=>exact h1 z
theorem uH {c x}(hx:x≠c):∀{r:List α},x∈cw c r↔x∈r
 | []=>Iff.rfl
 | y::ys=>by
  rw[cw];split
  ·rename_i hy;subst hy;exact⟨fun z=>.tail _ z,fun z=>by cases z with | head=>exact Vi rfl hx | tail _ z=>exact z⟩
  ·exact Iff.rfl
theorem lF:∀(n:Nat) (rs:List (List α)){l:List α},kP n rs=some l->l.Nodup/\∀x,x∈l↔∃r∈rs,x∈r
 | 0,rs,l,h=>by
  rw[kP] at h;split at h
  ·rename_i he;cases h;refine⟨List.nodup_nil,fun x=>⟨fun z=>by simp at z,fun⟨r,hr,hx⟩=>?_⟩⟩;rw[List.isEmpty_iff.mp (List.all_eq_true.mp he r hr)] at hx;exact hx
  ·cases h
 | n+1,rs,l,h=>by
  rw[kP,fj] at h;split at h
  ·rename_i he;cases h;refine⟨List.nodup_nil,fun x=>⟨fun z=>by simp at z,fun⟨r,hr,hx⟩=>?_⟩⟩;rw[List.isEmpty_iff.mp (List.all_eq_true.mp he r hr)] at hx;exact hx
  ·split at h
   ·cases h
   ·rename_i c cs hf;rw[Option.map_eq_some_iff] at h;obtain⟨l',KL,rfl⟩:=h;obtain⟨h1,h2⟩:=lF n _ KL;have hc:c∈eA rs:=by rw[hf];exact Ir
    obtain⟨MA,ND⟩:=Jp.mp hc;have hb:bx c rs=false:=by revert ND;cases bx c rs<;>simp
    have hg:=yw hb;refine⟨List.nodup_cons.mpr ⟨fun z=>?_,h1⟩,fun x=>?_⟩
    ·obtain⟨r,hr,hx⟩:=(h2 c).mp z;exact hg r hr hx
    ·by_cases hx:x=c
     ·subst hx;refine⟨fun _=>?_,fun _=>.head _⟩;rw[List.mem_filterMap] at MA;obtain⟨r,hr,e⟩:=MA;exact⟨r,hr,List.mem_of_mem_head? (by rw[e];rfl)⟩
     ·constructor
      ·intro z;cases z with
       | head=>exact Vi rfl hx
       | tail _ z=>
        obtain⟨r,hr,Rm⟩:=(h2 x).mp z;obtain⟨q,hq,rfl⟩:=Jq.mp hr;exact⟨q,hq,(uH hx).mp Rm⟩
      ·rintro⟨r,hr,Rm⟩;exact .tail _ ((h2 x).mpr ⟨_,List.mem_map_of_mem hr,(uH hx).mpr Rm⟩)
theorem yE {rs:List (List α)}{l:List α}(h:mg rs=some l):l.Nodup:=(lF _ _ h).1
theorem DF {rs:List (List α)}{l:List α}(h:mg rs=some l){x:α}:x∈l↔∃r∈rs,x∈r:=(lF _ _ h).2 x
end
section
variable {α β:Type} [DecidableEq α] [DecidableEq β]
theorem vM {f:α->β}{S:α->Prop}(hf:∀x y,S x->S y->f x=f y->x=y){c:α}(hc:S c):∀{r:List α},(∀x∈r,S x)->cw (f c) (r.map f)=(cw c r).map f
 | [],_=>rfl
 | x::xs,h=>by
  rw[Va,cw,cw];by_cases hx:x=c
  ·rw[II hx,II (by rw[hx])]
  ·rw[IH hx,IH (fun z=>hx (hf _ _ (h x Ir) hc z))];rfl
theorem tQ {f:α->β}{S:α->Prop}(hf:∀x y,S x->S y->f x=f y->x=y){c:α}(hc:S c){rs:List (List α)}(h:∀r∈rs,∀x∈r,S x):bx (f c) (rs.map (List.map f))=bx c rs:=by
 induction rs with
 | nil=>rfl
 | cons r rs ih=>
  have h1:=ih fun q hq=>h q (Iq _ hq);unfold bx at h1 ⊢;rw[Va,List.any_cons,List.any_cons,h1];have:decide (f c∈(r.map f).tail)=decide (c∈r.tail):=by
   refine decide_eq_decide.mpr ?_;rw[<-List.map_tail,Jq];constructor
   ·rintro⟨x,hx,e⟩;have:=hf x c (h r Ir x (List.mem_of_mem_tail hx)) hc e;exact this▸hx
   ·intro z;exact⟨c,z,rfl⟩
  rw[this]
theorem za {f:α->β}{S:α->Prop}(hf:∀x y,S x->S y->f x=f y->x=y){rs:List (List α)}(h:∀r∈rs,∀x∈r,S x):eA (rs.map (List.map f))=(eA rs).map f:=by
 unfold eA;have e:(rs.map (List.map f)).filterMap List.head?=(rs.filterMap List.head?).map f:=by
  rw[List.filterMap_map,List.map_filterMap];refine congrFun (Vj List.filterMap (funext fun r=>?_)) _;cases r<;>rfl
 rw[e,List.filter_map];refine Vj _ (List.filter_congr fun c hc=>?_);rw[List.mem_filterMap] at hc;obtain⟨r,hr,er⟩:=hc;show(!bx (f c) (rs.map (List.map f)))=!bx c rs;rw[tQ hf (h r hr c (List.mem_of_mem_head? (by rw[er];rfl))) h]
theorem uc (f:α->β):∀rs:List (List α),kT (rs.map (List.map f))=kT rs
 | []=>rfl
 | r::rs=>by rw[Va,eM,eM,uc f rs,IC]
theorem Au {f:α->β}{S:α->Prop}(hf:∀x y,S x->S y->f x=f y->x=y):∀(n:Nat) (rs:List (List α)),(∀r∈rs,∀x∈r,S x)->kP n (rs.map (List.map f))=(kP n rs).map (List.map f):=by
 have ha:∀rs:List (List α),(rs.map (List.map f)).all List.isEmpty=rs.all List.isEmpty:=fun rs=>by
  rw[List.all_map];refine Vj _ (funext fun r=>?_);cases r<;>rfl
 intro n
 induction n with
 | zero=>intro rs h;rw[kP,kP,ha];split<;>rfl
 | succ n ih=>
  intro rs h;rw[kP,kP,fj,fj,ha,za hf h];split
  ·rfl
  ·cases RH:eA rs with
   | nil=>rfl
   | cons c cs=>
    have hc:c∈eA rs:=by rw[RH];exact Ir
    have MA:=(Jp.mp hc).1;rw[List.mem_filterMap] at MA;obtain⟨r,hr,er⟩:=MA;have hS:=h r hr c (List.mem_of_mem_head? (by rw[er];rfl));dsimp only[Va];have e:(rs.map (List.map f)).map (cw (f c))=(rs.map (cw c)).map (List.map f):=by
     rw[List.map_map,List.map_map];exact List.map_congr_left fun q hq=>vM hf hS (h q hq)
    show Option.map (fun x=>f c::x) (kP n (List.map (cw (f c)) (List.map (List.map f) rs)))=_;rw[e,ih]
    ·rw[Option.map_map,Option.map_map];rfl
    ·intro q hq x hx;obtain⟨q',LZ,rfl⟩:=Jq.mp hq;exact h q' LZ x ((k7 c q').subset hx)
theorem sR {f:α->β}{S:α->Prop}(hf:∀x y,S x->S y->f x=f y->x=y){rs:List (List α)}(h:∀r∈rs,∀x∈r,S x):mg (rs.map (List.map f))=(mg rs).map (List.map f):=by unfold mg;rw[uc,Au hf _ _ h]
end
end GS
set_option maxRecDepth 100000
namespace L2
open PySem PySem.Spec PyProof.Rows
abbrev Key:=Sum Int Str
def nK:Key->Value->Bool
 | .inl k,v=>Value.isInt k v
 | .inr x,v=>Value.isStrOf x v
def HS (w:World):Key->Int
 | .inl k=>hashInt k
 | .inr x=>hashStr w x
theorem cW:∀{k:Key}{v:Value},nK k v=true->(∃i t,k=Sum.inl i/\v=Value.int i t)\/(∃x t,k=Sum.inr x/\v=Value.str x t)
 | .inl i,v,h=>by
  obtain⟨t,e⟩:=Value.isInt_shape (k:=i) (v:=v) h;exact .inl ⟨i,t,rfl,e⟩
 | .inr x,v,h=>by
  obtain⟨t,e⟩:=Value.isStrOf_shape (x:=x) (v:=v) h;exact .inr ⟨x,t,rfl,e⟩
theorem wa (i:Int) (t:Tok):nK (.inl i) (.int i t)=true:=by simp[nK,Value.isInt]
theorem v7 (x:Str) (t:Tok):nK (.inr x) (.str x t)=true:=by simp[nK,Value.isStrOf]
theorem DP (a b:Int):decide ((Sum.inl a:Key)=Sum.inl b)=(a == b):=by
 by_cases e:a=b
 ·subst e;simp
 ·have h:¬(Sum.inl a:Key)=Sum.inl b:=fun q=>e (Sum.inl.inj q);rw[Iv h];exact(beq_eq_false_iff_ne.mpr e).symm
theorem DL (a b:Str):decide ((Sum.inr a:Key)=Sum.inr b)=decide (a=b):=by
 by_cases e:a=b
 ·subst e;simp
 ·have h:¬(Sum.inr a:Key)=Sum.inr b:=fun q=>e (Sum.inr.inj q);rw[Iv h,Iv e]
theorem DN (a:Int) (b:Str):decide ((Sum.inl a:Key)=Sum.inr b)=false:=Iv (fun q=>nomatch q)
theorem DM (a:Str) (b:Int):decide ((Sum.inr a:Key)=Sum.inl b)=false:=Iv (fun q=>nomatch q)
def bB (prog:Program) (w:World):PySem.KeyKind prog w Key where
 is:=nK
 hash:=HS w
 inj:=fun v a b ha hb=>by
  rcases cW ha with ⟨i,t,rfl,rfl⟩ | ⟨x,t,rfl,rfl⟩
  ·rcases cW hb with ⟨j,u,rfl,e⟩ | ⟨y,u,rfl,e⟩
   ·injection e with e1 _;rw[e1]
   ·exact nomatch e
  ·rcases cW hb with ⟨j,u,rfl,e⟩ | ⟨y,u,rfl,e⟩
   ·exact nomatch e
   ·injection e with e1 _;rw[e1]
 byValue:=fun k v h=>by
  rcases cW h with ⟨i,t,rfl,rfl⟩ | ⟨x,t,rfl,rfl⟩<;>rfl
 pyHash:=fun hv h=>by
  rcases cW hv with ⟨i,t,rfl,rfl⟩ | ⟨x,t,rfl,rfl⟩
  ·exact wpAny_pyHash_int h
  ·exact wpAny_pyHash_str h
 eqBool:=fun hu hv h=>by
  rcases cW hu with ⟨i,t,rfl,rfl⟩ | ⟨x,t,rfl,rfl⟩
  ·rcases cW hv with ⟨j,u,rfl,rfl⟩ | ⟨y,u,rfl,rfl⟩
   ·rw[DP] at h;exact wpAny_eqBool_int h
   ·rw[DN] at h;exact SeqAt.EqAt.int_str i t y u _ _ _ _ h
  ·rcases cW hv with ⟨j,u,rfl,rfl⟩ | ⟨y,u,rfl,rfl⟩
   ·rw[DM] at h;exact SeqAt.EqAt.str_int x t j u _ _ _ _ h
   ·rw[DL] at h;exact wpAny_eqBool_str h
 «strs»:=fun k x t v h=>by
  rcases cW h with ⟨i,u,rfl,e⟩ | ⟨y,u,rfl,e⟩
  ·exact nomatch e
  ·injection e with e1 _;subst e1;cases v<;>rfl
theorem rh (prog:Program) (w:World) (i:Int) (t:Tok):(bB prog w).is (.inl i) (.int i t)=true:=wa i t
theorem rg (prog:Program) (w:World) (x:Str) (t:Tok):(bB prog w).is (.inr x) (.str x t)=true:=v7 x t
end L2
namespace L2
open PySem PySem.Spec PyProof.Rows
inductive V where
 | bb | bl (b:Bool) | int (i:Int) | str (x:Str) | wM (b:Array UInt8) | GW (b:UInt64) | ref (a:Addr) | ty (n:String)
 deriving DecidableEq
def RelV:V->Value->Prop
 | .bb,u=>u=Value.none
 | .bl b,u=>u=Value.bool b
 | .int i,u=>∃t,u=Value.int i t
 | .str x,u=>∃t,u=Value.str x t
 | .wM b,u=>∃t,u=Value.bytes b t
 | .GW b,u=>∃t,u=Value.float b t
 | .ref a,u=>u=Value.ref a
 | .ty n,u=>u=Value.type n
abbrev U2:List V->List Value->Prop:=Paired RelV
theorem U2.length {xs:List V}{us:List Value}(r:U2 xs us):xs.length=us.length:=Paired.length r
theorem U2.get:∀{xs:List V}{us:List Value}{i:Nat}{x:V},U2 xs us->xs[i]?=some x->∃u,us[i]?=some u/\RelV x u
 | _,_,_,_,.nil,e=>by simp at e
 | _,_,0,_,.cons r _,e=>by simp at e;subst e;exact⟨_,rfl,r⟩
 | _,_,i+1,x,.cons _ t,e=>by
  obtain⟨u,h1,h2⟩:=U2.get (i:=i) (x:=x) t (by simpa using e);exact⟨u,by simpa using h1,h2⟩
theorem U2.set {x:V}{u:Value}(r:RelV x u):∀{xs:List V}{us:List Value}(i:Nat),U2 xs us->U2 (xs.set i x) (us.set i u)
 | _,_,_,.nil=>.nil
 | _,_,0,.cons _ t=>.cons r t
 | _,_,i+1,.cons q t=>.cons q (U2.set r i t)
theorem U2.append:∀{xs ys:List V}{us ws:List Value},U2 xs us->U2 ys ws->U2 (xs++ys) (us++ws)
 | _,_,_,_,.nil,s=>s
 | _,_,_,_,.cons r t,s=>.cons r (U2.append t s)
theorem U2.take:∀{xs:List V}{us:List Value}(n:Nat),U2 xs us->U2 (xs.take n) (us.take n)
 | _,_,0,_=>.nil
 | _,_,_+1,.nil=>.nil
 | _,_,n+1,.cons r t=>.cons r (U2.take n t)
theorem U2.drop:∀{xs:List V}{us:List Value}(n:Nat),U2 xs us->U2 (xs.drop n) (us.drop n)
 | _,_,0,r=>r
 | _,_,_+1,.nil=>.nil
 | _,_,n+1,.cons _ t=>U2.drop n t
def j4:Option V->Option Value->Prop
 | some v,some u=>RelV v u
 | none,none=>True
 | _,_=>False
def KV {κ:Type}:List (κ×V)->List (κ×Value)->Prop:=Paired fun(p:κ×V) (q:κ×Value)=>p.1=q.1/\RelV p.2 q.2
def kV:Key->V
 | .inl i=>.int i
 | .inr x=>.str x
inductive HO where
 | lst (xs:List V)
 | tup (xs:List V)
 | dK (UM:List (Key×V)) | dT (UM:List (List Key×V))
 | set (S:Int->Bool) (n:Nat)
 | ins (C dx:Addr) (fs:List (Str×V))
 | own (x:Addr)
 | xd (fs:List (Str×V))
 | met (f x:Addr)
 | Hq (lo hi:Int)
 | mD (o:Obj) (u:HO)
 | BF (ps:Array Value)
 | ext (φ:Heap->Prop)
abbrev Hp:=Addr->Option HO
def U1 (H:Hp) (a:Addr) (o:HO):Hp:=fun b=>if b=a then some o else H b
theorem ae {H:Hp}{a:Addr}{o:HO}:U1 H a o a=some o:=by unfold U1;rw[II rfl]
theorem aD {H:Hp}{a b:Addr}{o:HO}(h:b≠a):U1 H a o b=H b:=by unfold U1;rw[IH h]
theorem ub {H:Hp}{a:Addr}{o u:HO}:U1 (U1 H a o) a u=U1 H a u:=by
 funext b;unfold U1;split<;>rfl
theorem FY {H:Hp}{a b:Addr}{o u:HO}(h:H a=some o) (h':H b=some u) (d:o≠u):a≠b:=by
 intro e;subst e;rw[h] at h';exact d (Option.some.inj h')
theorem cN {H:Hp}{a b:Addr}{o:HO}(h:H a=some o) (h':H b=none):a≠b:=by
 intro e;subst e;rw[h] at h';cases h'
section
variable (P:Program) (w:World)
def dY (H:Hp) (h:Heap) (a:Addr):HO->Prop
 | .lst xs=>xs.length<=sizeLine/\∃(UN:List Value) (n:Nat),U2 xs UN/\h.get? a=some { cls:=.type "list",data:=.seq UN.toArray n }
 | .tup xs=>xs.length<=sizeLine/\∃UN:List Value,U2 xs UN/\IsTup h a UN.toArray
 | .dK UM=>UM.length<=sizeLine/\(a == sysModules)=false/\∃vs,KV UM vs/\h.DictOf (bB P w) a vs
 | .dT UM=>UM.length<=sizeLine/\(a == sysModules)=false/\∃xs:List (List Key×Addr×Value),
   Paired (fun(p:List Key×V) (q:List Key×Addr×Value)=>p.1=q.1/\H q.2.1=some (.tup (p.1.map kV))/\RelV p.2 q.2.2) UM xs/\
   ∃o es ep,h.get? a=some o/\o.ExactDict/\o.data=.dict es ep/\es.toList=xs.map (entryOfKey (tupleKind (bB P w)))/\(xs.map (·.1)).Nodup
 | .set S n=>h.SetOf (intKind P w) a S n
 | .ins C dx fs=>H dx=some (.own a)/\fs.length<=1000/\dx≠a/\h.get? a=some (PySem.W.instObj C dx)/\
   ∃mA,h.Ns1 dx mA/\(∀f,j4 (fs.lookup f) (mA f))/\PySem.Within mA (fs.map (·.1))
 | .own _=>∃o,h.get? a=some o
 | .xd fs=>∃mA,h.Ns1 a mA/\∀f,j4 (fs.lookup f) (mA f)
 | .Hq lo hi=>∃t u v,h.get? a=some { cls:=.type "range",data:=.fields #[.int lo t,.int hi u,.int 1 v] }
 | .mD o u=>h.get? a=some o/\dY H h a u
 | .BF ps=>h.get? a=some { cls:=.none,data:=.fields ps }
 | .met f x=>h.get? a=some (PySem.W.methodObj (.ref f) (.ref x))
 | .ext φ=>φ h/\(∃o,h.get? a=some o)/\∀h1 h2:Heap,φ h1->(∀o,h1.get? a=some o->h2.get? a=some o)->φ h2
def j7 (H:Hp) (h:Heap):Prop:=∀a o,H a=some o->dY P w H h a o
end
section
variable {P:Program}{w:World}{H H':Hp}{h h':Heap}{a:Addr}{o:HO}
theorem dY.lt (x:dY P w H h a o):a < h.objs.size:=by
 cases o with
 | lst xs=>obtain⟨_,_,_,_,e⟩:=x;exact Jj e
 | tup xs=>obtain⟨_,_,_,p⟩:=x;exact p.lt
 | dK UM=>obtain⟨_,_,_,_,o,_,_,e,_⟩:=x;exact Jj e
 | dT UM=>obtain⟨_,_,_,_,o,_,_,e,_⟩:=x;exact Jj e
 | set S n=>obtain⟨o,_,_,_,e,_⟩:=x;exact Jj e
 | ins C dx fs=>obtain⟨_,_,_,e,_⟩:=x;exact Jj e
 | own y=>obtain⟨_,e⟩:=x;exact Jj e
 | xd fs=>obtain⟨_,⟨_,_,_,e,_⟩,_⟩:=x;exact Jj e
 | Hq lo hi=>obtain⟨_,_,_,e⟩:=x;exact Jj e
 | mD ob u=>obtain⟨e,_⟩:=x;exact Jj e
 | BF ps=>exact Jj (show h.get? a=some _ from x)
 | met f y=>exact Jj (show h.get? a=some _ from x)
 | ext φ=>obtain⟨_,⟨_,e⟩,_⟩:=x;exact Jj e
theorem Paired.DH {α β:Type}{F G:α->β->Prop}:∀{l₁:List α}{l₂:List β},Paired F l₁ l₂->(∀a b,F a b->G a b)->Paired G l₁ l₂
 | _,_,.nil,_=>.nil
 | _,_,.cons r t,f=>.cons (f _ _ r) (Paired.DH t f)
theorem dY.qS (x:dY P w H h a o) (k:∀b u,(b=a\/H b=some (.own a))->h.get? b=some u->h'.get? b=some u)
  (ho:∀b,H b=some (.own a)->H' b=some (.own a)) (ht:∀b xs,H b=some (.tup xs)->H' b=some (.tup xs)):dY P w H' h' a o:=by
 induction o with
 | lst xs=>obtain⟨z,UN,n,r,e⟩:=x;exact⟨z,UN,n,r,k _ _ (.inl rfl) e⟩
 | tup xs=>obtain⟨z,UN,r,ob,e,c⟩:=x;exact⟨z,UN,r,ob,k _ _ (.inl rfl) e,c⟩
 | dK UM=>obtain⟨z,y,vs,r,ob,es,ep,e,c⟩:=x;exact⟨z,y,vs,r,ob,es,ep,k _ _ (.inl rfl) e,c⟩
 | dT UM=>
  obtain⟨z,y,xs,r,ob,es,ep,e,c⟩:=x;exact⟨z,y,xs,Paired.DH r fun p q z=>⟨z.1,ht _ _ z.2.1,z.2.2⟩,ob,es,ep,k _ _ (.inl rfl) e,c⟩
 | set S n=>obtain⟨ob,es,ep,t,e,c⟩:=x;exact⟨ob,es,ep,t,k _ _ (.inl rfl) e,c⟩
 | ins C dx fs=>
  obtain⟨d,z,ne,e,mA,⟨od,es,ep,e2,c⟩,r⟩:=x;exact⟨ho _ d,z,ne,k _ _ (.inl rfl) e,mA,⟨od,es,ep,k _ _ (.inr d) e2,c⟩,r⟩
 | own y=>obtain⟨ob,e⟩:=x;exact⟨ob,k _ _ (.inl rfl) e⟩
 | xd fs=>obtain⟨mA,⟨od,es,ep,e,c⟩,r⟩:=x;exact⟨mA,⟨od,es,ep,k _ _ (.inl rfl) e,c⟩,r⟩
 | Hq lo hi=>obtain⟨t,u,v,e⟩:=x;exact⟨t,u,v,k _ _ (.inl rfl) e⟩
 | mD ob u ih=>obtain⟨e,q⟩:=x;exact⟨k _ _ (.inl rfl) e,ih q⟩
 | BF ps=>
  have e:h.get? a=some { cls:=.none,data:=.fields ps }:=x;show h'.get? a=some { cls:=.none,data:=.fields ps };exact k a _ (.inl rfl) e
 | met f y=>
  have e:h.get? a=some (PySem.W.methodObj (.ref f) (.ref y)):=x;show h'.get? a=some (PySem.W.methodObj (.ref f) (.ref y));exact k a _ (.inl rfl) e
 | ext φ=>obtain⟨p,⟨o,e⟩,st⟩:=x;exact⟨st _ _ p fun o q=>k _ _ (.inl rfl) q,⟨o,k _ _ (.inl rfl) e⟩,st⟩
theorem j7.lt (x:j7 P w H h) (e:H a=some o):a < h.objs.size:=(x a o e).lt
theorem j7.fresh (x:j7 P w H h) (e:h.objs.size<=a):H a=none:=by
 cases q:H a with
 | none=>rfl
 | some u=>exact Vi (Jh (x.lt q) e) (Vf _)
theorem j7.kept (x:j7 P w H h) (k:∀b u,h.get? b=some u->h'.get? b=some u):j7 P w H h':=fun a o e=>
 (x a o e).qS (fun b u _ q=>k b u q) (fun _ q=>q) fun _ _ q=>q
theorem j7.laid (x:j7 P w H h) (k:∀b u,h.get? b=some u->h'.get? b=some u) (hp:h.objs.size<=a) (new:dY P w (U1 H a o) h' a o):j7 P w (U1 H a o) h':=fun b u e=>by
 have hn:=x.fresh hp;by_cases hb:b=a
 ·subst hb;rw[ae] at e;cases e;exact new
 ·rw[aD hb] at e;exact(x b u e).qS (fun c v _ q=>k c v q) (fun c q=>by rw[aD (cN q hn)];exact q) fun c xs q=>by rw[aD (cN q hn)];exact q
end
def Rd (H:Hp) (a:Addr) (u:HO):Prop:=H a=some u\/∃o,H a=some (.mD o u)
theorem Rd.ok {P:Program}{w:World}{H:Hp}{h:Heap}{a:Addr}{u:HO}(r:Rd H a u) (x:j7 P w H h):dY P w H h a u:=by
 rcases r with r | ⟨o,r⟩
 ·exact x a u r
 ·obtain⟨_,q⟩:=x a _ r;exact q
def GA:Option HO->Prop
 | some (.lst _)=>True
 | some (.dK _)=>True
 | some (.dT _)=>True
 | some (.set _ _)=>True
 | some (.ins _ _ _)=>True
 | some (.ext _)=>True
 | _=>False
section
variable {P:Program}{w:World}{H:Hp}{h h':Heap}{x e:Addr}{o':HO}
theorem j7.write (ok:j7 P w H h) (mu:GA (H x)) (he:e=x\/H e=some (.own x)) (k:∀b u,b≠e->h.get? b=some u->h'.get? b=some u) (Od:∃u,h'.get? e=some u)
  (new:dY P w (U1 H x o') h' x o'):j7 P w (U1 H x o') h':=fun b u q=>by
 have nown:∀c y,H c=some (.own y)->c≠x:=fun c y r z=>by subst z;rw[r] at mu;exact mu
 have ntup:∀c xs,H c=some (.tup xs)->c≠x:=fun c xs r z=>by subst z;rw[r] at mu;exact mu
 by_cases hb:b=x
 ·subst hb;rw[ae] at q;cases q;exact new
 ·rw[aD hb] at q;by_cases NF:b=e
  ·have q':H b=some (.own x):=by
    rcases he with z | z
    ·exact Vi (NF.trans z) hb
    ·rw[NF];exact z
   rw[q] at q';cases q';obtain⟨v,hv⟩:=Od;exact⟨v,by rw[NF];exact hv⟩
  ·refine(ok b u q).qS (fun c v hc r=>k c v ?_ r) (fun c r=>by rw[aD (nown c b r)];exact r) fun c xs r=>by rw[aD (ntup c xs r)];exact r
   rcases hc with rfl | hc
   ·exact NF
   ·rintro rfl;rcases he with z | z
    ·exact nown c b hc z
    ·rw[hc] at z;cases z;exact hb rfl
end
structure Un (fs ex:List Addr) (H H':Hp) (h h':Heap):Prop where
 keep:∀b o,h.get? b=some o->H b=none->b∉fs->b∉ex->h'.get? b=some o
 slot:∀b o,h.get? b=some o->H b=none->b∈fs->b∉ex->∃sl,h'.get? b=some { o with slots:=sl }
 free:∀b o,h.get? b=some o->H b=none->b∉ex->H' b=none
 there:∀b o,h.get? b=some o->b∉ex->∃o',h'.get? b=some o'
 kS:∀b xs,H b=some (.tup xs)->H' b=some (.tup xs)
 nQ:∀b o u,H b=some (.mD o u)->H' b=some (.mD o u)
 oz:∀b ps,H b=some (.BF ps)->∃more,H' b=some (.BF (ps++more))
section
variable {fs Js ex ex':List Addr}{H H1 H2:Hp}{h h1 h2 h':Heap}{a x e:Addr}{o:HO}
theorem Un.any (u:Un fs ex H H1 h h1){b:Addr}{ob:Obj}(q:h.get? b=some ob) (n:H b=none) (hx:b∉ex):∃sl,h1.get? b=some { ob with slots:=sl }:=by
 by_cases hb:b∈fs
 ·exact u.slot b ob q n hb hx
 ·exact⟨ob.slots,u.keep b ob q n hb hx⟩
theorem Un.kept (k:∀b u,h.get? b=some u->h'.get? b=some u):Un fs ex H H h h':=
 ⟨fun b ob q _ _ _=>k b ob q,fun b ob q _ _ _=>⟨ob.slots,k b ob q⟩,fun _ _ _ n _=>n,fun b ob q _=>⟨ob,k b ob q⟩,fun _ _ q=>q,fun _ _ _ q=>q,fun _ ps q=>⟨#[],by rw[q];simp⟩⟩
theorem Un.refl:Un fs ex H H h h:=Un.kept fun _ _ q=>q
theorem Un.laid (k:∀b u,h.get? b=some u->h'.get? b=some u) (hp:h.objs.size<=a) (hn:H a=none):Un fs ex H (U1 H a o) h h' where
 keep:=fun b u q _ _ _=>k b u q
 slot:=fun b u q _ _ _=>⟨u.slots,k b u q⟩
 free:=fun b u q n _=>by rw[aD (Jk (Jh (Jj q) hp))];exact n
 there:=fun b u q _=>⟨u,k b u q⟩
 kS:=fun b xs q=>by rw[aD (cN q hn)];exact q
 nQ:=fun b u xs q=>by rw[aD (cN q hn)];exact q
 oz:=fun b ps q=>⟨#[],by rw[aD (cN q hn),q];simp⟩
theorem Un.write (mu:GA (H x)) (he:e=x\/H e=some (.own x)) (k:∀b u,b≠e->h.get? b=some u->h'.get? b=some u) (Od:∃u,h'.get? e=some u):Un fs ex H (U1 H x o) h h':=by
 have hx:∀b,H b=none->b≠x:=fun b n z=>by subst z;rw[n] at mu;exact mu
 have hb:∀b,H b=none->b≠e:=fun b n z=>by
  subst z;rcases he with r | r
  ·exact hx b n r
  ·rw[n] at r;cases r
 have hm:∀b u,H b=some u->¬GA (some u)->b≠x:=fun b u q nm z=>by subst z;rw[q] at mu;exact nm mu
 refine⟨fun b u q n _ _=>k b u (hb b n) q,fun b u q n _ _=>⟨u.slots,k b u (hb b n) q⟩,fun b u q n _=>by rw[aD (hx b n)];exact n,fun b u q _=>?_,
  fun b xs q=>by rw[aD (hm b _ q fun z=>z)];exact q,fun b u xs q=>by rw[aD (hm b _ q fun z=>z)];exact q,fun b ps q=>⟨#[],by rw[aD (hm b _ q fun z=>z),q];simp⟩⟩
 by_cases NF:b=e
 ·subst NF;exact Od
 ·exact⟨u,k b u NF q⟩
end
def GK (h:Heap) (H:Hp):List Addr:=(List.range h.objs.size).filter fun a=>(H a).isSome
def qp (h:Heap) (H:Hp):Heap:=PySem.W.hideAll h (GK h H)
theorem wj (h:Heap) (H:Hp):(qp h H).objs.size=h.objs.size:=PySem.W.hideAll_size _ _
theorem yU {h:Heap}{H:Hp}{b:Addr}{o:Obj}(e:h.get? b=some o) (n:H b=none):(qp h H).get? b=some o:=
 PySem.W.hideAll_get _ e fun hm=>by
  have q:(H b).isSome=true:=(Jp.mp hm).2;rw[n] at q;simp at q
theorem Ao {h:Heap}{H:Hp}{b:Addr}{o:Obj}(e:(qp h H).get? b=some o):h.get? b=some o/\H b=none:=by
 have e':h.get? b=some o:=PySem.W.of_hideAll (GK h H) e;refine⟨e',?_⟩;cases q:H b with
 | none=>rfl
 | some x=>
  have hm:b∈GK h H:=Jp.mpr ⟨List.mem_range.mpr (Jj e'),by simp[q]⟩;have z:(qp h H).get? b=none:=PySem.W.hideAll_none (GK h H) hm;rw[z] at e;cases e
end L2
namespace L2
open PySem PySem.Spec PyProof.Rows
structure Mod (K:Fg06) (mg:Str->Option Value) (base:Heap):Prop where
 GR:K.In base
 glob:base.Ns mainGlobals mg
 blt:∃mb,base.Ns builtinsNs mb/\∀x:Str,x≠"__name__"->mb x=bootBuiltins x
 nolimit:base.NoLimit
structure Cx where
 prog:Program
 w:World
 K:Fg06
 mg:Str->Option Value
 base:Heap
 A:Around
 N:List Str
 s₀:Shared
 H₀:Hp
 env:Env
 outer:List Env
 stack:List Env
 ex:List Addr
 fn:Str->Bool
 calm:Bool
 pn:List (Addr×Obj)
 xe:Value->Shared->Prop
def y9 (l:List Env):List Addr:=l.filterMap (·.frame)
abbrev Cx.fs (X:Cx):List Addr:=y9 X.outer
def GX (sc:Scope) (x:Str):Prop:=sc.names.lookup x=some .local\/sc.names.lookup x=some .cell\/sc.names.lookup x=some .free
def Loc (sc:Scope) (x:Str):Prop:=sc.names.lookup x=some .local\/sc.names.lookup x=some .cell
def Look (env:Env) (h:Heap) (m:Str->Option Value) (x:Str) (u:Value):Prop:=
 (env.kindOf x=some .local/\m x=some u)\/((env.kindOf x=some .cell\/env.kindOf x=some .free)/\∃c,env.cells.lookup x=some c/\h.IsCell c (some u))
structure Cx.Ok (X:Cx):Prop where
 mod:Mod X.K X.mg X.base
 kind:X.env.scope.kind=.function
 glob:X.env.globals=mainGlobals
 blt:X.env.builtins=builtinsNs
 above:X.s₀.heap.objs.size<=X.env.locals
 inj:∀x y c,X.env.cells.lookup x=some c->X.env.cells.lookup y=some c->x=y
 has:∀x,(X.env.kindOf x=some .cell\/X.env.kindOf x=some .free)->∃c,X.env.cells.lookup x=some c
 Gs:∀x c,X.fn x=true->X.env.cells.lookup x=some c->X.s₀.heap.objs.size<=c
 hd:X.calm=true->X.A.handled=none
 frames:X.A.frames=some X.stack
 GN:X.stack=X.outer\/(X.stack=X.env::X.outer/\X.env.frame=some X.env.locals)
 exf:∀b∈X.ex,b≠X.env.locals/\∀x c,X.env.cells.lookup x=some c->c≠b
 bs:∀b o,X.base.get? b=some o->X.s₀.heap.get? b=some o/\X.H₀ b=none
 AN:X.base.objs.size<=X.s₀.heap.objs.size
 yz:∀b o,X.base.get? b=some o->b∉X.ex
 AK:∀b∈X.ex,b∉X.fs
 mn:X.s₀.heap.FunFrames X.base X.outer
 DV:∀b∈X.fs,X.H₀ b=none
structure Inv (X:Cx) (UL:List (Addr×Obj)) (σ:List (Option V)) (H:Hp) (s:Shared):Prop where
 ok:X.Ok
 os:s.os=X.s₀.os
 bare:AllBare s.gens
 base:Un X.fs X.ex X.H₀ H X.s₀.heap s.heap
 loc:∃m,s.heap.Ns X.env.locals m/\∀(i:Nat) (x:Str) (v:V),X.N[i]?=some x->σ[i]?=some (some v)->GX X.env.scope x->∃u,RelV v u/\Look X.env s.heap m x u
 cell:∀x c,X.env.cells.lookup x=some c->∃v,s.heap.IsCell c v
 free:H X.env.locals=none
 jD:∀x c,X.env.cells.lookup x=some c->H c=none
 pin:∀p∈X.pn++UL,s.heap.get? p.1=some p.2/\H p.1=none/\p.1≠X.env.locals/\p.1∉X.fs/\∀v,p.2.data≠.cell v
 cA:j7 X.prog X.w H s.heap
 len:σ.length=X.N.length
section
variable {X:Cx}{UL:List (Addr×Obj)}{σ:List (Option V)}{H H':Hp}{s:Shared}{h':Heap}
theorem Cx.Ok.HL (ok:X.Ok){b:Addr}{o:Obj}(e:X.base.get? b=some o):b∉X.fs:=fun hb=>by
 have:=(ok.mn.mem hb).1;rw[e] at this;cases this
theorem Inv.bs (I:Inv X UL σ H s):∀b o,X.base.get? b=some o->s.heap.get? b=some o/\H b=none:=fun b o e=>
 ⟨I.base.keep b o (I.ok.bs b o e).1 (I.ok.bs b o e).2 (I.ok.HL e) (I.ok.yz b o e),I.base.free b o (I.ok.bs b o e).1 (I.ok.bs b o e).2 (I.ok.yz b o e)⟩
theorem Inv.bk (I:Inv X UL σ H s):∀b o,X.base.get? b=some o->s.heap.get? b=some o:=fun b o e=>(I.bs b o e).1
theorem Inv.mod (I:Inv X UL σ H s):Mod X.K X.mg X.base:=I.ok.mod
theorem Inv.sd (I:Inv X UL σ H s):X.K.In s.heap:=I.ok.mod.GR.keeps I.bk
theorem Inv.lt (I:Inv X UL σ H s):X.env.locals < s.heap.objs.size:=let ⟨_,hn,_⟩:=I.loc;hn.lt
theorem Inv.sz (I:Inv X UL σ H s):X.s₀.heap.objs.size<=s.heap.objs.size:=ID I.ok.above (Nat.le_of_lt I.lt)
theorem Inv.HK (I:Inv X UL σ H s){a:Addr}(h:s.heap.objs.size<=a):a∉X.fs:=fun hb=>by
 obtain⟨_,o,ho,_⟩:=I.ok.mn.mem hb;exact Vi (Jh (Jj ho) (ID I.sz h)) (Vf _)
theorem Inv.Eb (I:Inv X UL σ H s):∀x c,X.env.cells.lookup x=some c->c≠X.env.locals:=fun x c e z=>by
 obtain⟨v,o,ho,hd⟩:=I.cell x c e;obtain⟨m,⟨o',es,ep,KH,JS,_⟩,_⟩:=I.loc;rw[z,KH] at ho;cases ho;rw[JS] at hd;cases hd
theorem Inv.mn (I:Inv X UL σ H s):s.heap.FunFrames X.base X.outer:=by
 have all:∀(l:List Env),(∀b∈y9 l,b∈X.fs)->X.s₀.heap.FunFrames X.base l->s.heap.FunFrames X.base l:=by
  intro l
  induction l with
  | nil=>intro _ _;trivial
  | cons env r ih=>
   intro hs hl;obtain⟨hk,⟨L,o,hf,hn,ho,hd⟩,hr⟩:=hl;have hL:L∈X.fs:=hs L (by unfold y9;rw[List.filterMap_cons,hf];exact Ir);obtain⟨sl,e⟩:=I.base.slot L o ho (I.ok.DV L hL) hL fun z=>I.ok.AK L z hL;exact⟨hk,⟨L,_,hf,hn,e,hd⟩,ih (fun b hb=>hs b (by unfold y9;rw[List.filterMap_cons,hf];exact Iq _ hb)) hr⟩
 exact all X.outer (fun _ hb=>hb) I.ok.mn
theorem Inv.stack (I:Inv X UL σ H s):s.heap.FunFrames X.base X.stack:=by
 rcases I.ok.GN with e | ⟨e,hf⟩
 ·rw[e];exact I.mn
 ·rw[e];obtain⟨m,hn,_⟩:=I.loc;refine .cons (by rw[I.ok.kind];decide) hf hn ?_ I.mn;exact Heap.get?_none_of_le (ID I.ok.AN I.ok.above)
theorem Inv.mY (I:Inv X UL σ H s):∀b∈y9 X.stack,b∈X.env.locals::X.fs:=fun b hb=>by
 rcases I.ok.GN with e | ⟨e,hf⟩
 ·rw[e] at hb;exact Iq _ hb
 ·rw[e] at hb;unfold y9 at hb;rw[List.filterMap_cons,hf] at hb;exact hb
theorem Inv.um (I:Inv X UL σ H s):∀b∈y9 X.stack,H b=none:=fun b hb=>by
 rcases Ji.mp (I.mY b hb) with e | hb
 ·rw[e];exact I.free
 ·obtain⟨_,o,ho,_⟩:=I.ok.mn.mem hb;exact I.base.free b o ho (I.ok.DV b hb) fun z=>I.ok.AK b z hb
theorem Inv.step {g':Array GenState}{t':Nat}{d':Drawn}{ch:List Addr}(I:Inv X UL σ H s)
  (LJ:∀b∈ch,(b∈X.ex\/X.s₀.heap.objs.size<=b)/\b≠X.env.locals/\(∀x c,X.env.cells.lookup x=some c->c≠b)/\∀p∈X.pn++UL,p.1≠b)
  (keep:∀b o,b≠X.env.locals->b∉X.fs->b∉ch->s.heap.get? b=some o->H b=none->h'.get? b=some o)
  (slot:∀b o,b≠X.env.locals->b∈X.fs->b∉ch->s.heap.get? b=some o->H b=none->∃sl,h'.get? b=some { o with slots:=sl }) (free:∀b o,b∉ch->s.heap.get? b=some o->H b=none->H' b=none)
  (there:∀b o,b∉ch->s.heap.get? b=some o->∃o',h'.get? b=some o')
  (kS:∀b xs,H b=some (.tup xs)->H' b=some (.tup xs)) (nQ:∀b o u,H b=some (.mD o u)->H' b=some (.mD o u)) (oz:∀b ps,H b=some (.BF ps)->∃more,H' b=some (.BF (ps++more)))
  (ns:∀m,s.heap.Ns X.env.locals m->h'.Ns X.env.locals m) (cA:j7 X.prog X.w H' h') (hg:AllBare g'):
  Inv X UL σ H' { s with heap:=h',gens:=g',drawn:=d',toks:=t' }:=by
 have neL:∀b o,X.s₀.heap.get? b=some o->b≠X.env.locals:=fun b o e=>Jk (Jh (Jj e) I.ok.above);have neC:∀b o,X.s₀.heap.get? b=some o->b∉X.ex->b∉ch:=fun b o e hx hb=>by
  rcases(LJ b hb).1 with z | z
  ·exact hx z
  ·exact Vi (Jh (Jj e) z) (Vf _)
 have cellK:∀x c,X.env.cells.lookup x=some c->∀v,s.heap.IsCell c v->h'.IsCell c v:=fun x c e v ⟨o,ho,hd⟩=>by
  have nch:c∉ch:=fun z=>(LJ c z).2.2.1 x c e rfl;by_cases hc:c∈X.fs
  ·obtain⟨sl,q⟩:=slot c o (I.Eb x c e) hc nch ho (I.jD x c e);exact⟨_,q,hd⟩
  ·exact⟨o,keep c o (I.Eb x c e) hc nch ho (I.jD x c e),hd⟩
 refine⟨I.ok,I.os,hg,⟨fun b o e n hb hx=>?_,fun b o e n hb hx=>?_,fun b o e n hx=>?_,fun b o e hx=>?_,fun b xs e=>kS b xs (I.base.kS b xs e),fun b o xs e=>nQ b o xs (I.base.nQ b o xs e),fun b ps e=>?_⟩,?_,fun x c e=>?_,?_,fun x c e=>?_,fun p hp=>?_,cA,I.len⟩
 ·exact keep b o (neL b o e) hb (neC b o e hx) (I.base.keep b o e n hb hx) (I.base.free b o e n hx)
 ·obtain⟨sl,e1⟩:=I.base.slot b o e n hb hx;obtain⟨sl',e2⟩:=slot b _ (neL b o e) hb (neC b o e hx) e1 (I.base.free b o e n hx);exact⟨sl',e2⟩
 ·obtain⟨o',e1⟩:=I.base.there b o e hx;exact free b o' (neC b o e hx) e1 (I.base.free b o e n hx)
 ·obtain⟨o',e1⟩:=I.base.there b o e hx;exact there b o' (neC b o e hx) e1
 ·obtain⟨m1,e1⟩:=I.base.oz b ps e;obtain⟨m2,e2⟩:=oz b _ e1;exact⟨m1++m2,by rw[e2,Array.append_assoc]⟩
 ·obtain⟨m,hn,hl⟩:=I.loc;refine⟨m,ns m hn,fun i x v e1 e2 e3=>?_⟩;obtain⟨u,r,l⟩:=hl i x v e1 e2 e3;refine⟨u,r,?_⟩;rcases l with l | ⟨k,c,e,z⟩
  ·exact .inl l
  ·exact .inr ⟨k,c,e,cellK x c e _ z⟩
 ·obtain⟨v,z⟩:=I.cell x c e;exact⟨v,cellK x c e v z⟩
 ·obtain⟨m,⟨o,_,_,ho,_⟩,_⟩:=I.loc;exact free _ o (fun z=>(LJ _ z).2.1 rfl) ho I.free
 ·obtain⟨v,o,ho,hd⟩:=I.cell x c e;exact free c o (fun z=>(LJ c z).2.2.1 x c e rfl) ho (I.jD x c e)
 ·obtain⟨e,n,ne,nf,d⟩:=I.pin p hp;have nch:p.1∉ch:=fun z=>(LJ p.1 z).2.2.2 p hp rfl;exact⟨keep p.1 p.2 ne nf nch e n,free p.1 p.2 nch e n,ne,nf,d⟩
theorem Inv.un {t':Nat}(I:Inv X UL σ H s) (u:Un X.fs [] H H' s.heap h') (cA:j7 X.prog X.w H' h'):Inv X UL σ H' { s with heap:=h',toks:=t' }:=by
 obtain⟨m,⟨o,es,ep,ho,r⟩,_⟩:=id I.loc;obtain⟨sl,hL⟩:=u.any ho I.free (by simp);exact I.step (g':=s.gens) (d':=s.drawn) (ch:=[]) (fun _ z=>nomatch z) (fun b o _ hb _ e n=>u.keep b o e n hb (by simp)) (fun b o _ hb _ e n=>u.slot b o e n hb (by simp)) (fun b o _ e n=>u.free b o e n (by simp)) (fun b o _ e=>u.there b o e (by simp)) u.kS u.nQ u.oz (fun m' hm=>by
  obtain⟨o',NS,R6,KH,r'⟩:=hm;rw[ho] at KH;cases KH;exact⟨_,NS,R6,hL,r'⟩) cA I.bare
theorem Inv.call {g':Array GenState}{t':Nat}{d':Drawn}{ch:List Addr}(I:Inv X UL σ H s) (u:Un (y9 X.stack) ch H H' s.heap h') (cA:j7 X.prog X.w H' h') (hg:AllBare g')
  (LJ:∀b∈ch,(b∈X.ex\/X.s₀.heap.objs.size<=b)/\b≠X.env.locals/\(∀x c,X.env.cells.lookup x=some c->c≠b)/\∀p∈X.pn++UL,p.1≠b):
  Inv X UL σ H' { s with heap:=h',gens:=g',drawn:=d',toks:=t' }:=by
 obtain⟨m,⟨o,es,ep,ho,r⟩,_⟩:=id I.loc;obtain⟨sl,hL⟩:=u.any ho I.free fun z=>(LJ _ z).2.1 rfl;exact I.step (ch:=ch) LJ (fun b o hL hb hc e n=>u.keep b o e n (fun z=>(Ji.mp (I.mY b z)).elim hL hb) hc) (fun b o _ _ hc e n=>u.any e n hc) (fun b o hc e n=>u.free b o e n hc) (fun b o hc e=>u.there b o e hc) u.kS u.nQ u.oz (fun m' hm=>by
  obtain⟨o',NS,R6,KH,r'⟩:=hm;rw[ho] at KH;cases KH;exact⟨_,NS,R6,hL,r'⟩) cA hg
theorem Inv.turned {t':Nat}{it:Addr}(I:Inv X UL σ H s) (k:∀b o,b≠it->s.heap.get? b=some o->h'.get? b=some o) (hn:H it=none) (hL:it≠X.env.locals)
  (h1:it∈X.ex\/X.s₀.heap.objs.size<=it) (h2:∀x c,X.env.cells.lookup x=some c->c≠it) (h3:∀p∈X.pn++UL,p.1≠it):Inv X UL σ H { s with heap:=h',toks:=t' }:=by
 have nit:∀b u,H b=some u->b≠it:=fun b u e z=>by rw[z,hn] at e;cases e
 refine I.step (g':=s.gens) (d':=s.drawn) (ch:=[it]) (fun b hb=>?_) (fun b o _ _ hc e _=>k b o (fun z=>hc (by simp[z])) e) (fun b o _ _ hc e _=>⟨o.slots,k b o (fun z=>hc (by simp[z])) e⟩) (fun _ _ _ _ n=>n)
  (fun b o hc e=>⟨o,k b o (fun z=>hc (by simp[z])) e⟩) (fun _ _ e=>e) (fun _ _ _ e=>e) (fun b ps e=>⟨#[],by rw[e];simp⟩) (fun m hm=>?_) (fun b u e=>?_) I.bare
 ·have e:b=it:=by simpa using hb
  subst e;exact⟨h1,hL,h2,h3⟩
 ·obtain⟨o,es,ep,ho,r⟩:=hm;exact⟨o,es,ep,k _ o (U8 hL) ho,r⟩
 ·refine(I.cA b u e).qS (fun c v hc q=>k c v ?_ q) (fun _ q=>q) fun _ _ q=>q;rcases hc with z | z
  ·rw[z];exact nit b u e
  ·exact nit c _ z
theorem Inv.tok (I:Inv X UL σ H s) (t:Nat):Inv X UL σ H { s with toks:=t }:=I.un (h':=s.heap) (t':=t) Un.refl I.cA
theorem Inv.kept {t':Nat}(I:Inv X UL σ H s) (k:∀b u,s.heap.get? b=some u->h'.get? b=some u):Inv X UL σ H { s with heap:=h',toks:=t' }:=I.un (Un.kept k) (I.cA.kept k)
theorem Inv.laid {a:Addr}{o:HO}{t':Nat}(I:Inv X UL σ H s) (k:∀b u,s.heap.get? b=some u->h'.get? b=some u) (hp:s.heap.objs.size<=a) (new:dY X.prog X.w (U1 H a o) h' a o):
  Inv X UL σ (U1 H a o) { s with heap:=h',toks:=t' }:=I.un (Un.laid k hp (I.cA.fresh hp)) (I.cA.laid k hp new)
theorem Inv.write {x e:Addr}{o:HO}{t':Nat}(I:Inv X UL σ H s) (mu:GA (H x)) (he:e=x\/H e=some (.own x)) (k:∀b u,b≠e->s.heap.get? b=some u->h'.get? b=some u) (Od:∃u,h'.get? e=some u)
  (new:dY X.prog X.w (U1 H x o) h' x o):Inv X UL σ (U1 H x o) { s with heap:=h',toks:=t' }:=I.un (Un.write mu he k Od) (I.cA.write mu he k Od new)
theorem Inv.uC {Ml:List (Addr×Obj)}(I:Inv X UL σ H s) (h:∀p∈Ml,s.heap.get? p.1=some p.2/\H p.1=none/\p.1≠X.env.locals/\p.1∉X.fs/\∀v,p.2.data≠.cell v):Inv X Ml σ H s:=
 ⟨I.ok,I.os,I.bare,I.base,I.loc,I.cell,I.free,I.jD,fun p hp=>(I0.mp hp).elim (fun z=>I.pin p (IU _ z)) (h p),I.cA,I.len⟩
theorem ra {N:List Str}(hN:N.Nodup){i j:Nat}{x:Str}(a:N[i]?=some x) (b:N[j]?=some x):i=j:=by
 obtain⟨h1,e1⟩:=Ja.mp a;obtain⟨h2,e2⟩:=Ja.mp b;exact(List.getElem_inj hN).mp (e1.trans e2.symm)
theorem oW {M:Model}{A:Around}{E:Value->Shared->Prop}{i:Nat}{x:Str}{v:V}{u:Value}{Q:Unit->Shared->Prop}(I:Inv X UL σ H s) (hN:X.N.Nodup) (hi:X.N[i]?=some x) (hx:Loc X.env.scope x) (r:RelV v u)
  (h:∀s',Inv X UL (σ.set i (some v)) H s'->(∃a,Heap.SameBut a s.heap s'.heap/\(a=X.env.locals\/X.env.cells.lookup x=some a))->Q () s') (hf:X.fn x=true\/X.env.scope.names.lookup x=some .local:=by first | exact .inl rfl | exact .inr rfl | assumption):wpAny M A (storeName X.env x u) Q E s:=by
 obtain⟨m,hn,hl⟩:=id I.loc;have hcls:(X.env.scope.kind == .class||(X.env.scope.kind == .module&&X.env.locals != X.env.globals))=false:=by rw[I.ok.kind];rfl
 have hiσ:i < σ.length:=by rw[I.len];exact(Ja.mp hi).1
 have Eb:=I.Eb;have tracked:∀{a:Addr}{h':Heap},(∃o,s.heap.get? a=some o/\H a=none)->Heap.SameBut a s.heap h'->j7 X.prog X.w H h':=fun {a h'} ha hs b ob e=>by
  obtain⟨_,_,Mw⟩:=ha;refine(I.cA b ob e).qS (fun c w' hc q=>(hs.2 c ?_).trans q) (fun _ q=>q) fun _ _ q=>q;rintro rfl;rcases hc with rfl | hc
  ·rw[Mw] at e;cases e
  ·rw[Mw] at hc;cases hc
 rcases hx with hk | hk
 ·refine wpAny_storeName_local hk hn (fun h' Tc hs=>?_) hcls;obtain⟨oL,_,_,hoL,_⟩:=id hn;refine h _ ⟨I.ok,I.os,I.bare,⟨fun b o e n hb hx=>?_,fun b o e n hb hx=>?_,I.base.free,fun b o e hx=>?_,I.base.kS,I.base.nQ,I.base.oz⟩,⟨_,Tc,fun j y v' e1 e2 e3=>?_⟩,fun y c e=>?_,I.free,I.jD,fun p hp=>?_,tracked ⟨oL,hoL,I.free⟩ hs,by simpa using I.len⟩ ⟨_,hs,.inl rfl⟩
  ·exact(hs.2 b (Jk (Jh (Jj e) I.ok.above))).trans (I.base.keep b o e n hb hx)
  ·obtain⟨sl,e1⟩:=I.base.slot b o e n hb hx;exact⟨sl,(hs.2 b (Jk (Jh (Jj e) I.ok.above))).trans e1⟩
  ·obtain⟨o',e1⟩:=I.base.there b o e hx;exact⟨o',(hs.2 b (Jk (Jh (Jj e) I.ok.above))).trans e1⟩
  ·by_cases hj:j=i
   ·subst hj;rw[hi] at e1;cases e1;rw[IB hiσ] at e2;cases e2;exact⟨u,r,.inl ⟨hk,by simp⟩⟩
   ·rw[IA (U8 hj)] at e2;obtain⟨u',r',q⟩:=hl j y v' e1 e2 e3;refine⟨u',r',?_⟩;rcases q with ⟨k,e⟩ | ⟨k,c,e,z⟩
    ·refine .inl ⟨k,?_⟩;have:y≠x:=fun e=>hj (ra hN e1 (e▸hi));simp[this,e]
    ·exact .inr ⟨k,c,e,z.sameBut hs (Eb y c e)⟩
  ·obtain⟨w',z⟩:=I.cell y c e;exact⟨w',z.sameBut hs (Eb y c e)⟩
  ·obtain⟨e,n,ne,nf,d⟩:=I.pin p hp;exact⟨(hs.2 p.1 ne).trans e,n,ne,nf,d⟩
 ·have Pp:X.fn x=true:=by
   rcases hf with z | z
   ·exact z
   ·rw[z] at hk;cases hk
  obtain⟨c,hc⟩:=I.ok.has x (.inl hk);obtain⟨w',z⟩:=I.cell x c hc;refine wpAny_storeName_cell I.ok.kind hk hc z (fun h' Pz hs=>?_);obtain⟨oc,L4,hocd⟩:=id z;refine h { s with heap:=h' } ⟨I.ok,I.os,I.bare,⟨fun b o e n hb hx=>?_,fun b o e n hb hx=>?_,I.base.free,fun b o e hx=>?_,I.base.kS,I.base.nQ,I.base.oz⟩,⟨m,hn.sameBut hs (U8 (Eb x c hc)),fun j y v' e1 e2 e3=>?_⟩,fun y c' e=>?_,I.free,I.jD,fun p hp=>?_,tracked ⟨oc,L4,I.jD x c hc⟩ hs,by simpa using I.len⟩ ⟨c,hs,.inr hc⟩
  ·exact(hs.2 b (Jk (Jh (Jj e) (I.ok.Gs x c Pp hc)))).trans (I.base.keep b o e n hb hx)
  ·obtain⟨sl,e1⟩:=I.base.slot b o e n hb hx;exact⟨sl,(hs.2 b (Jk (Jh (Jj e) (I.ok.Gs x c Pp hc)))).trans e1⟩
  ·obtain⟨o',e1⟩:=I.base.there b o e hx;exact⟨o',(hs.2 b (Jk (Jh (Jj e) (I.ok.Gs x c Pp hc)))).trans e1⟩
  ·by_cases hj:j=i
   ·subst hj;rw[hi] at e1;cases e1;rw[IB hiσ] at e2;cases e2;exact⟨u,r,.inr ⟨.inl hk,c,hc,Pz⟩⟩
   ·rw[IA (U8 hj)] at e2;obtain⟨u',r',q⟩:=hl j y v' e1 e2 e3;refine⟨u',r',?_⟩;rcases q with q | ⟨k,c',e,z'⟩
    ·exact .inl q
    ·refine .inr ⟨k,c',e,z'.sameBut hs ?_⟩;rintro rfl;exact hj (ra hN e1 (I.ok.inj _ _ _ e hc▸hi))
  ·by_cases TH:c'=c
   ·subst TH;exact⟨_,Pz⟩
   ·obtain⟨w2,z2⟩:=I.cell y c' e;exact⟨w2,z2.sameBut hs TH⟩
  ·obtain⟨e,n,ne,nf,d⟩:=I.pin p hp;refine⟨(hs.2 p.1 ?_).trans e,n,ne,nf,d⟩;intro q;rw[q,L4] at e;have q':oc=p.2:=Option.some.inj e;exact d w' (by rw[<-q'];exact hocd)
theorem qR {M:Model}{A:Around}{E:Value->Shared->Prop}{i:Nat}{x:Str}{v:V}{u:Value}{Q:Unit->Shared->Prop}(I:Inv X UL σ H s) (hN:X.N.Nodup) (hi:X.N[i]?=some x) (hx:Loc X.env.scope x) (r:RelV v u)
  (h:∀s',Inv X UL (σ.set i (some v)) H s'->Q () s') (hf:X.fn x=true\/X.env.scope.names.lookup x=some .local:=by first | exact .inl rfl | exact .inr rfl | assumption):wpAny M A (storeName X.env x u) Q E s:=
 oW I hN hi hx r (fun s' I' _=>h s' I') hf
theorem Inv.vi {s':Shared}{ch:List Addr}(I:Inv X UL σ H s) (ho:s'.os=s.os) (u:Un (y9 X.stack) ch H H' s.heap s'.heap) (cA:j7 X.prog X.w H' s'.heap) (hg:AllBare s'.gens)
  (LJ:∀b∈ch,(b∈X.ex\/X.s₀.heap.objs.size<=b)/\b≠X.env.locals/\(∀x c,X.env.cells.lookup x=some c->c≠b)/\∀p∈X.pn++UL,p.1≠b):Inv X UL σ H' s':=by
 obtain⟨h',g',d',t',o'⟩:=s';have e:o'=s.os:=ho;subst e;exact I.call (g':=g') (t':=t') (d':=d') u cA hg LJ
end
abbrev XK:=Value->Option Addr->Hp->Prop
abbrev St:=List (Option V)
abbrev VK:=V->Hp->Prop
abbrev TE:=St->Hp->VK->Prop
abbrev TT:=St->Hp->(Bool->Hp->Prop)->Prop
abbrev TA:=St->Hp->(List V->Hp->Prop)->Prop
structure U4 where
 nx:St->Hp->Prop
 rt:VK
 bk:St->Hp->Prop:=fun _ _=>False
 ct:St->Hp->Prop:=fun _ _=>False
abbrev TS:=U4->St->Hp->Prop
def EP (X:Cx) (UL:List (Addr×Obj)) (σ:St) (Q:VK) (u:Value) (s':Shared):Prop:=∃v H',Inv X UL σ H' s'/\RelV v u/\Q v H'
def TP (X:Cx) (UL:List (Addr×Obj)) (σ:St) (Q:Bool->Hp->Prop) (b:Bool) (s':Shared):Prop:=∃H',Inv X UL σ H' s'/\Q b H'
def AP (X:Cx) (UL:List (Addr×Obj)) (σ:St) (Q:List V->Hp->Prop) (us:List Value) (s':Shared):Prop:=∃vs H',Inv X UL σ H' s'/\U2 vs us/\Q vs H'
def SP (X:Cx) (UL:List (Addr×Obj)) (D:U4) (f:Flow) (s':Shared):Prop:=
 match f with
 | .next=>∃σ' H',Inv X UL σ' H' s'/\D.nx σ' H'
 | .brk=>∃σ' H',Inv X UL σ' H' s'/\D.bk σ' H'
 | .cont=>∃σ' H',Inv X UL σ' H' s'/\D.ct σ' H'
 | .ret u=>∃v σ' H',Inv X UL σ' H' s'/\RelV v u/\D.rt v H'
def PE (X:Cx) (e:Expr) (t:TE):Prop:=
 ∀(UL:List (Addr×Obj)) (s:Shared) (σ:St) (H:Hp) (Q:VK),Inv X UL σ H s->t σ H Q->wpAny (model X.prog X.w) X.A (eval e X.env) (EP X UL σ Q) X.xe s
def PT (X:Cx) (e:Expr) (t:TT):Prop:=
 ∀(UL:List (Addr×Obj)) (s:Shared) (σ:St) (H:Hp) (Q:Bool->Hp->Prop),Inv X UL σ H s->t σ H Q->wpAny (model X.prog X.w) X.A (isTrue e X.env (eval e X.env)) (TP X UL σ Q) X.xe s
def PW (X:Cx) (e:Expr) (t:TT):Prop:=
 ∀(whole:Sem Value) (UL:List (Addr×Obj)) (s:Shared) (σ:St) (H:Hp) (Q:Bool->Hp->Prop),Inv X UL σ H s->t σ H Q->wpAny (model X.prog X.w) X.A (isTrue e X.env whole) (TP X UL σ Q) X.xe s
theorem PW.pt {X:Cx}{e:Expr}{t:TT}(h:PW X e t):PT X e t:=h _
def PA (X:Cx) (es:List Expr) (t:TA):Prop:=
 ∀(pos:Pos) (UL:List (Addr×Obj)) (s:Shared) (σ:St) (H:Hp) (Q:List V->Hp->Prop),Inv X UL σ H s->t σ H Q->wpAny (model X.prog X.w) X.A (spliced (backTo pos (starEach es X.env))) (AP X UL σ Q) X.xe s
def PS (X:Cx) (st:Stmt) (t:TS):Prop:=
 ∀(UL:List (Addr×Obj)) (s:Shared) (σ:St) (H:Hp) (D:U4),Inv X UL σ H s->t D σ H->wpAny (model X.prog X.w) X.A (exec st X.env) (SP X UL D) X.xe s
def se (X:Cx) (st:List Stmt) (t:TS):Prop:=
 ∀(UL:List (Addr×Obj)) (s:Shared) (σ:St) (H:Hp) (D:U4),Inv X UL σ H s->t D σ H->wpAny (model X.prog X.w) X.A (execs st X.env) (SP X UL D) X.xe s
theorem da {α:Type}{t:Sem α}{Q Q':α->Shared->Prop}{M:Model}{A:Around}{E:Value->Shared->Prop}{s:Shared}(h:wpAny M A t Q E s) (hQ:∀a s,Q a s->Q' a s):wpAny M A t Q' E s:=Jr h hQ fun _ _ x=>x
end L2
namespace L2
open PySem PySem.Spec PyProof.Rows
section
variable {X:Cx}
theorem bin {a b:Expr}{ta tb:TE}(ha:PE X a ta) (hb:PE X b tb){UL:List (Addr×Obj)}{s:Shared}{σ:St}{H:Hp}{R:V->V->Hp->Prop}(I:Inv X UL σ H s) (h:ta σ H fun x H1=>tb σ H1 fun y H2=>R x y H2)
  {α:Type}{Q:α->Shared->Prop}{f:Value->Value->Sem α}
  (hf:∀v u s2 x y H2,Inv X UL σ H2 s2->RelV x v->RelV y u->R x y H2->wpAny (model X.prog X.w) X.A (f v u) Q X.xe s2):
  wpAny (model X.prog X.w) X.A (eval a X.env) (fun v s₁=>wpAny (model X.prog X.w) X.A (eval b X.env) (fun u s₂=>wpAny (model X.prog X.w) X.A (f v u) Q X.xe s₂) X.xe s₁) X.xe s:=by
 refine da (ha UL s σ H _ I h) fun v s1 ⟨x,H1,I1,r1,q1⟩=>?_;refine da (hb UL s1 σ H1 _ I1 q1) fun u s2 ⟨y,H2,I2,r2,q2⟩=>?_;exact hf v u s2 x y H2 I2 r1 r2 q2
def vA (i:Nat):TE:=fun σ H Q=>∃v,σ[i]?=some (some v)/\Q v H
def tC (v:V):TE:=fun _ H Q=>Q v H
theorem Cd {i:Nat}{x:Str}{pos:Pos}(hN:X.N[i]?=some x) (hv:GX X.env.scope x) (hd:(x == ("__debug__":Str))=false:=by decide) (K0:(x == ("__classdict__":Str))=false:=by decide):PE X (.Name x pos) (vA i):=by
 intro UL s σ H Q I h;obtain⟨v,e,h⟩:=h;obtain⟨m,hn,hl⟩:=I.loc;obtain⟨u,r,l⟩:=hl i x v hN e hv;have fin:EP X UL σ Q u s:=⟨v,H,I,r,h⟩;rcases l with ⟨hk,hm⟩ | ⟨hk,c,hc,Mz⟩
 ·exact wpAny_Name (wpAny_loadName_local I.ok.kind hk hn hm fin) hd
 ·rcases hk with hk | hk
  ·exact wpAny_Name (wpAny_loadName_cell I.ok.kind hk hc Mz fin) hd
  ·exact wpAny_Name (wpAny_loadName_free I.ok.kind hk hc Mz fin K0) hd
theorem ag {i j pos}:PE X (.Constant (.int i) j pos) (tC (.int i)):=fun _ _ _ H _ I h=>wpAny_Constant_int ⟨.int i,H,I.tok _,⟨_,rfl⟩,h⟩
theorem gA {b j pos}:PE X (.Constant (.bool b) j pos) (tC (.bl b)):=fun _ _ _ H _ I h=>Constant_bool ⟨.bl b,H,I,rfl,h⟩
theorem cE {j pos}:PE X (.Constant .none j pos) (tC .bb):=fun _ _ _ H _ I h=>Constant_none ⟨.bb,H,I,rfl,h⟩
theorem aj {x j pos}:PE X (.Constant (.str x) j pos) (tC (.str x)):=fun _ _ _ H _ I h=>Calls.Constant_str ⟨.str x,H,I.tok _,⟨_,rfl⟩,h⟩
def Gl (X:Cx) (x:Str):Prop:=X.env.kindOf x=some .globalImplicit
theorem mB {E:Value->Shared->Prop}{UL:List (Addr×Obj)}{s:Shared}{σ:St}{H:Hp}{x:Str}{u:Value}{pos:Pos}{Q:Value->Shared->Prop}(I:Inv X UL σ H s) (hg:Gl X x) (hm:X.mg x=some u) (h:Q u s)
  (hd:(x == ("__debug__":Str))=false:=by decide):wpAny (model X.prog X.w) X.A (eval (.Name x pos) X.env) Q E s:=
 Calls.Name_function_global I.ok.kind hg (Calls.loadGlobal_global (by rw[I.ok.glob];exact I.mod.glob.keeps I.bk) hm h) hd
theorem lG {E:Value->Shared->Prop}{UL:List (Addr×Obj)}{s:Shared}{σ:St}{H:Hp}{x:Str}{u:Value}{pos:Pos}{Q:Value->Shared->Prop}(I:Inv X UL σ H s) (hg:Gl X x) (hm:X.mg x=none) (hv:bootBuiltins x=some u) (h:Q u s)
  (hn:x≠"__name__":=by decide) (hd:(x == ("__debug__":Str))=false:=by decide):wpAny (model X.prog X.w) X.A (eval (.Name x pos) X.env) Q E s:=by
 obtain⟨mb,h1,h2⟩:=I.mod.blt;exact Calls.Name_function_global I.ok.kind hg (Calls.loadGlobal_builtin (by rw[I.ok.glob];exact I.mod.glob.keeps I.bk) hm (by rw[I.ok.blt];exact h1.keeps I.bk) ((h2 x hn).trans hv) h) hd
theorem bA {x:Str}{v:V}{u:Value}{pos:Pos}(hg:Gl X x) (hm:X.mg x=some u) (r:RelV v u) (hd:(x == ("__debug__":Str))=false:=by decide):PE X (.Name x pos) (tC v):=
 fun _ _ _ H _ I h=>mB I hg hm ⟨v,H,I,r,h⟩ hd
theorem fN {x:Str}{v:V}{u:Value}{pos:Pos}(hg:Gl X x) (hm:X.mg x=none) (hv:bootBuiltins x=some u) (r:RelV v u) (hn:x≠"__name__":=by decide) (hd:(x == ("__debug__":Str))=false:=by decide):PE X (.Name x pos) (tC v):=
 fun _ _ _ H _ I h=>lG I hg hm hv ⟨v,H,I,r,h⟩ hn hd
variable {a b:Expr}{ta tb:TE}{pos:Pos}
def PC (X:Cx) (op:CmpOp) (a b:Expr) (t:TE):Prop:=
 ∀(UL:List (Addr×Obj)) (s:Shared) (σ:St) (H:Hp) (Q:VK),Inv X UL σ H s->t σ H Q->
  wpAny (model X.prog X.w) X.A (eval a X.env) (fun v s₁=>wpAny (model X.prog X.w) X.A (eval b X.env) (fun u s₂=>wpAny (model X.prog X.w) X.A (compareOp op v u) (EP X UL σ Q) X.xe s₂) X.xe s₁) X.xe s
def tB (t:TE):TT:=fun σ H Q=>t σ H fun x H1=>∃c,x=.bl c/\Q c H1
theorem Cc {op:CmpOp}{t:TE}(h:PC X op a b t) (h1:behindInMarks op b=false:=by first | exact nobehind _ (by decide) (by decide) | rfl):PT X (.Compare a [op] [b] pos) (tB t):=by
 intro UL s σ H Q I hw;refine wpAny_isTrue_Compare1 (da (h UL s σ H _ I hw) fun v s1 h1=>da h1 fun u s2 h2=>da h2 fun c s3 ⟨x,H1,I1,r1,q1⟩=>?_) h1;obtain⟨d,rfl,q⟩:=q1;cases r1;exact wpAny_truthy_bool ⟨H1,I1,q⟩
theorem bS {e:Expr}{t:TE}(h:PE X e t) (he:∀whole,isTrue e X.env whole=(do let v <-whole;standAt e.pos;holding [v] (truthy v)):=by intro _;rfl):PT X e (tB t):=by
 intro UL s σ H Q I hw;refine isTrue_plain (da (h UL s σ H _ I hw) fun v s1 ⟨x,H1,I1,r1,q1⟩=>?_) (he _);obtain⟨d,rfl,q⟩:=q1;cases r1;exact wpAny_truthy_bool ⟨H1,I1,q⟩
variable {tA tB':TT}{rest:List Expr}
def EH (t u:TT):TT:=fun σ H Q=>t σ H fun c H1=>if c=true then u σ H1 Q else Q false H1
def tOr (t u:TT):TT:=fun σ H Q=>t σ H fun c H1=>if c=true then Q true H1 else u σ H1 Q
def EB (t:TT):TT:=fun σ H Q=>t σ H fun c H1=>Q (!c) H1
theorem d6 (ha:PT X a tA):PW X (.BoolOp .And [a] pos) tA:=by
 intro wh UL s σ H Q I h;refine isTrue_and (da (ha UL s σ H Q I h) fun c s1 e=>?_);cases c with
 | true=>exact isTrue_and_nil e
 | false=>exact e
theorem fg (ha:PT X a tA):PW X (.BoolOp .Or [a] pos) tA:=by
 intro wh UL s σ H Q I h;refine isTrue_or (da (ha UL s σ H Q I h) fun c s1 e=>?_);cases c with
 | false=>exact isTrue_or_nil e
 | true=>exact e
theorem fE (ha:PT X a tA) (hb:PW X (.BoolOp .And (b::rest) pos) tB'):PW X (.BoolOp .And (a::b::rest) pos) (EH tA tB'):=by
 intro wh UL s σ H Q I h;refine isTrue_and (da (ha UL s σ H _ I h) fun c s1 ⟨H1,I1,q1⟩=>?_);cases c with
 | true=>exact hb wh UL s1 σ H1 Q I1 q1
 | false=>exact⟨H1,I1,q1⟩
theorem gk (ha:PT X a tA) (hb:PW X (.BoolOp .Or (b::rest) pos) tB'):PW X (.BoolOp .Or (a::b::rest) pos) (tOr tA tB'):=by
 intro wh UL s σ H Q I h;refine isTrue_or (da (ha UL s σ H _ I h) fun c s1 ⟨H1,I1,q1⟩=>?_);cases c with
 | true=>exact⟨H1,I1,q1⟩
 | false=>exact hb wh UL s1 σ H1 Q I1 q1
theorem fP (ha:PT X a tA):PT X (.UnaryOp .Not a pos) (EB tA):=by
 intro UL s σ H Q I h;exact isTrue_not (ha UL s σ H (fun c H1=>Q (!c) H1) I h)
def A7 (ta tb:TE):TE:=fun σ H Q=>ta σ H fun x H1=>∃c,x=.bl c/\if c=true then tb σ H1 Q else Q (.bl false) H1
def Ez (ta tb:TE):TE:=fun σ H Q=>ta σ H fun x H1=>∃c,x=.bl c/\if c=true then Q (.bl true) H1 else tb σ H1 Q
def EA (ta:TE):TE:=fun σ H Q=>ta σ H fun x H1=>∃c,x=.bl c/\Q (.bl (!c)) H1
theorem d9 {op}{t:TE}(h:PE X a t):PE X (.BoolOp op [a] pos) t:=fun UL s σ H Q I hw=>BoolOp_one (h UL s σ H Q I hw)
theorem fh (ha:PE X a ta) (hb:PE X (.BoolOp .And (b::rest) pos) tb):PE X (.BoolOp .And (a::b::rest) pos) (A7 ta tb):=by
 intro UL s σ H Q I h;refine BoolOp_and (da (ha UL s σ H _ I h) fun v s1 ⟨x,H1,I1,r1,q1⟩=>?_);obtain⟨c,rfl,q1⟩:=q1;cases r1;refine wpAny_truthy_bool ?_;cases c with
 | true=>exact hb UL s1 σ H1 Q I1 q1
 | false=>exact⟨.bl false,H1,I1,rfl,q1⟩
theorem iT (ha:PE X a ta) (hb:PE X (.BoolOp .Or (b::rest) pos) tb):PE X (.BoolOp .Or (a::b::rest) pos) (Ez ta tb):=by
 intro UL s σ H Q I h;refine BoolOp_or (da (ha UL s σ H _ I h) fun v s1 ⟨x,H1,I1,r1,q1⟩=>?_);obtain⟨c,rfl,q1⟩:=q1;cases r1;refine wpAny_truthy_bool ?_;cases c with
 | false=>exact hb UL s1 σ H1 Q I1 q1
 | true=>exact⟨.bl true,H1,I1,rfl,q1⟩
theorem Ce (ha:PE X a ta):PE X (.UnaryOp .Not a pos) (EA ta):=by
 intro UL s σ H Q I h;refine UnaryOp_ (da (ha UL s σ H _ I h) fun v s1 ⟨x,H1,I1,r1,q1⟩=>?_);obtain⟨c,rfl,q1⟩:=q1;cases r1;exact not_of (wpAny_truthy_bool ⟨.bl (!c),H1,I1,rfl,q1⟩)
def tIf (t:TT) (ta tb:TE):TE:=fun σ H Q=>t σ H fun c H1=>if c=true then ta σ H1 Q else tb σ H1 Q
theorem bC {c:Expr}(hc:PT X c tA) (ha:PE X a ta) (hb:PE X b tb):PE X (.IfExp c a b pos) (tIf tA ta tb):=by
 intro UL s σ H Q I h;refine wpAny_IfExp (da (hc UL s σ H _ I h) fun d s1 ⟨H1,I1,q1⟩=>?_);cases d with
 | true=>exact ha UL s1 σ H1 Q I1 q1
 | false=>exact hb UL s1 σ H1 Q I1 q1
end
end L2
namespace L2
open PySem PySem.Spec PyProof.Rows
def aS (K:Fg06) (H:Hp) (a:Addr) (xs:List V):Prop:=
 Rd H a (.lst xs)\/
  ∃(o:Obj) (UN:Array Value) (n:Nat),K.lookup a=some o/\o.cls=.type "list"/\o.dict=none/\o.data=.seq UN n/\UN.size<=sizeLine/\U2 xs UN.toList
def gq (K:Fg06) (H:Hp) (a:Addr) (xs:List V):Prop:=
 Rd H a (.tup xs)\/
  ∃(o:Obj) (UN:Array Value) (n:Nat),K.lookup a=some o/\o.cls=.type "tuple"/\o.data=.seq UN n/\UN.size<=sizeLine/\U2 xs UN.toList
def Ig:Value->Option V
 | .none=>some .bb
 | .bool b=>some (.bl b)
 | .int i _=>some (.int i)
 | .str x _=>some (.str x)
 | .bytes b _=>some (.wM b)
 | .float b _=>some (.GW b)
 | .ref a=>some (.ref a)
 | .type n=>some (.ty n)
 | _=>none
theorem RelV.abs {x:V}{u:Value}(r:RelV x u):Ig u=some x:=by
 cases x with
 | bb=>cases r;rfl
 | bl _=>cases r;rfl
 | int _=>obtain⟨t,rfl⟩:=r;rfl
 | str _=>obtain⟨t,rfl⟩:=r;rfl
 | wM _=>obtain⟨t,rfl⟩:=r;rfl
 | GW _=>obtain⟨t,rfl⟩:=r;rfl
 | ref _=>cases r;rfl
 | ty _=>cases r;rfl
theorem RelV.inj {x y:V}{u:Value}(r:RelV x u) (q:RelV y u):x=y:=Option.some.inj (r.abs.symm.trans q.abs)
theorem U2.inj:∀{xs ys:List V}{us:List Value},U2 xs us->U2 ys us->xs=ys
 | _,_,_,.nil,.nil=>rfl
 | _,_,_,.cons r t,.cons r' t'=>by rw[r.inj r',U2.inj t t']
section
variable {X:Cx}{UL:List (Addr×Obj)}{σ:St}{H:Hp}{s:Shared}{a:Addr}{xs ys:List V}
theorem aS.of {K:Fg06}(h:H a=some (.lst xs)):aS K H a xs:=.inl (.inl h)
theorem gq.of {K:Fg06}(h:H a=some (.tup xs)):gq K H a xs:=.inl (.inl h)
theorem Inv.list (I:Inv X UL σ H s) (h:aS X.K H a xs):∃UN:List Value,U2 xs UN/\PlainL s.heap a UN.toArray/\xs.length<=sizeLine:=by
 rcases h with h | ⟨o,UN,n,hk,hc,hd,hs,hz,r⟩
 ·obtain⟨z,UN,n,r,e⟩:=h.ok I.cA;exact⟨UN,r,⟨_,n,e,rfl,rfl,rfl⟩,z⟩
 ·refine⟨UN.toList,r,⟨o,n,I.sd a o hk,hc,hd,by simpa using hs⟩,?_⟩;have e:=r.length;simp only[Array.length_toList] at e;omega
theorem Inv.tuple (I:Inv X UL σ H s) (h:gq X.K H a xs):∃UN:List Value,U2 xs UN/\IsTup s.heap a UN.toArray/\xs.length<=sizeLine:=by
 rcases h with h | ⟨o,UN,n,hk,hc,hs,hz,r⟩
 ·obtain⟨z,UN,r,p⟩:=h.ok I.cA;exact⟨UN,r,p,z⟩
 ·refine⟨UN.toList,r,⟨o,I.sd a o hk,hc,n,by simpa using hs⟩,?_⟩;have e:=r.length;simp only[Array.length_toList] at e;omega
theorem Inv.kr (I:Inv X UL σ H s) (h:aS X.K H a xs) (h':aS X.K H a ys):xs=ys:=by
 obtain⟨UN,r,⟨o,n,e,_,_,d⟩,_⟩:=I.list h;obtain⟨its',r',⟨o',n',e',_,_,d'⟩,_⟩:=I.list h';rw[e] at e';cases e';rw[d] at d';injection d' with d1 _;have:UN=its':=by simpa using Vj Array.toList d1
 subst this;exact r.inj r'
theorem Inv.oV (I:Inv X UL σ H s) (h:gq X.K H a xs) (h':gq X.K H a ys):xs=ys:=by
 obtain⟨UN,r,⟨o,e,_,n,d⟩,_⟩:=I.tuple h;obtain⟨its',r',⟨o',e',_,n',d'⟩,_⟩:=I.tuple h';rw[e] at e';cases e';rw[d] at d';injection d' with d1 _;have:UN=its':=by simpa using Vj Array.toList d1
 subst this;exact r.inj r'
end
abbrev Cx.oy (X:Cx) (E:Value->Shared->Prop):Cx:={ X with xe:=E }
abbrev Cx.Ep (X:Cx):Cx:=X.oy fun _ _=>False
theorem Cx.Ok.oy {X:Cx}(ok:X.Ok) (E:Value->Shared->Prop):(X.oy E).Ok:=
 ⟨ok.mod,ok.kind,ok.glob,ok.blt,ok.above,ok.inj,ok.has,ok.Gs,ok.hd,ok.frames,ok.GN,ok.exf,ok.bs,ok.AN,ok.yz,ok.AK,ok.mn,ok.DV⟩
theorem Cx.Ok.iH {X:Cx}{E:Value->Shared->Prop}(ok:(X.oy E).Ok):X.Ok:=
 ⟨ok.mod,ok.kind,ok.glob,ok.blt,ok.above,ok.inj,ok.has,ok.Gs,ok.hd,ok.frames,ok.GN,ok.exf,ok.bs,ok.AN,ok.yz,ok.AK,ok.mn,ok.DV⟩
section
variable {X:Cx}{UL:List (Addr×Obj)}{σ:St}{H:Hp}{s:Shared}{E:Value->Shared->Prop}
theorem Inv.oy (I:Inv X UL σ H s) (E:Value->Shared->Prop):Inv (X.oy E) UL σ H s:=⟨I.ok.oy E,I.os,I.bare,I.base,I.loc,I.cell,I.free,I.jD,I.pin,I.cA,I.len⟩
theorem Inv.iH (I:Inv (X.oy E) UL σ H s):Inv X UL σ H s:=⟨I.ok.iH,I.os,I.bare,I.base,I.loc,I.cell,I.free,I.jD,I.pin,I.cA,I.len⟩
theorem SP.iH {D:U4}{f:Flow}{s':Shared}(h:SP (X.oy E) UL D f s'):SP X UL D f s':=by
 cases f with
 | next=>obtain⟨σ',H',I,q⟩:=h;exact⟨σ',H',I.iH,q⟩
 | brk=>obtain⟨σ',H',I,q⟩:=h;exact⟨σ',H',I.iH,q⟩
 | cont=>obtain⟨σ',H',I,q⟩:=h;exact⟨σ',H',I.iH,q⟩
 | ret u=>obtain⟨v,σ',H',I,r,q⟩:=h;exact⟨v,σ',H',I.iH,r,q⟩
theorem se.Ep {st:List Stmt}{t:TS}(h:se X.Ep st t):se X st t:=fun UL s σ H D I hw=>
 Jr (h UL s σ H D (I.oy _) hw) (fun _ _ q=>q.iH) fun _ _ z=>False.elim z
end
section
variable {X:Cx}{st:Stmt}{rest:List Stmt}{t u:TS}{e:Expr}{te:TE}{pos:Pos}
def A2:TS:=fun D σ H=>D.nx σ H
def zS (t u:TS):TS:=fun D σ H=>t { D with nx:=u D } σ H
theorem aP:se X [] A2:=fun _ _ σ H _ I h=>wpAny_execs_nil ⟨σ,H,I,h⟩
theorem aa (h1:PS X st t) (h2:se X rest u):se X (st::rest) (zS t u):=by
 intro UL s σ H D I h;refine wpAny_execs_cons (da (h1 UL s σ H { D with nx:=u D } I h) fun f s1 q=>?_);cases f with
 | next=>
  obtain⟨σ',H',I',q⟩:=q;exact h2 UL s1 σ' H' D I' q
 | ret v=>exact q
 | brk=>exact q
 | cont=>exact q
theorem ah (h1:PS X st t):se X [st] t:=by
 intro UL s σ H D I h;refine wpAny_execs_cons (da (h1 UL s σ H D I h) fun f s1 q=>?_);cases f with
 | next=>exact wpAny_execs_nil q
 | ret v=>exact q
 | brk=>exact q
 | cont=>exact q
theorem Inv.quiet {UL:List (Addr×Obj)}{σ:St}{H:Hp}{s:Shared}(I:Inv X UL σ H s):interactive X.env=false:=by simp[interactive,I.ok.kind]
def A4 (te:TE):TS:=fun D σ H=>te σ H fun _ H1=>D.nx σ H1
theorem bT (he:PE X e te) (hs:swapsWith e none pos.line X.env=pure false:=by rfl):PS X (.Expr e pos) (A4 te):=by
 intro UL s σ H D I h;exact wpAny_Expr_any (da (he UL s σ H _ I h) fun v s1 ⟨x,H1,I1,r1,q1⟩=>⟨σ,H1,I1,q1⟩) I.quiet hs
def BH (te:TE):TS:=fun D σ H=>te σ H D.rt
theorem aJ (he:PE X e te):PS X (.Return (some e) pos) (BH te):=by
 intro UL s σ H D I h;exact wpAny_Return_some (da (he UL s σ H _ I h) fun v s1 ⟨x,H1,I1,r1,q1⟩=>⟨x,σ,H1,I1,r1,q1⟩)
def EE (c:TT) (t u:TS):TS:=fun D σ H=>c σ H fun b H1=>if b=true then t D σ H1 else u D σ H1
theorem bo {c:Expr}{a b:List Stmt}{tc:TT}(hc:PT X c tc) (ha:se X a t) (hb:se X b u):PS X (.If c a b pos) (EE tc t u):=by
 intro UL s σ H D I h;refine wpAny_If (da (hc UL s σ H _ I h) fun d s1 ⟨H1,I1,q1⟩=>?_);cases d with
 | true=>exact ha UL s1 σ H1 D I1 q1
 | false=>exact hb UL s1 σ H1 D I1 q1
end
abbrev TG:=V->St->Hp->(St->Hp->Prop)->Prop
abbrev AV:=List V->St->Hp->(St->Hp->Prop)->Prop
def PG (X:Cx) (target:Expr) (t:TG):Prop:=
 ∀(UL:List (Addr×Obj)) (s:Shared) (σ:St) (H:Hp) (v:V) (u:Value) (Q:St->Hp->Prop),Inv X UL σ H s->RelV v u->t v σ H Q->
  wpAny (model X.prog X.w) X.A (assign target X.env u) (fun _ s'=>∃σ' H',Inv X UL σ' H' s'/\Q σ' H') X.xe s
def Eh (X:Cx) (ts:List Expr) (t:AV):Prop:=
 ∀(UL:List (Addr×Obj)) (s:Shared) (σ:St) (H:Hp) (vs:List V) (us:List Value) (Q:St->Hp->Prop),Inv X UL σ H s->U2 vs us->t vs σ H Q->
  wpAny (model X.prog X.w) X.A (assignInOrder ((assignEach ts X.env).map (·.2)) us) (fun _ s'=>∃σ' H',Inv X UL σ' H' s'/\Q σ' H') X.xe s
abbrev Ef:=V->V->V->Hp->(Hp->Prop)->Prop
def Gz (X:Cx) (t:Ef):Prop:=
 ∀(UL:List (Addr×Obj)) (s:Shared) (σ:St) (H:Hp) (o i v:V) (ov iv u:Value) (Q:Hp->Prop),Inv X UL σ H s->RelV o ov->RelV i iv->RelV v u->t o i v H Q->
  wpAny (model X.prog X.w) X.A (setItem ov iv u) (fun _ s'=>∃H',Inv X UL σ H' s'/\Q H') X.xe s
section
variable {X:Cx}{pos:Pos}
def iz (i:Nat):TG:=fun v σ H Q=>Q (σ.set i (some v)) H
theorem cR {i:Nat}{x:Str}(hN:X.N.Nodup) (hi:X.N[i]?=some x) (hx:Loc X.env.scope x) (hf:X.fn x=true\/X.env.scope.names.lookup x=some .local:=by first | exact .inl rfl | exact .inr rfl | assumption):PG X (.Name x pos) (iz i):=by
 intro UL s σ H v u Q I r h;exact wpAny_assign_Name (qR I hN hi hx r (fun s' I'=>⟨_,H,I',h⟩) hf)
def AB:AV:=fun vs σ H Q=>vs=[]/\Q σ H
def pE (t:TG) (u:AV):AV:=fun vs σ H Q=>∃v r,vs=v::r/\t v σ H fun σ' H'=>u r σ' H' Q
theorem eJ:Eh X [] AB:=by
 intro UL s σ H vs us Q I r h;obtain⟨e,h⟩:=h;subst e;cases r;exact assignInOrder_nil ⟨σ,H,I,h⟩
theorem cb {e:Expr}{es:List Expr}{t:TG}{u:AV}(h1:PG X e t) (h2:Eh X es u)
  (hs:(assignEach (e::es) X.env).map (·.2)=assign e X.env::(assignEach es X.env).map (·.2):=by rfl):Eh X (e::es) (pE t u):=by
 intro UL s σ H vs us Q I r h;obtain⟨v,vr,e1,h⟩:=h;subst e1;cases r with
 | cons r rr=>
  rw[hs];refine assignInOrder_cons (da (h1 UL s σ H _ _ _ I r h) fun _ s1 ⟨σ1,H1,I1,q1⟩=>?_);exact h2 UL s1 σ1 H1 _ _ Q I1 rr q1
def AA (K:Fg06) (n:Nat) (t:AV):TG:=fun v σ H Q=>∃a xs,v=.ref a/\gq K H a xs/\xs.length=n/\t xs σ H Q
theorem fT {es:List Expr}{k:Nat}{t:AV}{n:Nat}(hc:X.calm=true) (h:Eh X es t)
  (hn:(assignEach es X.env).length=n:=by rfl) (Km:(assignEach es X.env).findIdx? (·.1)=none:=by rfl):PG X (.Tuple es k pos) (AA X.K n t):=by
 intro UL s σ H v u Q I r hw;obtain⟨a,xs,e1,hq,hl,hw⟩:=hw;subst e1;cases r;obtain⟨UN,rv,ht,hz⟩:=I.tuple hq;refine assign_Tuple_tuple (I.ok.hd hc) ht (by simp[hn,<-hl,rv.length]) Km fun h' hx=>?_;have I1:Inv X UL σ H { s with heap:=h' }:=I.kept (t':=s.toks) fun b o e=>hx b o (Jk (Jj e)) e;exact h UL _ σ H xs _ Q I1 (by simpa using rv) hw
def HX (to ti:TE) (t:Ef):TG:=fun v σ H Q=>to σ H fun o H1=>ti σ H1 fun i H2=>t o i v H2 fun H3=>Q σ H3
theorem yd {o i:Expr}{to ti:TE}{t:Ef}(ho:PE X o to) (hi:PE X i ti) (hs:Gz X t)
  (ha:∀v,assign (.Subscript o i pos) X.env v=(do
   let ov <-holding [v] (eval o X.env)
   let iv <-holding [v,ov] (eval i X.env)
   standAt pos
   holding [v,ov,iv] (setItem ov iv v)
   release [v,ov,iv] []):=by intro _;rfl):PG X (.Subscript o i pos) (HX to ti t):=by
 intro UL s σ H v u Q I r h;rw[ha];refine IK (wpAny_holding (da (ho UL s σ H _ I h) fun ov s1 ⟨x,H1,I1,r1,q1⟩=>?_));refine IK (wpAny_holding (da (hi UL s1 σ H1 _ I1 q1) fun iv s2 ⟨y,H2,I2,r2,q2⟩=>?_));refine IK (wpAny_standAt (IK (wpAny_holding (da (hs UL s2 σ H2 x y v ov iv u _ I2 r1 r2 r q2) fun _ s3 ⟨H3,I3,q3⟩=>?_))));exact wpAny_release ⟨σ,H3,I3,q3⟩
def xf (te:TE) (g:TG):TS:=fun D σ H=>te σ H fun x H1=>g x σ H1 D.nx
theorem gu {tg e:Expr}{te:TE}{g:TG}(he:PE X e te) (hg:PG X tg g) (hs:swapsWithSole [tg] e pos.line X.env=pure false:=by rfl) (hw:swappedStores [tg] e X.env=pure none:=by rfl)
  (h1:(assignEach [tg] X.env).map (·.2)=[assign tg X.env]:=by rfl):PS X (.Assign [tg] e pos) (xf te g):=by
 intro UL s σ H D I h;refine wpAny_Assign_stores (da (he UL s σ H _ I h) fun v s1 ⟨x,H1,I1,r1,q1⟩=>?_) hs hw;rw[h1];exact da (hg UL s1 σ H1 x v _ I1 r1 q1) fun _ s2 q=>q
theorem fQ {i:Nat}{x:Str}{e:Expr}{te:TE}{pos':Pos}(hN:X.N.Nodup) (hi:X.N[i]?=some x) (hx:Loc X.env.scope x) (he:PE X e te) (hs:swapsWith e (some (.Name x pos')) pos.line X.env=pure false:=by rfl) (hf:X.fn x=true\/X.env.scope.names.lookup x=some .local:=by first | exact .inl rfl | exact .inr rfl | assumption):
  PS X (.Assign [.Name x pos'] e pos) (xf te (iz i)):=by
 intro UL s σ H D I h;refine wpAny_Assign_Name (da (he UL s σ H _ I h) fun v s1 ⟨y,H1,I1,r1,q1⟩=>?_) hs;exact qR I1 hN hi hx r1 (fun s2 I2=>⟨_,H1,I2,q1⟩) hf
def wZ (c:TT) (tb:TS):TS:=fun D σ H=>∃W:Nat->St->Hp->Prop,(∃m,W m σ H)/\∀m σ H,W m σ H->
 c σ H fun b H1=>if b=true then ∃N:St->Hp->Prop,(∀σ' H',N σ' H'->∃m',m' < m/\W m' σ' H')/\tb { D with nx:=N,ct:=N,bk:=D.nx } σ H1 else D.nx σ H1
theorem eS {c:Expr}{body:List Stmt}{tc:TT}{tb:TS}(hp:PassesOwn (model X.prog X.w) X.A X.env X.xe) (hc:PT X c tc) (hb:se X body tb):PS X (.While c body [] pos) (wZ tc tb):=by
 intro UL s σ H D I h;obtain⟨W,⟨m0,w0⟩,turn⟩:=h;refine wpAny_While (codeAny_whileLoop (fun n s'=>∃σ' H',Inv X UL σ' H' s'/\W n σ' H') ?_ m0 ⟨σ,H,I,w0⟩);rintro n s1 ⟨σ1,H1,I1,w1⟩;refine wpAny_passesOwn hp (da (hc UL s1 σ1 H1 _ I1 (turn n σ1 H1 w1)) fun b s2 ⟨H2,I2,q2⟩=>?_);cases b with
 | true=>
  obtain⟨N,hN,q2⟩:=q2;rw[II rfl];refine wpAny_passesOwn hp (da (hb UL s2 σ1 H2 _ I2 q2) fun f s3 q3=>?_);cases f with
  | next=>
   obtain⟨σ3,H3,I3,n3⟩:=q3;obtain⟨m',hm,w3⟩:=hN σ3 H3 n3;exact⟨m',hm,σ3,H3,I3,w3⟩
  | cont=>
   obtain⟨σ3,H3,I3,n3⟩:=q3;obtain⟨m',hm,w3⟩:=hN σ3 H3 n3;exact⟨m',hm,σ3,H3,I3,w3⟩
  | brk=>exact q3
  | ret v=>exact q3
 | false=>
  rw[IH IP];exact wpAny_execs_nil ⟨σ1,H2,I2,q2⟩
end
structure It where
 go:Nat->Hp->Prop
 rZ:Nat->Hp->V->Hp->Prop
 stop:Nat->Hp->Prop
def kJ (X:Cx) (UL:List (Addr×Obj)) (H:Hp) (b:Addr):Prop:=
 H b=none/\b≠X.env.locals/\b∉X.fs/\(b∈X.ex\/X.s₀.heap.objs.size<=b)/\(∀x c,X.env.cells.lookup x=some c->c≠b)/\∀p∈X.pn++UL,p.1≠b
theorem Inv.wu {X:Cx}{UL:List (Addr×Obj)}{σ:St}{H H':Hp}{s:Shared}{b:Addr}(I:Inv X UL σ H s) (hb:s.heap.objs.size<=b) (hn:H' b=none):kJ X UL H' b:=by
 refine⟨hn,Nat.ne_of_gt (Jh I.lt hb),I.HK hb,.inr (ID I.sz hb),fun x c e z=>?_,fun p hp z=>?_⟩
 ·obtain⟨v,q⟩:=I.cell x c e;exact Vi (Jh q.lt (by rw[z];exact hb)) (Vf _)
 ·exact Vi (Jh (Jj (I.pin p hp).1) (by rw[z];exact hb)) (Vf _)
structure Turn (P:Program) (w:World) (K:Fg06) (tg:Expr) (J:It) (fp:List Addr) (it:Addr) (tn:Nat->Heap->Prop):Prop where
 mem:it∈fp
 obj:∀i h,tn i h->∀b∈fp,∃o,h.get? b=some o/\∀v,o.data≠.cell v
 keep:∀i h h',tn i h->(∀b∈fp,∀o,h.get? b=some o->h'.get? b=some o)->tn i h'
 item:∀(X:Cx),X.prog=P->X.w=w->X.K=K->X.calm=true->∀(i:Nat) (UL:List (Addr×Obj)) (s:Shared) (σ:St) (H:Hp) (E:Value->Shared->Prop),Inv X UL σ H s->(∀b∈fp,kJ X UL H b)->tn i s.heap->J.go i H->
  wpAny (model P w) X.A (pyNext (.ref it)) (fun r s1=>∃u,r=some u/\
   wpAny (model P w) X.A (letOwnedTupleGo tg (.ref it) u) (fun _ s2=>∃x H',Inv X UL σ H' s2/\RelV x u/\J.rZ i H x H'/\tn (i+1) s2.heap/\∀b∈fp,H' b=none) E s1) E s
 done:∀(X:Cx),X.prog=P->X.w=w->X.K=K->X.calm=true->∀(i:Nat) (UL:List (Addr×Obj)) (s:Shared) (σ:St) (H:Hp) (E:Value->Shared->Prop),Inv X UL σ H s->(∀b∈fp,kJ X UL H b)->tn i s.heap->J.stop i H->
  wpAny (model P w) X.A (pyNext (.ref it)) (fun r s1=>r=none/\Inv X UL σ H s1) E s
 self:∀(A:Around) (i:Nat) (s:Shared) (Q:Value->Shared->Prop) (E:Value->Shared->Prop),tn i s.heap->Q (.ref it) s->wpAny (model P w) A (pyIter (.ref it)) Q E s
abbrev TI:=St->Hp->(It->Hp->Prop)->Prop
def PIE (X:Cx) (UL:List (Addr×Obj)) (σ:St) (tg:Expr) (R:It->Hp->Prop) (itv:Value) (s2:Shared):Prop:=
 ∃(it:Addr) (fp:List Addr) (tn:Nat->Heap->Prop) (J:It) (H':Hp),itv=.ref it/\Inv X UL σ H' s2/\Turn X.prog X.w X.K tg J fp it tn/\tn 0 s2.heap/\(∀b∈fp,kJ X UL H' b)/\R J H'
def PI (X:Cx) (tg iter:Expr) (wi:TI):Prop:=
 ∀(UL:List (Addr×Obj)) (s:Shared) (σ:St) (H:Hp) (R:It->Hp->Prop),Inv X UL σ H s->wi σ H R->
  wpAny (model X.prog X.w) X.A (eval iter X.env) (fun v s1=>wpAny (model X.prog X.w) X.A (pyIter v) (PIE X UL σ tg R) X.xe s1) X.xe s
theorem yY {M:Model}{A:Around}{E:Value->Shared->Prop}{s:Shared}{tg:Expr}{it:Addr}{u:Value}{o:Obj}{n:String}{vs:Array Value}{Q:Unit->Shared->Prop}(ho:s.heap.get? it=some o) (hc:o.cls=.type n) (hd:o.data=.fields vs)
  (hn:["enumerate","zip","dict_itemiterator","dict_reverseitemiterator","odict_iterator","itertools.zip_longest","itertools.pairwise"].contains n=false) (hQ:Q () s):wpAny M A (letOwnedTupleGo tg (.ref it) u) Q E s:=by
 unfold letOwnedTupleGo;cases tg<;>first
  | exact IL hQ
  | (cases u<;>first
    | exact IL hQ
    | (refine IK (wpAny_load ho ?_)
       rw[hc,hd];show wpAny M A (if(["enumerate","zip","dict_itemiterator","dict_reverseitemiterator","odict_iterator","itertools.zip_longest","itertools.pairwise"].contains n&&vs[0]? == some (rawInt _))=true then _ else _) Q E s;rw[IH (by intro h;rw[hn,Bool.false_and] at h;cases h)];exact IL hQ))
def Bx (K:Fg06) (a:Addr):It:=
 ⟨fun i H=>∃xs x,aS K H a xs/\xs[i]?=some x,fun i H x H'=>H'=H/\∀xs,aS K H a xs->xs[i]?=some x,fun i H=>∃xs,aS K H a xs/\xs.length<=i⟩
def Bw (K:Fg06) (a:Addr):It:=
 ⟨fun i H=>∃xs x,gq K H a xs/\xs[i]?=some x,fun i H x H'=>H'=H/\∀xs,gq K H a xs->xs[i]?=some x,fun i H=>∃xs,gq K H a xs/\xs.length<=i⟩
def zJ (lo:Int) (n:Nat):It:=⟨fun i _=>i < n,fun i H x H'=>H'=H/\x=.int (lo+i),fun i _=>n<=i⟩
theorem vx {P:Program}{w:World}{K:Fg06}{tg:Expr}(a it:Addr):Turn P w K tg (Bx K a) [it] it (fun i h=>h.IsListIter it a i) where
 mem:=by simp
 obj:=fun i h st b hb=>by
  have e:b=it:=by simpa using hb
  subst e;obtain⟨o,e,c,d⟩:=st;exact⟨o,e,fun v z=>by rw[d] at z;cases z⟩
 keep:=fun i h h' st k=>st.at fun o e=>k it (by simp) o e
 item:=by
  intro X hP hw hK hc i UL s σ H E I hf st hg;subst hP hw hK;obtain⟨xs,x,hq,hx⟩:=hg;obtain⟨UN,rv,p,hz⟩:=I.list hq;obtain⟨u,hu,ru⟩:=rv.get hx;obtain⟨f0,f1,f2,f3,f4,f5⟩:=hf it (by simp);refine wpAny_pyNext_list_item st p.isList (x:=u) (by simpa using hu) fun h' Mg sb=>?_;have I1:Inv X UL σ H { s with heap:=h' }:=I.turned (t':=s.toks) (fun b o hb e=>(sb.2 b hb).trans e) f0 f1 f3 f4 f5;obtain⟨o,e,c,d⟩:=id Mg;exact⟨u,rfl,yY (s:={ s with heap:=h' }) e c d (by decide) ⟨x,H,I1,ru,⟨rfl,fun ys hy=>by rw[I.kr hy hq];exact hx⟩,Mg,fun b hb=>(hf b hb).1⟩⟩
 done:=by
  intro X hP hw hK hc i UL s σ H E I hf st hg;subst hP hw hK;obtain⟨xs,hq,hx⟩:=hg;obtain⟨UN,rv,p,hz⟩:=I.list hq;obtain⟨f0,f1,f2,f3,f4,f5⟩:=hf it (by simp);have hl:=rv.length;exact wpAny_pyNext_list_end (I.ok.hd hc) st p.isList (by simp;omega) fun h' eb=>⟨rfl,I.turned (t':=s.toks) (fun b o hb e=>eb b o hb e) f0 f1 f3 f4 f5⟩
 self:=fun _ _ _ _ _ st h=>wpAny_pyIter_listiter st h
theorem sh {P:Program}{w:World}{K:Fg06}{tg:Expr}(a it:Addr):Turn P w K tg (Bw K a) [it] it (fun i h=>h.IsTupleIter it a i) where
 mem:=by simp
 obj:=fun i h st b hb=>by
  have e:b=it:=by simpa using hb
  subst e;obtain⟨o,e,c,d⟩:=st;exact⟨o,e,fun v z=>by rw[d] at z;cases z⟩
 keep:=fun i h h' st k=>st.at fun o e=>k it (by simp) o e
 item:=by
  intro X hP hw hK hc i UL s σ H E I hf st hg;subst hP hw hK;obtain⟨xs,x,hq,hx⟩:=hg;obtain⟨UN,rv,p,hz⟩:=I.tuple hq;obtain⟨u,hu,ru⟩:=rv.get hx;obtain⟨f0,f1,f2,f3,f4,f5⟩:=hf it (by simp);refine wpAny_pyNext_tuple_item st (show s.heap.IsTuple a UN.toArray from p) (x:=u) (by simpa using hu) fun h' Mg sb=>?_;have I1:Inv X UL σ H { s with heap:=h' }:=I.turned (t':=s.toks) (fun b o hb e=>(sb.2 b hb).trans e) f0 f1 f3 f4 f5;obtain⟨o,e,c,d⟩:=id Mg;exact⟨u,rfl,yY (s:={ s with heap:=h' }) e c d (by decide) ⟨x,H,I1,ru,⟨rfl,fun ys hy=>by rw[I.oV hy hq];exact hx⟩,Mg,fun b hb=>(hf b hb).1⟩⟩
 done:=by
  intro X hP hw hK hc i UL s σ H E I hf st hg;subst hP hw hK;obtain⟨xs,hq,hx⟩:=hg;obtain⟨UN,rv,p,hz⟩:=I.tuple hq;obtain⟨f0,f1,f2,f3,f4,f5⟩:=hf it (by simp);have hl:=rv.length;exact wpAny_pyNext_tuple_end (I.ok.hd hc) st (show s.heap.IsTuple a UN.toArray from p) (by simp;omega) fun h' eb=>⟨rfl,I.turned (t':=s.toks) (fun b o hb e=>eb b o hb e) f0 f1 f3 f4 f5⟩
 self:=fun _ _ _ _ _ st h=>wpAny_pyIter_tupleiter st h
theorem si {P:Program}{w:World}{K:Fg06}{tg:Expr}(it:Addr) (lo:Int) (n:Nat):Turn P w K tg (zJ lo n) [it] it (fun i h=>IsRangeIter h it (lo+(i:Nat)*1) ((n:Int) - (i:Nat)) 1) where
 mem:=by simp
 obj:=fun i h st b hb=>by
  have e:b=it:=by simpa using hb
  subst e;exact⟨_,st,fun v z=>by
   have z':Data.fields _=Data.cell v:=z;cases z'⟩
 keep:=fun i h h' st k=>k it (by simp) _ st
 item:=by
  intro X hP hw hK hc i UL s σ H E I hf st hg;subst hP hw hK;obtain⟨f0,f1,f2,f3,f4,f5⟩:=hf it (by simp);have W:=Walks.range (prog:=X.prog) (w:=X.w) (I.ok.hd hc) it lo 1 n;refine W.item i s _ _ hg st fun v h' tk hv Mg kk=>?_;obtain⟨t,rfl⟩:=hv;have I1:Inv X UL σ H { s with heap:=h',toks:=tk }:=I.turned (fun b o hb e=>kk b o (by simpa using hb) e) f0 f1 f3 f4 f5;refine⟨_,rfl,yY (s:={ s with heap:=h',toks:=tk }) (n:="range_iterator") Mg rfl rfl (by decide) ⟨.int (lo+i),H,I1,⟨t,?_⟩,⟨rfl,rfl⟩,Mg,fun b hb=>(hf b hb).1⟩⟩;rw[Int.mul_one]
 done:=by
  intro X hP hw hK hc i UL s σ H E I hf st hg;subst hP hw hK;obtain⟨f0,f1,f2,f3,f4,f5⟩:=hf it (by simp);exact wpAny_pyNext_range_end (I.ok.hd hc) st (by have:n<=i:=hg;omega) fun h' eb=>⟨rfl,I.turned (t':=s.toks) (fun b o hb e=>eb b o hb e) f0 f1 f3 f4 f5⟩
 self:=fun _ _ _ _ _ st h=>wpAny_pyIter_rangeiter st h
end L2
namespace L2
open PySem PySem.Spec PyProof.Rows
section
variable {X:Cx}{tg:Expr}
def Bp (K:Fg06) (tl:TE):TI:=fun σ H R=>tl σ H fun x H1=>∃a,x=.ref a/\(∃xs,aS K H1 a xs)/\R (Bx K a) H1
def F9 (K:Fg06) (tl:TE):TI:=fun σ H R=>tl σ H fun x H1=>∃a,x=.ref a/\(∃xs,gq K H1 a xs)/\R (Bw K a) H1
theorem bL {l:Expr}{tl:TE}(hl:PE X l tl):PI X tg l (Bp X.K tl):=by
 intro UL s σ H R I h;refine da (hl UL s σ H _ I h) fun v s1 ⟨x,H1,I1,r1,q1⟩=>?_;obtain⟨a,e,⟨xs,hq⟩,q⟩:=q1;subst e;cases r1;obtain⟨UN,rv,p,hz⟩:=I1.list hq;refine wpAny_pyIter_list p.isList ?_;refine⟨s1.heap.objs.size,[s1.heap.objs.size],_,_,H1,rfl,I1.kept (t':=s1.toks) fun b o e=>IM _ e,vx a _,⟨_,Jn _ rfl,rfl,rfl⟩,fun b hb=>?_,q⟩;have e:b=s1.heap.objs.size:=by simpa using hb
 subst e;exact I1.wu (IE _) (I1.cA.fresh (IE _))
theorem eI {l:Expr}{tl:TE}(hl:PE X l tl):PI X tg l (F9 X.K tl):=by
 intro UL s σ H R I h;refine da (hl UL s σ H _ I h) fun v s1 ⟨x,H1,I1,r1,q1⟩=>?_;obtain⟨a,e,⟨xs,hq⟩,q⟩:=q1;subst e;cases r1;obtain⟨UN,rv,p,hz⟩:=I1.tuple hq;refine wpAny_pyIter_tuple (show s1.heap.IsTuple a UN.toArray from p) ?_;refine⟨s1.heap.objs.size,[s1.heap.objs.size],_,_,H1,rfl,I1.kept (t':=s1.toks) fun b o e=>IM _ e,sh a _,⟨_,Jn _ rfl,rfl,rfl⟩,fun b hb=>?_,q⟩;have e:b=s1.heap.objs.size:=by simpa using hb
 subst e;exact I1.wu (IE _) (I1.cA.fresh (IE _))
theorem xY {UL:List (Addr×Obj)}{σ:St}{H:Hp}{s:Shared}{R:It->Hp->Prop}{E:Value->Shared->Prop}{lo hi:Int}{t u v:Tok}{tk:Nat}(I:Inv X UL σ H s) (h1:-(2 ^ 62)<=lo) (h2:lo < 2 ^ 62) (h3:-(2 ^ 62)<=hi) (h4:hi < 2 ^ 62)
  (q:R (zJ lo (hi - lo).toNat) H):wpAny (model X.prog X.w) X.A (pyIter (.ref s.heap.objs.size)) (PIE X UL σ tg R) E { s with heap:=s.heap.push { cls:=.type "range",data:=.fields #[.int lo t,.int hi u,.int 1 v] },toks:=tk }:=by
 refine wpAny_pyIter_range (IsRange.new ..) (small_one h1 h2 h3 h4) ?_;have I1:Inv X UL σ H { s with heap:=s.heap.push { cls:=.type "range",data:=.fields #[.int lo t,.int hi u,.int 1 v] },toks:=tk }:=I.kept fun b o e=>IM _ e;refine⟨(s.heap.push { cls:=.type "range",data:=.fields #[.int lo t,.int hi u,.int 1 v] }).objs.size,[(s.heap.push { cls:=.type "range",data:=.fields #[.int lo t,.int hi u,.int 1 v] }).objs.size],_,_,H,rfl,
  I1.kept (t':=tk) fun b o e=>IM _ e,si _ lo (hi - lo).toNat,?_,fun b hb=>?_,q⟩
 ·have e1:lo+((0:Nat):Int)*1=lo:=by simp
  have e2:(((hi - lo).toNat:Nat):Int) - ((0:Nat):Int)=Builtin.Range.rangeSize lo hi 1:=by rw[rangeSize_one];split<;>omega
  show IsRangeIter _ _ (lo+((0:Nat):Int)*1) ((((hi - lo).toNat:Nat):Int) - ((0:Nat):Int)) 1;rw[e1,e2];exact Jn _ rfl
 ·have e:b=(s.heap.push { cls:=.type "range",data:=.fields #[.int lo t,.int hi u,.int 1 v] }).objs.size:=by simpa using hb
  subst e;exact I1.wu (IE _) (I1.cA.fresh (IE _))
def Bo (ta:TA):TI:=fun σ H R=>ta σ H fun vs H1=>∃j:Int,vs=[.int j]/\-(2 ^ 62)<=j/\j < 2 ^ 62/\R (zJ 0 j.toNat) H1
theorem bQ {a:Expr}{ta:TA}{p pos:Pos}(hg:Gl X "range") (hm:X.mg "range"=none) (ha:PA X [a] ta) (hs:starEach [a] X.env=[(false,eval a X.env)]:=by rfl):PI X tg (.Call (.Name "range" p) [a] [] pos) (Bo ta):=by
 intro UL s σ H R I h;refine Call_ (lG I hg hm boot_range (PyProof.Rows.callWith_type1 (da (ha pos UL s σ H _ I h) fun us s1 ⟨vs,H1,I1,r1,q1⟩=>?_) hs rfl));obtain⟨j,e,q1,q2,q⟩:=q1;subst e;cases r1 with
 | cons r rr=>
  cases rr;obtain⟨t,rfl⟩:=r;exact call_range_1 (xY I1 (by omega) (by omega) q1 q2 (by simpa using q))
def EF (wi:TI) (g:TG) (tb:TS):TS:=fun D σ H=>wi σ H fun J H1=>∃W:Nat->Nat->St->Hp->Prop,(∃m,W 0 m σ H1)/\∀i m σ H,W i m σ H->
 (J.stop i H/\D.nx σ H)\/(J.go i H/\∃N:St->Hp->Prop,(∀σ' H',N σ' H'->∃m',m' < m/\W (i+1) m' σ' H')/\∀x H',J.rZ i H x H'->g x σ H' fun σ2 H2=>tb { D with nx:=N,ct:=N,bk:=D.nx } σ2 H2)
def kX (fp:List Addr) (h:Heap):List (Addr×Obj):=fp.filterMap fun b=>(h.get? b).map fun o=>(b,o)
theorem gw {fp:List Addr}{h:Heap}{b:Addr}{o:Obj}(hb:b∈fp) (e:h.get? b=some o):(b,o)∈kX fp h:=List.mem_filterMap.mpr ⟨b,hb,by rw[e];rfl⟩
theorem vO {fp:List Addr}{h:Heap}{p:Addr×Obj}(hp:p∈kX fp h):p.1∈fp/\h.get? p.1=some p.2:=by
 obtain⟨b,hb,e⟩:=List.mem_filterMap.mp hp;cases q:h.get? b with
 | none=>rw[q] at e;cases e
 | some o=>
  rw[q] at e;have e':(b,o)=p:=Option.some.inj e;subst e';exact⟨hb,q⟩
theorem Inv.pinned {UL:List (Addr×Obj)}{σ:St}{H:Hp}{s:Shared}{fp:List Addr}(I:Inv X UL σ H s) (hf:∀b∈fp,kJ X UL H b) (ho:∀b∈fp,∃o,s.heap.get? b=some o/\∀v,o.data≠.cell v):Inv X (UL++kX fp s.heap) σ H s:=
 I.uC fun p hp=>(I0.mp hp).elim (fun z=>I.pin p (IV _ z)) fun z=>by
  obtain⟨hb,e⟩:=vO z;obtain⟨f0,f1,f2,_⟩:=hf p.1 hb;obtain⟨o,e',d⟩:=ho p.1 hb;rw[e] at e';cases e';exact⟨e,f0,f1,f2,d⟩
theorem Inv.iI {UL pl:List (Addr×Obj)}{σ:St}{H:Hp}{s:Shared}(I:Inv X (UL++pl) σ H s):Inv X UL σ H s:=I.uC fun p hp=>I.pin p (IV _ (IU _ hp))
theorem cL {iter:Expr}{body:List Stmt}{wi:TI}{g:TG}{tb:TS}{pos:Pos}(hp:PassesOwn (model X.prog X.w) X.A X.env X.xe) (hc:X.calm=true) (hi:PI X tg iter wi) (hg:PG X tg g) (hb:se X body tb)
  (hs:∀x,foldedSetIterable iter X.env x=pure x:=by intro _;rfl):PS X (.For tg iter body [] pos) (EF wi g tb):=by
 intro UL s σ H D I h;refine wpAny_For (da (hi UL s σ H _ I h) fun v s1 h1=>da h1 fun itv s2 h2=>?_) hs;obtain⟨it,fp,tn,J,H2,e,I2,T,MT,f2,W,⟨m0,w0⟩,turn⟩:=h2;subst e;have stat:∀{H':Hp},(∀b∈fp,H' b=none)->∀b∈fp,kJ X UL H' b:=fun hn b hb=>⟨hn b hb,(f2 b hb).2⟩;refine codeAny_forLoop_any (fun n s'=>∃i σ' H',Inv X UL σ' H' s'/\tn i s'.heap/\(∀b∈fp,H' b=none)/\W i n σ' H') ?_ m0 ⟨0,σ,H2,I2,MT,fun b hb=>(f2 b hb).1,w0⟩;rintro n s3 ⟨i,σ3,H3,I3,Mf,Oj,w3⟩;rcases turn i n σ3 H3 w3 with ⟨stop,qn⟩ | ⟨go,N,hN,step⟩
 ·refine wpAny_passesOwn hp (da (T.done X rfl rfl rfl hc i UL s3 σ3 H3 X.xe I3 (stat Oj) Mf stop) fun r s4 ⟨hr,I4⟩=>?_);subst hr;exact wpAny_execs_nil ⟨σ3,H3,I4,qn⟩
 ·refine wpAny_passesOwn hp (da (T.item X rfl rfl rfl hc i UL s3 σ3 H3 X.xe I3 (stat Oj) Mf go) fun r s4 ⟨u,hr,h4⟩=>?_);subst hr;refine wpAny_passesOwn hp (da h4 fun _ s5 ⟨x,H5,I5,r5,y5,LN,NQ⟩=>?_);have I5':=I5.pinned (stat NQ) (T.obj _ _ LN);refine wpAny_passesOwn hp (da (hg _ s5 σ3 H5 x u _ I5' r5 (step x H5 y5)) fun _ s6 ⟨σ6,H6,I6,q6⟩=>?_);refine wpAny_passesOwn hp (da (hb _ s6 σ6 H6 _ I6 q6) fun f s7 q7=>?_);have again:∀{σ7:St}{H7:Hp},Inv X (UL++kX fp s5.heap) σ7 H7 s7->N σ7 H7->∃m,m < n/\∃i σ' H',Inv X UL σ' H' s7/\tn i s7.heap/\(∀b∈fp,H' b=none)/\W i m σ' H':=fun {σ7 H7} I7 n7=>by
   obtain⟨m',hm,w7⟩:=hN σ7 H7 n7;refine⟨m',hm,i+1,σ7,H7,I7.iI,T.keep _ _ _ LN fun b hb o e=>(I7.pin (b,o) (IV _ (IV _ (gw hb e)))).1,fun b hb=>?_,w7⟩;obtain⟨o,e,d⟩:=T.obj _ _ LN b hb;exact(I7.pin (b,o) (IV _ (IV _ (gw hb e)))).2.1
  cases f with
  | next=>obtain⟨σ7,H7,I7,n7⟩:=q7;exact again I7 n7
  | cont=>obtain⟨σ7,H7,I7,n7⟩:=q7;exact again I7 n7
  | brk=>obtain⟨σ7,H7,I7,q7⟩:=q7;exact⟨σ7,H7,I7.iI,q7⟩
  | ret v=>obtain⟨x7,σ7,H7,I7,r7,q7⟩:=q7;exact⟨x7,σ7,H7,I7.iI,r7,q7⟩
end
theorem hZ {K:Fg06}{a:Addr}{xs:List V}{g:TG}{tb:TS}{D:U4}{σ:St}{H:Hp}(Pv:Nat->St->Hp->Prop) (h0:Pv 0 σ H) (hl:∀i σ H,i<=xs.length->Pv i σ H->aS K H a xs)
  (hs:∀i x σ H,xs[i]?=some x->Pv i σ H->g x σ H fun σ2 H2=>tb { D with nx:=Pv (i+1),ct:=Pv (i+1),bk:=D.nx } σ2 H2) (hd:∀σ H,Pv xs.length σ H->D.nx σ H):
  ∃W:Nat->Nat->St->Hp->Prop,(∃m,W 0 m σ H)/\∀i m σ H,W i m σ H->
   ((Bx K a).stop i H/\D.nx σ H)\/((Bx K a).go i H/\∃N:St->Hp->Prop,(∀σ' H',N σ' H'->∃m',m' < m/\W (i+1) m' σ' H')/\∀x H',(Bx K a).rZ i H x H'->g x σ H' fun σ2 H2=>tb { D with nx:=N,ct:=N,bk:=D.nx } σ2 H2):=by
 refine⟨fun i m σ H=>m=xs.length - i/\i<=xs.length/\Pv i σ H,⟨xs.length,by simp,Je _,h0⟩,?_⟩;rintro i m σ H ⟨rfl,hi,p⟩;have q:=hl i σ H hi p;by_cases Ju:i < xs.length
 ·refine .inr ⟨⟨xs,xs[i],q,by simp[Ju]⟩,Pv (i+1),fun σ' H' p'=>⟨xs.length - (i+1),by omega,rfl,Ju,p'⟩,fun x H' y=>?_⟩;obtain⟨e,y⟩:=y;subst e;exact hs i x σ _ (y xs q) p
 ·have e:i=xs.length:=by omega
  subst e;exact .inl ⟨⟨xs,q,IE _⟩,hd σ H p⟩
theorem qq {K:Fg06}{a:Addr}{xs:List V}{g:TG}{tb:TS}{D:U4}{σ:St}{H:Hp}(Pv:Nat->St->Hp->Prop) (h0:Pv 0 σ H) (hl:∀i σ H,i<=xs.length->Pv i σ H->gq K H a xs)
  (hs:∀i x σ H,xs[i]?=some x->Pv i σ H->g x σ H fun σ2 H2=>tb { D with nx:=Pv (i+1),ct:=Pv (i+1),bk:=D.nx } σ2 H2) (hd:∀σ H,Pv xs.length σ H->D.nx σ H):
  ∃W:Nat->Nat->St->Hp->Prop,(∃m,W 0 m σ H)/\∀i m σ H,W i m σ H->
   ((Bw K a).stop i H/\D.nx σ H)\/((Bw K a).go i H/\∃N:St->Hp->Prop,(∀σ' H',N σ' H'->∃m',m' < m/\W (i+1) m' σ' H')/\∀x H',(Bw K a).rZ i H x H'->g x σ H' fun σ2 H2=>tb { D with nx:=N,ct:=N,bk:=D.nx } σ2 H2):=by
 refine⟨fun i m σ H=>m=xs.length - i/\i<=xs.length/\Pv i σ H,⟨xs.length,by simp,Je _,h0⟩,?_⟩;rintro i m σ H ⟨rfl,hi,p⟩;have q:=hl i σ H hi p;by_cases Ju:i < xs.length
 ·refine .inr ⟨⟨xs,xs[i],q,by simp[Ju]⟩,Pv (i+1),fun σ' H' p'=>⟨xs.length - (i+1),by omega,rfl,Ju,p'⟩,fun x H' y=>?_⟩;obtain⟨e,y⟩:=y;subst e;exact hs i x σ _ (y xs q) p
 ·have e:i=xs.length:=by omega
  subst e;exact .inl ⟨⟨xs,q,IE _⟩,hd σ H p⟩
theorem ju {lo:Int}{n:Nat}{g:TG}{tb:TS}{D:U4}{σ:St}{H:Hp}(Pv:Nat->St->Hp->Prop) (h0:Pv 0 σ H)
  (hs:∀i σ H,i < n->Pv i σ H->g (.int (lo+i)) σ H fun σ2 H2=>tb { D with nx:=Pv (i+1),ct:=Pv (i+1),bk:=D.nx } σ2 H2) (hd:∀σ H,Pv n σ H->D.nx σ H):
  ∃W:Nat->Nat->St->Hp->Prop,(∃m,W 0 m σ H)/\∀i m σ H,W i m σ H->
   ((zJ lo n).stop i H/\D.nx σ H)\/((zJ lo n).go i H/\∃N:St->Hp->Prop,(∀σ' H',N σ' H'->∃m',m' < m/\W (i+1) m' σ' H')/\∀x H',(zJ lo n).rZ i H x H'->g x σ H' fun σ2 H2=>tb { D with nx:=N,ct:=N,bk:=D.nx } σ2 H2):=by
 refine⟨fun i m σ H=>m=n - i/\i<=n/\Pv i σ H,⟨n,by simp,Je _,h0⟩,?_⟩;rintro i m σ H ⟨rfl,hi,p⟩;by_cases Ju:i < n
 ·refine .inr ⟨Ju,Pv (i+1),fun σ' H' p'=>⟨n - (i+1),by omega,rfl,Ju,p'⟩,fun x H' y=>?_⟩;obtain⟨e,y⟩:=y;subst e y;exact hs i σ _ Ju p
 ·have e:i=n:=by omega
  subst e;exact .inl ⟨IE _,hd σ H p⟩
end L2
namespace L2
open PySem PySem.Spec PyProof.Rows
abbrev R2:=V->V->Hp->VK->Prop
def ie (X:Cx) (f:Value->Value->Sem Value) (r:R2):Prop:=
 ∀(UL:List (Addr×Obj)) (s:Shared) (σ:St) (H:Hp) (x y:V) (v u:Value) (Q:VK),Inv X UL σ H s->RelV x v->RelV y u->r x y H Q->
  wpAny (model X.prog X.w) X.A (f v u) (EP X UL σ Q) X.xe s
def GY (X:Cx) (f:Value->Sem Value) (r:V->Hp->VK->Prop):Prop:=
 ∀(UL:List (Addr×Obj)) (s:Shared) (σ:St) (H:Hp) (x:V) (v:Value) (Q:VK),Inv X UL σ H s->RelV x v->r x H Q->
  wpAny (model X.prog X.w) X.A (f v) (EP X UL σ Q) X.xe s
def gf (X:Cx) (f:Value) (r:List V->Hp->VK->Prop):Prop:=
 ∀(UL:List (Addr×Obj)) (s:Shared) (σ:St) (H:Hp) (xs:List V) (us:List Value) (Q:VK),Inv X UL σ H s->U2 xs us->r xs H Q->
  wpAny (model X.prog X.w) X.A (call f us) (EP X UL σ Q) X.xe s
def su (r:R2) (ta tb:TE):TE:=fun σ H Q=>ta σ H fun x H1=>tb σ H1 fun y H2=>r x y H2 Q
def tUn (r:V->Hp->VK->Prop) (ta:TE):TE:=fun σ H Q=>ta σ H fun x H1=>r x H1 Q
def rI (C:Int->Int->Prop) (g:Int->Int->V):R2:=fun x y H Q=>∃i j,x=.int i/\y=.int j/\C i j/\Q (g i j) H
def Eo (g:Int->Int->V):R2:=fun x y H Q=>∃i j,x=.int i/\y=.int j/\Q (g i j) H
def rU (g:Int->V):V->Hp->VK->Prop:=fun x H Q=>∃i,x=.int i/\Q (g i) H
section
variable {X:Cx}{a b c:Expr}{ta tb tc:TE}{pos:Pos}
theorem Ed (ha:PE X a ta) (hb:PE X b tb){UL:List (Addr×Obj)}{s:Shared}{σ:St}{H:Hp}{R:V->V->Hp->Prop}(I:Inv X UL σ H s)
  (h:ta σ H fun x H1=>tb σ H1 fun y H2=>R x y H2){Q:Value->Shared->Prop}{f:Value->Value->Sem Value}
  (hf:∀v u s2 x y H2,Inv X UL σ H2 s2->RelV x v->RelV y u->R x y H2->wpAny (model X.prog X.w) X.A (f v u) Q X.xe s2):
  wpAny (model X.prog X.w) X.A (eval a X.env) (fun v s₁=>wpAny (model X.prog X.w) X.A (eval b X.env) (fun u s₂=>wpAny (model X.prog X.w) X.A (f v u) Q X.xe s₂) X.xe s₁) X.xe s:=by
 refine da (ha UL s σ H _ I h) fun v s1 ⟨x,H1,I1,r1,q1⟩=>?_;refine da (hb UL s1 σ H1 _ I1 q1) fun u s2 ⟨y,H2,I2,r2,q2⟩=>?_;exact hf v u s2 x y H2 I2 r1 r2 q2
theorem aB {op:Operator}{r:R2}(ho:ie X (binaryOp op) r) (ha:PE X a ta) (hb:PE X b tb):PE X (.BinOp a op b pos) (su r ta tb):=by
 intro UL s σ H Q I h;exact wpAny_BinOp (Ed ha hb I h fun v u s2 x y H2 I2 rx ry q=>ho UL s2 σ H2 x y v u Q I2 rx ry q)
theorem iw {op:UnaryOp}{r:V->Hp->VK->Prop}(ho:GY X (unaryOp op) r) (ha:PE X a ta):PE X (.UnaryOp op a pos) (tUn r ta):=by
 intro UL s σ H Q I h;exact UnaryOp_ (da (ha UL s σ H _ I h) fun v s1 ⟨x,H1,I1,r1,q1⟩=>ho UL s1 σ H1 x v Q I1 r1 q1)
theorem GP {f:Value->Value->Sem Value}{C:Int->Int->Prop}{g:Int->Int->Int}
  (rule:∀(i j:Int) (t u:Tok) (s:Shared) (Q:Value->Shared->Prop) (E:Value->Shared->Prop),C i j->Q (.int (g i j) s.toks) { s with toks:=s.toks+1 }->wpAny (model X.prog X.w) X.A (f (.int i t) (.int j u)) Q E s):
  ie X f (rI C fun i j=>.int (g i j)):=by
 intro UL s σ H x y v u Q I rx ry h;obtain⟨i,j,rfl,rfl,hc,q⟩:=h;obtain⟨t,rfl⟩:=rx;obtain⟨t',rfl⟩:=ry;exact rule i j t t' s _ _ hc ⟨.int (g i j),H,I.tok _,⟨_,rfl⟩,q⟩
theorem Fy {f:Value->Value->Sem Value}{g:Int->Int->Int}
  (rule:∀(i j:Int) (t u:Tok) (s:Shared) (Q:Value->Shared->Prop) (E:Value->Shared->Prop),Q (.int (g i j) s.toks) { s with toks:=s.toks+1 }->wpAny (model X.prog X.w) X.A (f (.int i t) (.int j u)) Q E s):
  ie X f (Eo fun i j=>.int (g i j)):=by
 intro UL s σ H x y v u Q I rx ry h;obtain⟨i,j,rfl,rfl,q⟩:=h;obtain⟨t,rfl⟩:=rx;obtain⟨t',rfl⟩:=ry;exact rule i j t t' s _ _ ⟨.int (g i j),H,I.tok _,⟨_,rfl⟩,q⟩
theorem Fz {f:Value->Value->Sem Value}{g:Int->Int->Bool}
  (rule:∀(i j:Int) (t u:Tok) (s:Shared) (Q:Value->Shared->Prop) (E:Value->Shared->Prop),Q (.bool (g i j)) s->wpAny (model X.prog X.w) X.A (f (.int i t) (.int j u)) Q E s):
  ie X f (Eo fun i j=>.bl (g i j)):=by
 intro UL s σ H x y v u Q I rx ry h;obtain⟨i,j,rfl,rfl,q⟩:=h;obtain⟨t,rfl⟩:=rx;obtain⟨t',rfl⟩:=ry;exact rule i j t t' s _ _ ⟨.bl (g i j),H,I,rfl,q⟩
def Ip (i j:Int):Prop:=0 < j/\j < 1073741824
def Io (i j:Int):Prop:=0<=j/\j<=1000000/\i.natAbs < 2 ^ 64
def Ej (i j:Int):Prop:=(-(2 ^ 64) < i/\i < 2 ^ 64)\/(-(2 ^ 64) < j/\j < 2 ^ 64)
theorem Ej.ok {i j:Int}(h:Ej i j):IntMulOk i j:=by
 rcases h with ⟨h1,h2⟩ | ⟨h1,h2⟩
 ·exact .of_left (intBits_le_64 h1 h2)
 ·exact .of_right (intBits_le_64 h1 h2)
theorem fi:ie X (binaryOp .Add) (Eo fun i j=>.int (i+j)):=Fy fun _ _ _ _ _ _ _ q=>add_int q
theorem jS:ie X (binaryOp .Sub) (Eo fun i j=>.int (i - j)):=Fy fun _ _ _ _ _ _ _ q=>sub_int q
theorem jT:ie X (binaryOp .Mult) (rI Ej fun i j=>.int (i*j)):=GP fun _ _ _ _ _ _ _ hc q=>mul_int q hc.ok
theorem bF:ie X (binaryOp .FloorDiv) (rI Ip fun i j=>.int (i / j)):=GP fun i j _ _ _ _ _ hc q=>by
 have h1:(0:Int) < j:=hc.1;have h2:j < 1073741824:=hc.2;exact floordiv_int (by omega) (by rw[Int.fdiv_eq_ediv_of_nonneg i (by omega)];exact q) (.inl (PyProof.noPylong_small (by omega)))
theorem br:ie X (binaryOp .Mod) (rI (fun _ j=>0 < j) fun i j=>.int (i % j)):=GP fun i j _ _ _ _ _ hc q=>by
 have h1:(0:Int) < j:=hc;exact mod_int' (by omega) (by rw[Int.fmod_eq_emod_of_nonneg i (by omega)];exact q)
theorem CO:ie X (binaryOp .Pow) (rI Io fun i j=>.int (i ^ j.toNat)):=GP fun _ _ _ _ _ _ _ hc q=>pow_int_small hc.1 hc.2.1 hc.2.2 q
theorem unI {f:Value->Sem Value}{g:Int->Int}
  (rule:∀(i:Int) (t:Tok) (s:Shared) (Q:Value->Shared->Prop) (E:Value->Shared->Prop),Q (.int (g i) s.toks) { s with toks:=s.toks+1 }->wpAny (model X.prog X.w) X.A (f (.int i t)) Q E s):
  GY X f (rU fun i=>.int (g i)):=by
 intro UL s σ H x v Q I rx h;obtain⟨i,rfl,q⟩:=h;obtain⟨t,rfl⟩:=rx;exact rule i t s _ _ ⟨.int (g i),H,I.tok _,⟨_,rfl⟩,q⟩
theorem wW:GY X (unaryOp .USub) (rU fun i=>.int (-i)):=unI fun _ _ _ _ _ q=>neg_int q
def EN:V->V->Bool
 | .bb,.bb=>true | .bb,.int _=>true | .int _,.bb=>true | .bb,.bl _=>true | .bl _,.bb=>true | .bb,.str _=>true | .str _,.bb=>true
 | .int _,.int _=>true | .bl _,.bl _=>true | .str _,.str _=>true | .wM _,.wM _=>true
 | .int _,.str _=>true | .str _,.int _=>true | .bl _,.str _=>true | .str _,.bl _=>true
 | _,_=>false
def rEq:R2:=fun x y H Q=>EN x y=true/\Q (.bl (decide (x=y))) H
def rNe:R2:=fun x y H Q=>EN x y=true/\Q (.bl (!decide (x=y))) H
theorem u5 {i j:Int}:decide (V.int i=V.int j)=(i == j):=by
 rw[Bool.eq_iff_iff];simp
theorem zo {i j:Bool}:decide (V.bl i=V.bl j)=(i == j):=by
 rw[Bool.eq_iff_iff];simp
theorem uZ {i j:Str}:decide (V.str i=V.str j)=(i == j):=by
 rw[Bool.eq_iff_iff];simp
theorem u6 {i j:Array UInt8}:decide (V.wM i=V.wM j)=(i.toList == j.toList):=by
 rw[Bool.eq_iff_iff];cases i;cases j;simp
theorem bO {UL:List (Addr×Obj)}{σ:St}{H:Hp}{s:Shared}{Q:VK}{k k':Bool}(I:Inv X UL σ H s) (q:Q (.bl k) H) (e:k=k'):EP X UL σ Q (.bool k') s:=by
 subst e;exact⟨.bl k,H,I,rfl,q⟩
theorem cP:ie X (compareOp .Eq) rEq:=by
 intro UL s σ H x y v u Q I rx ry h;obtain⟨hs,q⟩:=h;cases x with
 | bb=>
  cases rx;cases y with
  | bb=>cases ry;exact PySem.EqNone.eq_none_none (bO I q (by simp))
  | bl j=>cases ry;exact PySem.EqNone.eq_none_bool (bO I q (by simp))
  | int j=>obtain⟨t',rfl⟩:=ry;exact PySem.EqNone.eq_none_int (bO I q (by simp))
  | str j=>obtain⟨t',rfl⟩:=ry;exact PySem.EqNone.eq_none_str (bO I q (by simp))
  | _=>exact Vi (show false=true from hs) IP
 | bl i=>
  cases rx;cases y with
  | bb=>cases ry;exact PySem.EqNone.eq_bool_none (bO I q (by simp))
  | bl j=>cases ry;exact eq_bool (bO I q zo)
  | str j=>obtain⟨t',rfl⟩:=ry;exact PySem.EqMixed.eq_bool_str (bO I q (by simp))
  | _=>exact Vi (show false=true from hs) IP
 | int i=>
  obtain⟨t,rfl⟩:=rx;cases y with
  | bb=>cases ry;exact PySem.EqNone.eq_int_none (bO I q (by simp))
  | int j=>obtain⟨t',rfl⟩:=ry;exact eq_int (bO I q u5)
  | str j=>obtain⟨t',rfl⟩:=ry;exact PySem.EqMixed.eq_int_str (bO I q (by simp))
  | _=>exact Vi (show false=true from hs) IP
 | str i=>
  obtain⟨t,rfl⟩:=rx;cases y with
  | bb=>cases ry;exact PySem.EqNone.eq_str_none (bO I q (by simp))
  | bl j=>cases ry;exact PySem.EqMixed.eq_str_bool (bO I q (by simp))
  | int j=>obtain⟨t',rfl⟩:=ry;exact PySem.EqMixed.eq_str_int (bO I q (by simp))
  | str j=>obtain⟨t',rfl⟩:=ry;exact eq_str (bO I q uZ)
  | _=>exact Vi (show false=true from hs) IP
 | wM i=>
  obtain⟨t,rfl⟩:=rx;cases y with
  | wM j=>obtain⟨t',rfl⟩:=ry;exact PySem.W.eq_bytes (bO I q u6)
  | _=>exact Vi (show false=true from hs) IP
 | _=>cases y<;>exact Vi (show false=true from hs) IP
theorem pe:ie X (compareOp .NotEq) rNe:=by
 intro UL s σ H x y v u Q I rx ry h;obtain⟨hs,q⟩:=h;cases x with
 | bb=>
  cases rx;cases y with
  | bb=>cases ry;exact PySem.EqNone.ne_none_none (bO I q (by simp))
  | bl j=>cases ry;exact PySem.EqNone.ne_none_bool (bO I q (by simp))
  | int j=>obtain⟨t',rfl⟩:=ry;exact PySem.EqNone.ne_none_int (bO I q (by simp))
  | str j=>obtain⟨t',rfl⟩:=ry;exact PySem.EqNone.ne_none_str (bO I q (by simp))
  | _=>exact Vi (show false=true from hs) IP
 | bl i=>
  cases rx;cases y with
  | bb=>cases ry;exact PySem.EqNone.ne_bool_none (bO I q (by simp))
  | bl j=>cases ry;exact ne_bool (bO I q (Vj not zo))
  | str j=>obtain⟨t',rfl⟩:=ry;exact PySem.EqMixed.ne_bool_str (bO I q (by simp))
  | _=>exact Vi (show false=true from hs) IP
 | int i=>
  obtain⟨t,rfl⟩:=rx;cases y with
  | bb=>cases ry;exact PySem.EqNone.ne_int_none (bO I q (by simp))
  | int j=>obtain⟨t',rfl⟩:=ry;exact ne_int (bO I q (Vj not u5))
  | str j=>obtain⟨t',rfl⟩:=ry;exact PySem.EqMixed.ne_int_str (bO I q (by simp))
  | _=>exact Vi (show false=true from hs) IP
 | str i=>
  obtain⟨t,rfl⟩:=rx;cases y with
  | bb=>cases ry;exact PySem.EqNone.ne_str_none (bO I q (by simp))
  | bl j=>cases ry;exact PySem.EqMixed.ne_str_bool (bO I q (by simp))
  | int j=>obtain⟨t',rfl⟩:=ry;exact PySem.EqMixed.ne_str_int (bO I q (by simp))
  | str j=>obtain⟨t',rfl⟩:=ry;exact ne_str (bO I q (Vj not uZ))
  | _=>exact Vi (show false=true from hs) IP
 | wM i=>
  obtain⟨t,rfl⟩:=rx;cases y with
  | wM j=>obtain⟨t',rfl⟩:=ry;exact PySem.W.ne_bytes (bO I q (Vj not u6))
  | _=>exact Vi (show false=true from hs) IP
 | _=>cases y<;>exact Vi (show false=true from hs) IP
theorem ph:ie X (compareOp .Lt) (Eo fun i j=>.bl (decide (i < j))):=Fz fun _ _ _ _ _ _ _ q=>lt_int q
theorem gm:ie X (compareOp .Gt) (Eo fun i j=>.bl (decide (j < i))):=Fz fun _ _ _ _ _ _ _ q=>gt_int q
theorem nF:ie X (compareOp .Is) (fun x y H Q=>y=.bb/\Q (.bl (decide (x=.bb))) H):=by
 intro UL s σ H x y v u Q I rx ry h;obtain⟨rfl,q⟩:=h;cases ry;refine is_none_gen (bO I q ?_);cases x<;>first
  | (cases rx;rfl)
  | (obtain⟨t,rfl⟩:=rx;rfl)
theorem Aj:ie X (compareOp .IsNot) (fun x y H Q=>y=.bb/\Q (.bl (!decide (x=.bb))) H):=by
 intro UL s σ H x y v u Q I rx ry h;obtain⟨rfl,q⟩:=h;cases ry;refine isnot_none_gen (bO I q ?_);cases x<;>first
  | (cases rx;rfl)
  | (obtain⟨t,rfl⟩:=rx;rfl)
theorem jX (b:Expr){op:CmpOp}(h:op≠.In:=by decide) (h2:op≠.NotIn:=by decide):behindInMarks op b=false:=by
 have e1:(op == CmpOp.In)=false:=by cases op<;>first | rfl | exact Vi rfl h
 have e2:(op == CmpOp.NotIn)=false:=by cases op<;>first | rfl | exact Vi rfl h2
 cases b<;>simp[behindInMarks,e1,e2]
theorem fu {op:CmpOp}{r:R2}(ho:ie X (compareOp op) r) (ha:PE X a ta) (hb:PE X b tb) (hm:behindInMarks op b=false):PE X (.Compare a [op] [b] pos) (su r ta tb):=by
 intro UL s σ H Q I h;exact wpAny_Compare1 (Ed ha hb I h fun v u s2 x y H2 I2 rx ry q=>ho UL s2 σ H2 x y v u Q I2 rx ry q) hm
def uf (t:TE):TT:=fun σ H Q=>t σ H fun x H'=>∃k,x=.bl k/\Q k H'
theorem cp {op:CmpOp}{r:R2}(ho:ie X (compareOp op) r) (ha:PE X a ta) (hb:PE X b tb) (hm:behindInMarks op b=false):PT X (.Compare a [op] [b] pos) (uf (su r ta tb)):=by
 intro UL s σ H Q I h;refine wpAny_isTrue_Compare1 (da (ha UL s σ H _ I h) fun v s1 ⟨x,H1,I1,r1,q1⟩=>da (hb UL s1 σ H1 _ I1 q1) fun u s2 ⟨y,H2,I2,r2,q2⟩=>
  da (ho UL s2 σ H2 x y v u _ I2 r1 r2 q2) fun c s3 ⟨z,H3,I3,r3,k,e,q3⟩=>?_) hm
 subst e;cases r3;exact wpAny_truthy_bool ⟨H3,I3,q3⟩
theorem nJ:(sizeLine:Nat) < 2 ^ 63:=by rw[sizeLine_eq];decide
theorem cY:ie X (binaryOp .Add) (fun x y H Q=>∃i j,x=.str i/\y=.str j/\i.length+j.length<=sizeLine/\Q (.str (i++j)) H):=by
 intro UL s σ H x y v u Q I rx ry h;obtain⟨i,j,rfl,rfl,hz,q⟩:=h;obtain⟨t,rfl⟩:=rx;obtain⟨t',rfl⟩:=ry;exact add_str (fun t' tk=>⟨.str (i++j),H,I.tok _,⟨_,rfl⟩,q⟩) hz
theorem vals1 {x:V}{us:List Value}(r:U2 [x] us):∃u,us=[u]/\RelV x u:=by
 cases r with
 | cons r1 r2=>cases r2;exact⟨_,rfl,r1⟩
theorem vals2 {x y:V}{us:List Value}(r:U2 [x,y] us):∃u w',us=[u,w']/\RelV x u/\RelV y w':=by
 cases r with
 | cons r1 r2=>
  cases r2 with
  | cons r3 r4=>cases r4;exact⟨_,_,rfl,r1,r3⟩
theorem wB (hc:X.calm=true):gf X (.builtin "max") (fun xs H Q=>∃i j,xs=[.int i,.int j]/\Q (.int (if j > i then j else i)) H):=by
 intro UL s σ H xs us Q I r h;obtain⟨i,j,rfl,q⟩:=h;obtain⟨u,w',rfl,⟨t,rfl⟩,⟨t',rfl⟩⟩:=vals2 r;refine max_two_ints (I.ok.hd hc) fun h' tk k=>⟨_,H,I.kept k,?_,q⟩;by_cases hj:j > i
 ·rw[II hj,II hj];exact⟨_,rfl⟩
 ·rw[IH hj,IH hj];exact⟨_,rfl⟩
theorem pM (hc:X.calm=true):gf X (.builtin "min") (fun xs H Q=>∃i j,xs=[.int i,.int j]/\Q (.int (if j < i then j else i)) H):=by
 intro UL s σ H xs us Q I r h;obtain⟨i,j,rfl,q⟩:=h;obtain⟨u,w',rfl,⟨t,rfl⟩,⟨t',rfl⟩⟩:=vals2 r;refine min_two_ints (I.ok.hd hc) fun h' tk k=>⟨_,H,I.kept k,?_,q⟩;by_cases hj:j < i
 ·rw[II hj,II hj];exact⟨_,rfl⟩
 ·rw[IH hj,IH hj];exact⟨_,rfl⟩
theorem qD:gf X (.type "str") (fun xs H Q=>∃i,xs=[.int i]/\i.natAbs.log2 < 1920/\Q (.str (toString i)) H):=by
 intro UL s σ H xs us Q I r h;obtain⟨i,rfl,hz,q⟩:=h;obtain⟨u,rfl,t,rfl⟩:=vals1 r;exact PySem.P.str_of_int hz ⟨.str _,H,I.tok _,⟨_,rfl⟩,q⟩
end
end L2
namespace L2
open PySem PySem.Spec PyProof.Rows
structure wD (h:Heap) (x dx C:Addr) (mA:Str->Option Value):Prop where
 obj:h.get? x=some (PySem.W.instObj C dx)
 ns:h.Ns1 dx mA
 ne:dx≠x
theorem vZ {h:Heap}{dx:Addr}{mA:Str->Option Value}(n:h.Ns1 dx mA):∃od,h.get? dx=some od/\∀name,PySem.W.lookIn name od=some (mA name):=by
 obtain⟨o,es,ep,ho,hd,hk,_,hm⟩:=n;refine⟨o,ho,fun name=>?_⟩;have e:=hm name;unfold nsFind findBy at e;rw[<-Array.find?_toList] at e;unfold PySem.W.lookIn;rw[hd];dsimp only;split
 ·rename_i y q;rw[q] at e;exact Vj some e
 ·rename_i q;rw[q] at e;have a:es.toList.any (·.refKey)=false:=by
   rw[List.any_eq_false];intro y hy;obtain⟨z,t,hkey⟩:=hk y (Array.mem_toList_iff.mp hy);simp[DictEntry.refKey,hkey]
  have a':¬es.toList.any (·.refKey)=true:=by rw[a];exact IP
  rw[IH a'];exact Vj some e
theorem wD.look {h:Heap}{x dx C:Addr}{mA:Str->Option Value}(I:wD h x dx C mA):∃od,PySem.W.InstAt h x (PySem.W.instObj C dx) C (some od)/\∀name,PySem.W.lookIn name od=some (mA name):=
 let ⟨od,ho,hl⟩:=vZ I.ns
 ⟨od,⟨I.obj,rfl,rfl,ho⟩,hl⟩
section
variable {prog:Program}{w:World}{A:Around}{E:Value->Shared->Prop}{s:Shared}{K:Fg06}{x dx C f:Addr}{mA:Str->Option Value}{name:Str}{v:Value}
theorem get_map {expr:Bool}{Q:Value->Shared->Prop}(X:K.In s.heap) (I:wD s.heap x dx C mA) (hg:PySem.W.plainGet K C name=true) (hh:PySem.W.hasDictIn K C=true)
  (ha:PySem.W.findIn K (.ref C) name=some none) (hv:mA name=some v) (Kh:PySem.W.handedIn v=true) (h:Q v { s with toks:=s.toks+1 }):
  wpAny (model prog w) A (getAttr (.ref x) name expr) Q E s:=by
 obtain⟨od,J,hl⟩:=I.look;exact PySem.W.get_value X J (PySem.W.plainGet_of hg).1 (PySem.W.findObj_own hh ha rfl (by rw[hl,hv])) Kh h
theorem zV {ns:List Str}{Q:Unit->Shared->Prop}(X:K.In s.heap) (I:wD s.heap x dx C mA)
  (hs:PySem.W.findIn K (.ref C) "__setattr__"=some (some (.builtin "object.__setattr__"))) (hp:PySem.W.plainOver K C=true) (ht:PySem.W.takerIn K C name=some none) (hh:PySem.W.hasDictIn K C=true)
  (hw:PySem.Within mA ns) (hsz:ns.length<=sizeLine)
  (h:∀h',wD h' x dx C (fun y=>if y=name then some v else mA y)->Heap.SameBut dx s.heap h'->Q () { s with heap:=h',toks:=s.toks+2 }):
  wpAny (model prog w) A (setAttr (.ref x) name v) Q E s:=by
 obtain⟨od,J,hl⟩:=I.look;refine PySem.W.set_plain X J hs (PySem.W.osa_open (s:={ s with toks:=s.toks+1 }) (r:=none) X J hp ht fun b=>?_);obtain⟨cd,hc,JS⟩:=PySem.W.any_some hh;have hx:s.heap.get? x=some ⟨.ref C,some dx,.plain,#[]⟩:=I.obj;refine IK (IL (IK (IK (wpAny_loadPart hx (IK (PySem.W.Looks.here (s:={ s with toks:=s.toks+1 }) (PySem.W.looks_clsIn X hc) ?_))))));rw[JS];refine IL (a:=some dx) (IK (IL (IK ?_)));refine wpAny_nsSet1 (s:={ s with toks:=s.toks+1 }) I.ns fun h' Qw Mo=>?_;obtain⟨oD,esD,epD,hoD,hdD,hcD⟩:=Qw.count (PySem.Within.cons name v hw);refine IK (wpAny_lookBehind hoD (by rw[hdD];exact pastItsLine_dict (ID hcD (by rw[IT];omega))) ?_);exact IL (h _ ⟨(Mo.2 _ (U8 I.ne)).trans I.obj,Qw,I.ne⟩ Mo)
theorem yJ {R:Result->Shared->Prop}{vs:List Value}{kw:List (Str×Value)}(X:K.In s.heap) (hm:PySem.W.makesIn K C=true)
  (hi:PySem.W.findIn K (.ref C) "__init__"=some (some (.ref f))) (hf:PySem.W.typeIn K (.ref f)=some (.type "function"))
  (h:codeAny (model prog w) (A.under (.builtin "type.__call__" ⟨.ref C::vs,kw⟩)) (.call (.ref f) ⟨.ref (s.heap.objs.size+1)::vs,kw⟩) (PySem.W.InitBack (s.heap.objs.size+1) R)
   { s with heap:=(s.heap.push PySem.W.emptyDict).push (PySem.W.instObj C s.heap.objs.size) }):
  codeAny (model prog w) A (.call (.ref C) ⟨vs,kw⟩) R s:=by
 obtain⟨hh,g,d,t,os⟩:=s;exact PySem.W.make_core (PySem.W.makes_of X hm) (PySem.W.looks_findIn X hi) (fun self=>PySem.W.bind_fn X self hf) (.inl rfl) h
end
def dm (f:Str) (v:V):List (Str×V)->List (Str×V)
 | []=>[(f,v)]
 | (g,x)::r=>if g=f then(g,v)::r else(g,x)::dm f v r
theorem lV (f g:Str) (v:V):∀fs:List (Str×V),(dm f v fs).lookup g=if g=f then some v else fs.lookup g
 | []=>by
  show List.lookup g [(f,v)]=_;by_cases h:g=f
  ·have hb:(g == f)=true:=beq_iff_eq.mpr h;simp only[List.lookup,hb,if_pos h]
  ·have hb:(g == f)=false:=beq_eq_false_iff_ne.mpr h;simp only[List.lookup,hb,if_neg h]
 | (k,x)::r=>by
  have ih:=lV f g v r;rw[show dm f v ((k,x)::r)=(if k=f then(k,v)::r else(k,x)::dm f v r) from rfl];by_cases hk:k=f
  ·rw[II hk];by_cases h:g=k
   ·have hb:(g == k)=true:=beq_iff_eq.mpr h;simp only[List.lookup,hb,if_pos (h.trans hk)]
   ·have hb:(g == k)=false:=beq_eq_false_iff_ne.mpr h;simp only[List.lookup,hb,if_neg (fun e:g=f=>h (e.trans hk.symm))]
  ·rw[IH hk];by_cases h:g=k
   ·have hb:(g == k)=true:=beq_iff_eq.mpr h;simp only[List.lookup,hb,if_neg (fun e:g=f=>hk (h.symm.trans e))]
   ·have hb:(g == k)=false:=beq_eq_false_iff_ne.mpr h;simp only[List.lookup,hb];exact ih
theorem lH (f:Str) (v:V):∀fs:List (Str×V),f∈(dm f v fs).map (·.1)/\∀g,g∈fs.map (·.1)->g∈(dm f v fs).map (·.1)
 | []=>⟨by simp[dm],fun g h=>by simp at h⟩
 | (k,x)::r=>by
  obtain⟨i1,i2⟩:=lH f v r;rw[show dm f v ((k,x)::r)=(if k=f then(k,v)::r else(k,x)::dm f v r) from rfl];by_cases hk:k=f
  ·rw[II hk];subst hk;exact⟨by simp,fun g h=>by simpa using h⟩
  ·rw[IH hk];refine⟨?_,fun g h=>?_⟩
   ·rw[Va];exact Iq _ i1
   ·rw[Va] at h ⊢;rcases Ji.mp h with e | e
    ·exact Ji.mpr (.inl e)
    ·exact Iq _ (i2 g e)
theorem lW (f:Str) (v:V):∀fs:List (Str×V),(dm f v fs).length<=fs.length+1
 | []=>by simp[dm]
 | (k,x)::r=>by
  have ih:=lW f v r;rw[show dm f v ((k,x)::r)=(if k=f then(k,v)::r else(k,x)::dm f v r) from rfl];by_cases hk:k=f
  ·rw[II hk,IT,IT];omega
  ·rw[IH hk,IT,IT];omega
theorem j4.some_of {v:V}{o:Option Value}(r:j4 (some v) o):∃u,o=some u/\RelV v u:=by
 cases o with
 | none=>exact(show False from r).elim
 | some u=>exact⟨u,rfl,r⟩
theorem wm {v:V}{u:Value}(r:RelV v u):PySem.W.handedIn u=true:=by
 cases v with
 | bb=>cases (show u=Value.none from r);rfl
 | bl b=>cases (show u=Value.bool b from r);rfl
 | int i=>obtain⟨t,e⟩:=(show ∃t,u=Value.int i t from r);cases e;rfl
 | str x=>obtain⟨t,e⟩:=(show ∃t,u=Value.str x t from r);cases e;rfl
 | wM b=>obtain⟨t,e⟩:=(show ∃t,u=Value.bytes b t from r);cases e;rfl
 | GW b=>obtain⟨t,e⟩:=(show ∃t,u=Value.float b t from r);cases e;rfl
 | ref a=>cases (show u=Value.ref a from r);rfl
 | ty n=>cases (show u=Value.type n from r);rfl
section
variable {P:Program}{w:World}{H H':Hp}{h h':Heap}{a C dx:Addr}{fs Js:List (Str×V)}
theorem qo (cA:j7 P w H h) (e:H a=some (.ins C dx fs)):∃mA,wD h a dx C mA/\(∀f,j4 (fs.lookup f) (mA f))/\PySem.Within mA (fs.map (·.1))/\fs.length<=1000/\H dx=some (.own a):=by
 obtain⟨d,z,ne,ob,mA,n,r,q⟩:=(show dY P w H h a (.ins C dx fs) from cA a _ e);exact⟨mA,⟨ob,n,ne⟩,r,q,z,d⟩
end
structure vq (K:Fg06) (C:Addr):Prop where
 pg:PySem.W.plainGet K C Str.empty=true
 hd:PySem.W.hasDictIn K C=true
 po:PySem.W.plainOver K C=true
 sa:PySem.W.findIn K (.ref C) "__setattr__"=some (some (.builtin "object.__setattr__"))
theorem vq.get {K:Fg06}{C:Addr}(c:vq K C) (f:Str):PySem.W.plainGet K C f=true:=c.pg
def NoAttr (K:Fg06) (C:Addr) (f:Str):Prop:=PySem.W.findIn K (.ref C) f=some none
theorem NoAttr.Ex {K:Fg06}{C:Addr}{f:Str}(n:NoAttr K C f):PySem.W.takerIn K C f=some none:=by
 unfold PySem.W.takerIn;rw[show PySem.W.findIn K (.ref C) f=some none from n];rfl
section
variable {X:Cx}{UL:List (Addr×Obj)}{σ:St}{H:Hp}{s:Shared}{a C dx:Addr}{fs:List (Str×V)}{f:Str}{v:V}{A:Around}{E:Value->Shared->Prop}
theorem tq {b:Bool}{Q:Value->Shared->Prop}(I:Inv X UL σ H s) (e:H a=some (.ins C dx fs)) (c:vq X.K C) (n:NoAttr X.K C f) (l:fs.lookup f=some v)
  (h:∀u s',Inv X UL σ H s'->RelV v u->Q u s'):wpAny (model X.prog X.w) A (getAttr (.ref a) f b) Q E s:=by
 obtain⟨mA,O,r,_,_,_⟩:=qo I.cA e;obtain⟨u,hu,ru⟩:=j4.some_of (v:=v) (o:=mA f) (by rw[<-l];exact r f);exact get_map I.sd O (c.get f) c.hd n hu (wm ru) (h u _ (I.tok _) ru)
theorem sF {y:V}{u:Value}{Q:Unit->Shared->Prop}(I:Inv X UL σ H s) (e:H a=some (.ins C dx fs)) (c:vq X.K C) (n:NoAttr X.K C f) (hl:fs.length < 1000) (ry:RelV y u)
  (h:∀s',Inv X UL σ (U1 H a (.ins C dx (dm f y fs))) s'->Q () s'):wpAny (model X.prog X.w) A (setAttr (.ref a) f u) Q E s:=by
 obtain⟨mA,O,r,wi,_,ho⟩:=qo I.cA e;have hz:(fs.map (·.1)).length<=sizeLine:=by rw[IC,sizeLine_eq];omega
 refine zV I.sd O c.sa c.po n.Ex c.hd wi hz fun h' O' sb=>h _ ?_;have hd:∃o,h'.get? dx=some o:=let ⟨o,_,_,e',_⟩:=O'.ns;⟨o,e'⟩;refine I.write (x:=a) (e:=dx) (by rw[e];exact True.intro) (.inr ho) (fun b q hb z=>(sb.2 b hb).trans z) hd ?_;refine⟨by rw[aD O.ne];exact ho,?_,O.ne,O'.obj,_,O'.ns,fun g=>?_,fun g hg=>?_⟩
 ·have:=lW f y fs;omega
 ·show j4 ((dm f y fs).lookup g) (if g=f then some u else mA g);rw[lV];by_cases q:g=f
  ·rw[II q,II q];exact ry
  ·rw[IH q,IH q];exact r g
 ·by_cases q:g=f
  ·rw[q];exact(lH f y fs).1
  ·refine(lH f y fs).2 g (wi g fun z=>hg ?_);show(if g=f then some u else mA g)=none;rw[IH q];exact z
theorem Inv.made (I:Inv X UL σ H s):Inv X UL σ (U1 (U1 H s.heap.objs.size (.own (s.heap.objs.size+1))) (s.heap.objs.size+1) (.ins C s.heap.objs.size []))
  { s with heap:=(s.heap.push PySem.W.emptyDict).push (PySem.W.instObj C s.heap.objs.size) }:=by
 have e1:(s.heap.push PySem.W.emptyDict).get? s.heap.objs.size=some PySem.W.emptyDict:=Jn s.heap rfl;have e2:((s.heap.push PySem.W.emptyDict).push (PySem.W.instObj C s.heap.objs.size)).get? (s.heap.objs.size+1)=some (PySem.W.instObj C s.heap.objs.size):=by
  have:=Jn (s.heap.push PySem.W.emptyDict) (o:=PySem.W.instObj C s.heap.objs.size) rfl
  rwa [Heap.size_push] at this
 have e3:(s.heap.push PySem.W.emptyDict).Ns s.heap.objs.size (fun _=>none):=⟨PySem.W.emptyDict,#[],_,e1,rfl,(fun e he=>Vi he (by simp)),fun _=>rfl⟩;have I1:=I.laid (a:=s.heap.objs.size) (o:=.own (s.heap.objs.size+1)) (h':=s.heap.push PySem.W.emptyDict) (t':=s.toks) (fun b u q=>IM _ q) (IE _) ⟨_,e1⟩;refine I1.laid (a:=s.heap.objs.size+1) (o:=.ins C s.heap.objs.size []) (t':=s.toks) (fun b u q=>IM _ q) (Nat.le_of_eq (Heap.size_push _ _)) ?_;have ne:s.heap.objs.size≠s.heap.objs.size+1:=Jk (Jm _);refine⟨by rw[aD ne,ae],Je _,ne,e2,fun _=>none,(Heap.Ns1.of_empty e3).at fun o q=>IM _ q,fun _=>True.intro,fun y hy=>Vi rfl hy⟩
theorem AQ {prog:Program}{w:World}{env:Env}{e:Expr}{f:Str}{pos:Pos}{s:Shared}{Q:Value->Shared->Prop}(hb:attributeBase e f env (eval e env)=eval e env)
  (h:wpAny (model prog w) A (eval e env) (fun o s₁=>wpAny (model prog w) A (getAttr o f true) Q E s₁) E s):wpAny (model prog w) A (eval (.Attribute e f pos) env) Q E s:=
 Attribute_any_ h (by rw[arm_eval_Attribute,hb])
end
def BI (K:Fg06) (ta:TE) (f:Str):TE:=fun σ H Q=>ta σ H fun x H1=>∃a C dx fs v,x=.ref a/\H1 a=some (.ins C dx fs)/\vq K C/\NoAttr K C f/\fs.lookup f=some v/\Q v H1
def Ff (K:Fg06) (ta tv:TE) (f:Str):TS:=fun D σ H=>tv σ H fun y H1=>ta σ H1 fun x H2=>∃a C dx fs,x=.ref a/\H2 a=some (.ins C dx fs)/\vq K C/\NoAttr K C f/\fs.length < 1000/\
 D.nx σ (U1 H2 a (.ins C dx (dm f y fs)))
section
variable {X:Cx}{o e value:Expr}{f:Str}{pos pos' tpos:Pos}{ta tv:TE}
theorem bR (he:PE X e ta) (hb:attributeBase e f X.env (eval e X.env)=eval e X.env):PE X (.Attribute e f pos) (BI X.K ta f):=by
 intro UL s σ H Q I h;refine AQ hb (da (he UL s σ H _ I h) fun u s1 ⟨x,H1,I1,rx,a,C,dx,fs,v,ex,ea,c,n,l,q⟩=>?_);subst ex;obtain rfl:u=Value.ref a:=rx;exact tq I1 ea c n l fun u' s2 I2 ru=>⟨v,H1,I2,ru,q⟩
theorem cx (ha:PE X o ta) (hv:PE X value tv) (hs:swapsWith value (some (.Attribute o f pos')) pos.line X.env=pure false):PS X (.Assign [.Attribute o f pos'] value pos) (Ff X.K ta tv f):=by
 intro UL s σ H D I h;refine plainObj_wpAny_Assign_Attribute (da (hv UL s σ H _ I h) fun u s1 ⟨y,H1,I1,ry,q⟩=>da (ha UL s1 σ H1 _ I1 q) fun ov s2 ⟨x,H2,I2,rx,a,C,dx,fs,ex,ea,c,n,l,q2⟩=>?_) hs;subst ex;obtain rfl:ov=Value.ref a:=rx;exact sF I2 ea c n l ry fun s3 I3=>⟨σ,_,I3,q2⟩
end
section
variable {X:Cx}{UL:List (Addr×Obj)}{σ:St}{H:Hp}{s:Shared}{A:Around}{E:Value->Shared->Prop}{Q:Value->Shared->Prop}{c:Value}{b:Bool}
end
end L2
namespace L2
open PySem PySem.Spec PyProof.Rows
structure cZ (k:Nat) (A:Around):Prop where
 hd:A.handled=none
 dp:A.depth+3*k+5 < recursionLimit
 un:A.units+16*k+200 < cLine
 gd:A.guards=some []
theorem cZ.mono {j k:Nat}{A:Around}(r:cZ k A) (h:j<=k):cZ j A:=⟨r.hd,by have:=r.dp;omega,by have:=r.un;omega,r.gd⟩
theorem cZ.deeper {k:Nat}{A:Around}(r:cZ (k+1) A) (env:Env):cZ k (A.deeper env):=
 ⟨r.hd,by have:=r.dp;show A.depth+1+3*k+5 < _;omega,by have:=r.un;show A.units+3+16*k+200 < _;omega,r.gd⟩
theorem sV {A:Around}{C:Addr}{us:List Value}{kw:List (Str×Value)}:(A.under (.builtin "type.__call__" ⟨.ref C::us,kw⟩)).depth=A.depth+1:=by
 first | rfl | simp[Around.under,Code.weight,Code.isCreation,Code.isGuard,Code.isCaller,Code.frames,Code.isFrame,guardIds]
theorem sU {A:Around}{C:Addr}{us:List Value}{kw:List (Str×Value)}:(A.under (.builtin "type.__call__" ⟨.ref C::us,kw⟩)).units=A.units+1:=by
 first | rfl | simp[Around.under,Code.cUnits,Code.frames,Code.isFrame]
theorem cZ.make {k:Nat}{A:Around}(r:cZ (k+1) A) (C:Addr) (us:List Value) (kw:List (Str×Value)):cZ k (A.under (.builtin "type.__call__" ⟨.ref C::us,kw⟩)):=
 ⟨r.hd,by have:=r.dp;rw[sV];omega,by have:=r.un;rw[sU];omega,r.gd⟩
theorem cZ.depth {k:Nat}{A:Around}(r:cZ k A):A.depth < recursionLimit:=by have:=r.dp;omega
theorem cZ.units {k:Nat}{A:Around}(r:cZ k A):A.units+64 < cLine:=by have:=r.un;omega
def oB:TA:=fun _ H Q=>Q [] H
def gP (ta:TE) (tr:TA):TA:=fun σ H Q=>ta σ H fun x H1=>tr σ H1 fun xs H2=>Q (x::xs) H2
section
variable {X:Cx}{e:Expr}{es:List Expr}{te:TE}{t:TA}{pos:Pos}
theorem bc:PA X [] oB:=fun _ _ _ _ H Q I h=>Calls.spliced_nil ⟨[],H,I,.nil,h⟩
theorem aI (ha:PE X e te) (hr:PA X es t) (hs:starEach (e::es) X.env=(false,eval e X.env)::starEach es X.env:=by rfl):PA X (e::es) (gP te t):=by
 intro pos UL s σ H Q I h;rw[hs];show wpAny _ _ (spliced ((false,eval e X.env)::backTo pos (starEach es X.env))) _ _ s;refine Calls.spliced_cons (da (ha UL s σ H _ I h) fun u s1 ⟨x,H1,I1,r1,q1⟩=>?_);exact da (hr pos UL s1 σ H1 _ I1 q1) fun us s2 ⟨xs,H2,I2,r2,q2⟩=>⟨x::xs,H2,I2,.cons r1 r2,q2⟩
def BG (t:TA):TE:=fun σ H Q=>t σ H fun xs H1=>xs.length<=sizeLine/\∀p,H1 p=none->Q (.ref p) (U1 H1 p (.tup xs))
def ED (t:TA):TE:=fun σ H Q=>t σ H fun xs H1=>xs.length<=sizeLine/\∀p,H1 p=none->Q (.ref p) (U1 H1 p (.lst xs))
theorem ba {x1}(h:PA X es t):PE X (.Tuple es x1 pos) (BG t):=by
 intro UL s σ H Q I hq;refine wpAny_Tuple_spliced (da (h pos UL s σ H _ I hq) fun us s1 ⟨xs,H1,I1,r,z,q⟩=>⟨by rw[<-r.length];exact z,?_⟩);have hf:H1 s1.heap.objs.size=none:=I1.cA.fresh (IE _);refine⟨.ref s1.heap.objs.size,U1 H1 s1.heap.objs.size (.tup xs),I1.laid (t':=s1.toks) (fun b u e=>IM _ e) (IE _) ?_,rfl,q _ hf⟩;exact⟨z,us,r,⟨_,Jn _ rfl,rfl,_,rfl⟩⟩
theorem aY (h:PA X es t):PE X (.List es pos) (ED t):=by
 intro UL s σ H Q I hq;refine wpAny_List_spliced (da (h pos UL s σ H _ I hq) fun us s1 ⟨xs,H1,I1,r,z,q⟩=>⟨by rw[<-r.length];exact z,?_⟩);have hf:H1 s1.heap.objs.size=none:=I1.cA.fresh (IE _);refine⟨.ref s1.heap.objs.size,U1 H1 s1.heap.objs.size (.lst xs),I1.laid (t':=s1.toks) (fun b u e=>IM _ e) (IE _) ?_,rfl,q _ hf⟩;exact⟨z,us,0,r,Jn _ rfl⟩
end
abbrev Sp:=List V->Hp->VK->XK->Prop
abbrev wO:=List Env->Hp->Shared->XK->Value->Shared->Prop
structure tX (P:Program) (w:World) (K:Fg06) (mg:Str->Option Value) (base:Heap) (A:Around) (outer:List Env) (s:Shared) (H:Hp):Prop where
 frames:A.frames=some outer
 mod:Mod K mg base
 bs:∀b o,base.get? b=some o->s.heap.get? b=some o/\H b=none
 AN:base.objs.size<=s.heap.objs.size
 mn:s.heap.FunFrames base outer
 DV:∀b∈y9 outer,H b=none
 cA:j7 P w H s.heap
 bare:AllBare s.gens
def CE (outer:List Env) (P:Program) (w:World) (H:Hp) (s:Shared) (Q:VK) (u:Value) (s':Shared):Prop:=
 ∃v H',s'.os=s.os/\AllBare s'.gens/\Un (y9 outer) [] H H' s.heap s'.heap/\j7 P w H' s'.heap/\RelV v u/\Q v H'
def CR (CX:wO) (outer:List Env) (P:Program) (w:World) (H:Hp) (s:Shared) (Q:VK) (E:XK) (r:Result) (s':Shared):Prop:=
 match r with
 | .ok (.ret u)=>CE outer P w H s Q u s'
 | .ok _=>False
 | .error e=>CX outer H s E e s'
structure bK (P:Program) (w:World) (K:Fg06) (mg:Str->Option Value) (base:Heap) (CX:wO) (k:Nat) (f:Addr) (fd:FuncData) (ps:List Str) (sp:Sp):Prop where
 len:∀vs H Q E,sp vs H Q E->vs.length=ps.length
 run:∀(A:Around) (outer:List Env) (s:Shared) (H:Hp) (args:Args) (us:List Value) (vs:List V) (Q:VK) (E:XK),cZ k A->tX P w K mg base A outer s H->BindsTo s fd args (ps.zip us)->U2 vs us->sp vs H Q E->
  codeAny (model P w) A (.call (.ref f) args) (CR CX outer P w H s Q E) s
theorem bK.mono {P:Program}{w:World}{K:Fg06}{mg:Str->Option Value}{base:Heap}{CX:wO}{j k:Nat}{f:Addr}{fd:FuncData}{ps:List Str}{sp:Sp}(F:bK P w K mg base CX j f fd ps sp) (h:j<=k):
  bK P w K mg base CX k f fd ps sp:=⟨F.len,fun A outer s H args us vs Q E hr=>F.run A outer s H args us vs Q E (hr.mono h)⟩
theorem tX.make {P:Program}{w:World}{K:Fg06}{mg:Str->Option Value}{base:Heap}{A:Around}{outer:List Env}{s:Shared}{H:Hp}(e:tX P w K mg base A outer s H) (C:Addr) (us:List Value) (kw:List (Str×Value)):
  tX P w K mg base (A.under (.builtin "type.__call__" ⟨.ref C::us,kw⟩)) outer s H:=⟨by first | exact e.frames | (simpa[Around.under,Code.envs,Code.isFrame,pushEnvs] using e.frames),e.mod,e.bs,e.AN,e.mn,e.DV,e.cA,e.bare⟩
section
variable {X:Cx}{UL:List (Addr×Obj)}{σ:St}{H:Hp}{s s':Shared}
theorem Inv.Gj (I:Inv X UL σ H s):tX X.prog X.w X.K X.mg X.base X.A X.stack s H:=
 ⟨I.ok.frames,I.ok.mod,I.bs,ID I.ok.AN I.sz,I.stack,I.um,I.cA,I.bare⟩
theorem Inv.after {Q:VK}{u:Value}(I:Inv X UL σ H s) (h:CE X.stack X.prog X.w H s Q u s'):EP X UL σ Q u s':=by
 obtain⟨v,H',os,bare,un,cA,r,q⟩:=h;obtain⟨hh,g,d,t,Jw⟩:=s';obtain rfl:Jw=s.os:=os;exact⟨v,H',I.call (h':=hh) (g':=g) (d':=d) (t':=t) (ch:=[]) un cA bare (fun b z=>Vi z (by simp)),r,q⟩
end
def mS (sp:Sp) (UY:List V) (E:XK) (t:TA):TE:=fun σ H Q=>t σ H fun vs H1=>sp (vs++UY) H1 Q E
def A3 (C:Addr) (sp:Sp) (UY:List V) (E:XK) (t:TA):TE:=fun σ H Q=>t σ H fun vs H1=>∀x dx,H1 x=none->H1 dx=none->dx≠x->
 sp (.ref x::(vs++UY)) (U1 (U1 H1 dx (.own x)) x (.ins C dx [])) (fun v H2=>v=.bb/\Q (.ref x) H2) E
def Binds (K:Fg06) (fd:FuncData) (ps:List Str) (ds:List Value):Prop:=
 ∀(s:Shared) (us:List Value),K.In s.heap->(us++ds).length=ps.length->BindsTo s fd ⟨us,[]⟩ (ps.zip (us++ds))
theorem Binds.all {K:Fg06}{fd:FuncData}{ps:List Str}(h:∀us:List Value,us.length=ps.length->bindArgs fd ⟨us,[]⟩=pure (ps.zip us)):Binds K fd ps []:=fun s us _ hl=>by
 rw[Jf] at hl ⊢;exact .of_eq (h us hl)
def Passes (CX:wO) (X:Cx) (E:XK):Prop:=∀(UL:List (Addr×Obj)) (σ:St) (H:Hp) (s:Shared) (e:Value) (s':Shared),Inv X UL σ H s->CX X.stack H s E e s'->X.xe e s'
section
variable {X:Cx}{CX:wO}{k:Nat}{f C:Addr}{fd:FuncData}{ps:List Str}{sp:Sp}{UY:List V}{ds:List Value}{E:XK}{x m:Str}{p pos UU:Pos}{e o:Expr}{es:List Expr}{ta:TE}{t:TA}
theorem xW {UL:List (Addr×Obj)}{σ:St}{H:Hp}{s:Shared}{Q:VK}{us:List Value}{vs:List V}(F:bK X.prog X.w X.K X.mg X.base CX k f fd ps sp) (hr:cZ k X.A) (hb:Binds X.K fd ps ds) (hd:U2 UY ds) (hx:Passes CX X E)
  (I:Inv X UL σ H s) (r:U2 vs us) (h:sp (vs++UY) H Q E):wpAny (model X.prog X.w) X.A (call (.ref f) us) (EP X UL σ Q) X.xe s:=by
 have r2:U2 (vs++UY) (us++ds):=r.append hd;have hl:(us++ds).length=ps.length:=by rw[<-r2.length];exact F.len _ _ _ _ h
 refine wpAny_call (codeAny_mono (F.run X.A X.stack s H ⟨us,[]⟩ (us++ds) (vs++UY) Q E hr I.Gj (hb s us I.sd hl) r2 h) fun r s' hq=>?_);cases r with
 | error e=>exact hx UL σ H s e s' I hq
 | ok fl=>
  cases fl with
  | ret u=>exact I.after hq
  | next=>exact False.elim hq
  | brk=>exact False.elim hq
  | cont=>exact False.elim hq
theorem Ab (F:bK X.prog X.w X.K X.mg X.base CX k f fd ps sp) (hr:cZ k X.A) (hg:Gl X x) (hm:X.mg x=some (.ref f)) (hk:PySem.W.keepIn X.K (.ref f)=true) (hb:Binds X.K fd ps ds) (hd:U2 UY ds) (hx:Passes CX X E)
  (ha:PA X (e::es) t) (JR:(x == ("__debug__":Str))=false:=by decide) (he:starEach (e::es) X.env=(false,eval e X.env)::starEach es X.env:=by rfl) (JC:(backTo pos (starEach es X.env)).any (·.1)=false:=by rfl):
  PE X (.Call (.Name x p) (e::es) [] pos) (mS sp UY E t):=by
 intro UL s σ H Q I h;refine wpAny_Call_Name_kw (mB I hg hm ?_ JR);refine PySem.W.callWith_K (h₀:=X.base) I.ok.mod.GR hk (da (ha pos UL s σ H _ I h) fun us s1 ⟨vs,H1,I1,r,q⟩=>⟨I1.sd,?_⟩) he JC;exact xW F hr hb hd hx I1 r q
theorem yf (F:bK X.prog X.w X.K X.mg X.base CX k f fd ps sp) (hr:cZ k X.A) (hg:Gl X x) (hm:X.mg x=some (.ref f)) (hk:PySem.W.keepIn X.K (.ref f)=true) (hb:Binds X.K fd ps ds) (hd:U2 UY ds) (hx:Passes CX X E)
  (JR:(x == ("__debug__":Str))=false:=by decide):PE X (.Call (.Name x p) [] [] pos) (mS sp UY E oB):=by
 intro UL s σ H Q I h;refine wpAny_Call_Name_kw (mB I hg hm ?_ JR);exact PySem.W.callWith_K0 I.sd hk (xW (us:=[]) F hr hb hd hx I .nil h)
structure Mk (K:Fg06) (C f:Addr):Prop where
 makes:PySem.W.makesIn K C=true
 init:PySem.W.findIn K (.ref C) "__init__"=some (some (.ref f))
 fn:PySem.W.isFn K (.ref f)=true
 kp:PySem.W.keepIn K (.ref C)=true
theorem xV {UL:List (Addr×Obj)}{σ:St}{H:Hp}{s:Shared}{Q:VK}{us:List Value}{vs:List V}(M:Mk X.K C f) (F:bK X.prog X.w X.K X.mg X.base CX k f fd ps sp) (hr:cZ (k+1) X.A) (hb:Binds X.K fd ps ds) (hd:U2 UY ds)
  (hx:Passes CX X E) (I:Inv X UL σ H s) (r:U2 vs us)
  (h:∀x dx,H x=none->H dx=none->dx≠x->sp (.ref x::(vs++UY)) (U1 (U1 H dx (.own x)) x (.ins C dx [])) (fun v H2=>v=.bb/\Q (.ref x) H2) E):
  wpAny (model X.prog X.w) X.A (call (.ref C) us) (EP X UL σ Q) X.xe s:=by
 have hq:=h (s.heap.objs.size+1) s.heap.objs.size (I.cA.fresh (Nat.le_succ _)) (I.cA.fresh (IE _)) (Jk (Jm _));have I2:=Inv.made (C:=C) I;have r2:U2 (V.ref (s.heap.objs.size+1)::(vs++UY)) (Value.ref (s.heap.objs.size+1)::(us++ds)):=.cons rfl (r.append hd);have hl:(Value.ref (s.heap.objs.size+1)::us++ds).length=ps.length:=by
  have e:=r2.length;rw[F.len _ _ _ _ hq] at e;exact e.symm
 refine wpAny_call (yJ (f:=f) I.sd M.makes M.init (beq_iff_eq.mp M.fn) (codeAny_mono (F.run _ X.stack _ _ ⟨Value.ref (s.heap.objs.size+1)::us,[]⟩ (Value.ref (s.heap.objs.size+1)::(us++ds)) _ _ E (hr.make C us [])
  (I2.Gj.make C us []) (hb _ (Value.ref (s.heap.objs.size+1)::us) I2.sd hl) r2 hq) fun r s' LZ=>?_))
 cases r with
 | error e=>exact hx UL σ _ _ e s' I2 LZ
 | ok fl=>
  cases fl with
  | ret u=>
   obtain⟨v,H',I3,rv,ev,q3⟩:=I2.after LZ;subst ev;exact⟨rv,⟨V.ref (s.heap.objs.size+1),H',I3,rfl,q3⟩⟩
  | next=>exact False.elim LZ
  | brk=>exact False.elim LZ
  | cont=>exact False.elim LZ
theorem z8 (M:Mk X.K C f) (F:bK X.prog X.w X.K X.mg X.base CX k f fd ps sp) (hr:cZ (k+1) X.A) (hg:Gl X x) (hm:X.mg x=some (.ref C)) (hb:Binds X.K fd ps ds) (hd:U2 UY ds) (hx:Passes CX X E)
  (ha:PA X (e::es) t) (JR:(x == ("__debug__":Str))=false:=by decide) (he:starEach (e::es) X.env=(false,eval e X.env)::starEach es X.env:=by rfl) (JC:(backTo pos (starEach es X.env)).any (·.1)=false:=by rfl):
  PE X (.Call (.Name x p) (e::es) [] pos) (A3 C sp UY E t):=by
 intro UL s σ H Q I h;refine wpAny_Call_Name_kw (mB I hg hm ?_ JR);refine PySem.W.callWith_K (h₀:=X.base) I.ok.mod.GR M.kp (da (ha pos UL s σ H _ I h) fun us s1 ⟨vs,H1,I1,r,q⟩=>⟨I1.sd,?_⟩) he JC;exact xV M F hr hb hd hx I1 r q
end
section
variable {X:Cx}{CX:wO}{k:Nat}{f C:Addr}{fd:FuncData}{ps ks:List Str}{sp:Sp}{E:XK}{x m:Str}{p pos UU yM:Pos}{e o:Expr}{es:List Expr}{kws:List Keyword}{te ta:TE}{t tk:TA}{nm:Option Str}
variable {g:List Value->List Value->List Value}{gV:List V->List V->List V}
end
structure aQ (N P:List Str) (sc:Scope):Prop where
 kind:sc.kind=.function
 co:sc.isCoroutine=false
 gen:sc.isGenerator=false
 nd:N.Nodup
 pre:N.take P.length=P
 par:∀x∈P,sc.names.lookup x=some .local\/sc.names.lookup x=some .cell
 Dz:∀y∈sc.names,y.2≠.free
theorem gp {N P:List Str}{c:Scope}(a:c.kind=.function:=by rfl) (b:c.isCoroutine=false:=by rfl) (d:c.isGenerator=false:=by rfl) (e:N.take P.length=P:=by rfl) (f:N.Nodup/\(∀x∈P,c.names.lookup x=some .local\/c.names.lookup x=some .cell)/\∀y∈c.names,y.2≠.free:=by decide +kernel):aQ N P c:=⟨a,b,d,f.1,e,f.2.1,f.2.2⟩
theorem pP {kindOf:Str->Option NameKind}{x:Str}:∀{binds:List (Str×Value)}{m:Str->Option Value},(∀v,(x,v)∉binds)->bindL kindOf binds m x=m x
 | [],_,_=>rfl
 | (n,v)::r,m,h=>by
  unfold bindL;rw[pP fun w hw=>h w (Iq _ hw)];split
  ·have:x≠n:=by rintro rfl;exact h v Ir
   simp[this]
  ·rfl
theorem pR {kindOf:Str->Option NameKind}{x:Str}:∀{binds:List (Str×Value)}{m:Str->Option Value},(∀v,(x,v)∉binds)->bindC kindOf binds m x=m x
 | [],_,_=>rfl
 | (n,v)::r,m,h=>by
  unfold bindC;rw[pR fun w hw=>h w (Iq _ hw)];split
  ·rfl
  ·have:x≠n:=by rintro rfl;exact h v Ir
   simp[this]
theorem pQ {kindOf:Str->Option NameKind}{x:Str}{v:Value}:∀{P:List Str}{vs:List Value}{i:Nat}{m:Str->Option Value},P.Nodup->P[i]?=some x->vs[i]?=some v->kindOf x=some .local->
  bindL kindOf (P.zip vs) m x=some v
 | [],_,_,_,_,h,_,_=>by simp at h
 | _::_,[],_,_,_,_,h,_=>by simp at h
 | p::P,w::vs,0,m,nd,h1,h2,hk=>by
  simp at h1 h2;subst h1;subst h2;show bindL kindOf ((p,w)::P.zip vs) m p=_;unfold bindL;rw[pP fun v hv=>(List.nodup_cons.mp nd).1 (List.of_mem_zip hv).1,II hk];simp
 | p::P,w::vs,i+1,m,nd,h1,h2,hk=>by
  show bindL kindOf ((p,w)::P.zip vs) m x=_;unfold bindL;exact pQ (i:=i) (List.nodup_cons.mp nd).2 (by simpa using h1) (by simpa using h2) hk
theorem pS {kindOf:Str->Option NameKind}{x:Str}{v:Value}:∀{P:List Str}{vs:List Value}{i:Nat}{m:Str->Option Value},P.Nodup->P[i]?=some x->vs[i]?=some v->kindOf x≠some .local->
  bindC kindOf (P.zip vs) m x=some v
 | [],_,_,_,_,h,_,_=>by simp at h
 | _::_,[],_,_,_,_,h,_=>by simp at h
 | p::P,w::vs,0,m,nd,h1,h2,hk=>by
  simp at h1 h2;subst h1;subst h2;show bindC kindOf ((p,w)::P.zip vs) m p=_;unfold bindC;rw[pR fun v hv=>(List.nodup_cons.mp nd).1 (List.of_mem_zip hv).1,IH hk];simp
 | p::P,w::vs,i+1,m,nd,h1,h2,hk=>by
  show bindC kindOf ((p,w)::P.zip vs) m x=_;unfold bindC;exact pS (i:=i) (List.nodup_cons.mp nd).2 (by simpa using h1) (by simpa using h2) hk
def start (N:List Str) (vs:List V):St:=vs.map some++List.replicate (N.length - vs.length) none
def rR (CX:wO) (P:Program) (w:World) (K:Fg06) (mg:Str->Option Value) (base:Heap) (N:List Str) (UP:Str) (scope:Scope) (f:Addr) (cd:Value) (A:Around) (outer:List Env) (s:Shared) (H:Hp) (E:XK):Cx where
 prog:=P
 w:=w
 K:=K
 mg:=mg
 base:=base
 A:=A.deeper (envOfC UP scope s.heap.objs.size f cd)
 N:=N
 s₀:=s
 H₀:=H
 env:=envOfC UP scope s.heap.objs.size f cd
 outer:=outer
 stack:=envOfC UP scope s.heap.objs.size f cd::outer
 ex:=[]
 calm:=true
 fn:=fun _=>true
 pn:=[]
 xe:=fun e s'=>wpAny (model P w) (A.deeper (envOfC UP scope s.heap.objs.size f cd)) (leaving (envOfC UP scope s.heap.objs.size f cd) e) (fun _ s''=>CX outer H s E e s'') (fun e' s''=>CX outer H s E e' s'') s'
theorem rV {sc:Scope}{n:Nat}{x:Str}(h:sc.names.lookup x=some .cell):∃c,(cellsFrom n sc.names []).lookup x=some c:=by
 have q:=PySem.W.cellsFrom_some sc.names n [] (.inl h);exact Option.isSome_iff_exists.mp q
theorem wg {CX:wO}{P:Program}{w:World}{K:Fg06}{mg:Str->Option Value}{base:Heap}{N ps:List Str}{UP:Str}{scope:Scope}{f:Addr}{cd:Value}{A:Around}{outer:List Env}{s s1:Shared}{H:Hp}{E:XK}{us:List Value}{vs:List V}
  (S:aQ N ps scope) (hd:A.handled=none) (e0:tX P w K mg base A outer s H) (hl:vs.length=ps.length) (r:U2 vs us)
  (x:InCallC s s.heap.objs.size (bindL (envOfC UP scope s.heap.objs.size f cd).kindOf (ps.zip us) fun _=>none) (cellsFrom (s.heap.objs.size+1) scope.names []) (bindC (envOfC UP scope s.heap.objs.size f cd).kindOf (ps.zip us) fun _=>none) s1):
  Inv (rR CX P w K mg base N UP scope f cd A outer s H E) [] (start N vs) H s1:=by
 have JC:ps.length<=N.length:=by have:=Vj List.length S.pre;rw[Vb] at this;omega
 obtain⟨h1,tk,rfl,hk⟩:=x.done;have noA:∀b:Addr,b∉(rR CX P w K mg base N UP scope f cd A outer s H E).ex:=fun b z=>Vi (show b∈([]:List Addr) from z) (by simp);refine⟨⟨e0.mod,S.kind,rfl,rfl,IE _,fun y z c h1 h2=>?_,fun y hy=>?_,fun y c _ h=>?_,fun _=>hd,Around.frames_deeper e0.frames,.inr ⟨rfl,rfl⟩,fun b z=>Vi z (noA b),e0.bs,e0.AN,fun b _ _=>noA b,fun b z=>Vi z (noA b),e0.mn,e0.DV⟩,
  rfl,e0.bare,Un.kept hk,⟨_,x.toInCall.ns,fun i y v h1 h2 h3=>?_⟩,fun y c h=>⟨_,x.cell y c h⟩,e0.cA.fresh (IE _),fun y c h=>?_,fun p hp=>Vi (show p∈([]:List (Addr×Obj)) from hp) (by simp),e0.cA.kept hk,?_⟩
 ·exact name_of_addr x.apart (IQ h1) (IQ h2)
 ·have hy:scope.names.lookup y=some .cell\/scope.names.lookup y=some .free:=hy;rcases hy with hy | hy
  ·exact rV hy
  ·exact Vi rfl (S.Dz _ (IQ hy))
 ·exact Nat.le_of_lt (x.above y c (IQ h))
 ·have hi:i < vs.length:=by
   unfold start at h2;by_cases hi:i < vs.length
   ·exact hi
   ·rw[IX (by simpa using hi)] at h2;rw[List.getElem?_replicate] at h2;split at h2<;>cases h2
  have ha:vs[i]?=some v:=by
   unfold start at h2;rw[Jo (by simpa using hi),IJ] at h2;cases e:vs[i]? with
   | none=>rw[e] at h2;cases h2
   | some a=>rw[e] at h2;cases h2;rfl
  obtain⟨u,hu,rv⟩:=r.get ha;have hp:ps[i]?=some y:=by
   rw[<-S.pre,List.getElem?_take_of_lt (by omega)];exact h1
  have ndP:ps.Nodup:=by rw[<-S.pre];exact S.nd.sublist (List.take_sublist _ _)
  refine⟨u,rv,?_⟩;rcases S.par y (IG hp) with k | k
  ·exact .inl ⟨k,pQ ndP hp hu k⟩
  ·obtain⟨c,e⟩:=rV (n:=s.heap.objs.size+1) k;refine .inr ⟨.inl k,c,e,?_⟩;have q:=x.cell y c e;rw[pS ndP hp hu (by show scope.names.lookup y≠_;rw[k];decide)] at q;exact q
 ·exact e0.cA.fresh (Nat.le_of_lt (x.above y c (IQ h)))
 ·unfold start;show _=N.length;rw[Iu,IC,List.length_replicate];omega
theorem Gi {CX:wO}{P:Program}{w:World}{K:Fg06}{mg:Str->Option Value}{base:Heap}{k:Nat}{f:Addr}{name UP:Str}{params:Arguments}{body:List Stmt}{scope:Scope}{dV kV doc pm UO ct oc:Value}{an od:Option Addr}
  {osl:Array (Option Value)}{N ps:List Str}{sp:Sp}(lk:K.lookup f=some ⟨oc,od,.func (PySem.W.fnOf name UP params body scope dV kV doc pm an UO ct),osl⟩) (K0:PySem.W.codeIn K UO UP=true) (S:aQ N ps scope)
  (len:∀vs H Q E,sp vs H Q E->vs.length=ps.length)
  (JX:∀(A:Around) (outer:List Env) (s:Shared) (H:Hp) (vs:List V) (Q:VK) (E:XK),cZ k (A.deeper (envOfC UP scope s.heap.objs.size f UO))->sp vs H Q E->
   ∃t,se (rR CX P w K mg base N UP scope f UO A outer s H E) body t/\t { nx:=fun _ H'=>Q .bb H',rt:=Q } (start N vs) H):
  bK P w K mg base CX (k+1) f (PySem.W.fnOf name UP params body scope dV kV doc pm an UO ct) ps sp:=by
 refine⟨len,fun A outer s H args us vs Q E hr e0 hb r Ki=>?_⟩;have hl:=len _ _ _ _ Ki;have KX:K.In s.heap:=e0.mod.GR.keeps fun b o e=>(e0.bs b o e).1;have lim:s.heap.NoLimit:=e0.mod.nolimit.keeps fun b o e=>(e0.bs b o e).1;have hkind:∀y∈ps.zip us,scope.names.lookup y.1=some .local\/(scope.names.lookup y.1=some .cell/\((cellsFrom (s.heap.objs.size+1) scope.names []).lookup y.1).isSome=true):=fun⟨n,v⟩ hy=>by
  rcases S.par n (List.of_mem_zip hy).1 with q | q
  ·exact .inl q
  ·exact .inr ⟨q,PySem.W.cellsFrom_some _ _ _ (.inl q)⟩
 refine codeAny_call_function hr.depth (KX _ _ lk) rfl S.co S.gen rfl (PySem.W.codeRec_of KX K0) (hb _ _ _ _ ?_);refine wpAny_newFunctionEnv_cells S.kind hkind fun env he s1 x=>?_;subst he;refine⟨lim.keeps x.toInCall.keep,codeAny_func ?_⟩;obtain⟨t,ht,hq⟩:=JX A outer s H vs Q E (hr.deeper _) Ki;have I:Inv (rR CX P w K mg base N UP scope f UO A outer s H E) [] (start N vs) H s1:=wg S hr.hd e0 hl r x;refine Jr (ht [] s1 (start N vs) H _ I hq) (fun fl s' hs=>?_) fun e s' hs=>hs;have fin:∀{σ':St}{H':Hp}{v:V}{u:Value},Inv (rR CX P w K mg base N UP scope f UO A outer s H E) [] σ' H' s'->RelV v u->Q v H'->CE outer P w H s Q u s':=
  fun {σ' H' v u} J rv q=>⟨v,H',J.os,J.bare,J.base,J.cA,rv,q⟩
 cases fl with
 | ret u=>
  obtain⟨v,σ',H',J,rv,q⟩:=hs;exact fin J rv q
 | next=>
  obtain⟨σ',H',J,q⟩:=hs;exact fin (v:=V.bb) (u:=Value.none) J rfl q
 | brk=>
  obtain⟨_,_,_,q⟩:=hs;exact False.elim q
 | cont=>
  obtain⟨_,_,_,q⟩:=hs;exact False.elim q
end L2
namespace L2
open PySem PySem.Spec PyProof.Rows
section
variable {X:Cx}{x:Str}{p pos:Pos}{e:Expr}{es:List Expr}{t:TA}{id T:String}{r:List V->Hp->VK->Prop}
def GL (r:List V->Hp->VK->Prop) (t:TA):TE:=fun σ H Q=>t σ H fun vs H1=>r vs H1 Q
theorem au (hc:gf X (.builtin id) r) (hg:Gl X x) (hm:X.mg x=none) (hv:bootBuiltins x=some (.builtin id)) (ha:PA X (e::es) t) (hn:x≠"__name__":=by decide) (JR:(x == ("__debug__":Str))=false:=by decide)
  (he:starEach (e::es) X.env=(false,eval e X.env)::starEach es X.env:=by rfl) (JC:(backTo pos (starEach es X.env)).any (·.1)=false:=by rfl):PE X (.Call (.Name x p) (e::es) [] pos) (GL r t):=by
 intro UL s σ H Q I h;refine wpAny_Call_Name_kw (lG I hg hm hv ?_ hn JR);exact PyProof.Rows.callWith_builtin1 (da (ha pos UL s σ H _ I h) fun us s1 ⟨vs,H1,I1,r1,q1⟩=>hc UL s1 σ H1 vs us Q I1 r1 q1) he JC
theorem bE (hc:gf X (.type T) r) (hg:Gl X x) (hm:X.mg x=none) (hv:bootBuiltins x=some (.type T)) (ha:PA X (e::es) t) (hn:x≠"__name__":=by decide) (JR:(x == ("__debug__":Str))=false:=by decide)
  (he:starEach (e::es) X.env=(false,eval e X.env)::starEach es X.env:=by rfl) (JC:(backTo pos (starEach es X.env)).any (·.1)=false:=by rfl):PE X (.Call (.Name x p) (e::es) [] pos) (GL r t):=by
 intro UL s σ H Q I h;refine wpAny_Call_Name_kw (lG I hg hm hv ?_ hn JR);exact PyProof.Rows.callWith_type1 (da (ha pos UL s σ H _ I h) fun us s1 ⟨vs,H1,I1,r1,q1⟩=>hc UL s1 σ H1 vs us Q I1 r1 q1) he JC
end
end L2
namespace HT
open PySem PyProof.Rows
section
open PySem.SeqAt
open PySem.AutoSeq1 (wpAny_loadPart')
open PySem.MeetsSeq PySem.MeetsSeq2 PySem.MeetsSeq3
end
section
variable {prog:Program}{w:World}{A:Around}{E:Value->Shared->Prop}{s:Shared}
theorem vh {t b:Addr}{vs ws:List Value}{Q:Value->Shared->Prop}(ht:IsTup s.heap t vs.toArray) (hb:IsTup s.heap b ws.toArray) (hv:vs≠[])
  (h1:ws=[]->Q (.ref t) s) (h2:ws≠[]->Q (.ref s.heap.objs.size) { s with heap:=s.heap.push { cls:=.type "tuple",data:=.seq (vs++ws).toArray } })
  (hsz:vs.length+ws.length<=sizeLine):wpAny (model prog w) A (binaryOp .Add (.ref t) (.ref b)) Q E s:=by
 obtain⟨⟨cls,dd,data,sl⟩,ho,hc,n,hd⟩:=id ht;obtain⟨⟨cls2,QL,data2,Qh⟩,Nk,ND,n2,hd2⟩:=id hb;simp only at hc hd ND hd2;subst hc hd ND hd2;have e:vs.toArray++ws.toArray=(vs++ws).toArray:=by simp
 by_cases hw:ws=[]
 ·exact concat_meets ⟨_,ho,rfl⟩ ⟨_,Nk,rfl⟩ noFill_tuple_add seq_tuple_add PySem.F.slot_tuple_add PySem.F.entry_tuple_add (PySem.F.args_tuple_add_2 _ _)
   (tuple_addW1 t b vs.toArray ws.toArray n n2 dd QL sl Qh (by simpa using hv) (by simp[hw])) ⟨ho,Nk,h1 hw⟩
 ·refine concat_meets ⟨_,ho,rfl⟩ ⟨_,Nk,rfl⟩ noFill_tuple_add seq_tuple_add PySem.F.slot_tuple_add PySem.F.entry_tuple_add (PySem.F.args_tuple_add_2 _ _)
   (tuple_addW2 t b vs.toArray ws.toArray n n2 dd QL sl Qh (by simpa using hv) (by simpa using hw) (by rw[U9,U9];exact hsz)) ⟨ho,Nk,?_⟩
  rw[e];exact h2 hw
def fF (n d:Nat):Option Int->Nat
 | none=>d
 | some v=>if v < 0 then(v+(n:Int)).toNat else min v.toNat n
theorem iQ (n d:Nat):fF n d none=d:=rfl
theorem jl (n d k:Nat):fF n d (some (k:Int))=min k n:=by
 show(if(k:Int) < 0 then((k:Int)+(n:Int)).toNat else min (k:Int).toNat n)=min k n;rw[IH (by omega),Int.toNat_natCast]
theorem B0 (n d:Nat) (hd:d<=n) (o:Option Int):fF n d o<=n:=by
 cases o with
 | none=>exact hd
 | some v=>
  show(if v < 0 then(v+(n:Int)).toNat else min v.toNat n)<=n;by_cases hv:v < 0
  ·rw[II hv];omega
  ·rw[IH hv];exact Nat.min_le_right _ _
theorem u9 (v:Int) (n d:Nat):(if v < 0 then max (v+(n:Int)) 0 else min v (n:Int))=((fF n d (some v):Nat):Int):=by
 show(if v < 0 then max (v+(n:Int)) 0 else min v (n:Int))=(((if v < 0 then(v+(n:Int)).toNat else min v.toNat n):Nat):Int);by_cases hv:v < 0
 ·simp only[if_pos hv];omega
 ·simp only[if_neg hv];omega
theorem tT (lo hi:Option Int) (n:Nat):Builtin.Slice.sliceAdjust lo hi 1 (n:Int)=(((fF n 0 lo:Nat):Int),((fF n n hi:Nat):Int)):=by
 have h1:¬((1:Int) < 0):=by omega
 unfold Builtin.Slice.sliceAdjust;simp only[h1,if_false];refine Prod.ext ?_ ?_
 ·cases lo with
  | none=>rfl
  | some v=>exact u9 v n 0
 ·cases hi with
  | none=>rfl
  | some v=>exact u9 v n n
theorem sJ (i j:Nat):Builtin.Slice.slicePlaces (i:Int) (j:Int) 1=j - i:=by
 unfold Builtin.Slice.slicePlaces;have h1:(1:Int) > 0:=by omega
 simp only[h1,if_true,Int.ediv_one];split<;>omega
theorem m9 {v:Value}{o:Option Int}{Q:Option Int->Shared->Prop}(p:IsPart v o) (h:Q o s):wpAny (model prog w) A (Builtin.Slice.slicePartIndex v) Q E s:=by
 cases p with
 | none=>exact slicePart_none h
 | int i t=>exact slicePart_int h
theorem hC {sl:Addr}{vl vu:Value}{lo hi:Option Int}{n:Nat}{Q:Int×Int×Nat->Shared->Prop}(hs:s.heap.IsSliceOf sl vl vu .none) (pl:IsPart vl lo) (pu:IsPart vu hi)
  (h:Q (((fF n 0 lo:Nat):Int),1,fF n n hi - fF n 0 lo) s):wpAny (model prog w) A (Builtin.Slice.sliceApplied (.ref sl) (pure (n:Int))) Q E s:=by
 obtain⟨os,K4,Py,JH⟩:=id hs;unfold Builtin.Slice.sliceApplied Builtin.Slice.sliceFields;refine IK (IK (wpAny_field K4 JH (x:=vl) rfl (IK (wpAny_field K4 JH (x:=vu) rfl (IK (wpAny_field K4 JH (x:=.none) rfl (IL ?_)))))));refine IK (slicePart_none ?_);show wpAny _ _ (if((1:Int) == 0)=true then _ else _) _ _ s;rw[IH (by decide)];refine IK (m9 pl (IK (m9 pu (IK (IL ?_)))));show wpAny _ _ (match Builtin.Slice.sliceAdjust lo hi 1 (n:Int) with | (lo,hi)=>pure (lo,(1:Int),Builtin.Slice.slicePlaces lo hi 1)) _ _ s;rw[tT lo hi n];show wpAny _ _ (pure (((fF n 0 lo:Nat):Int),(1:Int),Builtin.Slice.slicePlaces ((fF n 0 lo:Nat):Int) ((fF n n hi:Nat):Int) 1)) _ _ s;rw[sJ];exact IL h
theorem x9 (xs:Array Value) (i k:Nat):((List.range k).filterMap fun(m:Nat)=>xs[((i:Int)+(m:Int)*1).toNat]?).toArray=((xs.toList.drop i).take k).toArray:=by
 have e:(fun(m:Nat)=>xs[((i:Int)+(m:Int)*1).toNat]?)=fun m=>xs[i+m]?:=by
  funext m;have:((i:Int)+(m:Int)*1).toNat=i+m:=by omega
  rw[this]
 rw[e];have:=pick_run xs i k;rw[List.filterMap_map] at this;have e2:((fun x=>xs[x]?)∘fun x=>i+x)=fun m=>xs[i+m]?:=rfl;rw[e2] at this;rw[this]
theorem kB {t sl:Addr}{items:Array Value}{vl vu:Value}{lo hi:Option Int}{Q:Value->Shared->Prop}(ht:IsTup s.heap t items) (hs:s.heap.IsSliceOf sl vl vu .none) (pl:IsPart vl lo) (pu:IsPart vu hi)
  (hw:¬(fF items.size 0 lo=0/\fF items.size items.size hi=items.size))
  (h:Q (.ref s.heap.objs.size) { s with heap:=s.heap.push { cls:=.type "tuple",data:=.seq ((items.toList.drop (fF items.size 0 lo)).take (fF items.size items.size hi - fF items.size 0 lo)).toArray } })
  (hsz:items.size<=sizeLine):wpAny (model prog w) A (getItem (.ref t) (.ref sl)) Q E s:=by
 have KW:sizeOk (.seq ((items.toList.drop (fF items.size 0 lo)).take (fF items.size items.size hi - fF items.size 0 lo)).toArray):=by
  show((items.toList.drop (fF items.size 0 lo)).take (fF items.size items.size hi - fF items.size 0 lo)).toArray.size<=sizeLine;rw[U9,Vb,List.length_drop,Array.length_toList];omega
 have hj:fF items.size items.size hi<=items.size:=B0 _ _ (IE _) hi;obtain⟨os,K4,Py,JH⟩:=id hs;have RP:s.TypeIs (.ref sl) "slice":=⟨os,K4,Py⟩;unfold getItem
 try with_reducible refine wpAny_holding ?_
 first | refine IK (IL ?_) | skip
 refine IK (wpAny_sequenceKey ht.typeIs (by decide) ?_);refine IK (wpAny_callSpecial?_slot (name:=Str.ofString "__getitem__") ht.typeIs PyProof.Rows.slot_tuple_getitem
  (wpAny_call_entry PyProof.Rows.slot_tuple_getitem ht.typeIs entry_tuple_getitem ?_ (args_tuple_getitem _ _)))
 show wpAny _ _ (Builtin.Tuple.tupleItemsOf (.ref t) >>= _) _ _ s;refine IK (tupleItemsOf_ ht ?_);refine IK (wpAny_typeOf RP ?_);rw[II (by decide)];refine IK (hC hs pl pu ?_);have RB:¬((((fF items.size 0 lo:Nat):Int) == 0&&(1:Int) == 1&&(fF items.size items.size hi - fF items.size 0 lo) == items.size)=true):=by
  intro q;rw[Vh,Vh] at q;have q1:((fF items.size 0 lo:Nat):Int)=0:=eq_of_beq q.1.1;have q2:fF items.size items.size hi - fF items.size 0 lo=items.size:=eq_of_beq q.2;exact hw ⟨by omega,by omega⟩
 show wpAny _ _ (if(((fF items.size 0 lo:Nat):Int) == 0&&(1:Int) == 1&&(fF items.size items.size hi - fF items.size 0 lo) == items.size)=true then _ else _) _ _ s;rw[IH RB,x9]
 first
  | exact IK (m:=Builtin.Tuple.tupleExact _) (wpAny_newObj_type (IL ⟨_,rfl,IL h⟩) KW)
  | exact IK (m:=Builtin.Tuple.tupleExact _) (wpAny_newObj_type (IK (IL (IL ⟨_,rfl,IL h⟩))) KW)
  | exact IK (IK (m:=Builtin.Tuple.tupleExact _) (wpAny_newObj_type (IL (IL ⟨_,rfl,IL h⟩)) KW))
  | exact IK (IK (m:=Builtin.Tuple.tupleExact _) (wpAny_newObj_type (IL ⟨_,rfl,IL h⟩) KW))
end
end HT
namespace L2
open PySem PySem.Spec PyProof.Rows
abbrev TO:=St->Hp->(Option Int->Hp->Prop)->Prop
def PO (X:Cx) (e:Option Expr) (t:TO):Prop:=
 ∀(UL:List (Addr×Obj)) (s:Shared) (σ:St) (H:Hp) (Q:Option Int->Hp->Prop),Inv X UL σ H s->t σ H Q->
  wpAny (model X.prog X.w) X.A (evalPart e X.env) (fun u s'=>∃o H',Inv X UL σ H' s'/\IsPart u o/\Q o H') X.xe s
def ug:TO:=fun _ H Q=>Q none H
def A0 (t:TE):TO:=fun σ H Q=>t σ H fun x H1=>∃i,x=.int i/\Q (some i) H1
section
variable {X:Cx}{e:Expr}{te:TE}{lo hi:Option Expr}{tl th:TO}{pos p2:Pos}
theorem bD:PO X none ug:=by
 intro UL s σ H Q I h;rw[evalPart_none];exact IL ⟨none,H,I,.none,h⟩
theorem bz (h:PE X e te):PO X (some e) (A0 te):=by
 intro UL s σ H Q I hw;rw[evalPart_some];refine da (h UL s σ H _ I hw) fun u s1 ⟨x,H1,I1,r1,q1⟩=>?_;obtain⟨i,rfl,q⟩:=q1;obtain⟨t,rfl⟩:=r1;exact⟨some i,H1,I1,.int i t,q⟩
def wN (X:Cx) (r:V->Option Int->Option Int->Hp->VK->Prop):Prop:=
 ∀(UL:List (Addr×Obj)) (s:Shared) (σ:St) (H:Hp) (x:V) (v vl vu:Value) (lo hi:Option Int) (sl:Addr) (Q:VK),Inv X UL σ H s->RelV x v->s.heap.IsSliceOf sl vl vu .none->IsPart vl lo->IsPart vu hi->r x lo hi H Q->
  ∃T id,typeLookup (.type T) "__getitem__"=pure (some (.builtin id))/\s.TypeIs v T/\wpAny (model X.prog X.w) X.A (getItem v (.ref sl)) (EP X UL σ Q) X.xe s
theorem wN.or {r r':V->Option Int->Option Int->Hp->VK->Prop}(h:wN X r) (h':wN X r'):wN X (fun x lo hi H Q=>r x lo hi H Q\/r' x lo hi H Q):=by
 intro UL s σ H x v vl vu lo hi sl Q I rx hs pl pu q;rcases q with q | q
 ·exact h UL s σ H x v vl vu lo hi sl Q I rx hs pl pu q
 ·exact h' UL s σ H x v vl vu lo hi sl Q I rx hs pl pu q
def tSl (r:V->Option Int->Option Int->Hp->VK->Prop) (te:TE) (tl th:TO):TE:=fun σ H Q=>te σ H fun x H1=>tl σ H1 fun l H2=>th σ H2 fun u H3=>r x l u H3 Q
theorem bg {r:V->Option Int->Option Int->Hp->VK->Prop}(hr:wN X r) (he:PE X e te) (hl:PO X lo tl) (hu:PO X hi th):PE X (.Subscript e (.Slice lo hi none p2) pos) (tSl r te tl th):=by
 intro UL s σ H Q I h;refine Subscript_ (da (he UL s σ H _ I h) fun v s1 ⟨x,H1,I1,r1,q1⟩=>?_);refine wpAny_Slice (da (hl UL s1 σ H1 _ I1 q1) fun vl s2 ⟨l,H2,I2,pl,q2⟩=>da (hu UL s2 σ H2 _ I2 q2) fun vu s3 ⟨u,H3,I3,pu,q3⟩=>?_);rw[evalPart_none];refine IL ?_;have I4:Inv X UL σ H3 { s3 with heap:=s3.heap.push { cls:=.type "slice",data:=.fields #[vl,vu,.none] } }:=I3.kept (t':=s3.toks) fun b ob q=>IM _ q;obtain⟨T,id,hT,ht,hg⟩:=hr UL { s3 with heap:=s3.heap.push { cls:=.type "slice",data:=.fields #[vl,vu,.none] } } σ H3 x v vl vu l u s3.heap.objs.size Q I4 r1 (Heap.IsSliceOf.new ..) pl pu q3;show wpAny (model X.prog X.w) X.A (subscriptTail e (.Slice lo hi none p2) v (.ref s3.heap.objs.size)) (EP X UL σ Q) X.xe { s3 with heap:=s3.heap.push { cls:=.type "slice",data:=.fields #[vl,vu,.none] } };exact tail_any (ops:=[.ref s3.heap.objs.size,v]) ht hT hg (by with_unfolding_all rfl)
def de (xs:List V) (lo hi:Option Int):List V:=(xs.drop (HT.fF xs.length 0 lo)).take (HT.fF xs.length xs.length hi - HT.fF xs.length 0 lo)
theorem md (xs:List V) (lo hi:Option Int):(de xs lo hi).length<=xs.length:=by
 unfold de;rw[Vb,List.length_drop];omega
def Hr (K:Fg06):V->Option Int->Option Int->Hp->VK->Prop:=fun x lo hi H Q=>∃a xs,x=.ref a/\gq K H a xs/\
 ¬(HT.fF xs.length 0 lo=0/\HT.fF xs.length xs.length hi=xs.length)/\∀p,H p=none->Q (.ref p) (U1 H p (.tup (de xs lo hi)))
theorem xO:wN X (Hr X.K):=by
 intro UL s σ H x v vl vu lo hi sl Q I rx hs pl pu h;obtain⟨a,xs,rfl,hx,hw,q⟩:=h;cases rx;obtain⟨UN,r,ht,hz⟩:=I.tuple hx;have UQ:UN.toArray.size=xs.length:=by rw[U9];exact r.length.symm
 refine⟨"tuple",_,PyProof.Rows.slot_tuple_getitem.lookup,ht.typeIs,?_⟩;refine HT.kB ht hs pl pu (by rw[UQ];exact hw) ?_ (by rw[UQ];exact hz);rw[UQ];refine⟨.ref s.heap.objs.size,_,I.laid (t':=s.toks) (o:=.tup (de xs lo hi)) (fun b ob q=>IM _ q) (IE _) ?_,rfl,q _ (I.cA.fresh (IE _))⟩;exact⟨ID (md xs lo hi) hz,_,(r.drop (HT.fF xs.length 0 lo)).take (HT.fF xs.length xs.length hi - HT.fF xs.length 0 lo),IsTup.new _ _⟩
theorem U2.uJ {xs:List V}{us:List Value}(r:U2 xs us):us=[]↔xs=[]:=by
 cases r with
 | nil=>simp
 | cons _ _=>simp
end
end L2
namespace L2
open PySem PySem.Spec PyProof.Rows
def sY (n:Nat) (i:Int):Option Nat:=if 0<=i then(if i < n then some i.toNat else none) else if -(n:Int)<=i then some (i+n).toNat else none
def jZ {α:Type}(xs:List α) (i:Int):Option α:=(sY xs.length i).bind fun j=>xs[j]?
theorem uN {n:Nat}{i:Int}{j:Nat}(h:sY n i=some j):seqIndex? i n=some j/\j < n/\-(n:Int)<=i/\i < n:=by
 unfold sY at h;by_cases h0:0<=i
 ·rw[II h0] at h;by_cases h1:i < n
  ·rw[II h1] at h;have e:i.toNat=j:=Option.some.inj h;exact⟨by rw[seqIndex_of h0 h1,e],by omega,by omega,h1⟩
  ·rw[IH h1] at h;cases h
 ·rw[IH h0] at h;by_cases h1:-(n:Int)<=i
  ·rw[II h1] at h;have e:(i+n).toNat=j:=Option.some.inj h;exact⟨by rw[seqIndex_neg (by omega) h1,e],by omega,h1,by omega⟩
  ·rw[IH h1] at h;cases h
theorem qG {α:Type}{xs:List α}{i:Int}{v:α}(h:jZ xs i=some v):∃j,seqIndex? i xs.length=some j/\xs[j]?=some v/\j < xs.length/\-(xs.length:Int)<=i/\i < xs.length:=by
 unfold jZ at h;cases e:sY xs.length i with
 | none=>rw[e] at h;cases h
 | some j=>
  rw[e] at h;obtain⟨h1,h2,h3,h4⟩:=uN e;exact⟨j,h1,h,h2,h3,h4⟩
theorem aw {α:Type}{xs:List α}{j:Nat}{v:α}(h:xs[j]?=some v):jZ xs (j:Int)=some v:=by
 have hj:j < xs.length:=(Ja.mp h).1;have e:sY xs.length (j:Int)=some j:=by
  unfold sY;rw[II (by omega),II (by omega)];simp
 unfold jZ;rw[e];exact h
def qH (b:Expr):Prop:=∀o i,subscripted b false o i=operate [o,i] (getItem o i)
def zF (X:Cx) (r:R2):Prop:=
 ∀(value slice:Expr) (UL:List (Addr×Obj)) (s:Shared) (σ:St) (H:Hp) (x y:V) (v u:Value) (Q:VK),Inv X UL σ H s->RelV x v->RelV y u->r x y H Q->
  subscripted slice false v u=operate [v,u] (getItem v u)->wpAny (model X.prog X.w) X.A (subscriptTail value slice v u) (EP X UL σ Q) X.xe s
def G0 (X:Cx) (id:String) (r:V->List V->Hp->VK->Prop):Prop:=
 ∀(UL:List (Addr×Obj)) (s:Shared) (σ:St) (H:Hp) (x:V) (xs:List V) (v:Value) (us:List Value) (Q:VK),Inv X UL σ H s->RelV x v->U2 xs us->r x xs H Q->
  wpAny (model X.prog X.w) X.A (call (.builtin id) (v::us)) (EP X UL σ Q) X.xe s
section
variable {X:Cx}{a b:Expr}{ta tb:TE}{pos:Pos}
theorem zF.or {r r':R2}(h:zF X r) (h':zF X r'):zF X (fun x y H Q=>r x y H Q\/r' x y H Q):=by
 intro value slice UL s σ H x y v u Q I rx ry q hs;rcases q with q | q
 ·exact h value slice UL s σ H x y v u Q I rx ry q hs
 ·exact h' value slice UL s σ H x y v u Q I rx ry q hs
theorem dz {r:R2}(hr:zF X r) (ha:PE X a ta) (hb:PE X b tb) (hs:qH b):PE X (.Subscript a b pos) (su r ta tb):=by
 intro UL s σ H Q I h;exact Subscript_ (Ed ha hb I h fun v u s2 x y H2 I2 rx ry q=>hr a b UL s2 σ H2 x y v u Q I2 rx ry q (hs _ _))
def km (K:Fg06):R2:=fun x y H Q=>∃p xs i v,x=.ref p/\y=.int i/\aS K H p xs/\jZ xs i=some v/\Q v H
def Fo (K:Fg06):R2:=fun x y H Q=>∃p xs i v,x=.ref p/\y=.int i/\gq K H p xs/\jZ xs i=some v/\Q v H
def zZ:R2:=fun x y H Q=>∃z i c,x=.str z/\y=.int i/\z.length<=sizeLine/\jZ z.cps.toList i=some c/\Q (.str ⟨#[c]⟩) H
theorem eZ:zF X (km X.K):=by
 intro value slice UL s σ H x y v u Q I rx ry h hs;obtain⟨p,xs,i,z,rfl,rfl,hq,he,q⟩:=h;cases rx;obtain⟨t,rfl⟩:=ry;obtain⟨UN,r,pl,hz⟩:=I.list hq;obtain⟨j,h1,h2,h3,h4,h5⟩:=qG he;obtain⟨w,ew,Jt⟩:=r.get h2;have hl:=r.length;have hn:=nJ;have fin:EP X UL σ Q w s:=⟨z,H,I,Jt,q⟩;by_cases h0:0<=i
 ·have hj:i.toNat=j:=by
   rw[seqIndex_of h0 h5] at h1;exact Option.some.inj h1
  exact item_listR pl.isList h0 (by omega) (by rw[hj];simpa using ew) fin hs
 ·have hj:(i+(UN.toArray.size:Int)).toNat=j:=by
   rw[seqIndex_neg (by omega) h4] at h1;rw[U9,<-hl];exact Option.some.inj h1
  exact subscriptTail_builtinR (x:=w) pl.isList.typeIs slot_list_getitem.lookup
   (wpAny_getItem_list_neg (Q:=fun r s'=>r=w/\EP X UL σ Q r s') pl.isList (by omega) (by rw[U9]<;>omega) (by omega) (by rw[hj];simpa using ew) ⟨rfl,fin⟩) hs
theorem yQ:zF X (Fo X.K):=by
 intro value slice UL s σ H x y v u Q I rx ry h hs;obtain⟨p,xs,i,z,rfl,rfl,hq,he,q⟩:=h;cases rx;obtain⟨t,rfl⟩:=ry;obtain⟨UN,r,pl,hz⟩:=I.tuple hq;obtain⟨j,h1,h2,h3,h4,h5⟩:=qG he;obtain⟨w,ew,Jt⟩:=r.get h2;have hl:=r.length;have hn:=nJ;have fin:EP X UL σ Q w s:=⟨z,H,I,Jt,q⟩;exact subscriptTail_builtinR (x:=w) pl.typeIs slot_tuple_getitem.lookup
  (getItem_tuple (j:=j) (Q:=fun r s'=>r=w/\EP X UL σ Q r s') pl (by omega) (by omega) (by rw[U9,<-hl];exact h1) (by simpa using ew) ⟨rfl,fin⟩) hs
theorem sW:zF X zZ:=by
 intro value slice UL s σ H x y v u Q I rx ry h hs;obtain⟨z,i,c,rfl,rfl,hz,he,q⟩:=h;obtain⟨t,rfl⟩:=rx;obtain⟨t',rfl⟩:=ry;obtain⟨j,h1,h2,h3,h4,h5⟩:=qG he;have hl:z.cps.toList.length=z.length:=by simp[Str.length]
 rw[hl] at h1 h4 h5;have hn:=nJ;exact tail_any (typeIs_str s z t) slot_str_getitem.lookup (getItem_str (c:=c) (by
  have e1:decide (i < -(2 ^ 63:Int))=false:=Iv (by omega);have e2:decide (i≥2 ^ 63)=false:=Iv (by omega);rw[e1,e2,Bool.or_false]) (by rw[h1];simpa using h2) ⟨.str ⟨#[c]⟩,H,I.tok _,⟨_,rfl⟩,q⟩) hs
def Fp (K:Fg06):R2:=fun x y H Q=>km K x y H Q\/Fo K x y H Q\/zZ x y H Q
theorem sX:zF X (Fp X.K):=eZ.or (yQ.or sW)
theorem sS (UN:List Value) (n j:Nat) (u:Value):Obj.mapSeq (·.setIfInBounds j u) { cls:=.type "list",data:=.seq UN.toArray n }={ cls:=.type "list",data:=.seq (UN.set j u).toArray n }:=by
 simp[Obj.mapSeq]
theorem Inv.lst {UL:List (Addr×Obj)}{σ:St}{H:Hp}{s:Shared}{p:Addr}{xs:List V}(I:Inv X UL σ H s) (h:H p=some (.lst xs)):
  ∃(UN:List Value) (n:Nat),U2 xs UN/\s.heap.get? p=some { cls:=.type "list",data:=.seq UN.toArray n }/\xs.length<=sizeLine:=by
 obtain⟨z,UN,n,r,e⟩:=I.cA p _ h;exact⟨UN,n,r,e,z⟩
theorem Inv.DJ {UL:List (Addr×Obj)}{σ:St}{H:Hp}{s:Shared}{p:Addr}{xs ys:List V}{UN its':List Value}{n n':Nat}{f:Obj->Obj}(I:Inv X UL σ H s) (h:H p=some (.lst xs))
  (ho:s.heap.get? p=some { cls:=.type "list",data:=.seq UN.toArray n }) (hf:f { cls:=.type "list",data:=.seq UN.toArray n }={ cls:=.type "list",data:=.seq its'.toArray n' }) (r:U2 ys its') (hz:ys.length<=sizeLine) (t:Nat):
  Inv X UL σ (U1 H p (.lst ys)) { s with heap:=s.heap.update p f,toks:=t }:=by
 have e:(s.heap.update p f).get? p=some { cls:=.type "list",data:=.seq its'.toArray n' }:=by
  rw[Heap.get?_update_self f ho (by rw[hf]<;>rfl),hf]
 refine I.write (x:=p) (e:=p) (by rw[h];trivial) (.inl rfl) (fun b u hb q=>(Heap.get?_update_other _ _ (U8 hb)).trans q) ⟨_,e⟩ ?_;exact⟨hz,its',n',r,e⟩
def Fm:V->V->V->Hp->(Hp->Prop)->Prop:=fun o i v H Q=>∃p xs k j,o=.ref p/\i=.int k/\H p=some (.lst xs)/\sY xs.length k=some j/\Q (U1 H p (.lst (xs.set j v)))
theorem set_list:Gz X Fm:=by
 intro UL s σ H o i v ov iv u Q I ro ri rv h;obtain⟨p,xs,k,j,rfl,rfl,hp,hj,q⟩:=h;cases ro;obtain⟨t,rfl⟩:=ri;obtain⟨UN,n,r,ho,hz⟩:=I.lst hp;obtain⟨h1,h2,h3,h4⟩:=uN hj;have hl:=r.length;have hn:=nJ;have I':Inv X UL σ (U1 H p (.lst (xs.set j v))) { s with heap:=s.heap.update p (Obj.mapSeq (·.setIfInBounds j u)) }:=
  I.DJ hp ho (sS UN n j u) (r.set rv j) (by rw[IY];exact hz) s.toks
 by_cases h0:0<=k
 ·have hk:k.toNat=j:=by
   rw[seqIndex_of h0 h4] at h1;exact Option.some.inj h1
  exact PySem.W.ki_setAt ho h0 (by omega) (by rw[U9,<-hl];exact h4) (by rw[hk];exact⟨_,I',q⟩)
 ·have hk:(k+(UN.toArray.size:Int)).toNat=j:=by
   rw[seqIndex_neg (by omega) h3] at h1;rw[U9,<-hl];exact Option.some.inj h1
  exact PySem.W.ki_setBack ho (by omega) (by rw[U9,<-hl];exact h3) (by omega) (by rw[hk];exact⟨_,I',q⟩)
theorem p0 (lo hi:Option Int) (n:Nat):(sliceBounds lo hi none n).1=((HT.fF n 0 lo:Nat):Int)/\(sliceBounds lo hi none n).2.1=((HT.fF n n hi:Nat):Int)/\(sliceBounds lo hi none n).2.2=1:=by
 refine⟨?_,?_,rfl⟩
 ·cases lo with
  | none=>simp[sliceBounds,HT.fF]
  | some i=>
   simp only[sliceBounds,HT.fF,Option.getD_none,show(1:Int) > 0 by decide,if_true];by_cases h:i < 0
   ·simp only[h,if_true]<;>omega
   ·simp only[h,if_false]<;>omega
 ·cases hi with
  | none=>simp[sliceBounds,HT.fF]
  | some i=>
   simp only[sliceBounds,HT.fF,Option.getD_none,show(1:Int) > 0 by decide,if_true];by_cases h:i < 0
   ·simp only[h,if_true]<;>omega
   ·simp only[h,if_false]<;>omega
theorem oC (UN:List Value) (lo hi:Option Int):slicePick UN.toArray lo hi none=((UN.drop (HT.fF UN.length 0 lo)).take (HT.fF UN.length UN.length hi - HT.fF UN.length 0 lo)).toArray:=by
 obtain⟨h1,h2,h3⟩:=p0 lo hi UN.toArray.size;unfold slicePick;rw[h1,h2,h3];simp only[sliceRange_one,pick_run,List.size_toArray]<;>rfl
def B9 (K:Fg06):V->Option Int->Option Int->Hp->VK->Prop:=fun x lo hi H Q=>∃a xs,x=.ref a/\aS K H a xs/\∀p,H p=none->Q (.ref p) (U1 H p (.lst (de xs lo hi)))
theorem eE:wN X (B9 X.K):=by
 intro UL s σ H x v vl vu lo hi sl Q I rx hs pl pu h;obtain⟨a,xs,rfl,hx,q⟩:=h;cases rx;obtain⟨UN,r,ht,hz⟩:=I.list hx;have UQ:=r.length;refine⟨"list",_,slot_list_getitem.lookup,ht.isList.typeIs,?_⟩;refine wpAny_getItem_list_slice ht.isList hs pl pu .none (by simp) ?_ (by rw[U9]<;>omega);rw[oC,<-UQ];refine⟨.ref s.heap.objs.size,_,I.laid (t':=s.toks) (o:=.lst (de xs lo hi)) (fun b ob q=>IM _ q) (IE _) ?_,rfl,q _ (I.cA.fresh (IE _))⟩;exact⟨ID (md xs lo hi) hz,_,0,(r.drop (HT.fF xs.length 0 lo)).take (HT.fF xs.length xs.length hi - HT.fF xs.length 0 lo),Jn _ rfl⟩
def i3:V->Bool
 | .bb=>true
 | .bl _=>true
 | .int _=>true
 | .str _=>true
 | _=>false
def zf:V->V->Bool
 | .bb,.bb=>true
 | .bl a,.bl b=>a == b
 | .bl a,.int b=>(if a then 1 else 0) == b
 | .int a,.bl b=>a == (if b then 1 else 0)
 | .int a,.int b=>a == b
 | .str a,.str b=>a == b
 | _,_=>false
theorem DW {A:Around}{s:Shared}{y x:V}{u v:Value}(ry:RelV y u) (rx:RelV x v) (fy:i3 y=true) (fx:i3 x=true):SeqAt.EqAt A s u v (zf y x):=by
 cases y with
 | bb=>
  cases ry;cases x with
  | bb=>cases rx;exact SeqAt.EqAt.same _
  | bl b=>cases rx;exact SeqAt.EqAt.none_bool b
  | int b=>obtain⟨t,rfl⟩:=rx;exact SeqAt.EqAt.none_int b t
  | str b=>obtain⟨t,rfl⟩:=rx;exact SeqAt.EqAt.none_str b t
  | _=>exact Vi (show false=true from fx) IP
 | bl a=>
  cases ry;cases x with
  | bb=>cases rx;exact SeqAt.EqAt.bool_none a
  | bl b=>cases rx;exact SeqAt.EqAt.bool_bool a b
  | int b=>obtain⟨t,rfl⟩:=rx;exact SeqAt.EqAt.bool_int a b t
  | str b=>obtain⟨t,rfl⟩:=rx;exact SeqAt.EqAt.bool_str a b t
  | _=>exact Vi (show false=true from fx) IP
 | int a=>
  obtain⟨t',rfl⟩:=ry;cases x with
  | bb=>cases rx;exact SeqAt.EqAt.int_none a t'
  | bl b=>cases rx;exact SeqAt.EqAt.int_bool a t' b
  | int b=>obtain⟨t,rfl⟩:=rx;exact SeqAt.EqAt.int_int a t' b t
  | str b=>obtain⟨t,rfl⟩:=rx;exact SeqAt.EqAt.int_str a t' b t
  | _=>exact Vi (show false=true from fx) IP
 | str a=>
  obtain⟨t',rfl⟩:=ry;cases x with
  | bb=>cases rx;exact SeqAt.EqAt.str_none a t'
  | bl b=>cases rx;exact SeqAt.EqAt.str_bool a t' b
  | int b=>obtain⟨t,rfl⟩:=rx;exact SeqAt.EqAt.str_int a t' b t
  | str b=>obtain⟨t,rfl⟩:=rx;exact SeqAt.EqAt.str_str a t' b t
  | _=>exact Vi (show false=true from fx) IP
 | _=>exact Vi (show false=true from fy) IP
def tH (x:V) (u:Value):Bool:=match u with
 | .none=>zf .bb x
 | .bool b=>zf (.bl b) x
 | .int i _=>zf (.int i) x
 | .str z _=>zf (.str z) x
 | _=>false
theorem zg {x y:V}{u:Value}(r:RelV y u) (f:i3 y=true):tH x u=zf y x:=by
 cases y with
 | bb=>cases r;rfl
 | bl b=>cases r;rfl
 | int i=>obtain⟨t,rfl⟩:=r;rfl
 | str z=>obtain⟨t,rfl⟩:=r;rfl
 | _=>exact Vi (show false=true from f) IP
theorem kI {x:V}:∀{xs:List V}{us:List Value},U2 xs us->xs.all i3=true->us.any (tH x)=xs.any fun y=>zf y x
 | _,_,.nil,_=>rfl
 | y::xs,u::us,.cons r t,f=>by
  rw[List.all_cons,Vh] at f;rw[List.any_cons,List.any_cons,zg r f.1,kI t f.2]
theorem iY {A:Around}{s:Shared}{x:V}{v:Value}(rx:RelV x v) (fx:i3 x=true):∀{xs:List V}{us:List Value},U2 xs us->xs.all i3=true->∀u∈us,SeqAt.EqAt A s u v (tH x u)
 | _,_,.nil,_=>fun u hu=>by cases hu
 | y::xs,u::us,.cons r t,f=>fun u' hu=>by
  rw[List.all_cons,Vh] at f;rcases Ji.mp hu with rfl | hu
  ·rw[zg r f.1];exact DW r rx f.1 fx
  ·exact iY rx fx t f.2 u' hu
def DT (x:V) (xs:List V):Bool:=xs.any fun y=>zf y x
def Ft (K:Fg06) (neg:Bool):R2:=fun x y H Q=>∃p xs,y=.ref p/\(aS K H p xs\/gq K H p xs)/\i3 x=true/\xs.all i3=true/\Q (.bl (if neg then !DT x xs else DT x xs)) H
theorem vL:ie X (compareOp .In) (Ft X.K false):=by
 intro UL s σ H x y v u Q I rx ry h;obtain⟨p,xs,rfl,hq,fx,fs,q⟩:=h;cases ry;rcases hq with hq | hq
 ·obtain⟨UN,r,pl,hz⟩:=I.list hq;refine SeqAt.in_listAt (tH x) pl.isList (fun w hw=>iY rx fx r fs w (by simpa using hw)) ⟨.bl _,H,I,rfl,?_⟩;rw[show UN.toArray.any (tH x)=UN.any (tH x) by simp,kI r fs];exact q
 ·obtain⟨UN,r,pl,hz⟩:=I.tuple hq;refine SeqAt.in_tupleAt (tH x) pl (fun w hw=>iY rx fx r fs w (by simpa using hw)) ⟨.bl _,H,I,rfl,?_⟩;rw[show UN.toArray.any (tH x)=UN.any (tH x) by simp,kI r fs];exact q
theorem ko:ie X (compareOp .NotIn) (Ft X.K true):=by
 intro UL s σ H x y v u Q I rx ry h;obtain⟨p,xs,rfl,hq,fx,fs,q⟩:=h;cases ry;rcases hq with hq | hq
 ·obtain⟨UN,r,pl,hz⟩:=I.list hq;refine SeqAt.notIn_listAt (tH x) pl.isList (fun w hw=>iY rx fx r fs w (by simpa using hw)) ⟨.bl _,H,I,rfl,?_⟩;rw[show UN.toArray.any (tH x)=UN.any (tH x) by simp,kI r fs];exact q
 ·obtain⟨UN,r,pl,hz⟩:=I.tuple hq;refine SeqAt.notIn_tupleAt (tH x) pl (fun w hw=>iY rx fx r fs w (by simpa using hw)) ⟨.bl _,H,I,rfl,?_⟩;rw[show UN.toArray.any (tH x)=UN.any (tH x) by simp,kI r fs];exact q
theorem az:gf X (.builtin "len") (fun xs H Q=>∃p ys,xs=[.ref p]/\(aS X.K H p ys\/gq X.K H p ys)/\Q (.int ys.length) H):=by
 intro UL s σ H xs us Q I r h;obtain⟨p,ys,rfl,hq,q⟩:=h;obtain⟨u,rfl,rx⟩:=vals1 r;cases rx;have hn:=nJ;rcases hq with hq | hq
 ·obtain⟨UN,r',pl,hz⟩:=I.list hq;have UQ:=r'.length;exact Calls.call_len_list pl.isList (by simp only[List.size_toArray]<;>omega) ⟨.int ys.length,H,I.tok _,⟨s.toks+1,by rw[U9,UQ]⟩,q⟩
 ·obtain⟨UN,r',pl,hz⟩:=I.tuple hq;have UQ:=r'.length;exact len_tuple pl (by simp only[List.size_toArray]<;>omega) ⟨.int ys.length,H,I.tok _,⟨s.toks+1,by rw[U9,UQ]⟩,q⟩
theorem qE:gf X (.type "list") (fun xs H Q=>∃p ys,xs=[.ref p]/\(aS X.K H p ys\/gq X.K H p ys)/\∀l,H l=none->Q (.ref l) (U1 H l (.lst ys))):=by
 intro UL s σ H xs us Q I r h;obtain⟨p,ys,rfl,hq,q⟩:=h;obtain⟨u,rfl,rx⟩:=vals1 r;cases rx;have fin:∀(UN:List Value),U2 ys UN->ys.length<=sizeLine->∀(h':Heap) (c':Nat),(∀b o',s.heap.get? b=some o'->h'.get? b=some o')->
   h'.get? s.heap.objs.size=some { cls:=.type "list",dict:=none,data:=.seq UN.toArray c',slots:=#[] }->EP X UL σ Q (.ref s.heap.objs.size) { s with heap:=h' }:=fun UN r' hz h' c' kp e=>
  ⟨.ref s.heap.objs.size,_,I.laid (t':=s.toks) kp (IE _) (show dY X.prog X.w _ h' _ (.lst ys) from⟨hz,UN,c',r',e⟩),rfl,q _ (I.cA.fresh (IE _))⟩
 rcases hq with hq | hq
 ·obtain⟨UN,r',pl,hz⟩:=I.list hq;have UQ:=r'.length;obtain⟨o,ho,hc,n,hd⟩:=pl.isList;exact call_list_seq p (.inl rfl) ho hc hd (fun h' c' kp e=>fin UN r' hz h' c' kp e) (by simp only[List.size_toArray]<;>omega)
 ·obtain⟨UN,r',pl,hz⟩:=I.tuple hq;have UQ:=r'.length;obtain⟨o,ho,hc,n,hd⟩:=pl;exact call_list_seq p (.inr rfl) ho hc hd (fun h' c' kp e=>fin UN r' hz h' c' kp e) (by simp only[List.size_toArray]<;>omega)
theorem jE:gf X (.type "tuple") (fun xs H Q=>∃p ys,xs=[.ref p]/\((aS X.K H p ys/\∀l,H l=none->Q (.ref l) (U1 H l (.tup ys)))\/(gq X.K H p ys/\Q (.ref p) H))):=by
 intro UL s σ H xs us Q I r h;obtain⟨p,ys,rfl,h⟩:=h;obtain⟨u,rfl,rx⟩:=vals1 r;cases rx;rcases h with ⟨hq,q⟩ | ⟨hq,q⟩
 ·obtain⟨UN,r',pl,hz⟩:=I.list hq;have UQ:=r'.length;refine call_tuple_list pl.isList (fun h' kp=>?_) (by simp only[List.size_toArray]<;>omega);have I1:Inv X UL σ H { s with heap:=h' }:=I.kept (t':=s.toks) kp;have I2:Inv X UL σ (U1 H h'.objs.size (.tup ys)) { s with heap:=h'.push { cls:=.type "tuple",data:=.seq UN.toArray } }:=
   I1.laid (t':=s.toks) (fun b o e=>IM _ e) (IE _) (show dY X.prog X.w _ _ _ (.tup ys) from⟨hz,UN,r',IsTup.new _ _⟩)
  exact⟨.ref h'.objs.size,_,I2,rfl,q _ (I1.cA.fresh (IE _))⟩
 ·obtain⟨UN,r',pl,hz⟩:=I.tuple hq;exact call_tuple_same pl ⟨.ref p,H,I,rfl,q⟩
def tyV (K:Fg06) (T:String) (x:V) (H:Hp):Prop:=match x with
 | .str _=>T="str"
 | .int _=>T="int"
 | .ref p=>(T="list"/\∃xs,aS K H p xs)\/(T="tuple"/\∃o,K.lookup p=some o/\o.cls=.type "tuple"/\o.dict=none)\/
   (T="dict"/\((∃UM,H p=some (.dK UM))\/∃UM,H p=some (.dT UM)))\/(T="set"/\∃S n,H p=some (.set S n))
 | _=>False
theorem BC {UL:List (Addr×Obj)}{σ:St}{H:Hp}{s:Shared}{T:String}{x:V}{v:Value}(I:Inv X UL σ H s) (r:RelV x v) (ty:tyV X.K T x H):
  s.TypeIs v T/\∀a,v=.ref a->∃ob,s.heap.get? a=some ob/\ob.dict=none:=by
 cases x with
 | str z=>
  obtain⟨t,rfl⟩:=r;cases (show T="str" from ty);exact⟨typeIs_str s z t,fun _ e=>nomatch e⟩
 | int i=>
  obtain⟨t,rfl⟩:=r;cases (show T="int" from ty);exact⟨typeIs_int s i t,fun _ e=>nomatch e⟩
 | ref p=>
  cases r;rcases ty with ⟨rfl,xs,hq⟩ | ⟨rfl,o,hk,hc,hd⟩ | ⟨rfl,hk⟩ | ⟨rfl,S,n,hk⟩
  ·obtain⟨UN,_,pl,_⟩:=I.list hq;refine⟨pl.isList.typeIs,fun a e=>?_⟩;cases e;obtain⟨o,n,e,c,hd,_⟩:=pl;exact⟨o,e,hd⟩
  ·refine⟨⟨o,I.sd p o hk,hc⟩,fun a e=>?_⟩;cases e;exact⟨o,I.sd _ o hk,hd⟩
  ·have z:∃o,s.heap.get? p=some o/\o.ExactDict:=by
    rcases hk with ⟨UM,hk⟩ | ⟨UM,hk⟩
    ·obtain⟨_,_,_,_,o,_,_,e,ex,_⟩:=I.cA p _ hk;exact⟨o,e,ex⟩
    ·obtain⟨_,_,_,_,o,_,_,e,ex,_⟩:=I.cA p _ hk;exact⟨o,e,ex⟩
   obtain⟨o,e,ex⟩:=z;refine⟨⟨o,e,ex.1⟩,fun a e2=>?_⟩;cases e2;exact⟨o,e,ex.2.1⟩
  ·obtain⟨o,_,_,_,e,ex,_⟩:=I.cA p _ hk;refine⟨⟨o,e,ex.1⟩,fun a e2=>?_⟩;cases e2;exact⟨o,e,ex.2.1⟩
 | _=>exact False.elim ty
def G9 (K:Fg06) (T:String) (r:V->List V->Hp->VK->Prop) (to:TE) (t:TA):TE:=fun σ H Q=>to σ H fun x H1=>tyV K T x H1/\t σ H1 fun xs H2=>r x xs H2 Q
variable {o e:Expr}{es:List Expr}{to:TE}{t:TA}{name:Str}{UU US:Pos}{T id:String}{r:V->List V->Hp->VK->Prop}
theorem dQ (pa:PlainAttrs T) (slot:Slot T name id) (OP:typeOf (.builtin id)=pure (.type "method_descriptor")) (hm:G0 X id r) (ho:PE X o to) (ha:PA X (e::es) t)
  (JA:attributeBase o name X.env (eval o X.env)=eval o X.env:=by rfl)
  (JW:((backTo US (starEach (e::es) X.env)).all (fun x=>!x.1)&&(backToKw US (keywordEach [] X.env)).all (fun x=>x.1.isSome)
   &&decide ((e::es).length+([]:List Keyword).length+(if([]:List Keyword).isEmpty then 0 else 1) < 30))=true:=by rfl)
  (Jz:(UU.endLine == US.line)=true:=by rfl) (hs:starEach (e::es) X.env=(false,eval e X.env)::starEach es X.env:=by rfl) (Jy:(backTo US (starEach es X.env)).any (·.1)=false:=by rfl):
  PE X (.Call (.Attribute o name UU) (e::es) [] US) (G9 X.K T r to t):=by
 intro UL s σ H Q I h;refine wpAny_Call_method_late JA JW Jz rfl (da (ho UL s σ H _ I h) fun v s1 ⟨x,H1,I1,r1,ty,q1⟩=>?_);obtain⟨h1,h2⟩:=BC I1 r1 ty;refine⟨T,id,pa,slot,OP,h1,h2,?_⟩;have hA:=ha US UL s1 σ H1 _ I1 q1;rw[hs] at hA ⊢;refine Calls.callWith_builtin (by show(false||(backTo US (starEach es X.env)).any (·.1))=false;rw[Jy]<;>rfl) (Calls.evalArgs_plain ?_);exact da hA fun us s2 ⟨vs,H2,I2,r2,q2⟩=>hm UL s2 σ H2 x vs v us Q I2 r1 r2 q2
end
end L2
namespace L2
open PySem PySem.Spec PyProof.Rows
def GB (X:Cx) (id:String) (r:V->List V->Hp->VK->Prop):Prop:=
 ∀(UL:List (Addr×Obj)) (s:Shared) (σ:St) (H:Hp) (x:V) (xs:List V) (v:Value) (us:List Value) (Q:VK),Inv X UL σ H s->RelV x v->U2 xs us->r x xs H Q->
  wpAny (model X.prog X.w) X.A (call (.builtin id) (v::us)) (EP X UL σ Q) X.xe s
theorem U2.one:∀{x:V}{us:List Value},U2 [x] us->∃u,us=[u]/\RelV x u
 | _,_,.cons r .nil=>⟨_,rfl,r⟩
theorem U2.rep {xs:List V}{us:List Value}(h:U2 xs us):∀k:Nat,U2 (List.replicate k xs).flatten (List.replicate k us).flatten
 | 0=>.nil
 | k+1=>by
  rw[List.replicate_succ,List.replicate_succ,List.flatten_cons,List.flatten_cons];exact U2.append h (U2.rep h k)
theorem foldl_rep (UN:List Value):∀(k:Nat) (acc:List Value),
  List.foldl (fun x1 x2=>x1++x2) acc.toArray (List.replicate k UN.toArray)=(acc++(List.replicate k UN).flatten).toArray
 | 0,acc=>by simp
 | k+1,acc=>by
  have e:acc.toArray++UN.toArray=(acc++UN).toArray:=by simp
  have e2:(acc++UN)++(List.replicate k UN).flatten=acc++(List.replicate (k+1) UN).flatten:=by
   rw[List.replicate_succ,List.flatten_cons,List.append_assoc]
  rw[<-e2,<-foldl_rep UN k (acc++UN),<-e,List.replicate_succ,List.foldl_cons]
section
variable {X:Cx}{UL:List (Addr×Obj)}{σ:St}{H:Hp}{s:Shared}{l b:Addr}{xs ys zs:List V}
theorem Inv.F3 {UN its':List Value}{n:Nat}{f:Array Value->Array Value}{t':Nat}(I:Inv X UL σ H s) (hH:H l=some (.lst xs))
  (e:s.heap.get? l=some { cls:=.type "list",data:=.seq UN.toArray n }) (hf:f UN.toArray=its'.toArray) (hv:U2 ys its') (hz:ys.length<=sizeLine):
  Inv X UL σ (U1 H l (.lst ys)) { s with heap:=s.heap.update l (Obj.mapSeq f),toks:=t' }:=by
 have q:=PySem.IsL.update e f;rw[hf] at q;refine I.write (x:=l) (e:=l) (by rw[hH];exact trivial) (.inl rfl) (fun b' u hb hu=>(Heap.get?_update_other s.heap (Obj.mapSeq f) (U8 hb)).trans hu) ⟨_,q⟩ ?_;exact⟨hz,its',_,hv,q⟩
theorem Inv.F4 {UN:List Value}{t':Nat}(I:Inv X UL σ H s) (hv:U2 ys UN) (hz:ys.length<=sizeLine):
  Inv X UL σ (U1 H s.heap.objs.size (.lst ys)) { s with heap:=s.heap.push { cls:=.type "list",data:=.seq UN.toArray },toks:=t' }:=
 I.laid (fun _ _ q=>IM _ q) (IE _) ⟨hz,UN,0,hv,Jn _ rfl⟩
theorem Inv.fresh (I:Inv X UL σ H s):H s.heap.objs.size=none:=I.cA.fresh (IE _)
theorem Inv.vY (I:Inv X UL σ H s) (hH:H l=some (.lst xs)):xs.length<=sizeLine/\∃(UN:List Value) (n:Nat),U2 xs UN/\xs.length=UN.length/\s.heap.get? l=some { cls:=.type "list",data:=.seq UN.toArray n }:=by
 obtain⟨z,UN,n,r,e⟩:=I.cA l _ hH;exact⟨z,UN,n,r,r.length,e⟩
theorem q5 {n:Nat}(h:n<=sizeLine):Builtin.List.listTooLong n=false:=by
 unfold Builtin.List.listTooLong;exact Iv (by omega)
end
section
variable {X:Cx}
def z5:V->List V->Hp->VK->Prop:=fun x vs H Q=>∃l xs y,x=.ref l/\vs=[y]/\H l=some (.lst xs)/\xs.length < sizeLine/\Q .bb (U1 H l (.lst (xs++[y])))
theorem cf:GB X "list.append" z5:=by
 intro UL s σ H x vs v us Q I rx rv h;obtain⟨l,xs,y,rfl,rfl,hH,hz,q⟩:=h;cases rx;obtain⟨u,rfl,ru⟩:=rv.one;obtain⟨z,UN,n,r,hl,e⟩:=I.vY hH;refine call_meets F.slot_list_append ⟨_,e,rfl⟩ F.entry_list_append (F.args_list_append_2 _ _) (PySem.list_append l UN.toArray n u (by rw[U9];omega)) ⟨e,?_⟩;refine⟨.bb,_,I.F3 (its':=UN++[u]) hH e (by simp) (r.append (.cons ru .nil)) ?_,rfl,q⟩;rw[Iu,Jl];omega
def z4:V->List V->Hp->VK->Prop:=fun x vs H Q=>∃l b xs zs,x=.ref l/\vs=[.ref b]/\H l=some (.lst xs)/\H b=some (.lst zs)/\xs.length+zs.length<=sizeLine/\Q .bb (U1 H l (.lst (xs++zs)))
theorem vU:GB X "list.extend" z4:=by
 intro UL s σ H x vs v us Q I rx rv h;obtain⟨l,b,xs,zs,rfl,rfl,hH,hB,hz,q⟩:=h;cases rx;obtain⟨u,rfl,ru⟩:=rv.one;cases ru;obtain⟨z,UN,n,r,hl,e⟩:=I.vY hH;obtain⟨z2,JB,n2,r2,JF,e2⟩:=I.vY hB;have hsz:UN.toArray.size+JB.toArray.size<=sizeLine:=by rw[U9,U9];omega
 have Lm:¬(!UN.toArray.isEmpty&&Builtin.List.listTooLong (UN.toArray.size+JB.toArray.size))=true:=by
  rw[q5 hsz,Bool.and_false];exact IP
 refine call_meets F.slot_list_extend ⟨_,e,rfl⟩ F.entry_list_extend (F.args_list_extend_2 _ _)
  (AutoSeq1.list_extend_list_list_0 l UN.toArray n b JB.toArray n2 Lm (by rw[U9];omega) (by omega)) ⟨e,e2,?_⟩
 refine⟨.bb,_,I.F3 (its':=UN++JB) hH e (by simp) (r.append r2) ?_,rfl,q⟩;rw[Iu];omega
def Hz:R2:=fun x y H Q=>∃l b xs zs,x=.ref l/\y=.ref b/\H l=some (.lst xs)/\H b=some (.lst zs)/\xs.length+zs.length<=sizeLine/\∀p,H p=none->Q (.ref p) (U1 H p (.lst (xs++zs)))
theorem jU:ie X (binaryOp .Add) Hz:=by
 intro UL s σ H x y v u Q I rx ry h;obtain⟨l,b,xs,zs,rfl,rfl,hH,hB,hz,q⟩:=h;cases rx;cases ry;obtain⟨z,UN,n,r,hl,e⟩:=I.vY hH;obtain⟨z2,JB,n2,r2,JF,e2⟩:=I.vY hB;refine PySem.P.add_list e e2 ?_ (by rw[U9,U9];omega);have ea:UN.toArray++JB.toArray=(UN++JB).toArray:=by simp
 rw[ea];exact⟨.ref _,_,I.F4 (t':=s.toks) (r.append r2) (by rw[Iu];omega),rfl,q _ I.fresh⟩
def Hv:R2:=fun x y H Q=>∃l k xs,x=.ref l/\y=.int k/\H l=some (.lst xs)/\-(2 ^ 63)<=k/\k < 2 ^ 63/\xs.length*k.toNat<=sizeLine/\
 ∀p,H p=none->Q (.ref p) (U1 H p (.lst (List.replicate k.toNat xs).flatten))
theorem len_rep {α:Type}(xs:List α) (k:Nat):(List.replicate k xs).flatten.length=k*xs.length:=by
 induction k with
 | zero=>simp
 | succ k ih=>rw[List.replicate_succ,List.flatten_cons,Iu,ih,Nat.succ_mul,Nat.add_comm]
theorem CN:ie X (binaryOp .Mult) Hv:=by
 intro UL s σ H x y v u Q I rx ry h;obtain⟨l,k,xs,rfl,rfl,hH,h1,h2,hz,q⟩:=h;cases rx;obtain⟨t,rfl⟩:=ry;obtain⟨z,UN,n,r,hl,e⟩:=I.vY hH;have UQ:UN.toArray.size*k.toNat<=sizeLine:=by rw[U9,<-hl];exact hz
 have hcap:¬UN.toArray.size*k.toNat > (2 ^ 63 - 1) / 8:=by
  have:(sizeLine:Nat)<=(2 ^ 63 - 1) / 8:=by decide
  omega
 have hfit:¬(!Builtin.List.listFitsIndex k)=true:=by
  rw[fitsIndex_both h1 h2];exact IP
 have Lm:¬Builtin.List.listTooLong (UN.toArray.size*k.toNat)=true:=by
  rw[q5 UQ];exact IP
 have Jx:List.foldl (fun x1 x2=>x1++x2) #[] (List.replicate (if UN.toArray.isEmpty=true then 0 else k.toNat) UN.toArray)=(List.replicate k.toNat UN).flatten.toArray:=by
  have f0:∀m:Nat,List.foldl (fun x1 x2=>x1++x2) #[] (List.replicate m UN.toArray)=(List.replicate m UN).flatten.toArray:=fun m=>by
   have:=foldl_rep UN m [];rw[List.nil_append] at this;exact this
  rw[f0];cases UN with
  | nil=>simp
  | cons a r'=>rw[IH (by simp)]
 refine wpAny_binaryOp_repeat_ref (T:="list") (U:="int") (by decide) ⟨_,e,rfl⟩ (fun s'=>typeIs_int s' k t) noFill_list_mul F.fills_int_mul F.slot_int_rmul repeat_list F.slot_int_index.lookup
  (call_meets F.slot_int_rmul (typeIs_int s k t) F.entry_int_rmul (F.args_int_rmul_2 _ _) (int___rmul___int_list k t l UN.toArray n)
   ⟨e,rfl,⟨_,e,rfl⟩,call_meets F.slot_list_mul ⟨_,e,rfl⟩ F.entry_list_mul (F.args_list_mul_2 _ _) (AutoListH.list___mul___list_int_3 l UN.toArray n k t hfit hcap Lm) ⟨e,?_⟩⟩)
 rw[Jx];exact⟨.ref _,_,I.F4 (t':=s.toks) (r.rep k.toNat) (by rw[len_rep,Nat.mul_comm];exact hz),rfl,q _ I.fresh⟩
end
section
variable {prog:Program}{w:World}{A:Around}{E:Value->Shared->Prop}{s:Shared}
set_option maxRecDepth 100000 in
end
section
variable {X:Cx}
end
end L2
namespace Att
open PySem PySem.W PySem.Calls PyProof.Rows
theorem mm {P:Params}{h:Heap}:∀(ns:List Int) (vs:List Value),WellAll P h vs (ns.map WData.int)->IntsAre vs ns:=by
 intro ns
 induction ns with
 | nil=>
  intro vs w;rw[List.map_nil] at w;cases w;exact .nil
 | cons n ns ih=>
  intro vs w;rw[Va] at w;cases w with
  | cons a b=>
   cases a;exact .cons _ _ (ih _ b)
theorem vD {l:OpenLaw}{n:Nat}(hn:l.most=some n){P:Params}{h:Heap}{args:List WData}{vals:List Value}
  (K3:l.row.toRowW.claim.pre args=true) (LY:WellAll P h vals args):
  ∃a vs ns,vals=[Value.ref a]/\args=[WData.list (ns.map WData.int)]/\h.get? a=some { cls:=.type "list",data:=.seq vs.toArray }/\IntsAre vs ns/\ns.length<=n:=by
 have hsh:WShape.hasAll [] args [.list .int]=true:=(pre_splitW K3).1;have hc:l.pre.holds [] { args:=args }=true:=(pre_splitW K3).2;obtain⟨d,r,rfl,h1,h2⟩:=hasAllW_cons hsh;obtain rfl:=hasAllW_nil h2;obtain⟨xs,rfl,h3⟩:=hasW_list h1;obtain⟨ns,rfl⟩:=items_int h3;have UQ:ns.length<=n:=by
  unfold OpenLaw.pre at hc;have h4:(WTm.not (.lt (.lit (.int (n:Int))) (.len (.arg 0)))).holds [] { args:=[.list (ns.map .int)] }=true:=by
   have h4:=(holds_andW hc).1;rw[hn] at h4;exact h4
  have h5:=condW_of h4 (w_not (w_lt w_lit (w_len_list (w_arg rfl))));rw[IC] at h5;refine Nat.le_of_not_lt fun q=>?_;have q':(n:Int) < ((ns.length:Nat):Int):=by omega
  first
   | (rw[Iw q'] at h5;exact Vi h5 (by decide))
   | (simp at h5;omega)
 cases LY with
 | cons w1 w2=>
  cases w2;cases w1 with
  | list ho J7=>exact⟨_,_,ns,rfl,rfl,ho,mm ns _ J7,UQ⟩
theorem vG (l:OpenLaw) (args:List WData):l.row.toRowW.claim.post args (.bool true) args=true:=
 postW_of (r:=l.row.toRowW) (X:=(true == true))
  (show WShape.has [] (.bool true) .bool=true by first | rfl | decide | simp[WShape.has,WShape.arms,WShape.armsAll])
  (show(WTm.eq .res (.lit (.bool true))).value [] { args:=args,res:=some (.bool true),after:=args }=some (.bool (true == true)) from w_eq_bool (w_res rfl) w_lit) rfl
theorem rY {l:OpenLaw}{n:Nat}{q:Program}{loose:List Str}{XP:(Str->Option Value)->Heap->Prop}{YP:World->Heap->Prop}{d:DefRec}
  (hn:l.most=some n) (KZ:d.params.defaults=[])
  (call:∀(w:World) (s₀ s₁:Shared) (mg mb:Str->Option Value) (fa:Addr) (o:Obj) (pm cd doc:Value) (a:Addr) (vs:List Value) (ns:List Int),
   Ground q loose [] XP w s₀ mg mb s₁.heap->YP w s₁.heap->
   s₁.heap.get? fa=some o->o.data=.func (docDef d.name d.params d.body d.scope pm cd doc)->s₁.heap.CodeRec cd d.name->mg d.name=some (.ref fa)->
   s₁.heap.get? a=some { cls:=.type "list",data:=.seq vs.toArray }->IntsAre vs ns->ns.length<=n->s₁.gens=#[]->
   codeAny (model l.prog w) callerA (.call (.ref fa) ⟨[.ref a],[]⟩) (fun r s'=>r=.ok (.ret (.bool true))/\OldK s₁.heap s'.heap/\s'.os=s₁.os/\AllBare s'.gens) s₁):
  WalkO q loose XP YP l.row.toRowW d [] (fun f vs=>PySem.call f vs):=by
 intro w s₀ s₁ mg mb G Y fa o pm cd doc dV kV ho hd K0 hD hmg hg args vals as K3 hlay hrd LY hlo;obtain rfl:dV=.none:=Dflts.none hD KZ;obtain rfl:kV=.none:=Dflts.noKw hD;obtain⟨a,vs,ns,rfl,rfl,Nj,hints,UQ⟩:=vD hn K3 LY;refine enter_call (codeAny_mono (call w s₀ s₁ mg mb fa o pm cd doc a vs ns G Y ho (fd_plain hd) K0 hmg Nj hints UQ hg) fun r s' hq=>?_);obtain⟨rfl,h2,h3,h4⟩:=hq;exact⟨.inl ⟨.bool true,.bool true,[],rfl,fun _=>rfl,.bool true,vG l _,fun _=>⟨List.Pairwise.nil,fun _ hm=>(nomatch hm)⟩⟩,h2,h3,h4⟩
section
variable {prog:Program}{w:World}{A:Around}{E:Value->Shared->Prop}{s:Shared}{K:Frag}
end
end Att
namespace L2
open PySem PySem.Spec PyProof.Rows
theorem oP:∀{vs:List Value}{ns:List Int},IntsAre vs ns->U2 (ns.map V.int) vs
 | _,_,.nil=>.nil
 | _,_,.cons n t h=>.cons ⟨t,rfl⟩ (oP h)
def Ei (H:Hp):Prop:=∀b,H b=none\/∃o xs,H b=some (.mD o (.lst xs))
theorem yK {P:Program}{w:World}{K:Fg06}{mg mb:Str->Option Value}{CX:wO}{k:Nat}{fa a:Addr}{fd:FuncData}{x:Str}{sp:Sp}{s₁:Shared}{vs:List Value}{ns:List Int}
  (KX:K.In s₁.heap) (KI:s₁.heap.Ns mainGlobals mg) (hb:s₁.heap.Ns builtinsNs mb) (hbb:∀x:Str,x≠"__name__"->mb x=bootBuiltins x) (hlim:s₁.heap.NoLimit) (hg:s₁.gens=#[])
  (ha:s₁.heap.get? a=some { cls:=.type "list",data:=.seq vs.toArray }) (hi:IntsAre vs ns) (hl:ns.length<=sizeLine) (hr:cZ k callerA)
  (F:∀base:Heap,K.In base->base.Ns mainGlobals mg->bK P w K mg base CX k fa fd [x] sp) (hbind:∀(s:Shared) (u:Value),BindsTo s fd ⟨[u],[]⟩ [(x,u)])
  (Ki:∀H:Hp,Ei H->aS K H a (ns.map V.int)->sp [.ref a] H (fun v _=>v=.bl true) fun _ _ _=>False)
  (RY:∀H e s',CX [] H s₁ (fun _ _ _=>False) e s'->False):
  codeAny (model P w) callerA (.call (.ref fa) ⟨[.ref a],[]⟩) (fun r s'=>r=.ok (.ret (.bool true))/\OldK s₁.heap s'.heap/\s'.os=s₁.os/\AllBare s'.gens) s₁:=by
 have rv:=oP hi;have lenV:=hi.length;have core:∀H:Hp,Ei H->aS K H a (ns.map V.int)->j7 P w H s₁.heap->(∀b,H b≠none->b=a)->(H a≠none->K.lookup a=none)->
   codeAny (model P w) callerA (.call (.ref fa) ⟨[.ref a],[]⟩) (fun r s'=>r=.ok (.ret (.bool true))/\OldK s₁.heap s'.heap/\s'.os=s₁.os/\AllBare s'.gens) s₁:=by
  intro H hO hS cA hA hK;have base_of:∀{b:Addr}{o:Obj},s₁.heap.get? b=some o->H b=none->(qp s₁.heap H).get? b=some o:=fun e n=>yU e n;have noA:∀{b:Addr}{o:Obj}{es:Array DictEntry}{ep:Nat},s₁.heap.get? b=some o->o.data=.dict es ep->H b=none:=fun {b o es ep} e d=>by
   cases q:H b with
   | none=>rfl
   | some u=>
    have e':b=a:=hA b (by rw[q];simp);subst e';rw[ha] at e;cases e;have d':Data.seq vs.toArray _=Data.dict es ep:=d;cases d'
  have nsK:∀{b:Addr}{m:Str->Option Value},s₁.heap.Ns b m->(qp s₁.heap H).Ns b m:=fun {b m} ⟨o,es,ep,e,d,r⟩=>⟨o,es,ep,base_of e (noA e d),d,r⟩;have TZ:K.In (qp s₁.heap H):=fun b o e=>base_of (KX b o e) (by
   cases q:H b with
   | none=>rfl
   | some u=>
    have e':b=a:=hA b (by rw[q];simp);subst e';rw[hK (by rw[q];simp)] at e;cases e)
  have hM:Mod K mg (qp s₁.heap H):=⟨TZ,nsK KI,⟨mb,nsK hb,hbb⟩,let ⟨mc,h1,h2⟩:=hlim;⟨mc,nsK h1,h2⟩⟩;have e0:tX P w K mg (qp s₁.heap H) callerA [] s₁ H:=⟨rfl,hM,fun b o e=>Ao e,Nat.le_of_eq (wj _ _),trivial,fun b hb=>Vi (show b∈([]:List Addr) from hb) (by simp),cA,.of_eq hg⟩;refine codeAny_mono ((F _ TZ (nsK KI)).run callerA [] s₁ H ⟨[.ref a],[]⟩ [.ref a] [.ref a] _ _ hr e0 (hbind s₁ (.ref a)) (.cons rfl .nil) (Ki H hO hS)) fun r s' h=>?_;cases r with
  | error e=>exact(RY H e s' h).elim
  | ok fl=>
   cases fl with
   | next=>exact False.elim h
   | brk=>exact False.elim h
   | cont=>exact False.elim h
   | ret u=>
    obtain⟨v,H',os,bare,un,hok',r',q⟩:=h;have q':v=.bl true:=q;subst q';obtain rfl:u=Value.bool true:=r';refine⟨rfl,OldK.of_keep fun b o e=>?_,os,bare⟩;cases q:H b with
    | none=>exact un.keep b o e q (by intro z;exact Vi (show b∈([]:List Addr) from z) (by simp)) (by simp)
    | some u=>
     rcases hO b with z | ⟨ob,xs,z⟩
     ·rw[q] at z;cases z
     ·have z2:=un.nQ b ob _ z;obtain⟨e1,_⟩:=cA b _ z;obtain⟨e2,_⟩:=hok' b _ z2;rw[e] at e1;cases e1;exact e2
 cases hk:K.lookup a with
 | some o=>
  have e:=KX a o hk;rw[ha] at e;cases e;refine core (fun _=>none) (fun _=>.inl rfl) (.inr ⟨_,vs.toArray,_,hk,rfl,rfl,rfl,by rw[U9,lenV];exact hl,by simpa using rv⟩) (fun b u z=>by have z':(none:Option HO)=some u:=z;cases z') (fun b z=>Vi rfl z) fun z=>Vi rfl z
 | none=>
  refine core (fun b=>if b=a then some (.mD { cls:=.type "list",data:=.seq vs.toArray } (.lst (ns.map V.int))) else none) (fun b=>?_) (.inl (.inr ⟨{ cls:=.type "list",data:=.seq vs.toArray },II rfl⟩)) (fun b u z=>?_) (fun b z=>?_) fun _=>hk
  ·by_cases hb:b=a
   ·exact .inr ⟨_,_,II hb⟩
   ·exact .inl (IH hb)
  ·by_cases hb:b=a
   ·have z':=(II hb).symm.trans z;cases z';subst hb;exact⟨ha,by rw[IC];exact hl,vs,_,rv,ha⟩
   ·have z':=(IH hb).symm.trans z;cases z'
  ·by_cases hb:b=a
   ·exact hb
   ·exact Vi (IH hb) z
end L2
namespace L2
open PySem PySem.Spec PyProof.Rows
abbrev KOf {K:Fg06}{h:Heap}(_:K.In h):Fg06:=K
theorem zM {l:PySem.W.OpenLaw}{n k:Nat}{q:Program}{loose:List Str}{XP:(Str->Option Value)->Heap->Prop}{YP:World->Heap->Prop}{d:DefRec}{K:Params->Fg06}{CX:World->wO}{sp:World->Sp}{x:Str}
  (hn:l.most=some n) (Qw:n<=sizeLine) (KZ:d.params.defaults=[]) (hr:cZ k callerA)
  (hY:∀(w:World) (h:Heap),YP w h->(K w.params).In h)
  (F:∀(w:World) (mg:Str->Option Value) (fa:Addr) (h:Heap),(K w.params).In h->h.Ns mainGlobals mg->mg d.name=some (.ref fa)->
   ∃fd:FuncData,(∀(s:Shared) (u:Value),BindsTo s fd ⟨[u],[]⟩ [(x,u)])/\
    ∀base:Heap,(K w.params).In base->base.Ns mainGlobals mg->bK l.prog w (K w.params) mg base (CX w) k fa fd [x] (sp w))
  (Ki:∀(w:World) (H:Hp) (a:Addr) (ns:List Int),ns.length<=n->Ei H->aS (K w.params) H a (ns.map V.int)->sp w [.ref a] H (fun v _=>v=.bl true) fun _ _ _=>False)
  (RY:∀(w:World) (H:Hp) (s:Shared) (e:Value) (s':Shared),CX w [] H s (fun _ _ _=>False) e s'->False):
  PySem.W.WalkO q loose XP YP l.row.toRowW d [] (fun f vs=>PySem.call f vs):=by
 refine Att.rY hn KZ fun w s₀ s₁ mg mb fa o pm cd doc a vs ns G Y ho hd K0 hmg Nj hints UQ hg=>?_;have KX:=hY w _ Y;obtain⟨fd,hb,hF⟩:=F w mg fa _ KX G.T.g hmg;exact yK KX G.T.g G.T.b G.T.builtins G.T.nolimit hg Nj hints (ID UQ Qw) hr hF hb (fun H hO hS=>Ki w H a ns UQ hO hS) fun H e s'=>RY w H s₁ e s'
end L2
namespace L2
open PySem PySem.Spec PyProof.Rows
def gI (s:Stmt):Arguments:=match s with
 | .FunctionDef _ a _ _ _ _ _ _ _ _=>a
 | _=>{ posonlyargs:=[],args:=[],vararg:=none,kwonlyargs:=[],kw_defaults:=[],kwarg:=none,defaults:=[] }
def gH (s:Stmt):List Stmt:=match s with
 | .FunctionDef _ _ b _ _ _ _ _ _ _=>b
 | _=>[]
def aC (s:Stmt):Scope:=match s with
 | .FunctionDef _ _ _ _ _ _ sc _ _ _=>sc
 | _=>{ kind:=.function,names:=[],isGenerator:=false,isCoroutine:=false }
abbrev fq:wO:=fun _ _ _ _ _ _=>False
abbrev E0:XK:=fun _ _ _=>False
theorem yh {X:Cx}:Passes fq X E0:=fun _ _ _ _ _ _ _ h=>h.elim
structure fm (K:Fg06) (x UP:Str) (st:Stmt) (f:Addr) (fd:FuncData):Prop where
 ex:∃(oc:Value) (od:Option Addr) (kV doc pm:Value) (an:Option Addr) (UO ct:Value) (osl:Array (Option Value)),
  fd=PySem.W.fnOf x UP (gI st) (gH st) (aC st) .none kV doc pm an UO ct/\K.lookup f=some ⟨oc,od,.func fd,osl⟩/\PySem.W.codeIn K UO UP=true
 kp:PySem.W.keepIn K (.ref f)=true
section
variable {P:Program}{w:World}{K:Fg06}{mg:Str->Option Value}{base:Heap}
theorem fm.ok {x UP:Str}{st:Stmt}{f:Addr}{fd:FuncData}{N ps:List Str}{k:Nat}{sp:Sp}(F:fm K x UP st f fd) (S:aQ N ps (aC st)) (len:∀vs H Q E,sp vs H Q E->vs.length=ps.length)
  (JX:∀(UO:Value) (A:Around) (outer:List Env) (s:Shared) (H:Hp) (vs:List V) (Q:VK) (E:XK),cZ k (A.deeper (envOfC UP (aC st) s.heap.objs.size f UO))->sp vs H Q E->
   ∃t,se (rR fq P w K mg base N UP (aC st) f UO A outer s H E).Ep (gH st) t/\t { nx:=fun _ H'=>Q .bb H',rt:=Q } (start N vs) H):bK P w K mg base fq (k+1) f fd ps sp:=by
 obtain⟨oc,od,kV,doc,pm,an,UO,ct,osl,rfl,lk,K0⟩:=F.ex;refine Gi lk K0 S len fun A outer s H vs Q E hr Ki=>?_;obtain⟨t,h,q⟩:=JX UO A outer s H vs Q E hr Ki;exact⟨t,h.Ep,q⟩
theorem fm.binds {x UP:Str}{st:Stmt}{f:Addr}{fd:FuncData}{ps:List Str}(F:fm K x UP st f fd)
  (h:∀(kV doc pm:Value) (an:Option Addr) (UO ct:Value) (us:List Value),us.length=ps.length->bindArgs (PySem.W.fnOf x UP (gI st) (gH st) (aC st) .none kV doc pm an UO ct) ⟨us,[]⟩=pure (ps.zip us)):Binds K fd ps []:=by
 obtain⟨oc,od,kV,doc,pm,an,UO,ct,osl,rfl,lk,K0⟩:=F.ex;exact .all (h kV doc pm an UO ct)
theorem yZ {x UP:Str}{st:Stmt}{f:Addr}{oc:Value}{od an:Option Addr}{osl:Array (Option Value)}{kV doc pm UO ct:Value}(l:K.lookup f=some ⟨oc,od,.func (PySem.W.fnOf x UP (gI st) (gH st) (aC st) .none kV doc pm an UO ct),osl⟩)
  (c:PySem.W.codeIn K UO UP=true) (k:PySem.W.keepIn K (.ref f)=true):fm K x UP st f (PySem.W.fnOf x UP (gI st) (gH st) (aC st) .none kV doc pm an UO ct):=⟨⟨oc,od,kV,doc,pm,an,UO,ct,osl,rfl,l,c⟩,k⟩
end
theorem fI {A:Around}{k:Nat}(hr:cZ k A):A.units+1 < cLine:=Nat.lt_of_le_of_lt (Nat.add_le_add_left (by decide:1<=64) _) hr.units
theorem bZ {n:Nat}(h:n<=1000):n < sizeLine:=Nat.lt_of_le_of_lt h (by decide)
section
variable {X:Cx}
theorem pv (i:Nat){x:Str}{pos:Pos}(hN:X.N[i]?=some x:=by rfl) (hv:GX X.env.scope x:=by first | exact Or.inl rfl | exact Or.inr (Or.inl rfl) | exact Or.inr (Or.inr rfl)) (hd:(x == ("__debug__":Str))=false:=by decide)
  (K0:(x == ("__classdict__":Str))=false:=by decide):PE X (.Name x pos) (vA i):=Cd hN hv hd K0
end
theorem bu {A B:Prop}(h:B):if false=true then A else B:=by
 rw[IH IP];exact h
theorem cC {A B:Prop}(h:A):if true=true then A else B:=by
 rw[II rfl];exact h
def ak (H H':Hp):Prop:=∀b o,H b=some o->H' b=some o
theorem ak.refl (H:Hp):ak H H:=fun _ _ h=>h
theorem ak.trans {H H1 H2:Hp}(a:ak H H1) (b:ak H1 H2):ak H H2:=fun c o h=>b c o (a c o h)
theorem ak.free {H H':Hp}(e:ak H H'){l:Addr}(h:H' l=Option.none):H l=Option.none:=by
 cases q:H l with
 | none=>rfl
 | some o=>
  rw[e l o q] at h;cases h
theorem ak.seq {K:Fg06}{H H':Hp}{a:Addr}{xs:List V}(e:ak H H') (h:aS K H a xs):aS K H' a xs:=by
 rcases h with (h | ⟨o,h⟩) | h
 ·exact .inl (.inl (e _ _ h))
 ·exact .inl (.inr ⟨o,e _ _ h⟩)
 ·exact .inr h
end L2
namespace GS
end GS
set_option maxHeartbeats 4000000
namespace L2
open PySem PySem.Spec PyProof.Rows PySem.Builtin PySem.Builtin.Str
section
variable {X:Cx}
def Hs:V->Option Int->Option Int->Hp->VK->Prop:=fun x lo hi H Q=>∃z,x=.str z/\z.length<=sizeLine/\Q (.str (StrLaws.sliceText z lo hi)) H
theorem fY (x l u):(StrLaws.sliceText x l u).length<=x.length:=Txt.slice_le x l u
theorem kU:wN X Hs:=by
 intro UL s σ H x v vl vu lo hi sl Q I rx hs pl pu h;obtain⟨z,rfl,hz,q⟩:=h;obtain⟨t,rfl⟩:=rx;have fin:∀t' k,EP X UL σ Q (.str (StrLaws.sliceText z lo hi) t') { s with toks:=k }:=fun t' k=>⟨.str _,H,I.tok _,⟨_,rfl⟩,q⟩;refine⟨"str",_,F.slot_str_getitem.lookup,typeIs_str _ _ _,?_⟩;cases pl with
 | none=>
  cases pu with
  | none=>exact wpAny_getItem_str_slice (l:=none) (u:=none) (st:=none) hs rfl (post_val_or_str ⟨ID (fY z _ _) hz,fin⟩)
  | int j uj=>exact wpAny_getItem_str_slice (l:=none) (u:=some (j,uj)) (st:=none) hs rfl (post_val_or_str ⟨ID (fY z _ _) hz,fin⟩)
 | int i ui=>
  cases pu with
  | none=>exact wpAny_getItem_str_slice (l:=some (i,ui)) (u:=none) (st:=none) hs rfl (post_val_or_str ⟨ID (fY z _ _) hz,fin⟩)
  | int j uj=>exact wpAny_getItem_str_slice (l:=some (i,ui)) (u:=some (j,uj)) (st:=none) hs rfl (post_val_or_str ⟨ID (fY z _ _) hz,fin⟩)
theorem mU:∀{ys us},U2 (ys.map V.str) us->StrsAre us ys
 | [],_,.nil=>.nil
 | y::ys,_,.cons r rr=>by
  obtain⟨t,rfl⟩:=r;exact .cons y t (mU rr)
theorem Ar:G0 X "str.join" (fun x xs H Q=>∃z p ys,x=.str z/\xs=[.ref p]/\aS X.K H p (ys.map V.str)/\(ys.map (·.length)).sum+ys.length*z.length<=16777216/\Q (.str (Txt.join z ys)) H):=by
 intro UL s σ H x xs v us Q I rx rs h;obtain⟨z,p,ys,rfl,rfl,hq,cA,q⟩:=h;obtain⟨t,rfl⟩:=rx;obtain⟨u,rfl,ru⟩:=vals1 rs;cases ru;obtain⟨UN,r,pl,hz⟩:=I.list hq;exact join_list pl.isList (by simpa using mU r) cA fun t' k=>⟨.str _,H,I.tok _,⟨_,rfl⟩,q⟩
theorem sP:ie X (binaryOp .Mult) (fun x y H Q=>∃z n,x=.str z/\y=.int n/\0<=n/\n<=4096/\z.length<=4095/\Q (.str (Txt.mul z n)) H):=by
 intro UL s σ H x y v u Q I rx ry h;obtain⟨z,n,rfl,rfl,h0,h1,h2,q⟩:=h;obtain⟨t,rfl⟩:=rx;obtain⟨t',rfl⟩:=ry;refine SB.mul ⟨?_,fun _ _=>?_,fun _ _=>?_⟩ fun t' k=>⟨.str _,H,I.tok _,⟨_,rfl⟩,q⟩
 ·have e1:decide (n < -(2 ^ 63:Int))=false:=Iv (by omega);have e2:decide (n≥2 ^ 63)=false:=Iv (by omega);rw[e1,e2];rfl
 ·by_cases hn:n=0
  ·subst hn;omega
  ·have:(2 ^ 63 - 1:Int) / n≥4096:=by
    refine(Int.le_ediv_iff_mul_le (by omega)).mpr ?_;omega
   omega
 ·have hm:z.length*n.toNat<=4095*4096:=Nat.mul_le_mul h2 (by omega);unfold tooLong;exact Iv (by rw[sizeLine_eq];omega)
end
end L2
namespace PySem
section
variable {prog:Program}{w:World}{A:Around}{E:Value->Shared->Prop}{R:Result->Shared->Prop}{s:Shared}
end
end PySem
namespace L2
open PySem PySem.Spec PyProof.Rows PySem.Builtin PySem.Builtin.Str
section
variable {X:Cx}{tg:Expr}
end
def oq (X:Cx) (scope:Scope) (cl:List (Str×Addr)) (C:Addr) (N':List Str) (s0:Shared) (H0:Hp) (fp:List Addr):Cx:=
 { X with N:=N',s₀:=s0,H₀:=H0,env:=compEnvC scope cl C X.env,outer:=X.stack,stack:=X.stack,ex:=fp,fn:=fun _=>false,pn:=[],xe:=fun _ _=>False }
section
variable {X:Cx}
end
end L2
namespace L2
open PySem PySem.Spec PyProof.Rows PySem.Builtin PySem.Builtin.Str
section
variable {X:Cx}
theorem jJ:∀{bs:List Bool}{us:List Value},U2 (bs.map V.bl) us->us=bs.map Value.bool
 | [],_,.nil=>rfl
 | b::bs,_,.cons r rr=>by
  have e:_=Value.bool b:=r;rw[e,jJ rr];rfl
theorem zC (bs:List Bool):(List.range bs.length).all (fun j=>(bs[j]?).getD true)=bs.all id:=by
 rw[Bool.eq_iff_iff,List.all_eq_true,List.all_eq_true];constructor
 ·intro h x hx;obtain⟨i,hi,rfl⟩:=List.mem_iff_getElem.mp hx;have:=h i (List.mem_range.mpr hi)
  simpa[hi] using this
 ·intro h j hj;have J2:=List.mem_range.mp hj;have:=h _ (List.getElem_mem J2)
  simpa[J2] using this
theorem zt (hc:X.calm=true):gf X (.builtin "all") (fun xs H Q=>∃(p:Addr) (bs:List Bool),xs=[.ref p]/\aS X.K H p (bs.map V.bl)/\Q (.bl (bs.all id)) H):=by
 intro UL s σ H xs us Q I r h;obtain⟨p,bs,rfl,hq,q⟩:=h;obtain⟨u,rfl,ru⟩:=vals1 r;cases ru;obtain⟨UN,rv,pl,hz⟩:=I.list hq;have ei:=jJ rv;subst ei;have JC:p < s.heap.objs.size:=let ⟨o,n,e,_⟩:=pl;Jj e;refine call_all_walk (wpAny_pyIter_list pl.isList ?_);refine⟨s.heap.objs.size,[s.heap.objs.size,p],[s.heap.objs.size],(bs.map Value.bool).toArray.size,_,_,(fun j=>(bs[j]?).getD true),rfl,
  Walks.list (A:=X.A.in1) (I.ok.hd hc) _ p (Jk JC) (bs.map Value.bool).toArray,⟨⟨_,Jn _ rfl,rfl,rfl⟩,?_⟩,fun i v s' Q' E' hP RS=>?_,fun h' tk k=>?_⟩
 ·obtain⟨o,ho,r⟩:=pl.isList;exact⟨o,IM _ ho,r⟩
 ·have Kr:(bs.map Value.bool)[i]?=some v:=by simpa using hP
  rw[IJ] at Kr;cases e:bs[i]? with
  | none=>rw[e] at Kr;cases Kr
  | some b=>
   rw[e] at Kr;have e':Value.bool b=v:=by simpa using Kr
   subst e';have hQ2:Q' b s':=by simpa[e] using RS
   exact wpAny_truthy_bool hQ2
 ·have e1:(bs.map Value.bool).toArray.size=bs.length:=by simp
  rw[e1,zC bs];refine⟨.bl _,H,I.kept fun b o e=>k b o ?_ (IM _ e),rfl,q⟩;intro hm;exact Jk (Jj e) (Vc.mp hm)
theorem Inv.big {UL σ H s}(I:Inv X UL σ H s):sysModules < s.heap.objs.size:=by
 have h:mainGlobals < s.heap.objs.size:=(I.mod.glob.keeps I.bk).lt;exact Nat.lt_trans (by decide) h
theorem rM {P w H}(h:Heap) (hb:sysModules < h.objs.size):dY P w H (h.push { cls:=.type "dict",data:=.dict #[] }) h.objs.size (.dK []):=
 ⟨Je _,beq_eq_false_iff_ne.mpr (U8 (Jk hb)),[],.nil,Heap.DictOf.new h⟩
def xa:TE:=fun _ H Q=>∀p,H p=none->Q (.ref p) (U1 H p (.dK []))
theorem bV {pos}:PE X (.Dict [] [] pos) xa:=fun UL s σ H Q I h=>
 wpAny_Dict_empty ⟨.ref s.heap.objs.size,_,I.laid (a:=s.heap.objs.size) (o:=.dK []) (t':=s.toks) (fun _ _ q=>IM _ q) (IE _) (rM s.heap I.big),rfl,h _ (I.cA.fresh (IE _))⟩
end
end L2
namespace GS
open PySem L2 PyProof.Rows
structure Def (P:Program) (w:World) (K:Fg06) (mg:Str->Option Value) (base:Heap) (name:Str) (ps:List Str) (k:Nat) (sp:Sp):Prop where
 ex:∃f fd,mg name=some (.ref f)/\PySem.W.keepIn K (.ref f)=true/\Binds K fd ps []/\bK P w K mg base fq k f fd ps sp
theorem sL {X name ps k k' sp e es t p pos}(F:Def X.prog X.w X.K X.mg X.base name ps k sp) (hr:cZ k' X.A) (hk:k<=k') (hg:Gl X name) (ha:PA X (e::es) t)
  (JR:(name == ("__debug__":Str))=false:=by decide) (he:starEach (e::es) X.env=(false,eval e X.env)::starEach es X.env:=by rfl) (JC:(backTo pos (starEach es X.env)).any (·.1)=false:=by rfl):
  PE X (.Call (.Name name p) (e::es) [] pos) (mS sp [] E0 t):=by
 obtain⟨f,fd,h1,h2,h3,h4⟩:=F.ex;exact Ab (h4.mono hk) hr hg h1 h2 h3 .nil yh ha JR he JC
theorem qe {X name ps k k' sp p pos}(F:Def X.prog X.w X.K X.mg X.base name ps k sp) (hr:cZ k' X.A) (hk:k<=k') (hg:Gl X name) (JR:(name == ("__debug__":Str))=false:=by decide):
  PE X (.Call (.Name name p) [] [] pos) (mS sp [] E0 oB):=by
 obtain⟨f,fd,h1,h2,h3,h4⟩:=F.ex;exact yf (h4.mono hk) hr hg h1 h2 h3 .nil yh JR
theorem DY {P w K mg base name ps k sp st f fd}(F:fm K name name st f fd) (hm:mg name=some (.ref f)) (hb:Binds K fd ps []) (h:bK P w K mg base fq k f fd ps sp):
  Def P w K mg base name ps k sp:=⟨f,fd,hm,F.kp,hb,h⟩
theorem qd {X x z pos}(hg:Gl X x) (hm:∃t,X.mg x=some (.int z t)) (hd:(x == ("__debug__":Str))=false:=by decide):PE X (.Name x pos) (tC (.int z)):=by
 obtain⟨t,e⟩:=hm;exact bA hg e ⟨t,rfl⟩ hd
theorem ab {H p}(h:H p=none) (o):ak H (U1 H p o):=fun b u q=>by rw[aD (cN q h)];exact q
theorem gz {H H' p}(e:ak H H') (h:H p=none) (o):ak H (U1 H' p o):=fun b u q=>by rw[aD (cN q h)];exact e b u q
theorem small {n}(h:n<=1000000):n<=sizeLine:=by rw[sizeLine_eq];omega
end GS
namespace L3
open PySem PySem.Spec PyProof.Rows L2
@[irreducible] def LE (X:Cx) (e:Expr) (t:TE):Prop:=PE X e t
@[irreducible] def LT (X:Cx) (e:Expr) (t:TT):Prop:=PT X e t
@[irreducible] def LW (X:Cx) (e:Expr) (t:TT):Prop:=PW X e t
@[irreducible] def LA (X:Cx) (es:List Expr) (t:TA):Prop:=PA X es t
@[irreducible] def LO (X:Cx) (e:Option Expr) (t:TO):Prop:=PO X e t
@[irreducible] def LG (X:Cx) (e:Expr) (t:TG):Prop:=PG X e t
@[irreducible] def zI (X:Cx) (es:List Expr) (t:AV):Prop:=Eh X es t
@[irreducible] def LI (X:Cx) (tg e:Expr) (t:TI):Prop:=PI X tg e t
@[irreducible] def LS (X:Cx) (st:Stmt) (t:TS):Prop:=PS X st t
@[irreducible] def sf (X:Cx) (st:List Stmt) (t:TS):Prop:=se X st t
section
variable {X:Cx}{e a b c o tg:Expr}{es rest:List Expr}{oe lo hi:Option Expr}{st:Stmt}{sts:List Stmt}{te ta tb to:TE}{tA tB' tc:TT}{tl th:TO}{t:TA}{ts us:TS}{LF:TG}{tgs:AV}{wi:TI}{pos p p2 UU US:Pos}
theorem LE.mk (h:PE X e te):LE X e te:=by unfold LE;exact h
theorem LE.out (h:LE X e te):PE X e te:=by unfold LE at h;exact h
theorem LT.mk (h:PT X e tA):LT X e tA:=by unfold LT;exact h
theorem LT.out (h:LT X e tA):PT X e tA:=by unfold LT at h;exact h
theorem LW.mk (h:PW X e tA):LW X e tA:=by unfold LW;exact h
theorem LW.out (h:LW X e tA):PW X e tA:=by unfold LW at h;exact h
theorem LA.mk (h:PA X es t):LA X es t:=by unfold LA;exact h
theorem LA.out (h:LA X es t):PA X es t:=by unfold LA at h;exact h
theorem LO.mk (h:PO X oe tl):LO X oe tl:=by unfold LO;exact h
theorem LO.out (h:LO X oe tl):PO X oe tl:=by unfold LO at h;exact h
theorem LG.mk (h:PG X e LF):LG X e LF:=by unfold LG;exact h
theorem LG.out (h:LG X e LF):PG X e LF:=by unfold LG at h;exact h
theorem zI.mk (h:Eh X es tgs):zI X es tgs:=by unfold zI;exact h
theorem zI.out (h:zI X es tgs):Eh X es tgs:=by unfold zI at h;exact h
theorem LI.mk (h:PI X tg e wi):LI X tg e wi:=by unfold LI;exact h
theorem LI.out (h:LI X tg e wi):PI X tg e wi:=by unfold LI at h;exact h
theorem LS.mk (h:PS X st ts):LS X st ts:=by unfold LS;exact h
theorem LS.out (h:LS X st ts):PS X st ts:=by unfold LS at h;exact h
theorem sf.mk (h:se X sts ts):sf X sts ts:=by unfold sf;exact h
theorem sf.out (h:sf X sts ts):se X sts ts:=by unfold sf at h;exact h
theorem ag {i j}:LE X (.Constant (.int i) j pos) (tC (.int i)):=.mk L2.ag
theorem gA {b j}:LE X (.Constant (.bool b) j pos) (tC (.bl b)):=.mk L2.gA
theorem cE {j}:LE X (.Constant .none j pos) (tC .bb):=.mk L2.cE
theorem aj {x j}:LE X (.Constant (.str x) j pos) (tC (.str x)):=.mk L2.aj
theorem pv (i) {x}(hN:X.N[i]?=some x:=by rfl) (hv:GX X.env.scope x:=by first | exact Or.inl rfl | exact Or.inr (Or.inl rfl) | exact Or.inr (Or.inr rfl)) (hd:(x == ("__debug__":Str))=false:=by decide)
  (K0:(x == ("__classdict__":Str))=false:=by decide):LE X (.Name x pos) (vA i):=.mk (L2.pv i hN hv hd K0)
theorem bA {x v u}(hg:Gl X x) (hm:X.mg x=some u) (r:RelV v u) (hd:(x == ("__debug__":Str))=false:=by decide):LE X (.Name x pos) (tC v):=.mk (L2.bA hg hm r hd)
theorem fN {x v u}(hg:Gl X x) (hm:X.mg x=none) (hv:bootBuiltins x=some u) (r:RelV v u) (hn:x≠"__name__":=by decide) (hd:(x == ("__debug__":Str))=false:=by decide):LE X (.Name x pos) (tC v):=.mk (L2.fN hg hm hv r hn hd)
theorem qd {x z}(hg:Gl X x) (hm:∃t,X.mg x=some (.int z t)) (hd:(x == ("__debug__":Str))=false:=by decide):LE X (.Name x pos) (tC (.int z)):=.mk (GS.qd hg hm hd)
theorem aB {op r}(ho:ie X (binaryOp op) r) (ha:LE X a ta) (hb:LE X b tb):LE X (.BinOp a op b pos) (su r ta tb):=.mk (L2.aB ho ha.out hb.out)
theorem iw {op r}(ho:GY X (unaryOp op) r) (ha:LE X a ta):LE X (.UnaryOp op a pos) (tUn r ta):=.mk (L2.iw ho ha.out)
theorem fu {op r}(ho:ie X (compareOp op) r) (ha:LE X a ta) (hb:LE X b tb) (hm:behindInMarks op b=false):LE X (.Compare a [op] [b] pos) (su r ta tb):=.mk (L2.fu ho ha.out hb.out hm)
theorem d9 {op}(h:LE X a te):LE X (.BoolOp op [a] pos) te:=.mk (L2.d9 h.out)
theorem fh (ha:LE X a ta) (hb:LE X (.BoolOp .And (b::rest) pos) tb):LE X (.BoolOp .And (a::b::rest) pos) (A7 ta tb):=.mk (L2.fh ha.out hb.out)
theorem iT (ha:LE X a ta) (hb:LE X (.BoolOp .Or (b::rest) pos) tb):LE X (.BoolOp .Or (a::b::rest) pos) (Ez ta tb):=.mk (L2.iT ha.out hb.out)
theorem bC (hc:LT X c tA) (ha:LE X a ta) (hb:LE X b tb):LE X (.IfExp c a b pos) (tIf tA ta tb):=.mk (L2.bC hc.out ha.out hb.out)
theorem dz {r}(hr:zF X r) (ha:LE X a ta) (hb:LE X b tb) (hs:qH b):LE X (.Subscript a b pos) (su r ta tb):=.mk (L2.dz hr ha.out hb.out hs)
theorem bD:LO X none ug:=.mk L2.bD
theorem bz (h:LE X e te):LO X (some e) (A0 te):=.mk (L2.bz h.out)
theorem bg {r}(hr:wN X r) (he:LE X e te) (hl:LO X lo tl) (hu:LO X hi th):LE X (.Subscript e (.Slice lo hi none p2) pos) (tSl r te tl th):=.mk (L2.bg hr he.out hl.out hu.out)
theorem bc:LA X [] oB:=.mk L2.bc
theorem aI (ha:LE X e te) (hr:LA X es t) (hs:starEach (e::es) X.env=(false,eval e X.env)::starEach es X.env:=by rfl):LA X (e::es) (gP te t):=.mk (L2.aI ha.out hr.out hs)
theorem aY (h:LA X es t):LE X (.List es pos) (ED t):=.mk (L2.aY h.out)
theorem ba {k}(h:LA X es t):LE X (.Tuple es k pos) (BG t):=.mk (L2.ba h.out)
theorem bV:LE X (.Dict [] [] pos) xa:=.mk L2.bV
theorem au {x id r}(hc:gf X (.builtin id) r) (hg:Gl X x) (hm:X.mg x=none) (hv:bootBuiltins x=some (.builtin id)) (ha:LA X (e::es) t) (hn:x≠"__name__":=by decide) (JR:(x == ("__debug__":Str))=false:=by decide)
  (he:starEach (e::es) X.env=(false,eval e X.env)::starEach es X.env:=by rfl) (JC:(backTo pos (starEach es X.env)).any (·.1)=false:=by rfl):LE X (.Call (.Name x p) (e::es) [] pos) (GL r t):=.mk (L2.au hc hg hm hv ha.out hn JR he JC)
theorem bE {x T r}(hc:gf X (.type T) r) (hg:Gl X x) (hm:X.mg x=none) (hv:bootBuiltins x=some (.type T)) (ha:LA X (e::es) t) (hn:x≠"__name__":=by decide) (JR:(x == ("__debug__":Str))=false:=by decide)
  (he:starEach (e::es) X.env=(false,eval e X.env)::starEach es X.env:=by rfl) (JC:(backTo pos (starEach es X.env)).any (·.1)=false:=by rfl):LE X (.Call (.Name x p) (e::es) [] pos) (GL r t):=.mk (L2.bE hc hg hm hv ha.out hn JR he JC)
theorem dQ {T id name r}(pa:PlainAttrs T) (slot:Slot T name id) (OP:typeOf (.builtin id)=pure (.type "method_descriptor")) (hm:G0 X id r) (ho:LE X o to) (ha:LA X (e::es) t)
  (JA:attributeBase o name X.env (eval o X.env)=eval o X.env:=by rfl)
  (JW:((backTo US (starEach (e::es) X.env)).all (fun x=>!x.1)&&(backToKw US (keywordEach [] X.env)).all (fun x=>x.1.isSome)
   &&decide ((e::es).length+([]:List Keyword).length+(if([]:List Keyword).isEmpty then 0 else 1) < 30))=true:=by rfl)
  (Jz:(UU.endLine == US.line)=true:=by rfl) (hs:starEach (e::es) X.env=(false,eval e X.env)::starEach es X.env:=by rfl) (Jy:(backTo US (starEach es X.env)).any (·.1)=false:=by rfl):
  LE X (.Call (.Attribute o name UU) (e::es) [] US) (G9 X.K T r to t):=.mk (L2.dQ pa slot OP hm ho.out ha.out JA JW Jz hs Jy)
theorem sL {name ps k k' sp}(F:GS.Def X.prog X.w X.K X.mg X.base name ps k sp) (hr:cZ k' X.A) (hk:k<=k') (hg:Gl X name) (ha:LA X (e::es) t)
  (JR:(name == ("__debug__":Str))=false:=by decide) (he:starEach (e::es) X.env=(false,eval e X.env)::starEach es X.env:=by rfl) (JC:(backTo pos (starEach es X.env)).any (·.1)=false:=by rfl):
  LE X (.Call (.Name name p) (e::es) [] pos) (mS sp [] E0 t):=.mk (GS.sL F hr hk hg ha.out JR he JC)
theorem qe {name ps k k' sp}(F:GS.Def X.prog X.w X.K X.mg X.base name ps k sp) (hr:cZ k' X.A) (hk:k<=k') (hg:Gl X name) (JR:(name == ("__debug__":Str))=false:=by decide):
  LE X (.Call (.Name name p) [] [] pos) (mS sp [] E0 oB):=.mk (GS.qe F hr hk hg JR)
theorem cp {op r}(ho:ie X (compareOp op) r) (ha:LE X a ta) (hb:LE X b tb) (hm:behindInMarks op b=false):LT X (.Compare a [op] [b] pos) (uf (su r ta tb)):=.mk (L2.cp ho ha.out hb.out hm)
theorem bS (h:LE X e te) (he:∀whole,isTrue e X.env whole=(do let v <-whole;standAt e.pos;holding [v] (truthy v)):=by intro _;rfl):LT X e (tB te):=.mk (L2.bS h.out he)
theorem fP (ha:LT X a tA):LT X (.UnaryOp .Not a pos) (EB tA):=.mk (L2.fP ha.out)
theorem d6 (ha:LT X a tA):LW X (.BoolOp .And [a] pos) tA:=.mk (L2.d6 ha.out)
theorem fg (ha:LT X a tA):LW X (.BoolOp .Or [a] pos) tA:=.mk (L2.fg ha.out)
theorem fE (ha:LT X a tA) (hb:LW X (.BoolOp .And (b::rest) pos) tB'):LW X (.BoolOp .And (a::b::rest) pos) (EH tA tB'):=.mk (L2.fE ha.out hb.out)
theorem gk (ha:LT X a tA) (hb:LW X (.BoolOp .Or (b::rest) pos) tB'):LW X (.BoolOp .Or (a::b::rest) pos) (tOr tA tB'):=.mk (L2.gk ha.out hb.out)
theorem LW.pt (h:LW X e tA):LT X e tA:=.mk (L2.PW.pt h.out)
theorem cR {i x}(hN:X.N.Nodup) (hi:X.N[i]?=some x) (hx:Loc X.env.scope x) (hf:X.fn x=true\/X.env.scope.names.lookup x=some .local:=by first | exact .inl rfl | exact .inr rfl | assumption):LG X (.Name x pos) (iz i):=.mk (L2.cR hN hi hx hf)
theorem eJ:zI X [] AB:=.mk L2.eJ
theorem cb (h1:LG X e LF) (h2:zI X es tgs) (hs:(assignEach (e::es) X.env).map (·.2)=assign e X.env::(assignEach es X.env).map (·.2):=by rfl):zI X (e::es) (pE LF tgs):=.mk (L2.cb h1.out h2.out hs)
theorem fT {k n}(hc:X.calm=true) (h:zI X es tgs) (hn:(assignEach es X.env).length=n:=by rfl) (Km:(assignEach es X.env).findIdx? (·.1)=none:=by rfl):LG X (.Tuple es k pos) (AA X.K n tgs):=.mk (L2.fT hc h.out hn Km)
theorem bL (hl:LE X e te):LI X tg e (Bp X.K te):=.mk (L2.bL hl.out)
theorem eI (hl:LE X e te):LI X tg e (F9 X.K te):=.mk (L2.eI hl.out)
theorem bQ (hg:Gl X "range") (hm:X.mg "range"=none) (ha:LA X [a] t) (hs:starEach [a] X.env=[(false,eval a X.env)]:=by rfl):LI X tg (.Call (.Name "range" p) [a] [] pos) (Bo t):=.mk (L2.bQ hg hm ha.out hs)
theorem aJ (he:LE X e te):LS X (.Return (some e) pos) (BH te):=.mk (L2.aJ he.out)
theorem bT (he:LE X e te) (hs:swapsWith e none pos.line X.env=pure false:=by rfl):LS X (.Expr e pos) (A4 te):=.mk (L2.bT he.out hs)
theorem fQ {i x pos'}(hN:X.N.Nodup) (hi:X.N[i]?=some x) (hx:Loc X.env.scope x) (he:LE X e te) (hs:swapsWith e (some (.Name x pos')) pos.line X.env=pure false:=by rfl)
  (hf:X.fn x=true\/X.env.scope.names.lookup x=some .local:=by first | exact .inl rfl | exact .inr rfl | assumption):LS X (.Assign [.Name x pos'] e pos) (xf te (iz i)):=.mk (L2.fQ hN hi hx he.out hs hf)
theorem gu (he:LE X e te) (hg:LG X tg LF) (hs:swapsWithSole [tg] e pos.line X.env=pure false:=by rfl) (hw:swappedStores [tg] e X.env=pure none:=by rfl) (h1:(assignEach [tg] X.env).map (·.2)=[assign tg X.env]:=by rfl):
  LS X (.Assign [tg] e pos) (xf te LF):=.mk (L2.gu he.out hg.out hs hw h1)
theorem bo {a b}(hc:LT X c tc) (ha:sf X a ts) (hb:sf X b us):LS X (.If c a b pos) (EE tc ts us):=.mk (L2.bo hc.out ha.out hb.out)
theorem eS {body}(hp:PassesOwn (model X.prog X.w) X.A X.env X.xe) (hc:LT X c tc) (hb:sf X body ts):LS X (.While c body [] pos) (wZ tc ts):=.mk (L2.eS hp hc.out hb.out)
theorem cL {iter body}(hp:PassesOwn (model X.prog X.w) X.A X.env X.xe) (hc:X.calm=true) (hi:LI X tg iter wi) (hg:LG X tg LF) (hb:sf X body ts)
  (hs:∀x,foldedSetIterable iter X.env x=pure x:=by intro _;rfl):LS X (.For tg iter body [] pos) (EF wi LF ts):=.mk (L2.cL hp hc hi.out hg.out hb.out hs)
theorem gs {t'}(h:LS X st ts) (hi:∀D σ H,t' D σ H->ts D σ H):LS X st t':=.mk fun UL s σ H D I q=>h.out UL s σ H D I (hi D σ H q)
theorem aP:sf X [] A2:=.mk L2.aP
theorem aa (h1:LS X st ts) (h2:sf X sts us):sf X (st::sts) (zS ts us):=.mk (L2.aa h1.out h2.out)
theorem ah (h1:LS X st ts):sf X [st] ts:=.mk (L2.ah h1.out)
end
end L3
namespace L2
open PySem PySem.Spec PyProof.Rows
theorem fm.GQ {P w K mg base x UP st f fd N ps k sp}(F:fm K x UP st f fd) (S:aQ N ps (aC st)) (len:∀vs H Q E,sp vs H Q E->vs.length=ps.length)
  (JX:∀UO A outer s H vs Q E,cZ k (A.deeper (envOfC UP (aC st) s.heap.objs.size f UO))->sp vs H Q E->
   ∃t,L3.sf (rR fq P w K mg base N UP (aC st) f UO A outer s H E).Ep (gH st) t/\t { nx:=fun _ H'=>Q .bb H',rt:=Q } (start N vs) H):bK P w K mg base fq (k+1) f fd ps sp:=
 F.ok S len fun UO A outer s H vs Q E hr h=>let ⟨t,h1,h2⟩:=JX UO A outer s H vs Q E hr h;⟨t,h1.out,h2⟩
end L2
namespace GS
open PySem L2 PyProof.Rows
inductive D where
 | bb | bl (b:Bool) | int (i:Int) | str (x:Str) | tup (xs:List D)
mutual
def At (K:Fg06) (H:Hp):D->V->Prop
 | .bb,v=>v=.bb
 | .bl b,v=>v=.bl b
 | .int i,v=>v=.int i
 | .str x,v=>v=.str x
 | .tup ds,v=>∃p vs,v=.ref p/\gq K H p vs/\aE K H ds vs
def aE (K:Fg06) (H:Hp):List D->List V->Prop
 | [],vs=>vs=[]
 | d::ds,vs=>∃v r,vs=v::r/\At K H d v/\aE K H ds r
end
section
variable {K:Fg06}{H H':Hp}
theorem bf {ds v}:At K H (.tup ds) v↔∃p vs,v=.ref p/\gq K H p vs/\aE K H ds vs:=by rw[At]
theorem aZ {vs}:aE K H [] vs↔vs=[]:=by rw[aE]
theorem aX {d ds vs}:aE K H (d::ds) vs↔∃v r,vs=v::r/\At K H d v/\aE K H ds r:=by rw[aE]
theorem cU {v}:At K H .bb v↔v=.bb:=by rw[At]
theorem dZ {b v}:At K H (.bl b) v↔v=.bl b:=by rw[At]
theorem bG {i v}:At K H (.int i) v↔v=.int i:=by rw[At]
theorem aH {x v}:At K H (.str x) v↔v=.str x:=by rw[At]
theorem ak.oE {a xs}(e:ak H H') (h:gq K H a xs):gq K H' a xs:=by
 rcases h with (h | ⟨o,h⟩) | h
 ·exact .inl (.inl (e _ _ h))
 ·exact .inl (.inr ⟨o,e _ _ h⟩)
 ·exact .inr h
mutual
theorem At.same (e:ak H H'):∀d v,At K H d v->At K H' d v
 | .bb,_,h=>cU.mpr (cU.mp h)
 | .bl _,_,h=>dZ.mpr (dZ.mp h)
 | .int _,_,h=>bG.mpr (bG.mp h)
 | .str _,_,h=>aH.mpr (aH.mp h)
 | .tup ds,_,h=>by
  obtain⟨p,vs,rfl,h1,h2⟩:=bf.mp h;exact bf.mpr ⟨p,vs,rfl,ak.oE e h1,aE.same e ds vs h2⟩
theorem aE.same (e:ak H H'):∀ds vs,aE K H ds vs->aE K H' ds vs
 | [],_,h=>aZ.mpr (aZ.mp h)
 | d::ds,_,h=>by
  obtain⟨v,r,rfl,h1,h2⟩:=aX.mp h;exact aX.mpr ⟨v,r,rfl,At.same e d v h1,aE.same e ds r h2⟩
end
theorem aE.len:∀{ds vs},aE K H ds vs->vs.length=ds.length
 | [],_,h=>by rw[aZ.mp h];rfl
 | d::ds,_,h=>by
  obtain⟨v,r,rfl,_,h2⟩:=aX.mp h;rw[IT,IT,aE.len h2]
theorem aE.get:∀{ds vs}{i:Nat} {d},aE K H ds vs->ds[i]?=some d->∃v,vs[i]?=some v/\At K H d v
 | [],_,i,d,_,e=>by simp at e
 | d0::ds,_,0,d,h,e=>by
  obtain⟨v,r,rfl,h1,_⟩:=aX.mp h;have:d0=d:=by simpa using e
  subst this;exact⟨v,rfl,h1⟩
 | d0::ds,_,i+1,d,h,e=>by
  obtain⟨v,r,rfl,_,h2⟩:=aX.mp h;obtain⟨u,e1,e2⟩:=aE.get h2 (by simpa using e);exact⟨u,by simpa using e1,e2⟩
theorem aE.append:∀{ds es vs ws},aE K H ds vs->aE K H es ws->aE K H (ds++es) (vs++ws)
 | [],_,_,_,h,h'=>by rw[aZ.mp h];exact h'
 | d::ds,_,_,_,h,h'=>by
  obtain⟨v,r,rfl,h1,h2⟩:=aX.mp h;exact aX.mpr ⟨v,_,rfl,h1,aE.append h2 h'⟩
end
section
variable {X:Cx}{UL:List (Addr×Obj)}{σ:L2.St}{H:Hp}{s:Shared}
mutual
theorem At.one (I:Inv X UL σ H s):∀d e v,At X.K H d v->At X.K H e v->d=e
 | .bb,e,v,h,h'=>by
  rw[cU.mp h] at h';cases e with
  | bb=>rfl
  | tup ds=>obtain⟨p,vs,z,_⟩:=bf.mp h';cases z
  | bl b=>cases dZ.mp h'
  | int i=>cases bG.mp h'
  | str x=>cases aH.mp h'
 | .bl b,e,v,h,h'=>by
  rw[dZ.mp h] at h';cases e with
  | bl c=>cases dZ.mp h';rfl
  | tup ds=>obtain⟨p,vs,z,_⟩:=bf.mp h';cases z
  | bb=>cases cU.mp h'
  | int i=>cases bG.mp h'
  | str x=>cases aH.mp h'
 | .int i,e,v,h,h'=>by
  rw[bG.mp h] at h';cases e with
  | int c=>cases bG.mp h';rfl
  | tup ds=>obtain⟨p,vs,z,_⟩:=bf.mp h';cases z
  | bb=>cases cU.mp h'
  | bl i=>cases dZ.mp h'
  | str x=>cases aH.mp h'
 | .str x,e,v,h,h'=>by
  rw[aH.mp h] at h';cases e with
  | str c=>cases aH.mp h';rfl
  | tup ds=>obtain⟨p,vs,z,_⟩:=bf.mp h';cases z
  | bb=>cases cU.mp h'
  | bl i=>cases dZ.mp h'
  | int x=>cases bG.mp h'
 | .tup ds,e,v,h,h'=>by
  obtain⟨p,vs,rfl,h1,h2⟩:=bf.mp h;cases e with
  | tup es=>
   obtain⟨q,ws,z,g1,g2⟩:=bf.mp h';cases z;have e1:=I.oV h1 g1;subst e1;rw[aE.one I ds es vs h2 g2]
  | bb=>cases cU.mp h'
  | bl i=>cases dZ.mp h'
  | int x=>cases bG.mp h'
  | str x=>cases aH.mp h'
theorem aE.one (I:Inv X UL σ H s):∀ds es vs,aE X.K H ds vs->aE X.K H es vs->ds=es
 | [],[],_,_,_=>rfl
 | [],_::_,_,h,h'=>by
  rw[aZ.mp h] at h';obtain⟨v,r,z,_⟩:=aX.mp h';cases z
 | d::ds,[],_,h,h'=>by
  rw[aZ.mp h'] at h;obtain⟨v,r,z,_⟩:=aX.mp h;cases z
 | d::ds,e::es,_,h,h'=>by
  obtain⟨v,r,rfl,h1,h2⟩:=aX.mp h;obtain⟨v',r',z,g1,g2⟩:=aX.mp h';cases z;rw[At.one I d e v h1 g1,aE.one I ds es r h2 g2]
end
end
mutual
def cm:D->D->Bool
 | .bb,.bb=>true
 | .bl a,.bl b=>a == b
 | .bl a,.int b=>(if a then 1 else 0) == b
 | .int a,.bl b=>a == (if b then 1 else 0)
 | .int a,.int b=>a == b
 | .str a,.str b=>a == b
 | .tup xs,.tup ys=>fX xs ys
 | _,_=>false
def fX:List D->List D->Bool
 | [],[]=>true
 | x::xs,y::ys=>cm x y&&fX xs ys
 | _,_=>false
end
mutual
def dep:D->Nat
 | .tup xs=>cJ xs+1
 | _=>0
def cJ:List D->Nat
 | []=>0
 | x::xs=>max (dep x) (cJ xs)
end
theorem nW (b'):cm .bb (.bl b')=false:=by rw[cm]<;>nofun
theorem jc (i'):cm .bb (.int i')=false:=by rw[cm]<;>nofun
theorem jb (x'):cm .bb (.str x')=false:=by rw[cm]<;>nofun
theorem ja (MN):cm .bb (.tup MN)=false:=by rw[cm]<;>nofun
theorem nZ (b):cm (.bl b) .bb=false:=by rw[cm]<;>nofun
theorem nY (b x'):cm (.bl b) (.str x')=false:=by rw[cm]<;>nofun
theorem nX (b MN):cm (.bl b) (.tup MN)=false:=by rw[cm]<;>nofun
theorem jf (i):cm (.int i) .bb=false:=by rw[cm]<;>nofun
theorem je (i x'):cm (.int i) (.str x')=false:=by rw[cm]<;>nofun
theorem jd (i MN):cm (.int i) (.tup MN)=false:=by rw[cm]<;>nofun
theorem i8 (x):cm (.str x) .bb=false:=by rw[cm]<;>nofun
theorem nV (x b'):cm (.str x) (.bl b')=false:=by rw[cm]<;>nofun
theorem i9 (x i'):cm (.str x) (.int i')=false:=by rw[cm]<;>nofun
theorem i7 (x MN):cm (.str x) (.tup MN)=false:=by rw[cm]<;>nofun
theorem i5 (xs):cm (.tup xs) .bb=false:=by rw[cm]<;>nofun
theorem nU (xs b'):cm (.tup xs) (.bl b')=false:=by rw[cm]<;>nofun
theorem i6 (xs i'):cm (.tup xs) (.int i')=false:=by rw[cm]<;>nofun
theorem i4 (xs x'):cm (.tup xs) (.str x')=false:=by rw[cm]<;>nofun
theorem uY:dep .bb=0:=by rw[dep]<;>nofun
theorem qz (b):dep (.bl b)=0:=by rw[dep]<;>nofun
theorem gG (i):dep (.int i)=0:=by rw[dep]<;>nofun
theorem cK (x):dep (.str x)=0:=by rw[dep]<;>nofun
theorem qy:∀{ds}{i:Nat} {d},ds[i]?=some d->dep d<=cJ ds
 | [],i,d,e=>by simp at e
 | x::xs,0,d,e=>by
  have:x=d:=by simpa using e
  subst this;rw[cJ];exact Nat.le_max_left ..
 | x::xs,i+1,d,e=>by
  have:=qy (ds:=xs) (i:=i) (d:=d) (by simpa using e);rw[cJ];exact ID this (Nat.le_max_right ..)
mutual
theorem cI:∀d:D,cm d d=true
 | .bb=>rfl
 | .bl b=>by rw[cm];exact beq_self_eq_true b
 | .int i=>by rw[cm];exact beq_self_eq_true i
 | .str x=>by rw[cm];exact beq_self_eq_true x
 | .tup xs=>by rw[cm];exact lP xs
theorem lP:∀ds:List D,fX ds ds=true
 | []=>by rw[fX]
 | d::ds=>by rw[fX,cI d,lP ds];rfl
end
theorem rK:∀ds es,fX ds es=true↔ds.length=es.length/\∀(j:Nat) d e,ds[j]?=some d->es[j]?=some e->cm d e=true
 | [],[]=>by rw[fX];simp
 | [],e::es=>by
  have h:fX [] (e::es)=false:=by rw[fX]<;>nofun
  rw[h];simp
 | d::ds,[]=>by
  have h:fX (d::ds) []=false:=by rw[fX]<;>nofun
  rw[h];simp
 | d::ds,e::es=>by
  rw[fX,Vh,rK ds es];constructor
  ·rintro⟨h1,h2,h3⟩;refine⟨by simp[h2],fun j d' e' a b=>?_⟩;cases j with
   | zero=>
    have e1:d=d':=by simpa using a
    have e2:e=e':=by simpa using b
    subst e1 e2;exact h1
   | succ j=>exact h3 j d' e' (by simpa using a) (by simpa using b)
  ·rintro⟨h1,h2⟩;exact⟨h2 0 d e rfl rfl,by simpa using h1,fun j d' e' a b=>h2 (j+1) d' e' (by simpa using a) (by simpa using b)⟩
theorem rL (ds es:List D):((List.range (min ds.length es.length)).all (fun j=>cm (ds.getD j .bb) (es.getD j .bb))&&ds.length == es.length)=fX ds es:=by
 rw[Bool.eq_iff_iff,Vh,rK,List.all_eq_true,beq_iff_eq];constructor
 ·rintro⟨h1,h2⟩;refine⟨h2,fun j d e a b=>?_⟩;have hj:j < ds.length:=(Ja.mp a).1;have:=h1 j (List.mem_range.mpr (by omega));rw[Iz,Iz,a,b] at this;exact this
 ·rintro⟨h1,h2⟩;refine⟨fun j hj=>?_,h1⟩;have J2:=List.mem_range.mp hj;have a:ds[j]?=some ds[j]:=Iy (by omega);have b:es[j]?=some es[j]:=Iy (by omega);rw[Iz,Iz,a,b];exact h2 j _ _ a b
section
variable {X:Cx}{UL:List (Addr×Obj)}{σ:L2.St}{H:Hp}{s:Shared}
theorem tI (I:Inv X UL σ H s):∀(n:Nat) d e A x y u v,dep d<=n->RelV x u->RelV y v->At X.K H d x->At X.K H e y->A.units+n < cLine->SeqAt.EqAt A s u v (cm d e):=by
 intro n
 induction n with
 | zero=>
  intro d e A x y u v hd rx ry hx hy hu;cases d with
  | tup ds=>rw[dep] at hd;omega
  | bb=>
   have ex:=cU.mp hx;subst ex;cases rx;cases e with
   | bb=>have ey:=cU.mp hy;subst ey;cases ry;rw[cm];exact SeqAt.EqAt.same _
   | bl b=>have ey:=dZ.mp hy;subst ey;cases ry;rw[nW];exact SeqAt.EqAt.none_bool b
   | int b=>have ey:=bG.mp hy;subst ey;obtain⟨t,rfl⟩:=ry;rw[jc];exact SeqAt.EqAt.none_int b t
   | str b=>have ey:=aH.mp hy;subst ey;obtain⟨t,rfl⟩:=ry;rw[jb];exact SeqAt.EqAt.none_str b t
   | tup es=>
    obtain⟨p,vs,rfl,h1,_⟩:=bf.mp hy;cases ry;obtain⟨UN,rv,ht,_⟩:=I.tuple h1;rw[ja];exact SeqAt.EqAt.none_tuple ht (by omega)
  | bl a=>
   have ex:=dZ.mp hx;subst ex;cases rx;cases e with
   | bb=>have ey:=cU.mp hy;subst ey;cases ry;rw[nZ];exact SeqAt.EqAt.bool_none a
   | bl b=>have ey:=dZ.mp hy;subst ey;cases ry;rw[cm];exact SeqAt.EqAt.bool_bool a b
   | int b=>have ey:=bG.mp hy;subst ey;obtain⟨t,rfl⟩:=ry;rw[cm];exact SeqAt.EqAt.bool_int a b t
   | str b=>have ey:=aH.mp hy;subst ey;obtain⟨t,rfl⟩:=ry;rw[nY];exact SeqAt.EqAt.bool_str a b t
   | tup es=>
    obtain⟨p,vs,rfl,h1,_⟩:=bf.mp hy;cases ry;obtain⟨UN,rv,ht,_⟩:=I.tuple h1;rw[nX];exact SeqAt.EqAt.bool_tuple a ht (by omega)
  | int a=>
   have ex:=bG.mp hx;subst ex;obtain⟨t',rfl⟩:=rx;cases e with
   | bb=>have ey:=cU.mp hy;subst ey;cases ry;rw[jf];exact SeqAt.EqAt.int_none a t'
   | bl b=>have ey:=dZ.mp hy;subst ey;cases ry;rw[cm];exact SeqAt.EqAt.int_bool a t' b
   | int b=>have ey:=bG.mp hy;subst ey;obtain⟨t,rfl⟩:=ry;rw[cm];exact SeqAt.EqAt.int_int a t' b t
   | str b=>have ey:=aH.mp hy;subst ey;obtain⟨t,rfl⟩:=ry;rw[je];exact SeqAt.EqAt.int_str a t' b t
   | tup es=>
    obtain⟨p,vs,rfl,h1,_⟩:=bf.mp hy;cases ry;obtain⟨UN,rv,ht,_⟩:=I.tuple h1;rw[jd];exact SeqAt.EqAt.int_tuple a t' ht (by omega)
  | str a=>
   have ex:=aH.mp hx;subst ex;obtain⟨t',rfl⟩:=rx;cases e with
   | bb=>have ey:=cU.mp hy;subst ey;cases ry;rw[i8];exact SeqAt.EqAt.str_none a t'
   | bl b=>have ey:=dZ.mp hy;subst ey;cases ry;rw[nV];exact SeqAt.EqAt.str_bool a t' b
   | int b=>have ey:=bG.mp hy;subst ey;obtain⟨t,rfl⟩:=ry;rw[i9];exact SeqAt.EqAt.str_int a t' b t
   | str b=>have ey:=aH.mp hy;subst ey;obtain⟨t,rfl⟩:=ry;rw[cm];exact SeqAt.EqAt.str_str a t' b t
   | tup es=>
    obtain⟨p,vs,rfl,h1,_⟩:=bf.mp hy;cases ry;obtain⟨UN,rv,ht,_⟩:=I.tuple h1;rw[i7];exact SeqAt.EqAt.str_tuple a t' ht (by omega)
 | succ n ih=>
  intro d e A x y u v hd rx ry hx hy hu;cases d with
  | tup ds=>
   obtain⟨p,vs,rfl,h1,h2⟩:=bf.mp hx;cases rx;obtain⟨UN,rv,ht,_⟩:=I.tuple h1;cases e with
   | bb=>have ey:=cU.mp hy;subst ey;cases ry;rw[i5];exact SeqAt.EqAt.tuple_none ht (by omega)
   | bl b=>have ey:=dZ.mp hy;subst ey;cases ry;rw[nU];exact SeqAt.EqAt.tuple_bool b ht (by omega)
   | int b=>have ey:=bG.mp hy;subst ey;obtain⟨t,rfl⟩:=ry;rw[i6];exact SeqAt.EqAt.tuple_int b t ht (by omega)
   | str b=>have ey:=aH.mp hy;subst ey;obtain⟨t,rfl⟩:=ry;rw[i4];exact SeqAt.EqAt.tuple_str b t ht (by omega)
   | tup es=>
    obtain⟨q,ws,rfl,g1,g2⟩:=bf.mp hy;cases ry;obtain⟨UX,Jt,hq,_⟩:=I.tuple g1;rw[cm];by_cases S6:p=q
    ·subst S6;have e1:=At.one I (.tup ds) (.tup es) (.ref p) hx hy;injection e1 with e2;rw[e2,lP];exact SeqAt.EqAt.same _
    ·have l1:UN.length=ds.length:=by rw[<-rv.length];exact aE.len h2
     have l2:UX.length=es.length:=by rw[<-Jt.length];exact aE.len g2
     have R:=SeqAt.RcAt.tuples (A:=A) (s:=s) (e:=fun j=>cm (ds.getD j .bb) (es.getD j .bb)) (show s.heap.IsTuple p UN.toArray from ht) (show s.heap.IsTuple q UX.toArray from hq) (by omega) (fun j k1 k2=>by
      have Rh:j < ds.length:=by simpa[l1] using k1
      have Rg:j < es.length:=by simpa[l2] using k2
      have a:ds[j]?=some ds[j]:=Iy Rh;have b:es[j]?=some es[j]:=Iy Rg;obtain⟨x',ex,N5⟩:=aE.get h2 a;obtain⟨y',ey,M5⟩:=aE.get g2 b;obtain⟨u',eu,ru⟩:=rv.get ex;obtain⟨v',ev,Mj⟩:=Jt.get ey;have e3:UN.toArray[j]=u':=by
       have:UN[j]?=some u':=eu;have:=(Ja.mp this).2
       simpa using this
      have e4:UX.toArray[j]=v':=by
       have:UX[j]?=some v':=ev;have:=(Ja.mp this).2
       simpa using this
      rw[e3,e4,Iz,Iz,a,b];have Og:dep ds[j]<=n:=by
       have:=qy a;rw[dep] at hd;omega
      exact ih ds[j] es[j] A.in1 x' y' u' v' Og ru Mj N5 M5 (by show A.units+1+n < cLine;omega))
     have e5:((List.range (min UN.toArray.size UX.toArray.size)).all (fun j=>cm (ds.getD j .bb) (es.getD j .bb))&&UN.toArray.size == UX.toArray.size)=fX ds es:=by
      have a1:UN.toArray.size=ds.length:=by rw[U9,l1]
      have a2:UX.toArray.size=es.length:=by rw[U9,l2]
      rw[a1,a2];exact rL ds es
     rw[e5] at R;exact SeqAt.EqAt.of_refs S6 R
  | bb=>exact ih .bb e A x y u v (by rw[uY];exact Je _) rx ry hx hy (by omega)
  | bl a=>exact ih (.bl a) e A x y u v (by rw[qz];exact Je _) rx ry hx hy (by omega)
  | int a=>exact ih (.int a) e A x y u v (by rw[gG];exact Je _) rx ry hx hy (by omega)
  | str a=>exact ih (.str a) e A x y u v (by rw[cK];exact Je _) rx ry hx hy (by omega)
end
section
variable {K:Fg06}{H:Hp}
theorem At.new {p ds vs}(hp:H p=none) (h:aE K H ds vs):At K (U1 H p (.tup vs)) (.tup ds) (.ref p):=
 bf.mpr ⟨p,vs,rfl,gq.of ae,aE.same (ab hp _) ds vs h⟩
theorem At.ix {ds:List D}{v:V}{i:Nat}{d:D}(h:At K H (.tup ds) v) (hi:ds[i]?=some d):∃p vs w,v=.ref p/\gq K H p vs/\jZ vs (i:Int)=some w/\At K H d w:=by
 obtain⟨p,vs,rfl,h1,h2⟩:=bf.mp h;obtain⟨w,e,hw⟩:=aE.get h2 hi;exact⟨p,vs,w,rfl,h1,aw e,hw⟩
end
section
variable {X:Cx}{UL:List (Addr×Obj)}{σ:L2.St}{H:Hp}{s:Shared}
theorem rC (I:Inv X UL σ H s) {ds es vs ws UN UX A n}(rv:U2 vs UN) (Jt:U2 ws UX) (h2:aE X.K H ds vs) (g2:aE X.K H es ws) (hd:cJ ds<=n) (hu:A.units+n < cLine):
  ∀j (k1:j < UN.toArray.size) (k2:j < UX.toArray.size),SeqAt.EqAt A s UN.toArray[j] UX.toArray[j] (cm (ds.getD j .bb) (es.getD j .bb)):=by
 intro j k1 k2;have l1:UN.length=ds.length:=by rw[<-rv.length];exact aE.len h2
 have l2:UX.length=es.length:=by rw[<-Jt.length];exact aE.len g2
 have Rh:j < ds.length:=by simpa[l1] using k1
 have Rg:j < es.length:=by simpa[l2] using k2
 have a:ds[j]?=some ds[j]:=Iy Rh;have b:es[j]?=some es[j]:=Iy Rg;obtain⟨x',ex,N5⟩:=aE.get h2 a;obtain⟨y',ey,M5⟩:=aE.get g2 b;obtain⟨u',eu,ru⟩:=rv.get ex;obtain⟨v',ev,Mj⟩:=Jt.get ey;have e3:UN.toArray[j]=u':=by
  have:=(Ja.mp eu).2
  simpa using this
 have e4:UX.toArray[j]=v':=by
  have:=(Ja.mp ev).2
  simpa using this
 rw[e3,e4,Iz,Iz,a,b];exact tI I n ds[j] es[j] A x' y' u' v' (ID (qy a) hd) ru Mj N5 M5 hu
theorem qW {ds es vs ws UN UX}(rv:U2 vs UN) (Jt:U2 ws UX) (h2:aE X.K H ds vs) (g2:aE X.K H es ws):
  ((List.range (min UN.toArray.size UX.toArray.size)).all (fun j=>cm (ds.getD j .bb) (es.getD j .bb))&&UN.toArray.size == UX.toArray.size)=fX ds es:=by
 have a1:UN.toArray.size=ds.length:=by rw[U9,<-rv.length];exact aE.len h2
 have a2:UX.toArray.size=es.length:=by rw[U9,<-Jt.length];exact aE.len g2
 rw[a1,a2];exact rL ds es
theorem B7 (I:Inv X UL σ H s) (d e A x y u v) (rx:RelV x u) (ry:RelV y v) (hx:At X.K H d x) (hy:At X.K H e y) (hu:A.units+dep d < cLine):SeqAt.RcAt A s u v (cm d e):=by
 cases d with
 | tup ds=>
  rw[dep] at hu;obtain⟨p,vs,rfl,h1,h2⟩:=bf.mp hx;cases rx;obtain⟨UN,rv,ht,_⟩:=I.tuple h1;cases e with
  | bb=>have ey:=cU.mp hy;subst ey;cases ry;rw[i5];exact SeqAt.RcAt.tuple_none ht (by omega)
  | bl b=>have ey:=dZ.mp hy;subst ey;cases ry;rw[nU];exact SeqAt.RcAt.tuple_bool b ht (by omega)
  | int b=>have ey:=bG.mp hy;subst ey;obtain⟨t,rfl⟩:=ry;rw[i6];exact SeqAt.RcAt.tuple_int b t ht (by omega)
  | str b=>have ey:=aH.mp hy;subst ey;obtain⟨t,rfl⟩:=ry;rw[i4];exact SeqAt.RcAt.tuple_str b t ht (by omega)
  | tup es=>
   obtain⟨q,ws,rfl,g1,g2⟩:=bf.mp hy;cases ry;obtain⟨UX,Jt,hq,_⟩:=I.tuple g1;have R:=SeqAt.RcAt.tuples (A:=A) (s:=s) (e:=fun j=>cm (ds.getD j .bb) (es.getD j .bb)) (show s.heap.IsTuple p UN.toArray from ht) (show s.heap.IsTuple q UX.toArray from hq) (by omega)
    (rC I (A:=A.in1) (n:=cJ ds) rv Jt h2 g2 (IE _) (by show A.units+1+cJ ds < cLine;omega))
   rw[qW rv Jt h2 g2] at R;rw[cm];exact R
 | bb=>
  rw[uY] at hu;have ex:=cU.mp hx;subst ex;cases rx;cases e with
  | bb=>have ey:=cU.mp hy;subst ey;cases ry;rw[cm];exact SeqAt.RcAt.none_none
  | bl b=>have ey:=dZ.mp hy;subst ey;cases ry;rw[nW];exact SeqAt.RcAt.none_bool b
  | int b=>have ey:=bG.mp hy;subst ey;obtain⟨t,rfl⟩:=ry;rw[jc];exact SeqAt.RcAt.none_int b t
  | str b=>have ey:=aH.mp hy;subst ey;obtain⟨t,rfl⟩:=ry;rw[jb];exact SeqAt.RcAt.none_str b t
  | tup es=>
   obtain⟨p,vs,rfl,h1,_⟩:=bf.mp hy;cases ry;obtain⟨UN,rv,ht,_⟩:=I.tuple h1;rw[ja];exact SeqAt.RcAt.none_tuple ht (by omega)
 | bl a=>
  rw[qz] at hu;have ex:=dZ.mp hx;subst ex;cases rx;cases e with
  | bb=>have ey:=cU.mp hy;subst ey;cases ry;rw[nZ];exact SeqAt.RcAt.bool_none a
  | bl b=>have ey:=dZ.mp hy;subst ey;cases ry;rw[cm];exact SeqAt.RcAt.bool_bool a b
  | int b=>have ey:=bG.mp hy;subst ey;obtain⟨t,rfl⟩:=ry;rw[cm];exact SeqAt.RcAt.bool_int a b t
  | str b=>have ey:=aH.mp hy;subst ey;obtain⟨t,rfl⟩:=ry;rw[nY];exact SeqAt.RcAt.bool_str a b t
  | tup es=>
   obtain⟨p,vs,rfl,h1,_⟩:=bf.mp hy;cases ry;obtain⟨UN,rv,ht,_⟩:=I.tuple h1;rw[nX];exact SeqAt.RcAt.bool_tuple a ht (by omega)
 | int a=>
  rw[gG] at hu;have ex:=bG.mp hx;subst ex;obtain⟨t',rfl⟩:=rx;cases e with
  | bb=>have ey:=cU.mp hy;subst ey;cases ry;rw[jf];exact SeqAt.RcAt.int_none a t'
  | bl b=>have ey:=dZ.mp hy;subst ey;cases ry;rw[cm];exact SeqAt.RcAt.int_bool a t' b
  | int b=>have ey:=bG.mp hy;subst ey;obtain⟨t,rfl⟩:=ry;rw[cm];exact SeqAt.RcAt.int_int a t' b t
  | str b=>have ey:=aH.mp hy;subst ey;obtain⟨t,rfl⟩:=ry;rw[je];exact SeqAt.RcAt.int_str a t' b t
  | tup es=>
   obtain⟨p,vs,rfl,h1,_⟩:=bf.mp hy;cases ry;obtain⟨UN,rv,ht,_⟩:=I.tuple h1;rw[jd];exact SeqAt.RcAt.int_tuple a t' ht (by omega)
 | str a=>
  rw[cK] at hu;have ex:=aH.mp hx;subst ex;obtain⟨t',rfl⟩:=rx;cases e with
  | bb=>have ey:=cU.mp hy;subst ey;cases ry;rw[i8];exact SeqAt.RcAt.str_none a t'
  | bl b=>have ey:=dZ.mp hy;subst ey;cases ry;rw[nV];exact SeqAt.RcAt.str_bool a t' b
  | int b=>have ey:=bG.mp hy;subst ey;obtain⟨t,rfl⟩:=ry;rw[i9];exact SeqAt.RcAt.str_int a t' b t
  | str b=>have ey:=aH.mp hy;subst ey;obtain⟨t,rfl⟩:=ry;rw[cm];exact SeqAt.RcAt.str_str a t' b t
  | tup es=>
   obtain⟨p,vs,rfl,h1,_⟩:=bf.mp hy;cases ry;obtain⟨UN,rv,ht,_⟩:=I.tuple h1;rw[i7];exact SeqAt.RcAt.str_tuple a t' ht (by omega)
end
section
variable {X:Cx}
def Hy (X:Cx):R2:=fun x y H Q=>∃d e,At X.K H d x/\At X.K H e y/\dep d<=60/\Q (.bl (cm d e)) H
theorem yu {k}(hr:cZ k X.A):ie X (compareOp .Eq) (Hy X):=by
 intro UL s σ H x y v u Q I rx ry h;obtain⟨d,e,hx,hy,hd,q⟩:=h;exact B7 I d e X.A x y v u rx ry hx hy (by have:=hr.units;omega) _ _ _ _ ⟨.bl _,H,I,rfl,q⟩
end
section
variable {X:Cx}{UL:List (Addr×Obj)}{σ:L2.St}{H:Hp}{s:Shared}
end
section
variable {X:Cx}
end
section
variable {X:Cx}{UL:List (Addr×Obj)}{σ:L2.St}{H:Hp}{s:Shared}
end
section
variable {X:Cx}
theorem yH {UL σ H s}(I:Inv X UL σ H s) {d x v}(rx:RelV x v) (hx:At X.K H d x) {ds xs UN}(ha:aE X.K H ds xs) (rv:U2 xs UN) (A:Around) (hu:∀e∈ds,A.units+dep e < cLine):
  ∃f:Value->Bool,(∀u∈UN,SeqAt.EqAt A s u v (f u))/\UN.any f=ds.any fun e=>cm e d:=by
 classical
 have fact:∀(i:Nat) (u:Value),UN[i]?=some u->∃e y,ds[i]?=some e/\RelV y u/\At X.K H e y:=fun i u hu=>by
  have hi:i < UN.length:=(Ja.mp hu).1;have h1:=rv.length;have h2:=ha.len;obtain⟨e,he⟩:∃e,ds[i]?=some e:=⟨ds[i]'(by omega),by simp⟩;obtain⟨y,hy,Mn⟩:=ha.get he;obtain⟨u',KU,ru⟩:=rv.get hy;rw[hu] at KU;cases KU;exact⟨e,y,he,ru,Mn⟩
 have val:∀(i:Nat) (u:Value) (e:D),UN[i]?=some u->ds[i]?=some e->(decide (∃(j:Nat) (e':D),UN[j]?=some u/\ds[j]?=some e'/\cm e' d=true))=cm e d:=fun i u e hu he=>by
  rw[Bool.eq_iff_iff,decide_eq_true_eq];constructor
  ·rintro⟨j,e',hj,N9,h⟩;obtain⟨e1,y1,k1,k2,k3⟩:=fact i u hu;obtain⟨e2,y2,l1,l2,l3⟩:=fact j u hj;rw[he] at k1;cases k1;rw[N9] at l1;cases l1;have ey:=RelV.inj k2 l2;subst ey;have:=At.one I _ _ _ k3 l3;rw[this];exact h
  ·exact fun h=>⟨i,e,hu,he,h⟩
 refine⟨fun u=>decide (∃(j:Nat) (e':D),UN[j]?=some u/\ds[j]?=some e'/\cm e' d=true),fun u KU=>?_,?_⟩
 ·obtain⟨i,hi⟩:=List.mem_iff_getElem?.mp KU;obtain⟨e,y,he,ry,hy⟩:=fact i u hi;dsimp only;rw[val i u e hi he];exact tI I (dep e) e d A y x u v (IE _) ry rx hy hx (hu e (IG he))
 ·rw[Bool.eq_iff_iff,List.any_eq_true,List.any_eq_true];constructor
  ·rintro⟨u,KU,h⟩;obtain⟨i,hi⟩:=List.mem_iff_getElem?.mp KU;obtain⟨e,y,he,ry,hy⟩:=fact i u hi;rw[val i u e hi he] at h;exact⟨e,IG he,h⟩
  ·rintro⟨e,he,h⟩;obtain⟨i,hi⟩:=List.mem_iff_getElem?.mp he;obtain⟨y,hy,_⟩:=ha.get hi;obtain⟨u,KU,_⟩:=rv.get hy;exact⟨u,IG KU,by rw[val i u e KU hi];exact h⟩
def Fs (X:Cx) (neg:Bool):R2:=fun x y H Q=>∃d ds,At X.K H d x/\At X.K H (.tup ds) y/\(∀e∈ds,dep e<=60)/\Q (.bl (if neg then !(ds.any fun e=>cm e d) else ds.any fun e=>cm e d)) H
theorem vJ {k}(hr:cZ k X.A):ie X (compareOp .NotIn) (Fs X true):=by
 intro UL s σ H x y v u Q I rx ry h;obtain⟨d,ds,hx,hy,hd,q⟩:=h;obtain⟨p,xs,rfl,hq,ha⟩:=bf.mp hy;cases ry;obtain⟨UN,r,pl,hz⟩:=I.tuple hq;obtain⟨f,f1,f2⟩:=yH I rx hx ha r X.A.in1 (fun e he=>by have:=hr.units;have:=hd e he;show X.A.units+1+_ < _;omega);refine SeqAt.notIn_tupleAt f pl (fun w hw=>f1 w (by simpa using hw)) ⟨.bl _,H,I,rfl,?_⟩;rw[show UN.toArray.any f=UN.any f by simp,f2];exact q
end
end GS
namespace GS
open PySem PySem.Builtin PyProof.Rows L2
open AutoSeq1 (wpAny_loadPart')
section
variable {X:Cx}
theorem kq {k}(hr:cZ k X.A):ie X (compareOp .Eq) (fun x y H Q=>∃a b xs,x=.ref a/\y=.ref b/\aS X.K H a xs/\aS X.K H b []/\Q (.bl xs.isEmpty) H):=by
 intro UL s σ H x y v u Q I rx ry h;obtain⟨a,b,xs,rfl,rfl,ha,hb,q⟩:=h;cases rx;cases ry;obtain⟨UN,r1,p1,z1⟩:=I.list ha;obtain⟨JB,r2,p2,z2⟩:=I.list hb;cases r2;have hu:X.A.units < cLine:=Nat.lt_of_succ_lt (fI hr);cases r1 with
 | nil=>exact SeqAt.eq_listAt (e:=fun _=>true) p1.isList p2.isList rfl hu (fun j h1 _=>Vi h1 (by simp)) (bO I q rfl)
 | cons _ _=>exact SeqAt.eq_list_lengthsAt p1.isList p2.isList (by simp) hu (bO I q rfl)
theorem yt {k}(hr:cZ k X.A):ie X (compareOp .NotEq) (fun x y H Q=>∃a b xs,x=.ref a/\y=.ref b/\aS X.K H a xs/\aS X.K H b []/\Q (.bl (!xs.isEmpty)) H):=by
 intro UL s σ H x y v u Q I rx ry h;obtain⟨a,b,xs,rfl,rfl,ha,hb,q⟩:=h;cases rx;cases ry;obtain⟨UN,r1,p1,z1⟩:=I.list ha;obtain⟨JB,r2,p2,z2⟩:=I.list hb;cases r2;have hu:X.A.units < cLine:=Nat.lt_of_succ_lt (fI hr);cases r1 with
 | nil=>exact SeqAt.RcNeAt.lists (e:=fun _=>true) p1.isList p2.isList rfl hu (fun j h1 _=>Vi h1 (by simp)) _ _ _ _ (bO I q rfl)
 | cons _ _=>exact SeqAt.RcNeAt.lists_lengths p1.isList p2.isList (by simp) hu _ _ _ _ (bO I q rfl)
theorem range_any (bs:List Bool):((List.range bs.length).any fun j=>(bs[j]?).getD false)=bs.any id:=by
 rw[Bool.eq_iff_iff,List.any_eq_true,List.any_eq_true];constructor
 ·rintro⟨j,hj,h⟩;have J2:=List.mem_range.mp hj;exact⟨bs[j],List.getElem_mem J2,by simpa[J2] using h⟩
 ·rintro⟨x,hx,h⟩;obtain⟨i,hi,rfl⟩:=List.mem_iff_getElem.mp hx;exact⟨i,List.mem_range.mpr hi,by simpa[hi] using h⟩
theorem om (hc:X.calm=true):gf X (.builtin "any") (fun xs H Q=>∃(p:Addr) (bs:List Bool),xs=[.ref p]/\aS X.K H p (bs.map V.bl)/\Q (.bl (bs.any id)) H):=by
 intro UL s σ H xs us Q I r h;obtain⟨p,bs,rfl,hq,q⟩:=h;obtain⟨u,rfl,ru⟩:=vals1 r;cases ru;obtain⟨UN,rv,pl,hz⟩:=I.list hq;have ei:=jJ rv;subst ei;have JC:p < s.heap.objs.size:=let ⟨o,n,e,_⟩:=pl;Jj e;refine call_any_walk (wpAny_pyIter_list pl.isList ?_);refine⟨s.heap.objs.size,[s.heap.objs.size,p],[s.heap.objs.size],(bs.map Value.bool).toArray.size,_,_,(fun j=>(bs[j]?).getD false),rfl,
  Walks.list (A:=X.A.in1) (I.ok.hd hc) _ p (Jk JC) (bs.map Value.bool).toArray,⟨⟨_,Jn _ rfl,rfl,rfl⟩,?_⟩,fun i v s' Q' E' hP RS=>?_,fun h' tk k=>?_⟩
 ·obtain⟨o,ho,r⟩:=pl.isList;exact⟨o,IM _ ho,r⟩
 ·have Kr:(bs.map Value.bool)[i]?=some v:=by simpa using hP
  rw[IJ] at Kr;cases e:bs[i]? with
  | none=>rw[e] at Kr;cases Kr
  | some b=>
   rw[e] at Kr;have e':Value.bool b=v:=by simpa using Kr
   subst e';exact wpAny_truthy_bool (show Q' b s' by simpa[e] using RS)
 ·rw[show(bs.map Value.bool).toArray.size=bs.length by simp,range_any bs];exact⟨.bl _,H,I.kept fun b o e=>k b o (fun hm=>Jk (Jj e) (Vc.mp hm)) (IM _ e),rfl,q⟩
end
end GS
namespace GS
open PySem PySem.Builtin PyProof.Rows L2
section
variable {X:Cx}
def Fu (K:Fg06):R2:=fun x y H Q=>∃ds es,At K H (.tup ds) x/\At K H (.tup es) y/\ds.length+es.length<=sizeLine/\∀r H',ak H H'->At K H' (.tup (ds++es)) r->Q r H'
theorem uG:ie X (binaryOp .Add) (Fu X.K):=by
 intro UL s σ H x y v u Q I rx ry h;obtain⟨ds,es,hx,hy,hz,q⟩:=h;obtain⟨a,xs,rfl,ha,hA⟩:=bf.mp hx;obtain⟨b,ys,rfl,hb,hB⟩:=bf.mp hy;cases rx;cases ry;have l1:=hA.len;have l2:=hB.len;obtain⟨UN,r1,p1,_⟩:=I.tuple ha;obtain⟨JB,r2,p2,_⟩:=I.tuple hb;have l3:=r1.length;have l4:=r2.length;by_cases h1:UN=[]
 ·subst h1;cases r1;have e1:ds=[]:=by cases ds with | nil=>rfl | cons _ _=>simp at l1
  subst e1;obtain⟨⟨cc,dd,dt,sl⟩,ho,hc,n,hd⟩:=id p1;obtain⟨⟨cc2,QL,dt2,Qh⟩,Nk,ND,n2,hd2⟩:=id p2;simp only at hc hd ND hd2;subst hc hd ND hd2;exact concat_meets ⟨_,ho,rfl⟩ ⟨_,Nk,rfl⟩ noFill_tuple_add seq_tuple_add PySem.F.slot_tuple_add PySem.F.entry_tuple_add (PySem.F.args_tuple_add_2 _ _) (tuple_addW0 a b _ JB.toArray n n2 dd QL sl Qh (by simp)) ⟨ho,Nk,.ref b,H,I,rfl,q _ H (ak.refl H) hy⟩
 ·refine HT.vh p1 p2 h1 (fun z=>⟨.ref a,H,I,rfl,q _ H (ak.refl H) ?_⟩) (fun z=>?_) (by omega)
  ·have e2:es=[]:=by
    subst z;cases es with
    | nil=>rfl
    | cons d r=>exact Vi (l4.symm.trans l2) (by simp)
   rw[e2,Jf];exact hx
  ·refine⟨.ref s.heap.objs.size,_,I.laid (t':=s.toks) (o:=.tup (xs++ys)) (fun b ob q=>IM _ q) (IE _) ⟨by rw[Iu];omega,_,r1.append r2,IsTup.new _ _⟩,rfl,?_⟩;have hn:=I.cA.fresh (IE s.heap.objs.size);exact q _ _ (ab hn _) (At.new hn (hA.append hB))
end
end GS
namespace PySem
section
variable {prog:Program}{w:World}{A:Around}{E:Value->Shared->Prop}{R:Result->Shared->Prop}{s:Shared}
def ue (ifs:List Expr) (env:Env):Sem Bool:=forIn ifs true fun c r=>if r=true then do let ok <-PySem.isTrue c env (eval c env);pure (ForInStep.yield ok) else pure (ForInStep.yield r)
theorem kE {elt target iter ifs scope pos it acc env}(I:Nat->Shared->Prop)
  (turn:∀n s,I n s->wpAny (model prog w) A (pyNext it) (fun r s₁=>match r with
   | none=>R (.ok .next) s₁
   | some v=>wpAny (model prog w) A (letOwnedTupleGo target it v) (fun _ s₂=>wpAny (model prog w) A (assign target env v) (fun _ s₃=>
     wpAny (model prog w) A (ue ifs env) (fun b s₄=>if b=true then
      wpAny (model prog w) A (eval elt env) (fun x s₄=>
       wpAny (model prog w) A (call (.builtin "list.append") [acc,x]) (fun _ s₅=>∃m,m < n/\I m s₅) (notedBy (model prog w) A env fun e s'=>R (.error e) s') s₄) (notedBy (model prog w) A env fun e s'=>R (.error e) s') s₄ else ∃m,m < n/\I m s₄) (notedBy (model prog w) A env fun e s'=>R (.error e) s') s₃) (notedBy (model prog w) A env fun e s'=>R (.error e) s') s₂) (notedBy (model prog w) A env fun e s'=>R (.error e) s') s₁) (notedBy (model prog w) A env fun e s'=>R (.error e) s') s)
  (n:Nat) (h:I n s):
  codeAny (model prog w) A (.compLoop (.ListComp elt [⟨target,iter,ifs,0⟩] scope pos) 0 it acc env) R s:=by
 refine codeAny_loop rfl I (fun n s hI=>?_) n h;show wpAny _ A ((compTurn (.ListComp elt [⟨target,iter,ifs,0⟩] scope pos) 0 it acc env).onRaise (fun x=>do noteFrame x env;theTreesLotGoes x)) _ _ s;refine wpAny_noted ?_;rw[compTurn_list];refine IK (wpAny_standAt (IK (Jr (turn n s hI) (fun r s₁ h₁=>?_) fun _ _ h'=>h')));cases r with
 | none=>exact IL h₁
 | some v=>
  refine IK (Jr h₁ (fun _ s₂ h₂=>IK (Jr h₂ (fun _ s₃ h₃=>?_) fun _ _ h'=>h')) fun _ _ h'=>h');refine IK (Jr h₃ (fun b s₄ h₄=>?_) fun _ _ h'=>h');cases b with
  | false=>
   rw[IH IP] at h₄;exact wpAny_ite_false (by simp) (IL ⟨rfl,h₄⟩)
  | true=>
   rw[II rfl] at h₄;exact wpAny_ite_true (by simp) (IK (IK (Jr h₄ (fun x s₄ h₄=>IK (Jr h₄ (fun _ s₅ h₅=>IL (IL ⟨rfl,h₅⟩)) fun _ _ h'=>h')) fun _ _ h'=>h')))
end
end PySem
namespace L2
open PySem PySem.Spec PyProof.Rows PySem.Builtin PySem.Builtin.Str
structure kL (X:Cx) (scope:Scope) (cl:List (Str×Addr)) (Xs Nf:List Str) (js:List Nat):Prop where
 Gp:closureFor scope X.env=pure cl
 cell:∀y∈scope.names,y.2≠.cell
 kind:scope.kind=.function
 names:∀y∈scope.names,y.2=.local->scope.names.lookup y.1=some .local
 sub:∀y c,cl.lookup y=some c->X.env.cells.lookup y=some c
 has:∀y,((relabel scope X.env).names.lookup y=some .cell\/(relabel scope X.env).names.lookup y=some .free)->∃c,cl.lookup y=some c
 len:js.length=Nf.length
 frees:∀(j:Nat) y,Nf[j]?=some y->∃i,js[j]?=some i/\X.N[i]?=some y/\X.env.scope.names.lookup y=some .cell/\((relabel scope X.env).names.lookup y=some .cell\/(relabel scope X.env).names.lookup y=some .free)
def GZ (X:Cx) (ifs:List Expr) (tc:TT):Prop:=∀UL s σ H Q,Inv X UL σ H s->tc σ H Q->wpAny (model X.prog X.w) X.A (ue ifs X.env) (TP X UL σ Q) X.xe s
def gN:TT:=fun _ H Q=>Q true H
theorem eY {X}:GZ X [] gN:=fun UL s σ H Q I h=>wpAny_tests_nil ⟨H,I,h⟩
theorem fJ {X c tc}(h:PT X c tc):GZ X [c] tc:=fun UL s σ H Q I q=>wpAny_tests_one (h UL s σ H Q I q)
def sv (k:Nat) (js:List Nat) (wi:TI) (g:TG) (tc:TT) (te:TE):TE:=fun σ H Q=>wi σ H fun J H1=>∃vs:List V,(vs.length=js.length/\∀(j i:Nat),js[j]?=some i->∃v,vs[j]?=some v/\σ[i]?=some (some v))/\
 ∀D,H1 D=none->∃W:Nat->Nat->List V->Hp->Prop,(∃m,W 0 m [] (U1 H1 D (.lst [])))/\∀i m ys H,W i m ys H->
  (J.stop i H/\Q (.ref D) H)\/(J.go i H/\∀x H' (ox:List (Option V)),ox.length=k->J.rZ i H x H'->g x (ox++vs.map some) H' fun σ2 H2=>∃Kl,Kl.length=k/\σ2=Kl++vs.map some/\tc σ2 H2 fun b H3=>
   if b=true then te σ2 H3 fun v H4=>H4 D=some (.lst ys)/\ys.length < sizeLine/\∃m',m' < m/\W (i+1) m' (ys++[v]) (U1 H4 D (.lst (ys++[v]))) else ∃m',m' < m/\W (i+1) m' ys H3)
section
variable {X:Cx}
theorem oo {UL:List (Addr×Obj)}{σ:St}{H:Hp}{s:Shared}{scope:Scope}{cl:List (Str×Addr)}{Xs Nf:List Str}{js:List Nat}{vs:List V}{fp:List Addr}{h1:Heap}{tk:Nat}{m:Str->Option Value}
  (K:kL X scope cl Xs Nf js) (I:Inv X UL σ H s) (OM:vs.length=js.length) (OL:∀(j i:Nat),js[j]?=some i->∃v,vs[j]?=some v/\σ[i]?=some (some v))
  (hf:∀b∈fp,kJ X UL H b) (Ju:∀b∈fp,b < s.heap.objs.size) (ns:h1.Ns s.heap.objs.size m) (keep:∀b o,s.heap.get? b=some o->h1.get? b=some o):
  Inv (oq X scope cl s.heap.objs.size (Xs++Nf) s H fp) [] (List.replicate Xs.length none++vs.map some) H { s with heap:=h1,toks:=tk }:=by
 refine⟨⟨I.ok.mod,K.kind,I.ok.glob,I.ok.blt,IE _,fun y z c e1 e2=>I.ok.inj y z c (K.sub y c e1) (K.sub z c e2),fun y hy=>K.has y hy,fun y c e _=>(Bool.noConfusion (show false=true from e)),I.ok.hd,I.ok.frames,.inl rfl,
  fun b hb=>⟨Jk (Ju b hb),fun y c e=>(hf b hb).2.2.2.2.1 y c (K.sub y c e)⟩,I.bs,ID I.ok.AN I.sz,fun b o e hb=>?_,fun b hb z=>?_,I.stack,I.um⟩,
  rfl,I.bare,Un.kept keep,⟨m,ns,fun i y v e1 e2 e3=>?_⟩,fun y c e=>?_,I.cA.fresh (IE _),fun y c e=>I.jD y c (K.sub y c e),fun p hp=>Vi (show p∈([]:List (Addr×Obj)) from hp) (by simp),I.cA.kept keep,?_⟩
 ·rcases(hf b hb).2.2.2.1 with z | z
  ·exact I.ok.yz b o e z
  ·exact Vi (Jh (Jj e) (ID I.ok.AN z)) (Vf _)
 ·rcases Ji.mp (I.mY b z) with e | e
  ·exact(hf b hb).2.1 e
  ·exact(hf b hb).2.2.1 e
 ·by_cases hi:i < Xs.length
  ·rw[Jo (by rw[List.length_replicate];exact hi)] at e2;rw[List.getElem?_replicate] at e2;split at e2<;>simp at e2
  ·obtain⟨j,rfl⟩:∃j,i=Xs.length+j:=⟨i - Xs.length,by omega⟩;have R8:Nf[j]?=some y:=by
    have e1'':(Xs++Nf)[Xs.length+j]?=some y:=e1;rw[IX (by omega)] at e1''
    simpa using e1''
   have e2b:(vs.map some)[j]?=some (some v):=by
    rw[IX (by rw[List.length_replicate];omega),List.length_replicate] at e2
    simpa using e2
   obtain⟨i0,hj,hN,hk,hr⟩:=K.frees j y R8;obtain⟨v',JE,JT⟩:=OL j i0 hj;have ev:v=v':=by
    have Ug:(vs.map some)[j]?=some (some v):=e2b;rw[IJ,JE] at Ug
    simpa using Ug.symm
   subst ev;obtain⟨m0,hn0,hl⟩:=I.loc;obtain⟨u,r,l⟩:=hl i0 y v hN JT (.inr (.inl hk));refine⟨u,r,?_⟩;rcases l with ⟨l1,_⟩ | ⟨_,c,hc,o,ho,hd⟩
   ·have SS:X.env.scope.names.lookup y=some .local:=l1;rw[hk] at SS;cases SS
   ·obtain⟨c',Pz⟩:=K.has y hr;have ec:=K.sub y c' Pz;rw[hc] at ec;cases ec;exact .inr ⟨hr,c,Pz,o,keep c o ho,hd⟩
 ·obtain⟨v,o,ho,hd⟩:=I.cell y c (K.sub y c e);exact⟨v,o,keep c o ho,hd⟩
 ·show(List.replicate Xs.length none++vs.map some).length=(Xs++Nf).length;rw[Iu,Iu,List.length_replicate,IC,OM,K.len]
theorem cG {elt iter tg ifs pos scope cl Xs Nf}{js:List Nat} {wi g tc te}(K:kL X scope cl Xs Nf js) (hc:X.calm=true) (hi:PI X tg iter wi)
  (hg:∀C s0 H0 fp,PG (oq X scope cl C (Xs++Nf) s0 H0 fp) tg g) (RK:∀C s0 H0 fp,GZ (oq X scope cl C (Xs++Nf) s0 H0 fp) ifs tc) (he:∀C s0 H0 fp,PE (oq X scope cl C (Xs++Nf) s0 H0 fp) elt te) (hs:∀x,foldedSetIterable iter X.env x=pure x:=by intro _;rfl):
  PE X (.ListComp elt [⟨tg,iter,ifs,0⟩] scope pos) (sv Xs.length js wi g tc te):=by
 intro UL s σ H Q I h;rw[eval_ListComp];refine wpAny_comprehension_free (use:=none) rfl hs K.Gp K.kind K.names (da (hi UL s σ H _ I h) fun v s1 h1=>da h1 fun itv s2 h2=>?_);obtain⟨it,fp,tn,J,H2,e,I2,T,MT,f2,vs,⟨OM,OL⟩,hW⟩:=h2;subst e;have hD:H2 s2.heap.objs.size=none:=I2.cA.fresh (IE _);obtain⟨W,⟨m0,w0⟩,turn⟩:=hW s2.heap.objs.size hD;have Nr:∀b∈fp,b < s2.heap.objs.size:=fun b hb=>let ⟨o,e,_⟩:=T.obj _ _ MT b hb;Jj e;refine wpAny_newObj_type (wpAny_newFunctionEnv K.cell (by intro y hy;simp at hy) (fun h₁ KI₁ KD₁=>?_) K.kind);dsimp only at KI₁ KD₁ ⊢;generalize PX:s2.heap.push { cls:=.type "list",dict:=none,data:=.seq ([]:List Value).toArray }=P3 at KI₁ KD₁ ⊢;obtain⟨s3,Nc⟩:∃s3:Shared,s3={ s2 with heap:=P3 }:=⟨_,rfl⟩;have eP:P3=s3.heap:=by rw[Nc]
 rw[eP] at KI₁ KD₁ ⊢;have I3:Inv X UL σ (U1 H2 s2.heap.objs.size (.lst [])) s3:=by
  rw[Nc,<-PX];exact I2.laid (t':=s2.toks) (fun b u e=>IM _ e) (IE _) ⟨Je _,[],0,.nil,Jn _ rfl⟩
 have keep23:∀b o,s2.heap.get? b=some o->s3.heap.get? b=some o:=fun b o e=>by rw[<-eP,<-PX];exact IM _ e
 have f3:∀b∈fp,kJ X UL (U1 H2 s2.heap.objs.size (.lst [])) b:=fun b hb=>⟨by rw[aD (Jk (Nr b hb))];exact(f2 b hb).1,(f2 b hb).2⟩;have Mf:tn 0 s3.heap:=T.keep _ _ _ MT fun b hb o e=>keep23 b o e;have Ll:∀b∈fp,b < s3.heap.objs.size:=fun b hb=>let ⟨o,e,_⟩:=T.obj _ _ Mf b hb;Jj e;have keep34:∀b o,s3.heap.get? b=some o->h₁.get? b=some o:=fun b o e=>KD₁.extBut b o (Jk (Jj e)) (IM _ e);have Ov:tn 0 h₁:=T.keep _ _ _ Mf fun b hb o e=>keep34 b o e;have Oj:∀b∈fp,U1 H2 s2.heap.objs.size (.lst []) b=none:=fun b hb=>(f3 b hb).1;have stat:∀{H':Hp},(∀b∈fp,H' b=none)->∀b∈fp,kJ (oq X scope cl s3.heap.objs.size (Xs++Nf) s3 (U1 H2 s2.heap.objs.size (.lst [])) fp) [] H' b:=fun {H'} hn b hb=>by
  refine⟨hn b hb,Jk (Ll b hb),fun z=>?_,.inl hb,fun y c e=>(f3 b hb).2.2.2.2.1 y c (K.sub y c e),fun p hp=>Vi (show p∈([]:List (Addr×Obj)) from hp) (by simp)⟩;rcases Ji.mp (I3.mY b z) with e | e
  ·exact(f3 b hb).2.1 e
  ·exact(f3 b hb).2.2.1 e
 have fin:∀{σ':St}{H':Hp}{s':Shared},Inv (oq X scope cl s3.heap.objs.size (Xs++Nf) s3 (U1 H2 s2.heap.objs.size (.lst [])) fp) [] σ' H' s'->Q (.ref s2.heap.objs.size) H'->
   compPost (model X.prog X.w) X.A X.xe none (EP X UL σ Q) (.ref s2.heap.objs.size) s3.heap.objs.size (.ok .next) s':=fun {σ' H' s'} J q=>by
  obtain⟨m,hn,_⟩:=J.loc;refine⟨m,hn,fun h' N7=>⟨.ref s2.heap.objs.size,H',?_,rfl,q⟩⟩;have ne:∀b o,s3.heap.get? b=some o->b≠s3.heap.objs.size:=fun b o e=>Jk (Jj e);have nC:∀b u,H' b=some u->b≠s3.heap.objs.size:=fun b u e z=>by
   have f:=J.free;rw[z] at e;have f':H' s3.heap.objs.size=none:=f;rw[f'] at e;cases e
  have B:=J.base;refine I3.vi (ch:=fp) (s':={ s' with heap:=h' }) J.os ?_ (fun b u e=>(J.cA b u e).qS (fun c v hc q=>N7.extBut c v ?_ q) (fun _ q=>q) fun _ _ q=>q) J.bare fun b hb=>⟨(f3 b hb).2.2.2.1,(f3 b hb).2.1,(f3 b hb).2.2.2.2.1,(f3 b hb).2.2.2.2.2⟩
  ·exact⟨fun b o e n hb hx=>N7.extBut b o (ne b o e) (B.keep b o e n hb hx),fun b o e n hb hx=>let ⟨sl,z⟩:=B.slot b o e n hb hx;⟨sl,N7.extBut b _ (ne b o e) z⟩,fun b o e n hx=>B.free b o e n hx,
    fun b o e hx=>let ⟨o',z⟩:=B.there b o e hx;⟨o',N7.extBut b _ (ne b o e) z⟩,B.kS,B.nQ,B.oz⟩
  ·rcases hc with z | z
   ·rw[z];exact nC b u e
   ·exact nC c _ z
 have loop:∀s4:Shared,s4={ s3 with heap:=h₁,toks:=s3.toks+([]:List (Str×Value)).length }->
   codeAny (model X.prog X.w) X.A (.compLoop (.ListComp elt [⟨tg,iter,ifs,0⟩] scope pos) 0 (.ref it) (.ref s2.heap.objs.size) (compEnvC scope cl s3.heap.objs.size X.env))
    (compPost (model X.prog X.w) X.A X.xe none (EP X UL σ Q) (.ref s2.heap.objs.size) s3.heap.objs.size) s4:=by
  rintro s4 rfl;have I4:=oo (Xs:=Xs) (tk:=s3.toks+([]:List (Str×Value)).length) K I3 OM OL f3 Ll KI₁ keep34;refine kE (fun n s'=>∃i ox ys H',ox.length=Xs.length/\Inv (oq X scope cl s3.heap.objs.size (Xs++Nf) s3 (U1 H2 s2.heap.objs.size (.lst [])) fp) [] (ox++vs.map some) H' s'/\tn i s'.heap/\(∀b∈fp,H' b=none)/\W i n ys H') ?_ m0 ⟨0,List.replicate Xs.length none,[],_,List.length_replicate,I4,Ov,Oj,w0⟩;rintro n s5 ⟨i,ox,ys,H5,Ni,I5,LN,NQ,w5⟩;rcases turn i n ys H5 w5 with ⟨stop,qn⟩ | ⟨go,step⟩
  ·refine Jr (T.done (oq X scope cl s3.heap.objs.size (Xs++Nf) s3 (U1 H2 s2.heap.objs.size (.lst [])) fp) rfl rfl rfl hc i [] s5 _ H5 _ I5 (stat NQ) LN stop) (fun r s6 ⟨hr,I6⟩=>?_) fun _ _ z=>z;subst hr;exact fin I6 qn
  ·refine Jr (T.item (oq X scope cl s3.heap.objs.size (Xs++Nf) s3 (U1 H2 s2.heap.objs.size (.lst [])) fp) rfl rfl rfl hc i [] s5 _ H5 _ I5 (stat NQ) LN go) (fun r s6 ⟨u,hr,h6⟩=>?_) fun _ _ z=>z;subst hr;refine Jr h6 (fun _ s7 ⟨x7,H7,I7,r7,y7,MS,R4⟩=>?_) fun _ _ z=>z;have Sg:=I7.pinned (stat R4) (T.obj _ _ MS);refine Jr (hg s3.heap.objs.size s3 (U1 H2 s2.heap.objs.size (.lst [])) fp _ s7 _ H7 x7 u _ Sg r7 (step x7 H7 ox Ni y7)) (fun _ s8 ⟨σ8,H8,I8,Kl,Nh,e8,q8⟩=>?_) fun _ _ z=>False.elim z;subst e8;refine Jr (RK s3.heap.objs.size s3 _ fp _ s8 _ H8 _ I8 q8) (fun b8 s8b ⟨H8b,I8b,q8b⟩=>?_) fun _ _ z=>False.elim z;have ends:∀(JL:Hp) (JO:Shared) (ML:List V) (m':Nat),m' < n->W (i+1) m' ML JL->Inv (oq X scope cl s3.heap.objs.size (Xs++Nf) s3 (U1 H2 s2.heap.objs.size (.lst [])) fp) ([]++kX fp s7.heap) (Kl++vs.map some) JL JO->
     ∃m,m < n/\∃i ox ys H',ox.length=Xs.length/\Inv (oq X scope cl s3.heap.objs.size (Xs++Nf) s3 (U1 H2 s2.heap.objs.size (.lst [])) fp) [] (ox++vs.map some) H' JO/\tn i JO.heap/\(∀b∈fp,H' b=none)/\W i m ys H':=fun JL JO ML m' KJ w9 LD=>by
    refine⟨m',KJ,i+1,Kl,ML,_,Nh,LD.iI,T.keep _ _ _ MS fun b hb o e=>(LD.pin (b,o) (IV _ (IV _ (gw hb e)))).1,fun b hb=>?_,w9⟩;obtain⟨o,e,d⟩:=T.obj _ _ MS b hb;exact(LD.pin (b,o) (IV _ (IV _ (gw hb e)))).2.1
   cases b8 with
   | false=>
    rw[IH IP] at q8b ⊢;obtain⟨m',KJ,w9⟩:=q8b;exact ends _ _ _ _ KJ w9 I8b
   | true=>
    rw[II rfl] at q8b ⊢;refine Jr (he s3.heap.objs.size s3 _ fp _ s8b _ H8b _ I8b q8b) (fun v9 s9 ⟨v,H9,I9,r9,RX,Rj,m',KJ,w9⟩=>?_) fun _ _ z=>False.elim z;refine Jr (cf (X:=oq X scope cl s3.heap.objs.size (Xs++Nf) s3 (U1 H2 s2.heap.objs.size (.lst [])) fp) _ s9 _ H9 (.ref s2.heap.objs.size) [v] (.ref s2.heap.objs.size) [v9] (fun _ H'=>H'=U1 H9 s2.heap.objs.size (.lst (ys++[v]))) I9 rfl (.cons r9 .nil) ⟨_,ys,v,rfl,rfl,RX,Rj,rfl⟩)
     (fun _ JO ⟨_,JL,LD,_,R7⟩=>?_) fun _ _ z=>False.elim z
    subst R7;exact ends _ _ _ _ KJ w9 LD
 have e4:({ s2 with heap:=h₁,toks:=s2.toks+([]:List (Str×Value)).length }:Shared)={ s3 with heap:=h₁,toks:=s3.toks+([]:List (Str×Value)).length }:=by rw[Nc]
 rw[e4];exact codeAny_compStart_list (loop _ rfl) (T.self _ 0 _ _ _ Ov (loop _ rfl))
end
end L2
namespace L2
open PySem PySem.Spec PyProof.Rows PySem.Builtin PySem.Builtin.Str
def vB (k:Nat) (js:List Nat) (wi:TI) (g:TG) (tc:TT) (te:TE) (i:Nat):TS:=fun D σ H=>sv k js wi g tc te σ H fun v H'=>D.nx (σ.set i (some v)) H'
section
variable {X:Cx}
theorem dq {elt iter tg ifs y py spos iy pos scope cl Xs Nf js wi g tc te}(K:kL X scope cl Xs Nf js) (hc:X.calm=true) (hi:PI X tg iter wi)
  (hg:∀C s0 H0 fp,PG (oq X scope cl C (Xs++Nf) s0 H0 fp) tg g) (RK:∀C s0 H0 fp,GZ (oq X scope cl C (Xs++Nf) s0 H0 fp) ifs tc) (he:∀C s0 H0 fp,PE (oq X scope cl C (Xs++Nf) s0 H0 fp) elt te)
  (hN:X.N.Nodup) (hiy:X.N[iy]?=some y) (hy:Loc X.env.scope y) (hsw:swapsWith (.ListComp elt [⟨tg,iter,ifs,0⟩] scope pos) (some (.Name y py)) spos.line X.env=pure true:=by rfl)
  (hfy:X.fn y=true\/X.env.scope.names.lookup y=some .local:=by first | exact .inl rfl | exact .inr rfl | assumption) (hs:∀x,foldedSetIterable iter X.env x=pure x:=by intro _;rfl):
  PS X (.Assign [.Name y py] (.ListComp elt [⟨tg,iter,ifs,0⟩] scope pos) spos) (vB Xs.length js wi g tc te iy):=by
 intro UL s σ H DD I h;obtain⟨Q,hQ⟩:∃Q:VK,Q=fun v H'=>DD.nx (σ.set iy (some v)) H':=⟨_,rfl⟩;have h':sv Xs.length js wi g tc te σ H Q:=by rw[hQ];exact h
 rw[exec_Assign_Name_used _ _ _ _ hsw];refine IK (wpAny_standAt (IK ?_));show wpAny _ X.A (do let _ <-comprehension (.ListComp elt [⟨tg,iter,ifs,0⟩] scope pos) scope X.env _ (newList []) false (eval iter X.env) (some (assign (.Name y py) X.env))) _ _ s;refine IK (Jr (wpAny_comprehension_free (use:=some (assign (.Name y py) X.env)) (Q:=fun _ s'=>SP X UL DD .next s') rfl hs K.Gp K.kind K.names (da (hi UL s σ H _ I h') fun v s1 h1=>da h1 fun itv s2 h2=>?_)) (fun _ s' hq=>IL (IL hq)) fun _ _ e=>e);obtain⟨it,fp,tn,J,H2,e,I2,T,MT,f2,vs,⟨OM,OL⟩,hW⟩:=h2;subst e;have hD:H2 s2.heap.objs.size=none:=I2.cA.fresh (IE _);obtain⟨W,⟨m0,w0⟩,turn⟩:=hW s2.heap.objs.size hD;have Nr:∀b∈fp,b < s2.heap.objs.size:=fun b hb=>let ⟨o,e,_⟩:=T.obj _ _ MT b hb;Jj e;refine wpAny_newObj_type (wpAny_newFunctionEnv K.cell (by intro y hy;simp at hy) (fun h₁ KI₁ KD₁=>?_) K.kind);dsimp only at KI₁ KD₁ ⊢;generalize PX:s2.heap.push { cls:=.type "list",dict:=none,data:=.seq ([]:List Value).toArray }=P3 at KI₁ KD₁ ⊢;obtain⟨s3,Nc⟩:∃s3:Shared,s3={ s2 with heap:=P3 }:=⟨_,rfl⟩;have eP:P3=s3.heap:=by rw[Nc]
 rw[eP] at KI₁ KD₁ ⊢;have I3:Inv X UL σ (U1 H2 s2.heap.objs.size (.lst [])) s3:=by
  rw[Nc,<-PX];exact I2.laid (t':=s2.toks) (fun b u e=>IM _ e) (IE _) ⟨Je _,[],0,.nil,Jn _ rfl⟩
 have keep23:∀b o,s2.heap.get? b=some o->s3.heap.get? b=some o:=fun b o e=>by rw[<-eP,<-PX];exact IM _ e
 have f3:∀b∈fp,kJ X UL (U1 H2 s2.heap.objs.size (.lst [])) b:=fun b hb=>⟨by rw[aD (Jk (Nr b hb))];exact(f2 b hb).1,(f2 b hb).2⟩;have Mf:tn 0 s3.heap:=T.keep _ _ _ MT fun b hb o e=>keep23 b o e;have Ll:∀b∈fp,b < s3.heap.objs.size:=fun b hb=>let ⟨o,e,_⟩:=T.obj _ _ Mf b hb;Jj e;have keep34:∀b o,s3.heap.get? b=some o->h₁.get? b=some o:=fun b o e=>KD₁.extBut b o (Jk (Jj e)) (IM _ e);have Ov:tn 0 h₁:=T.keep _ _ _ Mf fun b hb o e=>keep34 b o e;have Oj:∀b∈fp,U1 H2 s2.heap.objs.size (.lst []) b=none:=fun b hb=>(f3 b hb).1;have stat:∀{H'},(∀b∈fp,H' b=none)->∀b∈fp,kJ (oq X scope cl s3.heap.objs.size (Xs++Nf) s3 (U1 H2 s2.heap.objs.size (.lst [])) fp) [] H' b:=fun {H'} hn b hb=>by
  refine⟨hn b hb,Jk (Ll b hb),fun z=>?_,.inl hb,fun y c e=>(f3 b hb).2.2.2.2.1 y c (K.sub y c e),fun p hp=>Vi (show p∈([]:List (Addr×Obj)) from hp) (by simp)⟩;rcases Ji.mp (I3.mY b z) with e | e
  ·exact(f3 b hb).2.1 e
  ·exact(f3 b hb).2.2.1 e
 have fin:∀{σ' H' s'},Inv (oq X scope cl s3.heap.objs.size (Xs++Nf) s3 (U1 H2 s2.heap.objs.size (.lst [])) fp) [] σ' H' s'->Q (.ref s2.heap.objs.size) H'->
   compPost (model X.prog X.w) X.A X.xe (some (assign (.Name y py) X.env)) (fun _ s'=>SP X UL DD .next s') (.ref s2.heap.objs.size) s3.heap.objs.size (.ok .next) s':=fun {σ' H' s'} J q=>by
  obtain⟨m,hn,_⟩:=J.loc;have ne:∀b o,s3.heap.get? b=some o->b≠s3.heap.objs.size:=fun b o e=>Jk (Jj e);have B:=J.base;have I5:Inv X UL σ H' s':=by
   refine I3.vi (ch:=fp) (s':=s') J.os ?_ J.cA J.bare fun b hb=>⟨(f3 b hb).2.2.2.1,(f3 b hb).2.1,(f3 b hb).2.2.2.2.1,(f3 b hb).2.2.2.2.2⟩;exact⟨fun b o e n hb hx=>B.keep b o e n hb hx,fun b o e n hb hx=>B.slot b o e n hb hx,fun b o e n hx=>B.free b o e n hx,fun b o e hx=>B.there b o e hx,B.kS,B.nQ,B.oz⟩
  have fC:kJ X UL H' s3.heap.objs.size:=I3.wu (IE _) J.free;obtain⟨c0,c1,c2,c3,c4,c5⟩:=fC;show wpAny _ X.A (assign (.Name y py) X.env (.ref s2.heap.objs.size)) _ _ s';refine wpAny_assign_Name (oW (v:=.ref s2.heap.objs.size) I5 hN hiy hy rfl (fun s'' I'' sb=>?_) hfy);obtain⟨a,sb,ha⟩:=sb;have hCa:s3.heap.objs.size≠a:=by
   rcases ha with z | z
   ·rw[z];exact c1
   ·exact fun e=>c4 y a z e.symm
  refine⟨m,hn.sameBut sb hCa,fun h' N7=>⟨_,H',I''.turned (t':=s''.toks) (fun b o hb e=>N7.extBut b o hb e) c0 c1 c3 c4 c5,?_⟩⟩;rw[hQ] at q;exact q
 have loop:∀s4:Shared,s4={ s3 with heap:=h₁,toks:=s3.toks+([]:List (Str×Value)).length }->
   codeAny (model X.prog X.w) X.A (.compLoop (.ListComp elt [⟨tg,iter,ifs,0⟩] scope pos) 0 (.ref it) (.ref s2.heap.objs.size) (compEnvC scope cl s3.heap.objs.size X.env))
    (compPost (model X.prog X.w) X.A X.xe (some (assign (.Name y py) X.env)) (fun _ s'=>SP X UL DD .next s') (.ref s2.heap.objs.size) s3.heap.objs.size) s4:=by
  rintro s4 rfl;have I4:=oo (Xs:=Xs) (tk:=s3.toks+([]:List (Str×Value)).length) K I3 OM OL f3 Ll KI₁ keep34;refine kE (fun n s'=>∃i ox ys H',ox.length=Xs.length/\Inv (oq X scope cl s3.heap.objs.size (Xs++Nf) s3 (U1 H2 s2.heap.objs.size (.lst [])) fp) [] (ox++vs.map some) H' s'/\tn i s'.heap/\(∀b∈fp,H' b=none)/\W i n ys H') ?_ m0 ⟨0,List.replicate Xs.length none,[],_,List.length_replicate,I4,Ov,Oj,w0⟩;rintro n s5 ⟨i,ox,ys,H5,Ni,I5,LN,NQ,w5⟩;rcases turn i n ys H5 w5 with ⟨stop,qn⟩ | ⟨go,step⟩
  ·refine Jr (T.done (oq X scope cl s3.heap.objs.size (Xs++Nf) s3 (U1 H2 s2.heap.objs.size (.lst [])) fp) rfl rfl rfl hc i [] s5 _ H5 _ I5 (stat NQ) LN stop) (fun r s6 ⟨hr,I6⟩=>?_) fun _ _ z=>z;subst hr;exact fin I6 qn
  ·refine Jr (T.item (oq X scope cl s3.heap.objs.size (Xs++Nf) s3 (U1 H2 s2.heap.objs.size (.lst [])) fp) rfl rfl rfl hc i [] s5 _ H5 _ I5 (stat NQ) LN go) (fun r s6 ⟨u,hr,h6⟩=>?_) fun _ _ z=>z;subst hr;refine Jr h6 (fun _ s7 ⟨x7,H7,I7,r7,y7,MS,R4⟩=>?_) fun _ _ z=>z;have Sg:=I7.pinned (stat R4) (T.obj _ _ MS);refine Jr (hg s3.heap.objs.size s3 (U1 H2 s2.heap.objs.size (.lst [])) fp _ s7 _ H7 x7 u _ Sg r7 (step x7 H7 ox Ni y7)) (fun _ s8 ⟨σ8,H8,I8,Kl,Nh,e8,q8⟩=>?_) fun _ _ z=>False.elim z;subst e8;refine Jr (RK s3.heap.objs.size s3 _ fp _ s8 _ H8 _ I8 q8) (fun b8 s8b ⟨H8b,I8b,q8b⟩=>?_) fun _ _ z=>False.elim z;have ends:∀JL JO ML m',m' < n->W (i+1) m' ML JL->Inv (oq X scope cl s3.heap.objs.size (Xs++Nf) s3 (U1 H2 s2.heap.objs.size (.lst [])) fp) ([]++kX fp s7.heap) (Kl++vs.map some) JL JO->
     ∃m,m < n/\∃i ox ys H',ox.length=Xs.length/\Inv (oq X scope cl s3.heap.objs.size (Xs++Nf) s3 (U1 H2 s2.heap.objs.size (.lst [])) fp) [] (ox++vs.map some) H' JO/\tn i JO.heap/\(∀b∈fp,H' b=none)/\W i m ys H':=fun JL JO ML m' KJ w9 LD=>by
    refine⟨m',KJ,i+1,Kl,ML,_,Nh,LD.iI,T.keep _ _ _ MS fun b hb o e=>(LD.pin (b,o) (IV _ (IV _ (gw hb e)))).1,fun b hb=>?_,w9⟩;obtain⟨o,e,d⟩:=T.obj _ _ MS b hb;exact(LD.pin (b,o) (IV _ (IV _ (gw hb e)))).2.1
   cases b8 with
   | false=>
    rw[IH IP] at q8b ⊢;obtain⟨m',KJ,w9⟩:=q8b;exact ends _ _ _ _ KJ w9 I8b
   | true=>
    rw[II rfl] at q8b ⊢;refine Jr (he s3.heap.objs.size s3 _ fp _ s8b _ H8b _ I8b q8b) (fun v9 s9 ⟨v,H9,I9,r9,RX,Rj,m',KJ,w9⟩=>?_) fun _ _ z=>False.elim z;refine Jr (cf (X:=oq X scope cl s3.heap.objs.size (Xs++Nf) s3 (U1 H2 s2.heap.objs.size (.lst [])) fp) _ s9 _ H9 (.ref s2.heap.objs.size) [v] (.ref s2.heap.objs.size) [v9] (fun _ H'=>H'=U1 H9 s2.heap.objs.size (.lst (ys++[v]))) I9 rfl (.cons r9 .nil) ⟨_,ys,v,rfl,rfl,RX,Rj,rfl⟩)
     (fun _ JO ⟨_,JL,LD,_,R7⟩=>?_) fun _ _ z=>False.elim z
    subst R7;exact ends _ _ _ _ KJ w9 LD
 have e4:({ s2 with heap:=h₁,toks:=s2.toks+([]:List (Str×Value)).length }:Shared)={ s3 with heap:=h₁,toks:=s3.toks+([]:List (Str×Value)).length }:=by rw[Nc]
 rw[e4];exact codeAny_compStart_list (loop _ rfl) (T.self _ 0 _ _ _ Ov (loop _ rfl))
end
end L2
namespace GS
open PySem PySem.Spec PySem.Builtin PyProof.Rows L2
open PySem.SeqAt
open PySem.MeetsSeq PySem.MeetsSeq2 PySem.MeetsSeq3
theorem gF {prog w A E s t sl items vl vu lo hi Q}(ht:IsTup s.heap t items) (hs:s.heap.IsSliceOf sl vl vu .none) (pl:IsPart vl lo) (pu:IsPart vu hi)
  (hw:HT.fF items.size 0 lo=0/\HT.fF items.size items.size hi=items.size) (h:Q (.ref t) s):wpAny (model prog w) A (getItem (.ref t) (.ref sl)) Q E s:=by
 obtain⟨os,K4,Py,JH⟩:=id hs;have RP:s.TypeIs (.ref sl) "slice":=⟨os,K4,Py⟩;unfold getItem
 try with_reducible refine wpAny_holding ?_
 first | refine IK (IL ?_) | skip
 refine IK (wpAny_sequenceKey ht.typeIs (by decide) ?_);refine IK (wpAny_callSpecial?_slot (name:=Str.ofString "__getitem__") ht.typeIs PyProof.Rows.slot_tuple_getitem
  (wpAny_call_entry PyProof.Rows.slot_tuple_getitem ht.typeIs entry_tuple_getitem ?_ (args_tuple_getitem _ _)))
 show wpAny _ _ (Builtin.Tuple.tupleItemsOf (.ref t) >>= _) _ _ s;refine IK (tupleItemsOf_ ht ?_);refine IK (wpAny_typeOf RP ?_);rw[II (by decide)];refine IK (HT.hC hs pl pu ?_);rw[hw.1,hw.2];show wpAny _ _ (if(((0:Nat):Int) == 0&&(1:Int) == 1&&(items.size - 0) == items.size)=true then _ else _) _ _ s;rw[II (by simp)];refine IK ?_;unfold Builtin.Tuple.tupleIsExact;refine IK (wpAny_typeOf ht.typeIs (IL ?_));rw[II (by decide)];exact IK (wpAny_rule (IL ⟨_,rfl,IL h⟩))
def cutD (ds:List D) (lo hi:Option Int):List D:=(ds.drop (HT.fF ds.length 0 lo)).take (HT.fF ds.length ds.length hi - HT.fF ds.length 0 lo)
section
variable {X:Cx}{K:Fg06}{H:Hp}
theorem aE.drop:∀n {ds vs},aE K H ds vs->aE K H (ds.drop n) (vs.drop n)
 | 0,_,_,h=>h
 | n+1,[],vs,h=>by rw[aZ.mp h];exact aZ.mpr rfl
 | n+1,d::ds,vs,h=>by
  obtain⟨v,r,rfl,h1,h2⟩:=aX.mp h;exact aE.drop n h2
theorem aE.take:∀n {ds vs},aE K H ds vs->aE K H (ds.take n) (vs.take n)
 | 0,_,_,h=>aZ.mpr rfl
 | n+1,[],vs,h=>by rw[aZ.mp h];exact aZ.mpr rfl
 | n+1,d::ds,vs,h=>by
  obtain⟨v,r,rfl,h1,h2⟩:=aX.mp h;exact aX.mpr ⟨v,r.take n,rfl,h1,aE.take n h2⟩
def Ht (K:Fg06):V->Option Int->Option Int->Hp->VK->Prop:=fun x lo hi H Q=>∃ds,At K H (.tup ds) x/\∀r H',ak H H'->At K H' (.tup (cutD ds lo hi)) r->Q r H'
theorem EM:wN X (Ht X.K):=by
 intro UL s σ H x v vl vu lo hi sl Q I rx hs pl pu h;obtain⟨ds,hx,q⟩:=h;obtain⟨a,xs,rfl,hq,hA⟩:=bf.mp hx;have ln:=hA.len;by_cases hw:HT.fF xs.length 0 lo=0/\HT.fF xs.length xs.length hi=xs.length
 ·cases rx;obtain⟨UN,r,ht,hz⟩:=I.tuple hq;have UQ:UN.toArray.size=xs.length:=by rw[U9];exact r.length.symm
  refine⟨"tuple",_,PyProof.Rows.slot_tuple_getitem.lookup,ht.typeIs,?_⟩;refine gF ht hs pl pu (by rw[UQ];exact hw) ⟨.ref a,H,I,rfl,q _ H (ak.refl H) ?_⟩;have e:cutD ds lo hi=ds:=by
   unfold cutD;rw[<-ln,hw.1,hw.2,ln];simp
  rw[e];exact hx
 ·refine xO UL s σ H _ v vl vu lo hi sl Q I rx hs pl pu ⟨a,xs,rfl,hq,hw,fun p hp=>q _ _ (ab hp _) (At.new hp ?_)⟩;unfold cutD de;rw[<-ln];exact aE.take _ (aE.drop _ hA)
end
end GS
namespace L2
open PySem PySem.Spec PyProof.Rows
section
variable {κ:Type} [DecidableEq κ]
def fG (UM:List (κ×V)) (k:κ):Option V:=(UM.find? fun kv=>decide (kv.1=k)).map (·.2)
def U3 (UM:List (κ×V)) (k:κ) (v:V):List (κ×V):=
 if(UM.any fun kv=>decide (kv.1=k))=true then UM.map (fun kv=>if kv.1=k then(kv.1,v) else kv) else UM++[(k,v)]
theorem d8 {p:κ×V}{r:List (κ×V)}{k:κ}(e:p.1=k):fG (p::r) k=some p.2:=by simp[fG,List.find?_cons,e]
theorem cX {p:κ×V}{r:List (κ×V)}{k:κ}(e:¬p.1=k):fG (p::r) k=fG r k:=by simp[fG,List.find?_cons,e]
theorem iE (k:κ):∀UM:List (κ×V),(UM.any fun kv=>decide (kv.1=k))=(fG UM k).isSome
 | []=>rfl
 | p::r=>by
  rw[List.any_cons];by_cases e:p.1=k
  ·simp only[d8 e,decide_eq_true e,Bool.true_or,Option.isSome_some]
  ·rw[cX e,Iv e,Bool.false_or];exact iE k r
theorem qN (k j:κ) (y:V):∀UM:List (κ×V),fG (UM.map fun kv=>if kv.1=k then(kv.1,y) else kv) j=(fG UM j).map fun x=>if j=k then y else x
 | []=>rfl
 | p::r=>by
  have ih:=qN k j y r;rw[Va];by_cases h:p.1=k
  ·rw[II h];by_cases e:p.1=j
   ·rw[d8 (p:=(p.1,y)) e,d8 e,Option.map_some,II (e.symm.trans h)]
   ·rw[cX (p:=(p.1,y)) e,cX e,ih]
  ·rw[IH h];by_cases e:p.1=j
   ·rw[d8 (p:=p) e,d8 e,Option.map_some,IH (fun z=>h (e.trans z))]
   ·rw[cX (p:=p) e,cX e,ih]
theorem oQ (k j:κ) (y:V):∀UM:List (κ×V),fG UM k=none->fG (UM++[(k,y)]) j=if j=k then some y else fG UM j
 | [],_=>by
  by_cases e:k=j
  ·rw[II e.symm];exact d8 (p:=(k,y)) e
  ·rw[IH (fun z=>e z.symm)];exact cX (p:=(k,y)) e
 | p::r,hn=>by
  rw[List.cons_append];have hk:¬p.1=k:=fun z=>by rw[d8 z] at hn;cases hn
  rw[cX hk] at hn;have ih:=oQ k j y r hn;by_cases e:p.1=j
  ·rw[d8 e,d8 e,IH (fun z=>hk (e.trans z))]
  ·rw[cX e,cX e,ih]
theorem ka (UM:List (κ×V)) (k j:κ) (y:V):fG (U3 UM k y) j=if j=k then some y else fG UM j:=by
 unfold U3;by_cases a:(UM.any fun kv=>decide (kv.1=k))=true
 ·rw[II a,qN];rw[iE] at a;by_cases e:j=k
  ·obtain⟨x,hx⟩:=Option.isSome_iff_exists.mp a;rw[II e,e,hx,Option.map_some,II rfl]
  ·rw[IH e];cases fG UM j with
   | none=>rfl
   | some x=>rw[Option.map_some,IH e]
 ·rw[IH a];refine oQ k j y UM ?_;rw[iE] at a;cases q:fG UM k with
  | none=>rfl
  | some x=>rw[q] at a;exact(a rfl).elim
theorem gC (UM:List (κ×V)) (k:κ) (v:V):(U3 UM k v).length<=UM.length+1:=by
 unfold U3;split
 ·rw[IC];omega
 ·rw[Iu,IT,List.length_nil];omega
theorem nA {UM:List (κ×V)}{k:κ}(v:V) (h:fG UM k=none):U3 UM k v=UM++[(k,v)]:=by
 unfold U3;rw[iE,h];exact IH (by decide)
theorem j4.lK {o:Option V}{u:Option Value}(r:j4 o u):o.isSome=u.isSome:=by
 cases o with
 | none=>cases u with
  | none=>rfl
  | some _=>exact(show False from r).elim
 | some _=>cases u with
  | none=>exact(show False from r).elim
  | some _=>rfl
theorem j4.getD {o:Option V}{u:Option Value}{d:V}{d':Value}(r:j4 o u) (rd:RelV d d'):RelV (o.getD d) (u.getD d'):=by
 cases o with
 | none=>cases u with
  | none=>exact rd
  | some _=>exact(show False from r).elim
 | some _=>cases u with
  | none=>exact(show False from r).elim
  | some _=>exact r
theorem KV.val {UM:List (κ×V)}{vs:List (κ×Value)}(r:KV UM vs) (k:κ):j4 (fG UM k) (valueAt vs k):=by
 unfold KV at r
 induction r with
 | nil=>exact True.intro
 | @cons p q ps qs h t ih=>
  obtain⟨h1,h2⟩:=h;by_cases e:p.1=k
  ·have e':q.1=k:=h1.symm.trans e;have b:valueAt (q::qs) k=some q.2:=by simp[valueAt,List.find?_cons,e']
   rw[d8 e,b];exact h2
  ·have e':¬q.1=k:=fun z=>e (h1.trans z);have b:valueAt (q::qs) k=valueAt qs k:=by simp[valueAt,List.find?_cons,e']
   rw[cX e,b];exact ih
theorem KV.any {UM:List (κ×V)}{vs:List (κ×Value)}(r:KV UM vs) (k:κ):(UM.any fun kv=>decide (kv.1=k))=vs.any fun kv=>decide (kv.1=k):=by
 unfold KV at r
 induction r with
 | nil=>rfl
 | cons h t ih=>rw[List.any_cons,List.any_cons,ih,h.1]
theorem KV.B6 {UM:List (κ×V)}{vs:List (κ×Value)}(r:KV UM vs) (k:κ){y:V}{u:Value}(ry:RelV y u):
  KV (UM.map fun kv=>if kv.1=k then(kv.1,y) else kv) (vs.map fun kv=>if kv.1=k then(kv.1,u) else kv):=by
 unfold KV at r ⊢
 induction r with
 | nil=>exact .nil
 | @cons p q ps qs h t ih=>
  rw[Va,Va];refine .cons ?_ ih;obtain⟨h1,h2⟩:=h;by_cases e:p.1=k
  ·rw[II e,II (h1.symm.trans e)];exact⟨h1,ry⟩
  ·rw[IH e,IH (fun z=>e (h1.trans z))];exact⟨h1,h2⟩
theorem KV.put {UM:List (κ×V)}{vs:List (κ×Value)}(r:KV UM vs) (k:κ){y:V}{u:Value}(ry:RelV y u):KV (U3 UM k y) (stored vs k u):=by
 unfold U3 stored;rw[r.any k];by_cases e:(vs.any fun kv=>decide (kv.1=k))=true
 ·rw[II e,II e];exact r.B6 k ry
 ·rw[IH e,IH e];exact Paired.snoc r ⟨rfl,ry⟩
theorem KV.keys {UM:List (κ×V)}{vs:List (κ×Value)}(r:KV UM vs):UM.map (·.1)=vs.map (·.1):=by
 unfold KV at r
 induction r with
 | nil=>rfl
 | cons h t ih=>rw[Va,Va,ih,h.1]
theorem KV.length {UM:List (κ×V)}{vs:List (κ×Value)}(r:KV UM vs):UM.length=vs.length:=Paired.length r
end
theorem lX {P:Program}{w:World}{k:Key}{u:Value}(r:RelV (kV k) u):(bB P w).is k u=true:=by
 cases k with
 | inl i=>obtain⟨t,e⟩:=(show ∃t,u=Value.int i t from r);subst e;exact rh P w i t
 | inr x=>obtain⟨t,e⟩:=(show ∃t,u=Value.str x t from r);subst e;exact rg P w x t
theorem pC {P:Program}{w:World}:∀{ks:List Key}{us:List Value},U2 (ks.map kV) us->ItemsAre (bB P w) ks us
 | [],_,r=>by rw[List.map_nil] at r;cases r;exact .nil
 | k::ks,_,r=>by
  rw[Va] at r;cases r with
  | cons h t=>exact .cons (lX h) (pC t)
abbrev KT (H:Hp):List (List Key×V)->List (List Key×Addr×Value)->Prop:=Paired fun p q=>p.1=q.1/\H q.2.1=some (.tup (p.1.map kV))/\RelV p.2 q.2.2
theorem KT.val {H:Hp}{UM:List (List Key×V)}{xs:List (List Key×Addr×Value)}(r:KT H UM xs) (k:List Key):j4 (fG UM k) ((atKey xs k).map (·.2)):=by
 induction r with
 | nil=>exact True.intro
 | @cons p q ps qs h t ih=>
  obtain⟨h1,_,h2⟩:=h;by_cases e:p.1=k
  ·have e':q.1=k:=h1.symm.trans e;have b:atKey (q::qs) k=some q.2:=by simp[atKey,List.find?_cons,e']
   rw[d8 e,b];exact h2
  ·have e':¬q.1=k:=fun z=>e (h1.trans z);have b:atKey (q::qs) k=atKey qs k:=by simp[atKey,List.find?_cons,e']
   rw[cX e,b];exact ih
theorem KT.B6 {H:Hp}{UM:List (List Key×V)}{xs:List (List Key×Addr×Value)}(r:KT H UM xs) (k:List Key){y:V}{u:Value}(ry:RelV y u):
  KT H (UM.map fun kv=>if kv.1=k then(kv.1,y) else kv) (xs.map (putAt k u)):=by
 induction r with
 | nil=>exact .nil
 | @cons p q ps qs h t ih=>
  rw[Va,Va];refine .cons ?_ ih;obtain⟨h1,h2,h3⟩:=h;unfold putAt;by_cases e:p.1=k
  ·rw[II e,II (h1.symm.trans e)];exact⟨h1,h2,ry⟩
  ·rw[IH e,IH (fun z=>e (h1.trans z))];exact⟨h1,h2,h3⟩
theorem KT.put {H:Hp}{UM:List (List Key×V)}{xs:List (List Key×Addr×Value)}(r:KT H UM xs) (k:List Key){b:Addr}{y:V}{u:Value}(hb:H b=some (.tup (k.map kV))) (ry:RelV y u):
  KT H (U3 UM k y) (storedH xs k b u):=by
 have e:(UM.any fun kv=>decide (kv.1=k))=(atKey xs k).isSome:=by
  rw[iE,(r.val k).lK,Option.isSome_map]
 unfold U3 storedH;rw[e];by_cases q:(atKey xs k).isSome=true
 ·rw[II q,II q];exact r.B6 k ry
 ·rw[IH q,IH q];exact Paired.snoc r ⟨rfl,hb,ry⟩
theorem KT.keeps {H H':Hp}{UM:List (List Key×V)}{xs:List (List Key×Addr×Value)}(r:KT H UM xs) (ht:∀b ys,H b=some (.tup ys)->H' b=some (.tup ys)):KT H' UM xs:=
 Paired.DH r fun _ _ z=>⟨z.1,ht _ _ z.2.1,z.2.2⟩
section
variable {P:Program}{w:World}{H:Hp}{h:Heap}{a:Addr}
theorem Bf {u:HO}(ok:j7 P w H h) (e:Rd H a u):dY P w H h a u:=e.ok ok
theorem oa {UM:List (Key×V)}(ok:j7 P w H h) (e:Rd H a (.dK UM)):UM.length<=sizeLine/\(a == sysModules)=false/\∃vs,KV UM vs/\h.DictOf (bB P w) a vs:=
 show dY P w H h a (.dK UM) from Bf ok e
theorem zj {UM:List (Key×V)}(ok:j7 P w H h) (e:H a=some (.dK UM)):UM.length<=sizeLine/\(a == sysModules)=false/\∃vs,KV UM vs/\h.DictOf (bB P w) a vs:=oa ok (.inl e)
theorem lI {ks:List Key}(ok:j7 P w H h) (e:H a=some (.tup (ks.map kV))):(tupleKind (bB P w)).is h ks a:=by
 obtain⟨_,UN,r,o,h1,h2,n,h3⟩:=(show dY P w H h a (.tup (ks.map kV)) from ok a _ e);exact⟨o,UN.toArray,n,h1,h2,h3,by simpa using pC r⟩
theorem n9 {UM:List (List Key×V)}(ok:j7 P w H h) (e:Rd H a (.dT UM)):UM.length<=sizeLine/\(a == sysModules)=false/\
  ∃xs,KT H UM xs/\h.DictOfH (tupleKind (bB P w)) a xs:=by
 obtain⟨z,y,xs,r,o,es,ep,h1,h2,h3,h4,h5⟩:=(show dY P w H h a (.dT UM) from Bf ok e);refine⟨z,y,xs,r,o,es,ep,h1,h2,h3,h4,fun x hx=>?_,h5⟩;have all:∀{l:List (List Key×V)}{m:List (List Key×Addr×Value)},KT H l m->∀x∈m,(tupleKind (bB P w)).is h x.1 x.2.1:=by
  intro l m q
  induction q with
  | nil=>intro x hx;exact nomatch hx
  | @cons p q ps qs hq t ih=>
   intro x hx;rcases Ji.mp hx with e | hx
   ·subst e;exact lI ok (by rw[<-hq.1];exact hq.2.1)
   ·exact ih x hx
 exact all r x hx
theorem Gk {UM:List (List Key×V)}(ok:j7 P w H h) (e:H a=some (.dT UM)):UM.length<=sizeLine/\(a == sysModules)=false/\
  ∃xs,KT H UM xs/\h.DictOfH (tupleKind (bB P w)) a xs:=n9 ok (.inl e)
end
def gM (H:Hp) (a:Addr) (y:V) (r:Option V):Prop:=
 (∃UM k,Rd H a (.dK UM)/\y=kV k/\r=fG UM k)\/∃UM k b,Rd H a (.dT UM)/\y=.ref b/\H b=some (.tup (k.map kV))/\r=fG UM k
def mq (H:Hp) (a:Addr) (y v:V) (H':Hp):Prop:=
 (∃UM k,H a=some (.dK UM)/\y=kV k/\UM.length < sizeLine/\H'=U1 H a (.dK (U3 UM k v)))\/
 ∃UM k b,H a=some (.dT UM)/\y=.ref b/\H b=some (.tup (k.map kV))/\UM.length < sizeLine/\H'=U1 H a (.dT (U3 UM k v))
theorem gM.k {H:Hp}{a:Addr}{UM:List (Key×V)}{k:Key}(e:H a=some (.dK UM)):gM H a (kV k) (fG UM k):=.inl ⟨UM,k,.inl e,rfl,rfl⟩
theorem mq.k {H:Hp}{a:Addr}{UM:List (Key×V)}{k:Key}{v:V}(e:H a=some (.dK UM)) (hl:UM.length < sizeLine):mq H a (kV k) v (U1 H a (.dK (U3 UM k v))):=.inl ⟨UM,k,e,rfl,hl,rfl⟩
section
variable {X:Cx}{UL:List (Addr×Obj)}{σ:St}{H:Hp}{s:Shared}{a:Addr}{y v:V}{u r:Value}{o:Option V}{A:Around}{E:Value->Shared->Prop}
theorem wz {Q:Value->Shared->Prop}(hu:A.units+1 < cLine) (I:Inv X UL σ H s) (g:gM H a y (some v)) (ry:RelV y u) (h:∀w' s',Inv X UL σ H s'->RelV v w'->Q w' s'):
  wpAny (model X.prog X.w) A (getItem (.ref a) u) Q E s:=by
 rcases g with ⟨UM,k,e,ey,l⟩ | ⟨UM,k,b,e,ey,eb,l⟩
 ·subst ey;obtain⟨z,hd,vs,rel,dd⟩:=oa I.cA e;obtain⟨w',hw,Jt⟩:=j4.some_of (v:=v) (o:=valueAt vs k) (by rw[l];exact rel.val k);exact wpAny_getItem_of (lX ry) dd.mapOf hw (h w' _ (I.tok _) Jt)
 ·subst ey;cases (show u=Value.ref b from ry);obtain⟨z,hd,xs,rel,dd⟩:=n9 I.cA e;obtain⟨w',hw,Jt⟩:=j4.some_of (v:=v) (o:=(atKey xs k).map (·.2)) (by rw[l];exact rel.val k);obtain⟨p,hp,Kb⟩:=Option.map_eq_some_iff.mp hw;refine wpAny_getItem_heap (tupleKind_room_in1 hu) (lI I.cA eb) dd hp ?_;rw[Kb];exact h w' _ (I.tok _) Jt
theorem Ib {Q:Value->Shared->Prop}(hu:A.units+1 < cLine) (I:Inv X UL σ H s) (g:gM H a y o) (ry:RelV y u) (h:∀s',Inv X UL σ H s'->Q (.bool o.isSome) s'):
  wpAny (model X.prog X.w) A (compareOp .In u (.ref a)) Q E s:=by
 rcases g with ⟨UM,k,e,ey,l⟩ | ⟨UM,k,b,e,ey,eb,l⟩
 ·subst ey;obtain⟨z,hd,vs,rel,dd⟩:=oa I.cA e;refine wpAny_in_of (lX ry) hd dd.mapOf ?_;rw[<-(rel.val k).lK,<-l];exact h _ (I.tok _)
 ·subst ey;cases (show u=Value.ref b from ry);obtain⟨z,hd,xs,rel,dd⟩:=n9 I.cA e;refine wpAny_in_heap (tupleKind_room_in1 hu) (lI I.cA eb) hd dd ?_;have q:=(rel.val k).lK;rw[Option.isSome_map] at q;rw[<-q,<-l];exact h _ (I.tok _)
theorem mE {h':Heap}{t':Nat}{ob:HO}(I:Inv X UL σ H s) (mu:GA (H a)) (hs:Heap.SameBut a s.heap h') (he:∃q,h'.get? a=some q) (new:dY X.prog X.w (U1 H a ob) h' a ob):
  Inv X UL σ (U1 H a ob) { s with heap:=h',toks:=t' }:=
 I.write (x:=a) (e:=a) mu (.inl rfl) (fun b q hb z=>(hs.2 b hb).trans z) he new
theorem qx {P:Program}{w:World}{H':Hp}{h':Heap}{UM:List (Key×V)}{vs:List (Key×Value)}(z:UM.length<=sizeLine) (hd:(a == sysModules)=false) (rel:KV UM vs) (dd:h'.DictOf (bB P w) a vs):
  dY P w H' h' a (.dK UM):=⟨z,hd,vs,rel,dd⟩
theorem wy {H':Hp}{Q:Unit->Shared->Prop}(hu:A.units+1 < cLine) (I:Inv X UL σ H s) (g:mq H a y v H') (ry:RelV y u) (rv:RelV v r) (h:∀s',Inv X UL σ H' s'->Q () s'):
  wpAny (model X.prog X.w) A (setItem (.ref a) u r) Q E s:=by
 rcases g with ⟨UM,k,e,ey,l,eH⟩ | ⟨UM,k,b,e,ey,eb,l,eH⟩
 ·subst ey eH;obtain⟨z,hd,vs,rel,dd⟩:=zj I.cA e;have hz:vs.length<=sizeLine:=by rw[<-rel.length];exact z
  have hl:(U3 UM k v).length<=sizeLine:=by have:=gC UM k v;omega
  refine wpAny_setItem_pairs (hsz:=hz) (lX ry) dd fun h' LM hs=>h _ ?_;have he:∃q,h'.get? a=some q:=let ⟨q,_,_,hq,_⟩:=LM;⟨q,hq⟩;exact mE I (by rw[e];exact True.intro) hs he (qx hl hd (rel.put k rv) LM)
 ·subst ey eH;cases (show u=Value.ref b from ry);obtain⟨z,hd,xs,rel,dd⟩:=Gk I.cA e;have hz:xs.length<=sizeLine:=by rw[<-Paired.length rel];exact z
  have hl:(U3 UM k v).length<=sizeLine:=by have:=gC UM k v;omega
  refine wpAny_setItem_heap (hsz:=hz) (tupleKind_room_in1 hu) (lI I.cA eb) dd fun h' LM hs=>h _ ?_;obtain⟨q,es,ep,hq,h2,h3,h4,_,h5⟩:=LM;refine mE I (by rw[e];exact True.intro) hs ⟨q,hq⟩ ⟨hl,hd,_,(rel.put k eb rv).keeps fun c ys ec=>?_,q,es,ep,hq,h2,h3,h4,h5⟩;rw[aD (FY ec e (fun z=>nomatch z))];exact ec
end
section
variable {X:Cx}{UL:List (Addr×Obj)}{σ:St}{H:Hp}{s:Shared}{a:Addr}{UM:List (Key×V)}{k:Key}{u:Value}{A:Around}{E:Value->Shared->Prop}
theorem AM {Q:Value->Shared->Prop}(I:Inv X UL σ H s) (e:H a=some (.dK UM)) (h:∀s',Inv X UL σ (U1 H a (.dK [])) s'->Q .none s'):wpAny (model X.prog X.w) A (call (.builtin "dict.clear") [.ref a]) Q E s:=by
 obtain⟨z,hd,vs,rel,dd⟩:=zj I.cA e;refine call_meetsIn PySem.F.slot_dict_clear dd.typeIs PySem.F.entry_dict_clear (PySem.F.args_dict_clear_1 _) (meets_dict_clear (bB X.prog X.w) a) ⟨vs,dd,by rw[<-rel.length];exact z,fun h' LM hs=>h _ ?_⟩;have he:∃q,h'.get? a=some q:=let ⟨q,_,_,hq,_⟩:=LM;⟨q,hq⟩;exact mE (t':=s.toks) I (by rw[e];exact True.intro) hs he (qx (Je _) hd .nil LM)
end
def AW (i:Expr):Prop:=∀ov iv,subscripted i false ov iv=operate [ov,iv] (getItem ov iv)
theorem uh {prog:Program}{w:World}{A:Around}{E:Value->Shared->Prop}{s:Shared}{env:Env}{value slice:Expr}{pos:Pos}{T id:String}{Q:Value->Shared->Prop}
  (hl:typeLookup (.type T) "__getitem__"=pure (some (.builtin id))) (hs:AW slice)
  (h:wpAny (model prog w) A (eval value env) (fun o s₁=>wpAny (model prog w) A (eval slice env) (fun i s₂=>s₂.TypeIs o T/\wpAny (model prog w) A (getItem o i) Q E s₂) E s₁) E s):
  wpAny (model prog w) A (eval (.Subscript value slice pos) env) Q E s:=by
 refine Subscript_ (Jr h (fun o s₁ h₁=>Jr h₁ (fun i s₂ h₂=>?_) fun _ _ x=>x) fun _ _ x=>x);obtain⟨hT,h₂⟩:=h₂;unfold subscriptTail;refine IK ?_;rw[getitemInPython_of_ne hT.not_modules];refine IK (wpAny_specialOf hT hl ?_);have fin:wpAny (model prog w) A (subscripted slice false o i) (fun r s₃=>wpAny (model prog w) A (letTemporaryGo value o r >>= fun _=>pure r) Q E s₃) E s₂:=by
  rw[hs o i];exact wpAny_operating (Jr h₂ (fun r s₃ h₃=>IK (wpAny_letTemporaryGo (IL h₃))) fun _ _ x=>x)
 first
  | exact IL (IK fin)
  | exact IK (IL (IK fin))
  | exact IK fin
theorem rP {X:Cx}{UL:List (Addr×Obj)}{σ:St}{H:Hp}{s:Shared}{a:Addr}{y:V}{o:Option V}(I:Inv X UL σ H s) (g:gM H a y o):s.TypeIs (.ref a) "dict":=by
 rcases g with ⟨UM,k,e,_,_⟩ | ⟨UM,k,b,e,_,_,_⟩
 ·obtain⟨_,_,vs,_,dd⟩:=oa I.cA e;exact dd.typeIs
 ·obtain⟨_,_,xs,_,dd⟩:=n9 I.cA e;exact dd.typeIs
def A6 (td ty:TE):TE:=fun σ H Q=>td σ H fun x H1=>ty σ H1 fun y H2=>∃a v,x=.ref a/\gM H2 a y (some v)/\Q v H2
def EG (ty td:TE):TE:=fun σ H Q=>ty σ H fun y H1=>td σ H1 fun x H2=>∃a o,x=.ref a/\gM H2 a y o/\Q (.bl o.isSome) H2
def Fh (td ty tv:TE):TS:=fun D σ H=>tv σ H fun v H1=>td σ H1 fun x H2=>ty σ H2 fun y H3=>∃a H4,x=.ref a/\mq H3 a y v H4/\D.nx σ H4
section
variable {X:Cx}{o i e value:Expr}{pos pos' tpos:Pos}{td ty tv:TE}
theorem gQ (hu:X.A.units+1 < cLine) (ho:PE X o td) (hi:PE X i ty) (hs:AW i):PE X (.Subscript o i pos) (A6 td ty):=by
 intro UL s σ H Q I h;refine uh PySem.F.slot_dict_getitem.lookup hs (da (ho UL s σ H _ I h) fun u s1 ⟨x,H1,I1,rx,q1⟩=>da (hi UL s1 σ H1 _ I1 q1) fun iv s2 ⟨y,H2,I2,ry,a,v,ex,g,q2⟩=>?_);subst ex;obtain rfl:u=Value.ref a:=rx;exact⟨rP I2 g,wz hu I2 g ry fun w' s3 I3 Jt=>⟨v,H2,I3,Jt,q2⟩⟩
theorem Cg (hu:X.A.units+1 < cLine) (hi:PE X i ty) (ho:PE X o td):PC X .In i o (EG ty td):=by
 intro UL s σ H Q I h;refine da (hi UL s σ H _ I h) fun iv s1 ⟨y,H1,I1,ry,q1⟩=>da (ho UL s1 σ H1 _ I1 q1) fun u s2 ⟨x,H2,I2,rx,a,ov,ex,g,q2⟩=>?_;subst ex;obtain rfl:u=Value.ref a:=rx;exact Ib hu I2 g ry fun s3 I3=>⟨.bl ov.isSome,H2,I3,rfl,q2⟩
theorem il (hu:X.A.units+1 < cLine) (ho:PE X o td) (hi:PE X i ty) (hv:PE X value tv) (hs:swapsWith value (some (.Subscript o i pos')) pos.line X.env=pure false):
  PS X (.Assign [.Subscript o i pos'] value pos) (Fh td ty tv):=by
 intro UL s σ H D I h;refine wpAny_Assign_Subscript (da (hv UL s σ H _ I h) fun r s1 ⟨v,H1,I1,rv,q1⟩=>da (ho UL s1 σ H1 _ I1 q1) fun u s2 ⟨x,H2,I2,rx,q2⟩=>da (hi UL s2 σ H2 _ I2 q2) fun iv s3 ⟨y,H3,I3,ry,a,H4,ex,g,q3⟩=>?_) hs;subst ex;obtain rfl:u=Value.ref a:=rx;exact wy hu I3 g ry rv fun s4 I4=>⟨σ,H4,I4,q3⟩
end
section
variable {X:Cx}{pos:Pos}
end
def sr:List (TE×TE)->St->Hp->(List (V×V)->Hp->Prop)->Prop
 | [],_,H,Q=>Q [] H
 | (tk,tv)::r,σ,H,Q=>tk σ H fun x H1=>tv σ H1 fun y H2=>sr r σ H2 fun ps H3=>Q ((x,y)::ps) H3
abbrev VV:List (V×V)->List (Value×Value)->Prop:=Paired fun p q=>RelV p.1 q.1/\RelV p.2 q.2
def Eg (X:Cx) (pos:Pos) (keys:List (Option Expr)) (values:List Expr) (UZ:List (TE×TE)):Prop:=
 ∀(UL:List (Addr×Obj)) (s:Shared) (σ:St) (H:Hp) (Q:List (V×V)->Hp->Prop),Inv X UL σ H s->sr UZ σ H Q->
  wpAny (model X.prog X.w) X.A (evalPairs (pairTrees keys values X.env pos)) (fun vs s'=>∃ps H',Inv X UL σ H' s'/\VV ps vs/\Q ps H') X.xe s
theorem jm {X:Cx}{pos:Pos}:Eg X pos [] [] []:=fun UL s σ H Q I h=>pairTrees_nil_walk ⟨[],H,I,.nil,h⟩
theorem eU {X:Cx}{pos:Pos}{k v:Expr}{ks:List (Option Expr)}{vs:List Expr}{tk tv:TE}{UZ:List (TE×TE)}(hk:PE X k tk) (hv:PE X v tv) (hr:Eg X pos ks vs UZ):
  Eg X pos (some k::ks) (v::vs) ((tk,tv)::UZ):=fun UL s σ H Q I h=>
 pairTrees_cons_walk (da (hk UL s σ H _ I h) fun u s1 ⟨x,H1,I1,rx,q1⟩=>da (hv UL s1 σ H1 _ I1 q1) fun w2 s2 ⟨y,H2,I2,ry,q2⟩=>
  da (hr UL s2 σ H2 _ I2 q2) fun ws s3 ⟨ps,H3,I3,rel,q3⟩=>⟨(x,y)::ps,H3,I3,.cons ⟨rx,ry⟩ rel,q3⟩)
def dJ (UM more:List (Key×V)):List (Key×V):=more.foldl (fun acc kv=>U3 acc kv.1 kv.2) UM
theorem KV.merge:∀{more:List (Key×V)}{rs:List (Key×Value)}{UM:List (Key×V)}{vs:List (Key×Value)},KV more rs->KV UM vs->KV (dJ UM more) (merged vs rs):=by
 intro more rs UM vs r;unfold KV at r
 induction r generalizing UM vs with
 | nil=>intro q;exact q
 | @cons p q ps qs h t ih=>
  intro r0;have e:KV (U3 UM p.1 p.2) (stored vs q.1 q.2):=by
   have:=r0.put p.1 h.2;rw[<-h.1];exact this
  exact ih e
theorem gY:∀(more UM:List (Key×V)),(dJ UM more).length<=UM.length+more.length
 | [],UM=>by show UM.length<=UM.length+0;omega
 | p::r,UM=>by
  have h1:=gY r (U3 UM p.1 p.2);have h2:=gC UM p.1 p.2;show(dJ (U3 UM p.1 p.2) r).length<=_;rw[IT];omega
theorem og {P:Program}{w:World}:∀{UM:List (Key×V)}{ws:List (Value×Value)},VV (UM.map fun kv=>(kV kv.1,kv.2)) ws->∃rs,Carries (bB P w) ws rs/\KV UM rs
 | [],_,r=>by rw[List.map_nil] at r;cases r;exact⟨[],True.intro,.nil⟩
 | p::UM,_,r=>by
  rw[Va] at r;cases r with
  | @cons a b as bs h t=>
   obtain⟨rs,c,q⟩:=og (P:=P) (w:=w) t;obtain⟨b1,b2⟩:=b;exact⟨(p.1,b2)::rs,⟨lX h.1,rfl,c⟩,.cons ⟨rfl,h.2⟩ q⟩
def A5 (UZ:List (TE×TE)):TE:=fun σ H Q=>∀p,H p=none->sr UZ σ (U1 H p (.dK [])) fun ps H2=>H2 p=some (.dK [])/\∃UM:List (Key×V),ps=UM.map (fun kv=>(kV kv.1,kv.2))/\UM.length<=15/\Q (.ref p) (U1 H2 p (.dK (dJ [] UM)))
theorem jo {X:Cx}{pos:Pos}{keys:List (Option Expr)}{values:List Expr}{UZ:List (TE×TE)}(h:Eg X pos keys values UZ) (J7:keys.all (·.isSome)=true) (hl:keys.length=values.length) (h0:keys≠[])
  (LK:keys.length<=15):PE X (.Dict keys values pos) (A5 UZ):=by
 intro UL s σ H Q I q;have hn:=I.cA.fresh (IE s.heap.objs.size);have I1:=I.laid (a:=s.heap.objs.size) (o:=.dK []) (h':=s.heap.push { cls:=.type "dict",data:=.dict #[] }) (t':=s.toks) (fun _ _ q=>IM _ q) (IE _) (rM s.heap I.big);refine wpAny_Dict_walk (knd:=bB X.prog X.w) J7 hl h0 LK (da (h UL _ σ _ _ I1 (q _ hn)) fun ws s2 ⟨ps,H2,I2,rel,e,UM,ep,lk,q2⟩=>?_);subst ep;obtain⟨rs,c,rk⟩:=og (P:=X.prog) (w:=X.w) rel;obtain⟨z,hd,vs0,r0,dd⟩:=zj I2.cA e;cases r0;refine⟨rs,c,dd,fun h' LM hs=>⟨.ref s.heap.objs.size,_,?_,rfl,q2⟩⟩;have hz:(dJ [] UM).length<=sizeLine:=by
  have h1:=gY UM [];rw[List.length_nil] at h1;rw[sizeLine_eq];omega
 have he:∃q,h'.get? s.heap.objs.size=some q:=let ⟨q,_,_,hq,_⟩:=LM;⟨q,hq⟩;exact mE I2 (by rw[e];exact True.intro) hs he (qx hz hd (rk.merge .nil) LM)
structure M1 (X:Cx) (o:Expr) (m:Str) (UU:Pos) (e:Expr) (US:Pos):Prop where
 base:attributeBase o m X.env (eval o X.env)=eval o X.env
 HY:((backTo US (starEach [e] X.env)).all (fun x=>!x.1)&&(backToKw US (keywordEach [] X.env)).all (fun x=>x.1.isSome)
  &&decide (([e]:List Expr).length+([]:List Keyword).length+(if([]:List Keyword).isEmpty then 0 else 1) < 30))=true
 line:(UU.endLine == US.line)=true
 trees:backTo US (starEach [e] X.env)=[(false,eval e X.env)]
structure M2 (X:Cx) (o:Expr) (m:Str) (UU:Pos) (e f:Expr) (US:Pos):Prop where
 base:attributeBase o m X.env (eval o X.env)=eval o X.env
 HY:((backTo US (starEach [e,f] X.env)).all (fun x=>!x.1)&&(backToKw US (keywordEach [] X.env)).all (fun x=>x.1.isSome)
  &&decide (([e,f]:List Expr).length+([]:List Keyword).length+(if([]:List Keyword).isEmpty then 0 else 1) < 30))=true
 line:(UU.endLine == US.line)=true
 trees:backTo US (starEach [e,f] X.env)=[(false,eval e X.env),(false,eval f X.env)]
def Ik (H:Hp) (a:Addr):Prop:=(∃UM,Rd H a (.dK UM))\/∃UM,Rd H a (.dT UM)
theorem sZ {X:Cx}{UL:List (Addr×Obj)}{σ:St}{H:Hp}{s:Shared}{a:Addr}(I:Inv X UL σ H s) (d:Ik H a):
  s.TypeIs (.ref a) "dict"/\(∀b,Value.ref a=.ref b->∃ob,s.heap.get? b=some ob/\ob.dict=none)/\(a == sysModules)=false:=by
 rcases d with ⟨UM,e⟩ | ⟨UM,e⟩
 ·obtain⟨_,hd,vs,_,dd⟩:=oa I.cA e;refine⟨dd.typeIs,fun b q=>?_,hd⟩;cases q;obtain⟨ob,_,_,h1,h2,_⟩:=dd;exact⟨ob,h1,h2.2.1⟩
 ·obtain⟨_,hd,xs,_,dd⟩:=n9 I.cA e;refine⟨dd.typeIs,fun b q=>?_,hd⟩;cases q;obtain⟨ob,_,_,h1,h2,_⟩:=dd;exact⟨ob,h1,h2.2.1⟩
section
variable {X:Cx}{UL:List (Addr×Obj)}{σ:St}{H:Hp}{s:Shared}{a:Addr}{y d:V}{u r:Value}{o:Option V}{A:Around}{E:Value->Shared->Prop}
theorem Ea {Q:Value->Shared->Prop}(hu:A.units+1 < cLine) (I:Inv X UL σ H s) (g:gM H a y o) (ry:RelV y u) (h:∀w' s',Inv X UL σ H s'->RelV (o.getD .bb) w'->Q w' s'):
  wpAny (model X.prog X.w) A (call (.builtin "dict.get") [.ref a,u]) Q E s:=by
 rcases g with ⟨UM,k,e,ey,l⟩ | ⟨UM,k,b,e,ey,eb,l⟩
 ·subst ey;obtain⟨z,hd,vs,rel,dd⟩:=oa I.cA e;refine call_meetsIn PySem.F.slot_dict_get dd.typeIs PySem.F.entry_dict_get (PySem.F.args_dict_get_2 _ _) (meets_dict_get (bB X.prog X.w) a (lX ry) hd) ⟨_,dd.mapOf,h _ _ (I.tok _) ?_⟩;rw[l];exact(rel.val k).getD rfl
 ·subst ey;cases (show u=Value.ref b from ry);obtain⟨z,hd,xs,rel,dd⟩:=n9 I.cA e;refine call_meetsIn PySem.F.slot_dict_get dd.typeIs PySem.F.entry_dict_get (PySem.F.args_dict_get_2 _ _) (meetsH_dict_get (tupleKind (bB X.prog X.w)) a b hd) ⟨tupleKind_room_in1 hu,k,xs,lI I.cA eb,dd,h _ _ (I.tok _) ?_⟩;rw[l];exact(rel.val k).getD rfl
theorem DZ {Q:Value->Shared->Prop}(hu:A.units+1 < cLine) (I:Inv X UL σ H s) (g:gM H a y o) (ry:RelV y u) (rd:RelV d r) (h:∀w' s',Inv X UL σ H s'->RelV (o.getD d) w'->Q w' s'):
  wpAny (model X.prog X.w) A (call (.builtin "dict.get") [.ref a,u,r]) Q E s:=by
 rcases g with ⟨UM,k,e,ey,l⟩ | ⟨UM,k,b,e,ey,eb,l⟩
 ·subst ey;obtain⟨z,hd,vs,rel,dd⟩:=oa I.cA e;refine call_meetsIn PySem.F.slot_dict_get dd.typeIs PySem.F.entry_dict_get (PySem.F.args_dict_get_3 _ _ _) (meets_dict_get_default (bB X.prog X.w) a (lX ry) hd r) ⟨_,dd.mapOf,h _ _ (I.tok _) ?_⟩;rw[l];exact(rel.val k).getD rd
 ·subst ey;cases (show u=Value.ref b from ry);obtain⟨z,hd,xs,rel,dd⟩:=n9 I.cA e;refine call_meetsIn PySem.F.slot_dict_get dd.typeIs PySem.F.entry_dict_get (PySem.F.args_dict_get_3 _ _ _) (meetsH_dict_get_default (tupleKind (bB X.prog X.w)) a b hd r) ⟨tupleKind_room_in1 hu,k,xs,lI I.cA eb,dd,h _ _ (I.tok _) ?_⟩;rw[l];exact(rel.val k).getD rd
end
def BJ (td ty:TE):TE:=fun σ H Q=>td σ H fun x H1=>∃a,x=.ref a/\Ik H1 a/\ty σ H1 fun y H2=>∃o,gM H2 a y o/\Q (o.getD .bb) H2
def xb (td ty tx:TE):TE:=fun σ H Q=>td σ H fun x H1=>∃a,x=.ref a/\Ik H1 a/\ty σ H1 fun y H2=>tx σ H2 fun z H3=>∃o,gM H3 a y o/\Q (o.getD z) H3
section
variable {X:Cx}{o e f:Expr}{UU US:Pos}{td ty tx:TE}
theorem qX (hu:X.A.units+1 < cLine) (ho:PE X o td) (he:PE X e ty) (m:M1 X o "get" UU e US):PE X (.Call (.Attribute o "get" UU) [e] [] US) (BJ td ty):=by
 intro UL s σ H Q I h;refine wpAny_Call_method m.base m.HY m.line PySem.F.plainAttrs_dict PySem.F.slot_dict_get PySem.F.type_dict_get (da (ho UL s σ H _ I h) fun u s1 ⟨x,H1,I1,rx,a,ex,d,q1⟩=>?_);subst ex;obtain rfl:u=Value.ref a:=rx;obtain⟨t1,t2,_⟩:=sZ I1 d;refine⟨t1,t2,?_⟩;rw[m.trees];refine Calls.callWith_builtin rfl (Calls.evalArgs_plain (Calls.spliced_cons (da (he UL s1 σ H1 _ I1 q1) fun iv s2 ⟨y,H2,I2,ry,ov,g,q2⟩=>Calls.spliced_nil ?_)));exact Ea hu I2 g ry fun w' s3 I3 Jt=>⟨_,H2,I3,Jt,q2⟩
theorem nB (hu:X.A.units+1 < cLine) (ho:PE X o td) (he:PE X e ty) (hf:PE X f tx) (m:M2 X o "get" UU e f US):PE X (.Call (.Attribute o "get" UU) [e,f] [] US) (xb td ty tx):=by
 intro UL s σ H Q I h;refine wpAny_Call_method m.base m.HY m.line PySem.F.plainAttrs_dict PySem.F.slot_dict_get PySem.F.type_dict_get (da (ho UL s σ H _ I h) fun u s1 ⟨x,H1,I1,rx,a,ex,d,q1⟩=>?_);subst ex;obtain rfl:u=Value.ref a:=rx;obtain⟨t1,t2,_⟩:=sZ I1 d;refine⟨t1,t2,?_⟩;rw[m.trees];refine Calls.callWith_builtin rfl (Calls.evalArgs_plain (Calls.spliced_cons (da (he UL s1 σ H1 _ I1 q1) fun iv s2 ⟨y,H2,I2,ry,q2⟩=>
  Calls.spliced_cons (da (hf UL s2 σ H2 _ I2 q2) fun fv s3 ⟨z,H3,I3,rz,ov,g,q3⟩=>Calls.spliced_nil ?_))))
 exact DZ hu I3 g ry rz fun w' s4 I4 Jt=>⟨_,H3,I4,Jt,q3⟩
end
section
variable {X:Cx}{UL:List (Addr×Obj)}{σ:St}{H:Hp}{s:Shared}{a:Addr}{UM:List (Key×V)}{A:Around}{E:Value->Shared->Prop}
end
section
variable {X:Cx}{UL:List (Addr×Obj)}{σ:St}{H:Hp}{s:Shared}{a:Addr}{y:V}{u:Value}{A:Around}{E:Value->Shared->Prop}
end
end L2
namespace L2
open PySem PySem.Spec PyProof.Rows PySem.Builtin PySem.Builtin.Str
section
variable {X:Cx}
def B8 (K:Fg06):V->Option Int->Option Int->Hp->VK->Prop:=fun x lo hi H Q=>∃a xs,x=.ref a/\gq K H a xs/\∀b H',ak H H'->gq K H' b (de xs lo hi)->Q (.ref b) H'
theorem EL:wN X (B8 X.K):=by
 intro UL s σ H x v vl vu lo hi sl Q I rx hs pl pu h;obtain⟨a,xs,rfl,hq,q⟩:=h;by_cases hw:HT.fF xs.length 0 lo=0/\HT.fF xs.length xs.length hi=xs.length
 ·cases rx;obtain⟨UN,r,ht,hz⟩:=I.tuple hq;have UQ:UN.toArray.size=xs.length:=by rw[U9];exact r.length.symm
  refine⟨"tuple",_,PyProof.Rows.slot_tuple_getitem.lookup,ht.typeIs,?_⟩;refine GS.gF ht hs pl pu (by rw[UQ];exact hw) ⟨.ref a,H,I,rfl,q _ H (ak.refl H) ?_⟩;have e:de xs lo hi=xs:=by
   unfold de;rw[hw.1,hw.2];simp
  rw[e];exact hq
 ·exact xO UL s σ H _ v vl vu lo hi sl Q I rx hs pl pu ⟨a,xs,rfl,hq,hw,fun p hp=>q _ _ (GS.ab hp _) (gq.of ae)⟩
end
end L2
namespace L3
open PySem PyProof.Rows L2
section
variable {X:Cx}{o i:Expr}{pos:Pos}{td ty:TE}
theorem sI (hu:X.A.units+1 < cLine) (hi:LE X i ty) (ho:LE X o td) (hm:behindInMarks .In o=false:=by rfl):LT X (.Compare i [.In] [o] pos) (tB (EG ty td)):=.mk (L2.Cc (L2.Cg hu hi.out ho.out) hm)
theorem gQ (hu:X.A.units+1 < cLine) (ho:LE X o td) (hi:LE X i ty) (hs:AW i:=by intro _ _;rfl):LE X (.Subscript o i pos) (A6 td ty):=.mk (L2.gQ hu ho.out hi.out hs)
end
end L3
namespace GS
open PySem L2 PyProof.Rows
section
variable {X:Cx}
def G3:D->String
 | .bb=>"NoneType" | .bl _=>"bool" | .int _=>"int" | .str _=>"str" | .tup _=>"tuple"
theorem F5 {UL σ H s x u d}(I:Inv X UL σ H s) (rx:RelV x u) (hx:At X.K H d x):∃HP,PySem.W.KitX X.K u (.type (G3 d)) HP/\HP s.heap/\u≠Value.builtin "__main__.__loader__#opaque":=by
 cases d with
 | bb=>rw[cU.mp hx] at rx;cases (show u=Value.none from rx);exact⟨_,PySem.W.kitx_none,True.intro,(fun z=>nomatch z)⟩
 | bl y=>rw[dZ.mp hx] at rx;cases (show u=Value.bool y from rx);exact⟨_,PySem.W.kitx_bool,True.intro,(fun z=>nomatch z)⟩
 | int i=>rw[bG.mp hx] at rx;obtain⟨t,q⟩:=(show ∃t,u=Value.int i t from rx);cases q;exact⟨_,PySem.W.kitx_int,True.intro,(fun z=>nomatch z)⟩
 | str y=>rw[aH.mp hx] at rx;obtain⟨t,q⟩:=(show ∃t,u=Value.str y t from rx);cases q;exact⟨_,PySem.W.kitx_str,True.intro,(fun z=>nomatch z)⟩
 | tup ds=>
  obtain⟨p,vs,rfl,hq,_⟩:=bf.mp hx;cases (show u=Value.ref p from rx);obtain⟨UN,_,⟨o,h1,h2,_⟩,_⟩:=I.tuple hq;exact⟨_,PySem.W.kitx_tuple,⟨o,h1,h2⟩,(fun z=>nomatch z)⟩
theorem pO:gf X (.builtin "isinstance") (fun xs H Q=>∃x T d b,xs=[x,.ty T]/\At X.K H d x/\PySem.W.kitOne X.K (.type (G3 d)) (.type T)=some b/\Q (.bl b) H):=by
 intro UL s σ H xs us Q I r h;obtain⟨x,T,d,b,rfl,hx,hk,q⟩:=h;obtain⟨u,w',rfl,r1,r2⟩:=vals2 r;cases r2;obtain⟨HP,kx,hh,ne⟩:=F5 I r1 hx;exact PySem.W.kia_one kx I.sd hh hk ne fun tk=>⟨.bl b,H,I.tok _,rfl,q⟩
end
end GS
namespace L2
open PySem PySem.Spec PyProof.Rows PySem.Builtin PySem.Builtin.Str
theorem Inv.oU {X:Cx}{UL:List (Addr×Obj)}{σ:St}{H:Hp}{s:Shared}{fp:List Addr}{T:Addr}{o:HO}{h':Heap}{t':Nat}(I:Inv X UL σ H s) (k:∀b u,b∉fp->s.heap.get? b=some u->h'.get? b=some u)
  (hf:∀b∈fp,kJ X UL H b) (hT:s.heap.objs.size<=T) (new:dY X.prog X.w (U1 H T o) h' T o):Inv X UL σ (U1 H T o) { s with heap:=h',toks:=t' }:=by
 have hn:=I.cA.fresh hT;have nf:∀b u,H b=some u->b∉fp:=fun b u e hb=>by rw[(hf b hb).1] at e;cases e
 refine I.vi (ch:=fp) (s':={ s with heap:=h',toks:=t' }) rfl ⟨fun b o q _ _ hx=>k b o hx q,fun b o q _ _ hx=>⟨o.slots,k b o hx q⟩,fun b u q n _=>?_,fun b o q hx=>⟨o,k b o hx q⟩,fun b xs q=>?_,fun b u xs q=>?_,fun b ps q=>⟨#[],?_⟩⟩ ?_ I.bare
  fun b hb=>⟨(hf b hb).2.2.2.1,(hf b hb).2.1,(hf b hb).2.2.2.2.1,(hf b hb).2.2.2.2.2⟩
 ·rw[aD (Jk (Jh (Jj q) hT))];exact n
 ·rw[aD (cN q hn)];exact q
 ·rw[aD (cN q hn)];exact q
 ·rw[aD (cN q hn),q];simp
 ·intro b u e;by_cases hb:b=T
  ·subst hb;rw[ae] at e;cases e;exact new
  ·rw[aD hb] at e;refine(I.cA b u e).qS (fun c v hc q=>k c v ?_ q) (fun c q=>by rw[aD (cN q hn)];exact q) fun c xs q=>by rw[aD (cN q hn)];exact q
   rcases hc with z | z
   ·rw[z];exact nf b u e
   ·exact nf c _ z
def GC (K:Fg06) (a:Addr):It:=
 ⟨fun i H=>∃xs x,aS K H a xs/\xs[i]?=some x,fun i H x H'=>∃T y,H T=none/\x=.ref T/\H'=U1 H T (.tup [.int (i:Nat),y])/\∀xs,aS K H a xs->xs[i]?=some y,fun i H=>∃xs,aS K H a xs/\xs.length<=i⟩
theorem vz {P w K elts}{x1:Nat} {pos}(a e it:Addr) (TB:e≠it):Turn P w K (.Tuple elts x1 pos) (GC K a) [e,it] e (fun i h=>(∃old,IsEnum h e it i old)/\h.IsListIter it a i) where
 mem:=by simp
 obj:=fun i h st b hb=>by
  obtain⟨⟨old,he⟩,hit⟩:=st;rcases Ji.mp hb with rfl | hb
  ·exact⟨_,he,fun v z=>by cases z⟩
  ·have eb:b=it:=by simpa using hb
   subst eb;obtain⟨o,e,c,d⟩:=hit;exact⟨o,e,fun v z=>by rw[d] at z;cases z⟩
 keep:=fun i h h' st k=>by
  obtain⟨⟨old,he⟩,hit⟩:=st;exact⟨⟨old,k e (by simp) _ he⟩,hit.at fun o z=>k it (by simp) o z⟩
 item:=by
  intro X hP hw hK hc i UL s σ H E I hf st hg;subst hP hw hK;obtain⟨⟨old,he⟩,hit⟩:=st;obtain⟨xs,x,hq,hx⟩:=hg;obtain⟨UN,rv,p,hz⟩:=I.list hq;obtain⟨u,hu,ru⟩:=rv.get hx;have Pw:e < s.heap.objs.size:=Jj he;have hilt:it < s.heap.objs.size:=by obtain⟨_,z,_⟩:=hit;exact Jj z
  refine wpAny_pyNext_enum_item he hit p.isList (x:=u) (by simpa using hu) TB fun h1 ho1 hit1 hT1 hsz1 Mu=>?_;refine⟨_,rfl,wpAny_letOwnedTupleGo_enum ho1 fun h2 he2 Mo=>?_⟩;have hT2:h2.get? s.heap.objs.size=some { cls:=.type "tuple",data:=.seq #[.int i s.toks,u] }:=(Mo.2 _ (Nat.ne_of_gt Pw)).trans hT1;refine⟨.ref s.heap.objs.size,U1 H s.heap.objs.size (.tup [.int (i:Nat),x]),?_,rfl,⟨_,x,I.cA.fresh (IE _),rfl,rfl,fun ys hy=>by rw[I.kr hy hq];exact hx⟩,⟨⟨_,by simpa using he2⟩,hit1.at fun o z=>(Mo.2 it TB.symm).trans z⟩,fun b hb=>?_⟩
  ·refine Inv.oU (s:=s) (h':=h2) (fp:=[e,it]) (t':=s.toks+1) I (fun b o hb q=>?_) hf (IE _) ⟨by show 2<=sizeLine;decide,_,.cons ⟨_,rfl⟩ (.cons ru .nil),⟨_,hT2,rfl,_,rfl⟩⟩;have K7:b≠e:=fun z=>hb (by simp[z]);have L8:b≠it:=fun z=>hb (by simp[z]);exact(Mo.2 b K7).trans (Mu b o K7 L8 q)
  ·have Ju:b < s.heap.objs.size:=by
    rcases Ji.mp hb with rfl | hb
    ·exact Pw
    ·have eb:b=it:=by simpa using hb
     subst eb;exact hilt
   rw[aD (Jk Ju)];exact(hf b hb).1
 done:=by
  intro X hP hw hK hc i UL s σ H E I hf st hg;subst hP hw hK;obtain⟨⟨old,he⟩,hit⟩:=st;obtain⟨xs,hq,hx⟩:=hg;obtain⟨UN,rv,p,hz⟩:=I.list hq;obtain⟨f0,f1,f2,f3,f4,f5⟩:=hf it (by simp);have hl:=rv.length;exact wpAny_pyNext_enum_end (I.ok.hd hc) he hit p.isList (by simp;omega) fun h' eb=>⟨rfl,I.turned (t':=s.toks) (fun b o hb e=>eb b o hb e) f0 f1 f3 f4 f5⟩
 self:=fun _ _ _ _ _ st h=>let ⟨⟨_,he⟩,_⟩:=st;wpAny_pyIter_enum he h
theorem wC:bootBuiltins "enumerate"=some (.type "enumerate"):=by decide +kernel
section
variable {X:Cx}{elts:List Expr}{x1:Nat}{tpos:Pos}
def Ga (K:Fg06) (ta:TA):TI:=fun σ H R=>ta σ H fun vs H1=>∃a,vs=[.ref a]/\(∃xs,aS K H1 a xs)/\R (GC K a) H1
theorem z7 {a ta p pos}(hg:Gl X "enumerate") (hm:X.mg "enumerate"=none) (ha:PA X [a] ta) (hs:starEach [a] X.env=[(false,eval a X.env)]:=by rfl):PI X (.Tuple elts x1 tpos) (.Call (.Name "enumerate" p) [a] [] pos) (Ga X.K ta):=by
 intro UL s σ H R I h;refine Call_ (lG I hg hm wC (PyProof.Rows.callWith_type1 (da (ha pos UL s σ H _ I h) fun us s1 ⟨vs,H1,I1,r1,q1⟩=>?_) hs rfl));obtain⟨l,e,⟨xs,hq⟩,q⟩:=q1;subst e;obtain⟨u,rfl,ru⟩:=vals1 r1;cases ru;obtain⟨UN,rv,p,hz⟩:=I1.list hq;refine call_enumerate_list p.isList fun h' he hit hsz hk=>wpAny_pyIter_enum he ?_;refine⟨s1.heap.objs.size+1,[s1.heap.objs.size+1,s1.heap.objs.size],_,_,H1,rfl,I1.kept (t':=s1.toks) hk,vz l _ _ (Nat.succ_ne_self _),⟨⟨_,he⟩,hit⟩,fun b hb=>?_,q⟩;have KO:s1.heap.objs.size<=b:=by
  rcases Ji.mp hb with rfl | hb
  ·exact Nat.le_succ _
  ·have eb:b=s1.heap.objs.size:=by simpa using hb
   exact Nat.le_of_eq eb.symm
 exact I1.wu KO (I1.cA.fresh KO)
end
theorem zc {K:Fg06}{a:Addr}{xs:List V}{g:TG}{tb:TS}{D:U4}{σ:St}{H:Hp}(Pv:Nat->St->Hp->Prop) (h0:Pv 0 σ H) (hl:∀i σ H,i<=xs.length->Pv i σ H->aS K H a xs)
  (hs:∀i x σ H T,xs[i]?=some x->Pv i σ H->H T=none->g (.ref T) σ (U1 H T (.tup [.int (i:Nat),x])) fun σ2 H2=>tb { D with nx:=Pv (i+1),ct:=Pv (i+1),bk:=D.nx } σ2 H2) (hd:∀σ H,Pv xs.length σ H->D.nx σ H):
  ∃W:Nat->Nat->St->Hp->Prop,(∃m,W 0 m σ H)/\∀i m σ H,W i m σ H->
   ((GC K a).stop i H/\D.nx σ H)\/((GC K a).go i H/\∃N:St->Hp->Prop,(∀σ' H',N σ' H'->∃m',m' < m/\W (i+1) m' σ' H')/\∀x H',(GC K a).rZ i H x H'->g x σ H' fun σ2 H2=>tb { D with nx:=N,ct:=N,bk:=D.nx } σ2 H2):=by
 refine⟨fun i m σ H=>m=xs.length - i/\i<=xs.length/\Pv i σ H,⟨xs.length,by simp,Je _,h0⟩,?_⟩;rintro i m σ H ⟨rfl,hi,p⟩;have q:=hl i σ H hi p;by_cases Ju:i < xs.length
 ·refine .inr ⟨⟨xs,xs[i],q,by simp[Ju]⟩,Pv (i+1),fun σ' H' p'=>⟨xs.length - (i+1),by omega,rfl,Ju,p'⟩,fun x H' y=>?_⟩;obtain⟨T,y',hT,rfl,rfl,hy⟩:=y;exact hs i y' σ _ T (hy xs q) p hT
 ·have e:i=xs.length:=by omega
  subst e;exact .inl ⟨⟨xs,q,IE _⟩,hd σ H p⟩
section
variable {X:Cx}
end
end L2
namespace L2
open PySem PySem.Spec PyProof.Rows
section
variable {X:Cx}{o e:Expr}{td ty:TE}{UU US:Pos}
end
end L2
namespace L3
open PySem PyProof.Rows L2
section
variable {X:Cx}{pos UU US:Pos}{k v o e f a b c:Expr}{ks:List (Option Expr)}{vs:List Expr}{tk tv td ty tx ta tb tc:TE}{UZ:List (TE×TE)}
@[irreducible] def zH (X:Cx) (pos:Pos) (ks:List (Option Expr)) (vs:List Expr) (UZ:List (TE×TE)):Prop:=Eg X pos ks vs UZ
theorem zH.mk (h:Eg X pos ks vs UZ):zH X pos ks vs UZ:=by unfold zH;exact h
theorem zH.out (h:zH X pos ks vs UZ):Eg X pos ks vs UZ:=by unfold zH at h;exact h
theorem jm:zH X pos [] [] []:=.mk L2.jm
theorem eU (hk:LE X k tk) (hv:LE X v tv) (hr:zH X pos ks vs UZ):zH X pos (some k::ks) (v::vs) ((tk,tv)::UZ):=.mk (L2.eU hk.out hv.out hr.out)
theorem jo (h:zH X pos ks vs UZ) (J7:ks.all (·.isSome)=true:=by rfl) (hl:ks.length=vs.length:=by rfl) (h0:ks≠[]:=by simp) (LK:ks.length<=15:=by decide):LE X (.Dict ks vs pos) (A5 UZ):=.mk (L2.jo h.out J7 hl h0 LK)
theorem nB (hu:X.A.units+1 < cLine) (ho:LE X o td) (he:LE X e ty) (hf:LE X f tx) (m:M2 X o "get" UU e f US:=by exact⟨rfl,rfl,rfl,rfl⟩):LE X (.Call (.Attribute o "get" UU) [e,f] [] US) (xb td ty tx):=.mk (L2.nB hu ho.out he.out hf.out m)
end
end L3
namespace GS
open PySem PySem.Spec PyProof.Rows
theorem nI:typeLookup (.type "list") "keys"=pure none:=by rw[typeLookup_type,builtinLookup_eq_fast];kernel_rfl
theorem oJ {prog w A E s a o xs k Q}
  (hx:s.heap.get? a=some o) (hc:o.cls=.type "list") (Px:o.data=.seq xs k) (hd:o.dict=none) (hA:A.handled=none)
  (h:∀h' tk,(∀b ob,s.heap.get? b=some ob->h'.get? b=some ob)->Q none { s with heap:=h',toks:=tk }):wpAny (model prog w) A (getAttr? (.ref a) "keys") Q E s:=by
 obtain⟨c,dct,dat,sl⟩:=o;simp only at hc Px hd;subst hc Px hd;obtain⟨hp,g,d,tk,os⟩:=s;have hT:∀Ss,(⟨hp,g,d,Ss,os⟩:Shared).TypeIs (.ref a) "list":=fun _=>⟨_,hx,rfl⟩;have f1:=sub_AttributeError;have f3:=F.slot_list_getattribute.lookup;have f4:=F.slot_list_getattribute.bind (.ref a);have f5:=am_list_getattr_none;unfold getAttr? getAttrBy? getAttrBy
 repeat (any_goals (first | assumption | exact hT _ | ((with_reducible show wpAny _ _ (call (Value.builtin "list.__getattribute__") _ _) _ _ _);refine call_meets F.slot_list_getattribute (hT _) am_entry_list_getattribute (F.args_list_getattribute_2 _ _) (meets_getattribute_miss_list a xs k sl "keys" _ nI (by decide +kernel)) ⟨hx,hA,fun h' Ss e N5=>?_⟩) | wp_step))
 obtain⟨t',u',he⟩:=N5.there;show wpAny _ _ (getattributeRaised _ _ _ _ _ _ _) _ _ _;unfold getattributeRaised
 repeat (any_goals (first | assumption | wp_step))
 exact h _ _ N5.keeps
theorem iA:entryFor table "dict.update.loop"=some Builtin.«dict.update.loop»:=entryFor_of_tree (by kernel_rfl)
theorem fM:plainId "dict.update.loop"=true:=by decide +kernel
def iu (kv:Nat->L2.Key×Value) (i:Nat):List (L2.Key×Value):=merged [] ((List.range i).map kv)
theorem ma (kv i):iu kv (i+1)=stored (iu kv i) (kv i).1 (kv i).2:=by
 unfold iu merged;rw[List.range_succ,Jg,List.foldl_append];rfl
theorem sx (UM) (k:L2.Key) (v):(stored UM k v).length<=UM.length+1:=by
 unfold stored;split
 ·rw[IC];omega
 ·rw[Iu,Jl];exact IE _
theorem nR (kv):∀i,(iu kv i).length<=i
 | 0=>IE _
 | i+1=>by
  rw[ma];have h1:=sx (iu kv i) (kv i).1 (kv i).2;have h2:=nR kv i;omega
section
variable {prog:Program}{w:World}{A:Around}{R:Result->Shared->Prop}{I:Addr}{fp wr:List Addr}{n:Nat}{P:Nat->Value->Prop}{St:Nat->Heap->Prop}
theorem kH (W:Walks prog w A.in1 I fp wr n P St) (d:Addr) (KZ:d∉fp) (kv:Nat->L2.Key×Value) (pr:Nat->Addr) (ks:Nat->Value) (hP:∀i v,i < n->P i v->v=.ref (pr i)) (hk:∀i,i < n->(L2.bB prog w).is (kv i).1 (ks i)=true)
  (L1:∀i,i < n->pr i≠d/\pr i∉wr) (hz:n<=sizeLine):
  ∀(k i:Nat) (s:Shared) (t:Tok),n - i=k->i<=n->St i s.heap->s.heap.DictOf (L2.bB prog w) d (iu kv i)->(∀j,j < n->IsTup s.heap (pr j) #[ks j,(kv j).2])->
   (∀h' tk,(∀b o,b≠d->b∉wr->s.heap.get? b=some o->h'.get? b=some o)->h'.DictOf (L2.bB prog w) d (iu kv n)->R (.ok (.ret .none)) { s with heap:=h',toks:=tk })->
   codeAny (model prog w) A (.builtin "dict.update.loop" ⟨[.ref d,.ref I,.int (i:Nat) t,.none],[]⟩) R s:=by
 have Oe:d∉wr:=fun h=>KZ (W.sub _ h);intro k
 induction k with
 | zero=>
  intro i s t hki hi Km hD hT hR;have hin:i=n:=by omega
  subst hin;refine codeAny_builtin iA ?_;rw[Around.under_plainId fM _];show wpAny _ A.in1 (pyNext (.ref I) >>= _) _ _ s;refine IK (W.done s _ _ Km fun h' tk hm=>?_);show wpAny _ A.in1 (Builtin.Dict.addKeywords d [] >>= _) _ _ _;exact IK (IL (IL (hR h' tk (fun b o _ hb e=>hm b o hb e) (by
   obtain⟨o,es,ep,ho,rest⟩:=hD;exact⟨o,es,ep,hm d _ Oe ho,rest⟩))))
 | succ k ih=>
  intro i s t hki hi Km hD hT hR;have Ju:i < n:=by omega
  refine codeAny_builtin iA ?_;rw[Around.under_plainId fM _];show wpAny _ A.in1 (pyNext (.ref I) >>= _) _ _ s;refine IK (W.item i s _ _ Ju Km fun v h' tk hPv hst' hm=>?_);have ev:=hP i v Ju hPv;subst ev;have Lw:h'.DictOf (L2.bB prog w) d (iu kv i):=by
   obtain⟨o,es,ep,ho,rest⟩:=hD;exact⟨o,es,ep,hm d _ Oe ho,rest⟩
  have TN:∀j,j < n->IsTup h' (pr j) #[ks j,(kv j).2]:=fun j hj=>by
   obtain⟨o,ho,rest⟩:=hT j hj;exact⟨o,hm _ _ (L1 j hj).2 ho,rest⟩
  obtain⟨o,ho,L4,m,Ko⟩:=id (TN i Ju);have hTy:(⟨h',s.gens,s.drawn,tk,s.os⟩:Shared).TypeIs (.ref (pr i)) "tuple":=⟨o,ho,L4⟩;refine IK (wpAny_holding (IK ?_));refine wpAny_tryCatch ?_;unfold Builtin.Dict.pairItems;refine IK (wpAny_typeOf hTy ?_);rw[II (by decide)];refine IK (wpAny_seqItems ho Ko ?_);refine IL ?_;show wpAny _ A.in1 (holding [ks i,(kv i).2] (dictSet d (ks i) (kv i).2)) _ _ _;refine wpAny_holding (wpAny_dictSet_pairs (hk i Ju) Lw (fun h2 Ma KD=>?_) (ID (nR kv i) (by omega)));rw[<-ma] at Ma;refine IL ⟨plainId_quiet fM _,?_⟩;have hcast:((i:Nat):Int)+1=((i+1:Nat):Int):=by omega
  rw[hcast];refine ih (i+1) _ _ (by omega) Ju (W.frame _ _ _ hst' fun b hb o e=>?_) Ma (fun j hj=>?_) fun h3 tk3 Pk QE=>?_
  ·rw[KD.2 b (fun h:b=d=>KZ (by rw[<-h];exact hb))];exact e
  ·obtain⟨o,ho,rest⟩:=TN j hj;exact⟨o,(KD.2 _ (L1 j hj).1).trans ho,rest⟩
  ·exact hR h3 tk3 (fun b o hb TK e=>Pk b o hb TK ((KD.2 b hb).trans (hm b o TK e))) QE
end
open L2
theorem oO:∀{ps:List Addr}{UN:List Value},U2 (ps.map V.ref) UN->UN=ps.map Value.ref
 | [],_,h=>by rw[List.map_nil] at h;cases h;rfl
 | p::ps,_,h=>by
  rw[Va] at h;cases h with
  | cons a b=>rw[oO b,show _=Value.ref p from a];rfl
theorem yL {UM:List (Key×V)}{g:Nat->Key×Value}(h:∀i kv,UM[i]?=some kv->kv.1=(g i).1/\RelV kv.2 (g i).2):KV UM ((List.range UM.length).map g):=by
 induction UM generalizing g with
 | nil=>exact .nil
 | cons a r ih=>
  rw[IT,List.range_succ_eq_map,Va,List.map_map];exact .cons (h 0 a rfl) (ih fun i kv e=>h (i+1) kv e)
section
variable {X:Cx}
theorem tP (hc:X.calm=true):gf X (.type "dict") (fun xs H Q=>∃(p:Addr) (ps:List Addr) (UM:List (Key×V)),xs=[.ref p]/\aS X.K H p (ps.map V.ref)/\ps.length=UM.length/\(∀(i:Nat) (a:Addr) (kv:Key×V),ps[i]?=some a->UM[i]?=some kv->gq X.K H a [kV kv.1,kv.2])/\UM.length<=sizeLine/\
  ∀l,H l=none->Q (.ref l) (U1 H l (.dK (dJ [] UM)))):=by
 intro UL s σ H xs us Q I r h;obtain⟨p,ps,UM,rfl,hq,UQ,hT,hz,q⟩:=h;obtain⟨u,rfl,ru⟩:=vals1 r;cases ru;obtain⟨UN,rv,pl,hzz⟩:=I.list hq;have ei:=oO rv;subst ei;have JC:p < s.heap.objs.size:=let ⟨o,n,e,_⟩:=pl;Jj e;have hex:∀i:Nat,∃y:Addr×(Key×Value)×Value,i < UM.length->ps[i]?=some y.1/\(∀kv,UM[i]?=some kv->kv.1=y.2.1.1/\RelV kv.2 y.2.1.2)/\(bB X.prog X.w).is y.2.1.1 y.2.2=true/\IsTup s.heap y.1 #[y.2.2,y.2.1.2]:=fun i=>by
  by_cases hi:i < UM.length
  ·have Qy:i < ps.length:=by omega
   obtain⟨JB,r2,p2,_⟩:=I.tuple (hT i ps[i] UM[i] (by simp[Qy]) (by simp[hi]));cases r2 with
   | @cons _ u1 _ us1 a1 b1=>
    cases b1 with
    | @cons _ u2 _ us2 a2 b2=>
     cases b2;refine⟨(ps[i],(UM[i].1,u2),u1),fun _=>⟨by simp[Qy],fun kv e=>?_,lX a1,p2⟩⟩;have:UM[i]=kv:=by simpa[hi] using e
     rw[<-this];exact⟨rfl,a2⟩
  ·exact⟨(0,(.inl 0,.none),.none),fun z=>Vi z hi⟩
 obtain⟨y,hy⟩:=Classical.axiomOfChoice hex;refine callType_codes (Q₁:=fun obj s₁=>obj=.ref s.heap.objs.size/\s₁={ s with heap:=s.heap.push { cls:=.type "dict",data:=.dict #[] } }) F.kt_called_dict (F.kt_typeCall_dict_1 _) F.entry_dict_init (kt_code_dict_new _ ⟨rfl,rfl⟩) ?_;rintro obj s₁ ⟨rfl,rfl⟩;have Jx:(s.heap.push { cls:=.type "dict",data:=.dict #[] }).DictOf (bB X.prog X.w) s.heap.objs.size []:=Heap.DictOf.new s.heap;refine⟨Jx.typeIs,F.args_dict_init_2 _ _,?_⟩;unfold Builtin.«dict.__init__»;refine IK ?_;unfold Builtin.Dict.selfAndRest;refine IK (wpAny_notOrdered_dict Jx.typeIs ?_);show wpAny _ _ (pure (s.heap.objs.size,[Value.ref p])) _ _ _;refine IL ?_;show wpAny _ _ (Builtin.Dict.updateFrom "dict.__init__" s.heap.objs.size (.ref p) [] .none) _ _ _;unfold Builtin.Dict.updateFrom;obtain⟨o,nn,e,L4,Ko⟩:=id pl;have e1:(s.heap.push { cls:=.type "dict",data:=.dict #[] }).get? p=some o:=IM _ e;refine IK (wpAny_typeOf (T:="list") ⟨o,e1,L4⟩ ?_);rw[II (by decide)];have Lr:=I.ok.hd hc;refine IK (oJ (xs:=(ps.map Value.ref).toArray) (k:=nn) e1 L4 Ko.2 Ko.1 Lr fun h1 tk1 Mu=>?_);show wpAny _ _ (rule _ >>= _) _ _ _;have e2:h1.get? p=some o:=Mu _ _ e1;have hL:h1.IsList p (ps.map Value.ref).toArray:=⟨o,e2,L4,nn,Ko.2⟩;refine IK (wpAny_rule (IK (wpAny_pyIter_list (s:=⟨h1,s.gens,s.drawn,tk1,s.os⟩) hL ?_)));have hsz:s.heap.objs.size < h1.objs.size:=by
  obtain⟨o',_,_,KH,_⟩:=Jx;exact Jj (Mu _ _ KH)
 refine IL ⟨plainId_quiet fM _,?_⟩;have Nq:(ps.map Value.ref).toArray.size=UM.length:=by rw[U9,IC];exact UQ
 have keep:∀b ob,s.heap.get? b=some ob->(h1.push { cls:=.type "list_iterator",data:=.fields #[.ref p,.int 0 0] }).get? b=some ob:=fun b ob hb=>IM _ (Mu _ _ (IM _ hb));have hpI:p≠h1.objs.size:=Jk (Nat.lt_trans JC hsz);have hold:∀{b ob},s.heap.get? b=some ob->b≠s.heap.objs.size/\b∉[h1.objs.size]:=fun {b ob} hb=>by
  have:=Jj hb;exact⟨Jk this,fun m=>by rw[Vc] at m;exact Nat.lt_asymm hsz (m▸this)⟩
 have hd2:X.A.in1.in1.handled=none:=Lr;refine kH (A:=X.A.in1) (Walks.list (A:=X.A.in1.in1) hd2 h1.objs.size p hpI (ps.map Value.ref).toArray) s.heap.objs.size (fun m=>?m1) (fun i=>(y i).2.1) (fun i=>(y i).1) (fun i=>(y i).2.2) (fun i v hi hv=>?m2) (fun i hi=>(hy i (by rw[<-Nq];exact hi)).2.2.1) (fun i hi=>?m3) (by rw[Nq];exact hz) _ 0 _ 0 rfl (Je _) ⟨?m4,?m5⟩ ?m6 (fun j hj=>?m7) (fun h' tk hk hD=>?m8)
 case m1=>
  simp only[List.mem_cons,List.not_mem_nil,or_false] at m;rcases m with m | m
  ·exact Jk hsz m
  ·exact Jk JC m.symm
 case m2=>
  have KN:i < UM.length:=by rw[<-Nq];exact hi
  have R0:=(hy i KN).1;have:(ps.map Value.ref)[i]?=some v:=by simpa using hv
  rw[IJ,R0] at this
  simpa using this.symm
 case m3=>
  obtain⟨_,_,_,o',KH,_⟩:=hy i (by rw[<-Nq];exact hi);exact hold KH
 case m4=>exact⟨_,Jn _ rfl,rfl,rfl⟩
 case m5=>exact⟨o,IM _ e2,L4,nn,Ko.2⟩
 case m6=>
  obtain⟨o',es,ep,KH,rest⟩:=Jx;exact⟨o',es,ep,IM _ (Mu _ _ KH),rest⟩
 case m7=>
  obtain⟨_,_,_,o',KH,rest⟩:=hy j (by rw[<-Nq];exact hj);exact⟨o',keep _ _ KH,rest⟩
 case m8=>
  have rel:KV UM ((List.range UM.length).map fun i=>(y i).2.1):=yL fun i kv e=>(hy i (Ja.mp e).1).2.1 kv e;have Lw:h'.DictOf (bB X.prog X.w) s.heap.objs.size (merged [] ((List.range UM.length).map fun i=>(y i).2.1)):=by
   have:iu (fun i=>(y i).2.1) (ps.map Value.ref).toArray.size=merged [] ((List.range UM.length).map fun i=>(y i).2.1):=by rw[Nq];rfl
   rw[<-this];exact hD
  have LV:(dJ [] UM).length<=sizeLine:=ID (gY UM []) (by simpa using hz);refine⟨rfl,.ref s.heap.objs.size,_,I.laid (a:=s.heap.objs.size) (o:=.dK (dJ [] UM)) (h':=h') (t':=tk) (fun b u hb=>?_) (IE _) (qx LV (beq_eq_false_iff_ne.mpr (U8 (Jk I.big))) (rel.merge .nil) Lw),rfl,q _ (I.cA.fresh (IE _))⟩;exact hk b u (hold hb).1 (hold hb).2 (keep _ _ hb)
end
end GS
namespace GS
open PySem PyProof.Rows L2
structure jI (P:Program) (w:World) (K:Fg06) (mg:Str->Option Value) (base:Heap) (name:Str) (C:Addr) (ps:List Str) (k:Nat) (sp:Sp):Prop where
 ex:∃f fd,mg name=some (.ref C)/\Mk K C f/\Binds K fd ps []/\bK P w K mg base fq k f fd ps sp
end GS
namespace L3
open PySem PyProof.Rows L2
section
variable {X:Cx}{e o value:Expr}{es:List Expr}{f:Str}{pos pos' p UU:Pos}{ta tv te:TE}{t:TA}
theorem bR (he:LE X e ta) (hb:attributeBase e f X.env (eval e X.env)=eval e X.env:=by rfl):LE X (.Attribute e f pos) (BI X.K ta f):=.mk (L2.bR he.out hb)
theorem cx (ha:LE X o ta) (hv:LE X value tv) (hs:swapsWith value (some (.Attribute o f pos')) pos.line X.env=pure false:=by rfl):LS X (.Assign [.Attribute o f pos'] value pos) (Ff X.K ta tv f):=.mk (L2.cx ha.out hv.out hs)
theorem lS {name C ps k k' sp}(M:GS.jI X.prog X.w X.K X.mg X.base name C ps k sp) (hr:cZ (k'+1) X.A) (hk:k<=k') (hg:Gl X name) (ha:LA X (e::es) t)
  (JR:(name == ("__debug__":Str))=false:=by decide) (he:starEach (e::es) X.env=(false,eval e X.env)::starEach es X.env:=by rfl) (JC:(backTo pos (starEach es X.env)).any (·.1)=false:=by rfl):
  LE X (.Call (.Name name p) (e::es) [] pos) (A3 C sp [] E0 t):=by
 obtain⟨f,fd,h1,h2,h3,h4⟩:=M.ex;exact .mk (L2.z8 h2 (h4.mono hk) hr hg h1 h3 .nil yh ha.out JR he JC)
end
end L3
namespace GS
open PySem PyProof.Rows
open L2 hiding ag gA cE aj pv bA fN aB iw fu d9 fh iT bC dz bD bz bg bc aI aY ba bV au bE dQ cp bS fP d6 fg fE gk cR eJ cb fT bL eI bQ aJ bT fQ gu bo eS cL aP aa ah
open L3
theorem pY:1<=sizeLine:=by decide
theorem jC:2<=sizeLine:=by decide
theorem En:3<=sizeLine:=by decide
theorem sz4:4<=sizeLine:=by decide
theorem Em:5<=sizeLine:=by decide
theorem sz6:6<=sizeLine:=by decide
theorem cH {n:Nat}:(0:Int) < ((n+1:Nat):Int):=by omega
theorem cv {H:Hp}{p q:Addr}{o o':Option HO}(h:H p=o) (h':H q=o') (n:o≠o':=by intro h;cases h):p≠q:=fun y=>n (by rw[<-h,<-h',y])
end GS
namespace L3
open PySem PySem.Spec PyProof.Rows L2
section
variable {X:Cx}{e a b c d:Expr}{es:List Expr}{te ta tb tc td:TE}{t:TA}{pos p:Pos}
theorem cM {name:Str}{ps:List Str}{k k':Nat}{sp:Sp}(F:GS.Def X.prog X.w X.K X.mg X.base name ps k sp) (ha:LA X (e::es) t) (hr:cZ k' X.A:=by assumption) (hk:k<=k':=by decide) (hg:Gl X name:=by rfl)
  (JR:(name == ("__debug__":Str))=false:=by decide) (he:starEach (e::es) X.env=(false,eval e X.env)::starEach es X.env:=by rfl) (JC:(backTo pos (starEach es X.env)).any (·.1)=false:=by rfl):
  LE X (.Call (.Name name p) (e::es) [] pos) (mS sp [] E0 t):=sL F hr hk hg ha JR he JC
theorem cV (K:Fg06) (ha:LE X a ta) (hb:LE X b tb) (hK:X.K=K:=by rfl) (hs:qH b:=by exact fun _ _=>rfl):LE X (.Subscript a b pos) (su (km K) ta tb):=by subst hK;exact dz eZ ha hb hs
theorem qM {op:CmpOp}{r:R2}(ho:ie X (compareOp op) r) (ha:LE X a ta) (hb:LE X b tb) (hm:behindInMarks op b=false:=by exact jX _):LE X (.Compare a [op] [b] pos) (su r ta tb):=fu ho ha hb hm
theorem fR {op:CmpOp}{r:R2}(ho:ie X (compareOp op) r) (ha:LE X a ta) (hb:LE X b tb) (hm:behindInMarks op b=false:=by exact jX _):LT X (.Compare a [op] [b] pos) (uf (su r ta tb)):=cp ho ha hb hm
theorem cy (ha:LE X a ta) (s1:starEach [a] X.env=(false,eval a X.env)::starEach [] X.env:=by rfl):LA X [a] (gP ta oB):=aI ha bc s1
theorem cq (ha:LE X a ta) (hb:LE X b tb) (s2:starEach [a,b] X.env=(false,eval a X.env)::starEach [b] X.env:=by rfl) (s1:starEach [b] X.env=(false,eval b X.env)::starEach [] X.env:=by rfl):LA X [a,b] (gP ta (gP tb oB)):=aI ha (cy hb s1) s2
theorem kN (ha:LE X a ta) (hb:LE X b tb) (hc:LE X c tc) (s3:starEach [a,b,c] X.env=(false,eval a X.env)::starEach [b,c] X.env:=by rfl) (s2:starEach [b,c] X.env=(false,eval b X.env)::starEach [c] X.env:=by rfl) (s1:starEach [c] X.env=(false,eval c X.env)::starEach [] X.env:=by rfl):LA X [a,b,c] (gP ta (gP tb (gP tc oB))):=aI ha (cq hb hc s2 s1) s3
theorem mi (ha:LE X a ta) (hb:LE X b tb) (hc:LE X c tc) (hd:LE X d td) (s4:starEach [a,b,c,d] X.env=(false,eval a X.env)::starEach [b,c,d] X.env:=by rfl) (s3:starEach [b,c,d] X.env=(false,eval b X.env)::starEach [c,d] X.env:=by rfl) (s2:starEach [c,d] X.env=(false,eval c X.env)::starEach [d] X.env:=by rfl) (s1:starEach [d] X.env=(false,eval d X.env)::starEach [] X.env:=by rfl):LA X [a,b,c,d] (gP ta (gP tb (gP tc (gP td oB)))):=aI ha (kN hb hc hd s3 s2 s1) s4
theorem ip (i:Nat){x:Str}(hN:X.N.Nodup) (hi:X.N[i]?=some x:=by rfl) (hx:Loc X.env.scope x:=by first | exact .inl rfl | exact .inr rfl) (hf:X.fn x=true\/X.env.scope.names.lookup x=some .local:=by first | exact .inl rfl | exact .inr rfl | assumption):LG X (.Name x pos) (iz i):=cR hN hi hx hf
theorem eG (i:Nat){x:Str}{pos':Pos}(hN:X.N.Nodup) (he:LE X e te) (hi:X.N[i]?=some x:=by rfl) (hx:Loc X.env.scope x:=by first | exact .inl rfl | exact .inr rfl) (hs:swapsWith e (some (.Name x pos')) pos.line X.env=pure false:=by rfl)
  (hf:X.fn x=true\/X.env.scope.names.lookup x=some .local:=by first | exact .inl rfl | exact .inr rfl | assumption):LS X (.Assign [.Name x pos'] e pos) (xf te (iz i)):=fQ hN hi hx he hs hf
end
end L3
namespace L2
open PySem PySem.Spec PyProof.Rows
theorem fm.gB {P:Program}{w:World}{K:Fg06}{mg:Str->Option Value}{base:Heap}{x UP:Str}{st:Stmt}{f:Addr}{fd:FuncData}{N ps:List Str}{k:Nat}{sp:Sp}(F:fm K x UP st f fd) (S:aQ N ps (aC st))
  (JX:∀(UO:Value) (A:Around) (outer:List Env) (s:Shared) (H:Hp) (vs:List V) (Q:VK) (E:XK),cZ k (A.deeper (envOfC UP (aC st) s.heap.objs.size f UO))->sp vs H Q E->
   ∃t,L3.sf (rR fq P w K mg base N UP (aC st) f UO A outer s H E).Ep (gH st) t/\t { nx:=fun _ H'=>Q .bb H',rt:=Q } (start N vs) H) (len:∀vs H Q E,sp vs H Q E->vs.length=ps.length:=by intro _ _ _ _ h;cases h;subst_vars;rfl):bK P w K mg base fq (k+1) f fd ps sp:=
 F.GQ S len JX
end L2
namespace GS
open PySem PyProof.Rows
open L2 hiding ag gA cE aj pv bA fN aB iw fu d9 fh iT bC dz bD bz bg bc aI aY ba bV au bE dQ cp bS fP d6 fg fE gk cR eJ cb fT bL eI bQ aJ bT fQ gu bo eS cL aP aa ah
open L3
def cB (i:Nat):Stmt:=PySem.Challenge.pw_grassnake_k11_fields_and_texts.main.body.getD i (.Pass ⟨0,0,0,0⟩)
structure Glb9 (mg:Str->Option Value):Prop where
 HQ:mg "all"=none
 DE:mg "any"=none
 Bl:mg "bool"=none
 yD:mg "dict"=none
 F1:mg "enumerate"=none
 nInt:mg "int"=none
 hJ:mg "isinstance"=none
 dH:mg "len"=none
 nList:mg "list"=none
 HN:mg "max"=none
 F0:mg "min"=none
 gX:mg "range"=none
 nSet:mg "set"=none
 nSort:mg "sorted"=none
 DC:mg "str"=none
 qh:mg "tuple"=none
 FZ:mg "zip"=none
theorem bW:bootBuiltins "len"=some (.builtin "len"):=by decide +kernel
theorem fW:bootBuiltins "isinstance"=some (.builtin "isinstance"):=by decide +kernel
theorem zy:bootBuiltins "any"=some (.builtin "any"):=by decide +kernel
theorem Gx:bootBuiltins "all"=some (.builtin "all"):=by decide +kernel
theorem zx:bootBuiltins "bool"=some (.type "bool"):=by decide +kernel
theorem mI:bootBuiltins "tuple"=some (.type "tuple"):=by decide +kernel
theorem zv:bootBuiltins "list"=some (.type "list"):=by decide +kernel
theorem Bu:bootBuiltins "min"=some (.builtin "min"):=by decide +kernel
theorem zu:bootBuiltins "str"=some (.type "str"):=by decide +kernel
def eh (K:Fg06) (H:Hp) (ds:List D) (v:V):Prop:=∃p vs,v=.ref p/\(aS K H p vs\/gq K H p vs)/\aE K H ds vs
theorem eh.same {K H H' ds v}(s:ak H H') (h:eh K H ds v):eh K H' ds v:=by
 obtain⟨p,vs,e,h1,h2⟩:=h;exact⟨p,vs,e,h1.imp (fun z=>s.seq z) (fun z=>ak.oE s z),aE.same s _ _ h2⟩
theorem eh.tup {K H ds v}(h:At K H (.tup ds) v):eh K H ds v:=by
 obtain⟨p,vs,e,h1,h2⟩:=bf.mp h;exact⟨p,vs,e,.inr h1,h2⟩
def iOr (a b:TI):TI:=fun σ H R=>a σ H R\/b σ H R
theorem Fv {X tg e a b}(ha:LI X tg e a) (hb:LI X tg e b):LI X tg e (iOr a b):=.mk fun UL s σ H R I h=>h.elim (fun z=>ha.out UL s σ H R I z) (fun z=>hb.out UL s σ H R I z)
theorem Gq {X scope Xs}(a:closureFor scope X.env=pure []:=by rfl) (b:∀y∈scope.names,y.2≠.cell:=by decide +kernel) (k:scope.kind=.function:=by rfl) (n:∀y∈scope.names,y.2=.local->scope.names.lookup y.1=some .local:=by decide +kernel) (r:((relabel scope X.env).names.all fun p=>p.2 != .cell&&p.2 != .free)=true:=by rfl):kL X scope [] Xs [] []:=by
 refine⟨a,b,k,n,fun y c h=>(by cases h),fun y hy=>?_,rfl,fun j y h=>(by simp at h)⟩;have key:∀z,(relabel scope X.env).names.lookup y=some z->z≠.cell/\z≠.free:=fun z hz=>by
  have:=List.all_eq_true.mp r _ (IQ hz)
  simpa using this
 rcases hy with z | z
 ·exact Vi rfl (key _ z).1
 ·exact Vi rfl (key _ z).2
theorem qB {X scope Xs Nf cl}{js:List Nat}(a:closureFor scope X.env=pure cl:=by rfl) (b:∀y∈scope.names,y.2≠.cell:=by decide +kernel) (k:scope.kind=.function:=by rfl) (n:∀y∈scope.names,y.2=.local->scope.names.lookup y.1=some .local:=by decide +kernel) (e:cl.map (fun p=>X.env.cells.lookup p.1)=cl.map (fun p=>some p.2):=by rfl) (r:((relabel scope X.env).names.all fun p=>(p.2 != .cell&&p.2 != .free)||(Nf.contains p.1))=true:=by rfl) (hc:cl.map (·.1)=Nf:=by rfl) (hl:js.length=Nf.length:=by rfl) (hN:js.map (fun i=>X.N[i]?)=Nf.map some:=by rfl) (hk:Nf.map (fun y=>X.env.scope.names.lookup y)=Nf.map (fun _=>some .cell):=by rfl) (Qx:Nf.map (fun y=>(relabel scope X.env).names.lookup y)=Nf.map (fun _=>some .cell):=by rfl):kL X scope cl Xs Nf js:=by
 have mp:∀{α β:Type}{f g:α->β}{l:List α}{x:α},l.map f=l.map g->x∈l->f x=g x:=fun {α β f g l x} h hx=>by
  induction l with
  | nil=>cases hx
  | cons y l ih=>
   simp only[List.map_cons,List.cons.injEq] at h;rcases Ji.mp hx with rfl | hx
   ·exact h.1
   ·exact ih h.2 hx
 refine⟨a,b,k,n,fun y c h=>mp (x:=(y,c)) e (IQ h),fun y hy=>?_,hl,fun j y h=>?_⟩
 ·have key:∀z,(relabel scope X.env).names.lookup y=some z->(z=.cell\/z=.free)->y∈Nf:=fun z hz LV=>by
   have:=List.all_eq_true.mp r _ (IQ hz);rcases LV with rfl | rfl<;>simpa using this
  have Mn:y∈Nf:=by
   rcases hy with z | z
   ·exact key _ z (.inl rfl)
   ·exact key _ z (.inr rfl)
  rw[<-hc] at Mn;cases hq:cl.lookup y with
  | some c=>exact⟨c,rfl⟩
  | none=>
   obtain⟨p,hp,Kb⟩:=Jq.mp Mn;have:∀{l:List (Str×Addr)},p∈l->l.lookup p.1≠none:=fun {l} hl=>by
    induction l with
    | nil=>cases hl
    | cons q l ih=>
     intro z;rw[List.lookup_cons] at z;split at z
     ·cases z
     ·rename_i JK;rcases Ji.mp hl with rfl | hl
      ·rw[beq_self_eq_true] at JK;cases JK
      ·exact ih hl z
   rw[<-Kb] at hq;exact Vi hq (this hp)
 ·have hy:=IG h;have hj:j < js.length:=by rw[hl];exact(Ja.mp h).1
  refine⟨js[j],Iy hj,?_,mp (x:=y) hk hy,.inl (mp (x:=y) Qx hy)⟩;have e1:(js.map fun i=>X.N[i]?)[j]?=(Nf.map some)[j]?:=by rw[hN]
  rw[IJ,IJ,h,Iy hj] at e1;exact Option.some.inj e1
end GS
namespace L3
open PySem PyProof.Rows L2
section
variable {X:Cx}{pos:Pos}
theorem uD {K e f ta}(hK:X.K=K) (he:LE X e ta) (hb:attributeBase e f X.env (eval e X.env)=eval e X.env:=by rfl):LE X (.Attribute e f pos) (BI K ta f):=by
 subst hK;exact L3.bR he hb
theorem cQ {st}:LS X st (fun _ _ _=>False):=.mk fun UL s σ H D I q=>q.elim
theorem Aa {e}:LE X e (fun _ _ _=>False):=.mk fun UL s σ H D I q=>q.elim
end
end L3
namespace GS
open PySem PyProof.Rows
open L2 hiding ag gA cE aj pv bA fN aB iw fu d9 fh iT bC dz bD bz bg bc aI aY ba bV au bE dQ cp bS fP d6 fg fE gk cR eJ cb fT bL eI bQ aJ bT fQ gu bo eS cL aP aa ah
open L3
inductive Pairs (P:Nat->V->Prop):List Nat->List V->Prop
 | nil:Pairs P [] []
 | cons {i v is vs}:P i v->Pairs P is vs->Pairs P (i::is) (v::vs)
theorem Pairs.snoc {P i v}(h:P i v):∀{is vs},Pairs P is vs->Pairs P (is++[i]) (vs++[v])
 | _,_,.nil=>.cons h .nil
 | _,_,.cons h1 h2=>.cons h1 (h2.snoc h)
theorem Pairs.mono {P P'}(hp:∀i v,P i v->P' i v):∀{is vs},Pairs P is vs->Pairs P' is vs
 | _,_,.nil=>.nil
 | _,_,.cons h1 h2=>.cons (hp _ _ h1) (h2.mono hp)
theorem Pairs.len {P}:∀{is vs},Pairs P is vs->vs.length=is.length
 | _,_,.nil=>rfl
 | _,_,.cons _ h2=>by rw[IT,IT,h2.len]
theorem Pairs.at {K H f}:∀{is vs},Pairs (fun i v=>At K H (f i) v) is vs->aE K H (is.map f) vs
 | _,_,.nil=>aZ.mpr rfl
 | _,_,.cons h1 h2=>aX.mpr ⟨_,_,rfl,h1,h2.at⟩
theorem Pairs.eq {f}:∀{is vs},Pairs (fun i v=>v=f i) is vs->vs=is.map f
 | _,_,.nil=>rfl
 | _,_,.cons h1 h2=>by rw[Va,h1,h2.eq]
theorem range_getD {α} (l) (d:α):(List.range l.length).map (fun i=>l.getD i d)=l:=by
 refine List.ext_getElem (by simp) fun i h1 h2=>?_;simp[List.getD_eq_getElem?_getD,h2]
theorem di {α β}(l:List α) (d:α) (g:α->β):(List.range l.length).map (fun i=>g (l.getD i d))=l.map g:=by
 conv=>rhs;rw[<-range_getD l d]
 rw[List.map_map];rfl
def wo (H:Hp) (D:Addr):Hp:=fun p=>if p=D then none else H p
theorem oM {H D p}(h:p≠D):wo H D p=H p:=IH h
theorem eB (H D):ak (wo H D) H:=fun p o e=>by
 unfold wo at e;split at e
 ·cases e
 ·exact e
theorem ft {H H'} (D) (s:ak H H'):ak (wo H D) (wo H' D):=fun p o e=>by
 unfold wo at e ⊢;split at e
 ·cases e
 ·rename_i h;rw[IH h];exact s _ _ e
theorem kQ (H D o):wo (U1 H D o) D=wo H D:=by
 funext p;unfold wo;split
 ·rfl
 ·rename_i h;rw[aD h]
theorem pT {H H' D}(h:H D=none) (s:ak H H'):ak H (wo H' D):=fun p o e=>by
 rw[oM (cv e h)];exact s _ _ e
section
variable {K:Fg06}{H:Hp}{D':Addr}
theorem gq.wo {p vs l}(hD:H D'=some (.lst l)) (h:gq K H p vs):gq K (GS.wo H D') p vs:=by
 rcases h with (h | ⟨o,h⟩) | h
 ·refine .inl (.inl ?_);rw[oM (cv h hD)];exact h
 ·refine .inl (.inr ⟨o,?_⟩);rw[oM (cv h hD)];exact h
 ·exact .inr h
mutual
theorem At.wo {l}(hD:H D'=some (.lst l)):∀d v,At K H d v->At K (GS.wo H D') d v
 | .bb,_,h=>cU.mpr (cU.mp h)
 | .bl _,_,h=>dZ.mpr (dZ.mp h)
 | .int _,_,h=>bG.mpr (bG.mp h)
 | .str _,_,h=>aH.mpr (aH.mp h)
 | .tup ds,_,h=>by
  obtain⟨p,vs,rfl,h1,h2⟩:=bf.mp h;exact bf.mpr ⟨p,vs,rfl,gq.wo hD h1,aE.wo hD ds vs h2⟩
theorem aE.wo {l}(hD:H D'=some (.lst l)):∀ds vs,aE K H ds vs->aE K (GS.wo H D') ds vs
 | [],_,h=>aZ.mpr (aZ.mp h)
 | d::ds,_,h=>by
  obtain⟨v,r,rfl,h1,h2⟩:=aX.mp h;exact aX.mpr ⟨v,r,rfl,At.wo hD d v h1,aE.wo hD ds r h2⟩
end
end
theorem bM {J:It}{tc:TT}{te:TE}{H:Hp}{R:Addr->Hp->Prop}{vs:List V}(n:Nat) (item:Nat->V) (b:Nat->Bool) (Pv:Nat->V->Hp->Prop) (TR:∀i v H H',ak H H'->Pv i v H->Pv i v H') (hn:n<=1000000)
  (hstop:∀H',ak H H'->J.stop n H') (Qz:∀i H',i < n->ak H H'->J.go i H') (hyld:∀i H1 x H2,i < n->ak H H1->J.rZ i H1 x H2->x=item i/\H2=H1)
  (Rv:∀i H1 (Q':Bool->Hp->Prop),i < n->ak H H1->(∀H2,ak H1 H2->Q' (b i) H2)->tc (some (item i)::vs.map some) H1 Q')
  (Ru:∀i H1 D l (Q':VK),i < n->b i=true->ak H H1->H D=none->H1 D=some (.lst l)->(∀v H2,ak H1 H2->Pv i v (wo H2 D)->Q' v H2)->te (some (item i)::vs.map some) H1 Q')
  (q:∀D H' ys,H D=none->ak H H'->H' D=some (.lst ys)->Pairs (fun i v=>Pv i v (wo H' D)) ((List.range n).filter b) ys->R D H'):
  ∀D,H D=none->∃W:Nat->Nat->List V->Hp->Prop,(∃m,W 0 m [] (U1 H D (.lst [])))/\∀i m ys H,W i m ys H->
   (J.stop i H/\R D H)\/(J.go i H/\∀x H' (ox:List (Option V)),ox.length=1->J.rZ i H x H'->iz 0 x (ox++vs.map some) H' fun σ2 H2=>∃Kl,Kl.length=1/\σ2=Kl++vs.map some/\tc σ2 H2 fun b H3=>
    if b=true then te σ2 H3 fun v H4=>H4 D=some (.lst ys)/\ys.length < sizeLine/\∃m',m' < m/\W (i+1) m' (ys++[v]) (U1 H4 D (.lst (ys++[v]))) else ∃m',m' < m/\W (i+1) m' ys H3):=by
 intro D hD;refine⟨fun i m ys H'=>m=n - i/\i<=n/\ak H H'/\H' D=some (.lst ys)/\Pairs (fun i v=>Pv i v (wo H' D)) ((List.range i).filter b) ys,⟨n,rfl,Je _,ab hD _,ae,.nil⟩,?_⟩;rintro i m ys H1 ⟨rfl,hi,sH,K1,hP⟩;by_cases Ju:i < n
 ·refine .inr ⟨Qz i H1 Ju sH,fun x H' ox Ni hy=>?_⟩;obtain⟨rfl,rfl⟩:=hyld i H1 x H' Ju sH hy;obtain⟨o,rfl⟩:∃o,ox=[o]:=by
   match ox,Ni with
   | [o],_=>exact⟨o,rfl⟩
  refine⟨[some (item i)],rfl,rfl,Rv i _ _ Ju sH fun H2 s2=>?_⟩;have hl:=hP.len;have JF:((List.range i).filter b).length<=i:=ID (List.length_filter_le ..) (by simp);have er:(List.range (i+1)).filter b=(List.range i).filter b++(if b i=true then [i] else []):=by
   rw[List.range_succ,List.filter_append,List.filter_cons,List.filter_nil]
  cases hb:b i with
  | false=>
   refine bu ⟨n - (i+1),by omega,rfl,Ju,sH.trans s2,s2 _ _ K1,?_⟩;rw[er,hb,IH IP,Jf];exact hP.mono fun j v z=>TR _ _ _ _ (ft D s2) z
  | true=>
   refine cC (Ru i H2 D ys _ Ju hb (sH.trans s2) hD (s2 _ _ K1) fun v H3 s3 hv=>?_);have s4:=s2.trans s3;refine⟨s4 _ _ K1,Jh (Jm _) (small (n:=ys.length+1) (by omega)),n - (i+1),by omega,rfl,Ju,gz (sH.trans s4) hD _,ae,?_⟩;rw[er,hb,II rfl,kQ];exact(hP.mono fun j v z=>TR _ _ _ _ (ft D s4) z).snoc hv
 ·have e:i=n:=by omega
  subst e;exact .inl ⟨hstop H1 sH,q D H1 ys hD sH K1 hP⟩
section
variable {K:Fg06}{H:Hp}{a:Addr}{xs:List V}
theorem ee (h:aS K H a xs):∀H',ak H H'->(Bx K a).stop xs.length H':=fun H' s=>⟨xs,s.seq h,IE _⟩
theorem gx (h:aS K H a xs):∀i H',i < xs.length->ak H H'->(Bx K a).go i H':=fun i H' hi s=>⟨xs,xs[i],s.seq h,Iy hi⟩
theorem fw (h:aS K H a xs):∀i H1 x H2,i < xs.length->ak H H1->(Bx K a).rZ i H1 x H2->x=xs.getD i .bb/\H2=H1:=fun i H1 x H2 hi s hy=>by
 obtain⟨e,hy⟩:=hy;refine⟨?_,e⟩;rw[Iz,hy xs (s.seq h)];rfl
theorem hX (h:gq K H a xs):∀H',ak H H'->(Bw K a).stop xs.length H':=fun H' s=>⟨xs,ak.oE s h,IE _⟩
theorem lJ (h:gq K H a xs):∀i H',i < xs.length->ak H H'->(Bw K a).go i H':=fun i H' hi s=>⟨xs,xs[i],ak.oE s h,Iy hi⟩
theorem jt (h:gq K H a xs):∀i H1 x H2,i < xs.length->ak H H1->(Bw K a).rZ i H1 x H2->x=xs.getD i .bb/\H2=H1:=fun i H1 x H2 hi s hy=>by
 obtain⟨e,hy⟩:=hy;refine⟨?_,e⟩;rw[Iz,hy xs (ak.oE s h)];rfl
end
noncomputable instance decD:DecidableEq D:=fun a b=>Classical.propDecidable (a=b)
mutual
def nb:D->Bool
 | .bl _=>false
 | .tup xs=>Bi xs
 | _=>true
def Bi:List D->Bool
 | []=>true
 | x::xs=>nb x&&Bi xs
end
mutual
theorem zi:∀d e,nb d=true->nb e=true->cm d e=true->d=e
 | .bb,.bb,_,_,_=>rfl
 | .bb,.bl b,_,h,_=>by rw[nb] at h;cases h
 | .bb,.int i,_,_,z=>by rw[jc] at z;cases z
 | .bb,.str x,_,_,z=>by rw[jb] at z;cases z
 | .bb,.tup xs,_,_,z=>by rw[ja] at z;cases z
 | .bl b,_,h,_,_=>by rw[nb] at h;cases h
 | .int i,.bb,_,_,z=>by rw[jf] at z;cases z
 | .int i,.bl b,_,h,_=>by rw[nb] at h;cases h
 | .int i,.int j,_,_,z=>by rw[cm] at z;rw[eq_of_beq z]
 | .int i,.str x,_,_,z=>by rw[je] at z;cases z
 | .int i,.tup xs,_,_,z=>by rw[jd] at z;cases z
 | .str i,.bb,_,_,z=>by rw[i8] at z;cases z
 | .str i,.bl b,_,h,_=>by rw[nb] at h;cases h
 | .str i,.int j,_,_,z=>by rw[i9] at z;cases z
 | .str i,.str x,_,_,z=>by rw[cm] at z;rw[eq_of_beq z]
 | .str i,.tup xs,_,_,z=>by rw[i7] at z;cases z
 | .tup i,.bb,_,_,z=>by rw[i5] at z;cases z
 | .tup i,.bl b,_,h,_=>by rw[nb] at h;cases h
 | .tup i,.int j,_,_,z=>by rw[i6] at z;cases z
 | .tup i,.str x,_,_,z=>by rw[i4] at z;cases z
 | .tup xs,.tup ys,h,g,z=>by
  rw[nb] at h g;rw[cm] at z;rw[uU xs ys h g z]
theorem uU:∀ds es,Bi ds=true->Bi es=true->fX ds es=true->ds=es
 | [],[],_,_,_=>rfl
 | [],e::es,_,_,z=>by rw[fX] at z;cases z;all_goals nofun
 | d::ds,[],_,_,z=>by rw[fX] at z;cases z;all_goals nofun
 | d::ds,e::es,h,g,z=>by
  rw[Bi,Vh] at h g;rw[fX,Vh] at z;rw[zi d e h.1 g.1 z.1,uU ds es h.2 g.2 z.2]
end
theorem qv {d e}(hd:nb d=true) (he:nb e=true):cm d e=decide (d=e):=by
 by_cases h:d=e
 ·rw[Iw h,h,cI]
 ·rw[Iv h];cases z:cm d e with
  | false=>rfl
  | true=>exact Vi (zi d e hd he z) h
structure El (d:D):Prop where
 nb:nb d=true
 dep:dep d<=40
theorem El.int (i):El (.int i):=⟨by rw[GS.nb];all_goals nofun,by rw[gG];exact Je _⟩
theorem El.str (x):El (.str x):=⟨by rw[GS.nb];all_goals nofun,by rw[cK];exact Je _⟩
inductive bU (K:Fg06) (H:Hp):List (List D)->List V->Prop
 | nil:bU K H [] []
 | cons {ds UR v vs}:eh K H ds v->bU K H UR vs->bU K H (ds::UR) (v::vs)
section
variable {K:Fg06}{H H':Hp}
theorem bU.same (s:ak H H'):∀{UR vs},bU K H UR vs->bU K H' UR vs
 | _,_,.nil=>.nil
 | _,_,.cons h1 h2=>.cons (h1.same s) (h2.same s)
theorem bU.len:∀{UR vs},bU K H UR vs->vs.length=UR.length
 | _,_,.nil=>rfl
 | _,_,.cons _ h2=>by rw[IT,IT,h2.len]
theorem bU.get:∀{UR:List (List D)}{vs:List V}{i:Nat}{v:V},bU K H UR vs->vs[i]?=some v->∃ds,UR[i]?=some ds/\eh K H ds v
 | _,_,i,_,.nil,e=>by simp at e
 | _,_,0,_,.cons h1 _,e=>by simp at e;subst e;exact⟨_,rfl,h1⟩
 | _,_,i+1,_,.cons _ h2,e=>by
  obtain⟨ds,a,b⟩:=bU.get h2 (i:=i) (by simpa using e);exact⟨ds,by simpa using a,b⟩
theorem bU.append:∀{UR UW vs ws},bU K H UR vs->bU K H UW ws->bU K H (UR++UW) (vs++ws)
 | _,_,_,_,.nil,g=>g
 | _,_,_,_,.cons h1 h2,g=>.cons h1 (h2.append g)
theorem bU.take:∀n {UR vs},bU K H UR vs->bU K H (UR.take n) (vs.take n)
 | 0,_,_,_=>.nil
 | n+1,_,_,.nil=>.nil
 | n+1,_,_,.cons h1 h2=>.cons h1 (h2.take n)
theorem bU.drop:∀n {UR vs},bU K H UR vs->bU K H (UR.drop n) (vs.drop n)
 | 0,_,_,h=>h
 | n+1,_,_,.nil=>.nil
 | n+1,_,_,.cons _ h2=>h2.drop n
end
theorem Pairs.rows {K H f}:∀{is vs},Pairs (fun i v=>eh K H (f i) v) is vs->bU K H (is.map f) vs
 | _,_,.nil=>.nil
 | _,_,.cons h1 h2=>.cons h1 h2.rows
theorem ik {α β:Type}(l:List α) (d:α) (p:α->Bool) (g:α->β):((List.range l.length).filter fun i=>p (l.getD i d)).map (fun i=>g (l.getD i d))=(l.filter p).map g:=by
 conv=>rhs;rw[<-range_getD l d]
 rw[List.filter_map,List.map_map];rfl
section
variable {X:Cx}
theorem yI {UL σ H s}(I:Inv X UL σ H s) {d x v}(rx:RelV x v) (hx:At X.K H d x) {ds xs UN}(ha:aE X.K H ds xs) (rv:U2 xs UN) (A:Around) (hu:∀e∈ds,A.units+dep e < cLine):
  ∃f:Value->Bool,(∀u∈UN,SeqAt.EqAt A s u v (f u))/\UN.map f=ds.map fun e=>cm e d:=by
 classical
 have l1:=rv.length;have l2:=ha.len;have fact:∀(i:Nat) (u:Value),UN[i]?=some u->∃e y,ds[i]?=some e/\RelV y u/\At X.K H e y:=fun i u hu=>by
  have hi:i < UN.length:=(Ja.mp hu).1;obtain⟨e,he⟩:∃e,ds[i]?=some e:=⟨ds[i]'(by omega),by simp⟩;obtain⟨y,hy,Mn⟩:=ha.get he;obtain⟨u',KU,ru⟩:=rv.get hy;rw[hu] at KU;cases KU;exact⟨e,y,he,ru,Mn⟩
 have val:∀(i:Nat) (u:Value) (e:D),UN[i]?=some u->ds[i]?=some e->(decide (∃(j:Nat) (e':D),UN[j]?=some u/\ds[j]?=some e'/\cm e' d=true))=cm e d:=fun i u e hu he=>by
  rw[Bool.eq_iff_iff,decide_eq_true_eq];constructor
  ·rintro⟨j,e',hj,N9,h⟩;obtain⟨e1,y1,k1,k2,k3⟩:=fact i u hu;obtain⟨e2,y2,l1,l2,l3⟩:=fact j u hj;rw[he] at k1;cases k1;rw[N9] at l1;cases l1;have ey:=RelV.inj k2 l2;subst ey;have:=At.one I _ _ _ k3 l3;rw[this];exact h
  ·exact fun h=>⟨i,e,hu,he,h⟩
 refine⟨fun u=>decide (∃(j:Nat) (e':D),UN[j]?=some u/\ds[j]?=some e'/\cm e' d=true),fun u KU=>?_,?_⟩
 ·obtain⟨i,hi⟩:=List.mem_iff_getElem?.mp KU;obtain⟨e,y,he,ry,hy⟩:=fact i u hi;dsimp only;rw[val i u e hi he];exact tI I (dep e) e d A y x u v (IE _) ry rx hy hx (hu e (IG he))
 ·refine List.ext_getElem? fun i=>?_;rw[IJ,IJ];by_cases hi:i < UN.length
  ·have e1:UN[i]?=some UN[i]:=Iy hi;obtain⟨e,y,he,_⟩:=fact i _ e1;rw[e1,he,Option.map_some,Option.map_some,val i _ e e1 he]
  ·rw[List.getElem?_eq_none (by omega),List.getElem?_eq_none (by omega)];rfl
def tW (H:Hp) (x:V):Prop:=∃p o vs,x=.ref p/\H p=some (.mD o (.tup vs))/\o.dict=none
theorem tW.same {H H' x}(s:ak H H') (h:tW H x):tW H' x:=let ⟨p,o,vs,e,h1,h2⟩:=h;⟨p,o,vs,e,s _ _ h1,h2⟩
theorem At.DB {K H p o ds vs}(hp:H p=none) (h:aE K H ds vs):At K (U1 H p (.mD o (.tup vs))) (.tup ds) (.ref p):=
 bf.mpr ⟨p,vs,rfl,.inl (.inr ⟨o,ae⟩),aE.same (ab hp _) _ _ h⟩
def AZ (t:TA):TE:=fun σ H Q=>t σ H fun xs H1=>xs.length<=sizeLine/\∀p o,H1 p=none->o.dict=none->Q (.ref p) (U1 H1 p (.mD o (.tup xs)))
theorem qc {es t pos x1}(h:PA X es t):PE X (.Tuple es x1 pos) (AZ t):=by
 intro UL s σ H Q I hq;refine wpAny_Tuple_spliced (da (h pos UL s σ H _ I hq) fun us s1 ⟨xs,H1,I1,r,z,q⟩=>⟨by rw[<-r.length];exact z,?_⟩);have hf:H1 s1.heap.objs.size=none:=I1.cA.fresh (IE _);refine⟨.ref s1.heap.objs.size,U1 H1 s1.heap.objs.size (.mD _ (.tup xs)),I1.laid (t':=s1.toks) (fun b u e=>IM _ e) (IE _) ⟨Jn _ rfl,?_⟩,rfl,q _ _ hf rfl⟩;exact⟨z,us,r,⟨_,Jn _ rfl,rfl,_,rfl⟩⟩
def Fl (K:Fg06):List V->Hp->VK->Prop:=fun xs H Q=>∃p ys,xs=[V.ref p]/\aS K H p ys/\∀l o,H l=none->o.dict=none->Q (.ref l) (U1 H l (.mD o (.tup ys)))
theorem me:gf X (.type "tuple") (Fl X.K):=by
 intro UL s σ H xs us Q I r h;obtain⟨p,ys,rfl,hq,q⟩:=h;obtain⟨u,rfl,rx⟩:=vals1 r;cases rx;obtain⟨UN,r',pl,hz⟩:=I.list hq;have UQ:=r'.length;refine call_tuple_list pl.isList (fun h' kp=>?_) (by simp only[List.size_toArray]<;>omega);have I1:Inv X UL σ H { s with heap:=h' }:=I.kept (t':=s.toks) kp;have I2:Inv X UL σ (U1 H h'.objs.size (.mD { cls:=.type "tuple",data:=.seq UN.toArray } (.tup ys))) { s with heap:=h'.push { cls:=.type "tuple",data:=.seq UN.toArray } }:=
  I1.laid (t':=s.toks) (fun b o e=>IM _ e) (IE _) (show dY X.prog X.w _ _ _ (.mD _ (.tup ys)) from⟨Jn _ rfl,hz,UN,r',IsTup.new _ _⟩)
 exact⟨.ref h'.objs.size,_,I2,rfl,q _ _ (I1.cA.fresh (IE _)) rfl⟩
def BK (r:V->List V->Hp->VK->Prop) (to:TE) (t:TA):TE:=fun σ H Q=>to σ H fun x H1=>tW H1 x/\t σ H1 fun xs H2=>r x xs H2 Q
theorem yg {o e es to t name UU US id r}(slot:Slot "tuple" name id) (OP:typeOf (.builtin id)=pure (.type "method_descriptor")) (hm:G0 X id r) (ho:PE X o to) (ha:PA X (e::es) t)
  (JA:attributeBase o name X.env (eval o X.env)=eval o X.env:=by rfl)
  (JW:((backTo US (starEach (e::es) X.env)).all (fun x=>!x.1)&&(backToKw US (keywordEach [] X.env)).all (fun x=>x.1.isSome)
   &&decide ((e::es).length+([]:List Keyword).length+(if([]:List Keyword).isEmpty then 0 else 1) < 30))=true:=by rfl)
  (Jz:(UU.endLine == US.line)=true:=by rfl) (hs:starEach (e::es) X.env=(false,eval e X.env)::starEach es X.env:=by rfl) (Jy:(backTo US (starEach es X.env)).any (·.1)=false:=by rfl):
  PE X (.Call (.Attribute o name UU) (e::es) [] US) (BK r to t):=by
 intro UL s σ H Q I h;refine wpAny_Call_method_late JA JW Jz rfl (da (ho UL s σ H _ I h) fun v s1 ⟨x,H1,I1,r1,ty,q1⟩=>?_);obtain⟨p,ob,vs,rfl,hp,hd⟩:=ty;cases (show v=Value.ref p from r1);obtain⟨e1,hz,UN,rv,o2,e2,c2,n2,d2⟩:=(show dY X.prog X.w H1 s1.heap p (.mD ob (.tup vs)) from I1.cA p _ hp);rw[e1] at e2;cases e2;refine⟨"tuple",id,PySem.F.plainAttrs_tuple,slot,OP,⟨ob,e1,c2⟩,fun a e=>by cases e;exact⟨ob,e1,hd⟩,?_⟩;have hA:=ha US UL s1 σ H1 _ I1 q1;rw[hs] at hA ⊢;refine Calls.callWith_builtin (by show(false||(backTo US (starEach es X.env)).any (·.1))=false;rw[Jy]<;>rfl) (Calls.evalArgs_plain ?_);exact da hA fun us s2 ⟨vs,H2,I2,r2,q2⟩=>hm UL s2 σ H2 _ vs _ us Q I2 r1 r2 q2
def Bg (K:Fg06):R2:=fun x y H Q=>∃ds es,At K H (.tup ds) x/\tW H x/\At K H (.tup es) y/\ds≠[]/\ds.length+es.length<=sizeLine/\∀r H',ak H H'->At K H' (.tup (ds++es)) r->tW H' r->Q r H'
theorem Al:ie X (binaryOp .Add) (Bg X.K):=by
 intro UL s σ H x y v u Q I rx ry h;obtain⟨ds,es,hx,hp,hy,hd,hz,q⟩:=h;obtain⟨a,xs,rfl,ha,hA⟩:=bf.mp hx;obtain⟨b,ys,rfl,hb,hB⟩:=bf.mp hy;have la:=hA.len;have lb:=hB.len;cases rx;cases ry;obtain⟨UN,r1,p1,_⟩:=I.tuple ha;obtain⟨JB,r2,p2,_⟩:=I.tuple hb;have hxn:xs≠[]:=fun z=>hd (Ve.mp (by rw[z] at la;simpa using la.symm));refine HT.vh p1 p2 (fun z=>hxn (r1.uJ.mp z)) (fun z=>⟨.ref a,H,I,rfl,?_⟩) (fun z=>?_) (by rw[<-r1.length,<-r2.length];omega)
 ·have e:es=[]:=Ve.mp (by rw[r2.uJ.mp z] at lb;simpa using lb.symm);subst e;exact q _ _ (ak.refl _) (by rw[Jf];exact hx) hp
 ·have hn:=I.cA.fresh (IE s.heap.objs.size);refine⟨.ref s.heap.objs.size,_,I.laid (t':=s.toks) (o:=.mD { cls:=.type "tuple",data:=.seq (UN++JB).toArray } (.tup (xs++ys))) (fun b ob q=>IM _ q) (IE _) ?_,rfl,q _ _ (ab hn _) (At.DB hn (aE.append hA hB)) ⟨_,_,_,rfl,ae,rfl⟩⟩;exact⟨Jn _ rfl,by rw[Iu];omega,_,r1.append r2,IsTup.new _ _⟩
def wG (d:D) (ds:List D) (j:Nat):Prop:=(∃e,ds[j]?=some e/\cm e d=true)/\∀m e,m < j->ds[m]?=some e->cm e d=false
def uz (K:Fg06):V->List V->Hp->VK->Prop:=fun x vs H Q=>∃y d ds j,vs=[y]/\At K H (.tup ds) x/\At K H d y/\(∀e∈ds,dep e<=40)/\wG d ds j/\Q (.int (j:Nat)) H
theorem rE {f:Value->Bool}{UN:List Value}{ds:List D}{d:D}(h:UN.map f=ds.map fun e=>cm e d){j:Nat}(hj:wG d ds j):∃hl:j < UN.length,f UN[j]=true/\∀m (hm:m < UN.length),m < j->f UN[m]=false:=by
 have key:∀m e (hm:m < UN.length),ds[m]?=some e->f UN[m]=cm e d:=fun m e hm he=>by
  have:=Vj (fun l=>l[m]?) h;simp only[List.getElem?_map,he,List.getElem?_eq_getElem hm,Option.map_some,Option.some.injEq] at this;exact this
 have UQ:UN.length=ds.length:=by simpa using Vj List.length h
 obtain⟨⟨e,he,h1⟩,h2⟩:=hj;have hl:j < UN.length:=by rw[UQ];exact(Ja.mp he).1
 refine⟨hl,by rw[key j e hl he,h1],fun m hm Ju=>?_⟩;obtain⟨e',QA⟩:∃e',ds[m]?=some e':=⟨_,Iy (by omega)⟩;rw[key m e' hm QA,h2 m e' Ju QA]
theorem vS {k}(hr:cZ k X.A):GB X "tuple.index" (uz X.K):=by
 intro UL s σ H x vs v us Q I rx rv h;obtain⟨y,d,ds,j,rfl,hx,hy,he,hj,q⟩:=h;obtain⟨p,xs,rfl,hq,ha⟩:=bf.mp hx;cases rx;obtain⟨u,rfl,ru⟩:=rv.one;obtain⟨UN,r,pl,hz⟩:=I.tuple hq;obtain⟨f,f1,f2⟩:=yI I ru hy ha r X.A.in1 (fun e h=>by have:=hr.units;have:=he e h;show X.A.units+1+_ < _;omega);obtain⟨hl,g1,g2⟩:=rE f2 hj;obtain⟨⟨cls,dd,data,sl⟩,ho,hc,n,JS⟩:=id pl;simp only at hc JS;subst hc JS;refine wpAny_call_entry PySem.F.slot_tuple_index ⟨_,ho,rfl⟩ PySem.F.entry_tuple_index ?_ (PySem.F.args_tuple_index_2 _ _);unfold Builtin.«tuple.index»;refine IK (IK (IL (IK (IL (IL ?_)))));refine IK (IK (wpAny_seqItems ho rfl (IL ?_)));refine IK (IL (IK (IL (IK ?_))));rw[Std.Legacy.Range.forIn_eq_forIn_range'];refine wpAny_forIn_list _ (fun l b s'=>s'=s/\b=(none,())/\∃i,i<=j/\l=List.range' i (UN.length - i)) _ ?_ ?_ _ _ ⟨rfl,rfl,0,Je _,?_⟩
 ·rintro i rest b s' ⟨rfl,rfl,i',hi,KL⟩;have Ju:i' < UN.length:=by omega
  rw[show UN.length - i'=(UN.length - (i'+1))+1 by omega,List.range'_succ] at KL;injection KL with e1 e2;subst e1 e2;have ei:UN.toArray[i]?=some UN[i]:=by simp[Ju]
  show wpAny _ _ (match UN.toArray[i]? with | some y=>_ | _=>_) _ _ _;rw[ei];refine IK (f1 _ (List.getElem_mem Ju) _ _ _ _ ?_);by_cases ej:i=j
  ·subst ej;rw[g1,II rfl];refine IK (IK (wpAny_mkInt (IL (IL (IL ⟨_,rfl,.int _,H,I.tok _,⟨_,rfl⟩,q⟩)))))
  ·rw[g2 i Ju (by omega),IH IP];exact IL ⟨rfl,rfl,i+1,by omega,rfl⟩
 ·rintro b s' ⟨rfl,rfl,i,hi,KL⟩;have:=Vj List.length KL;rw[List.length_range',List.length_nil] at this;omega
 ·simp[Std.Legacy.Range.size]
def uA (K:Fg06):V->List V->Hp->VK->Prop:=fun x vs H Q=>∃p xs y d ds j,x=.ref p/\vs=[y]/\aS K H p xs/\aE K H ds xs/\At K H d y/\(∀e∈ds,dep e<=40)/\wG d ds j/\ds.length<=1000/\Q (.int (j:Nat)) H
theorem vT {k}(hr:cZ k X.A):GB X "list.index" (uA X.K):=by
 intro UL s σ H x vs v us Q I rx rv h;obtain⟨p,xs,y,d,ds,j,rfl,rfl,hq,ha,hy,he,hj,UQ,q⟩:=h;cases rx;obtain⟨u,rfl,ru⟩:=rv.one;obtain⟨UN,r,pl,hz⟩:=I.list hq;obtain⟨f,f1,f2⟩:=yI I ru hy ha r X.A.in1 (fun e h=>by have:=hr.units;have:=he e h;show X.A.units+1+_ < _;omega);obtain⟨hl,g1,g2⟩:=rE f2 hj;have l1:=r.length;have l2:=ha.len;obtain⟨⟨cls,dd,data,sl⟩,ho,hc,n,JS⟩:=id pl.isList;simp only at hc JS;subst hc JS;exact call_meets PySem.F.slot_list_index ⟨_,ho,rfl⟩ PySem.F.entry_list_index (PySem.F.args_list_index_2 _ _) (SeqAt.list_indexAt p UN.toArray n dd sl u f j (by simpa using hl) (by omega) (by simpa using g1) (fun m hm=>by simpa using g2 m (by simpa using hm))) ⟨ho,fun z hz=>f1 z (by simpa using hz),.int _,H,I.tok _,⟨_,rfl⟩,q⟩
def xc (to:TE):TE:=fun σ H Q=>to σ H fun x H1=>∃a UM,x=.ref a/\H1 a=some (.dK UM)/\Q .bb (U1 H1 a (.dK []))
theorem nD {o to UU US}(ho:PE X o to) (JA:attributeBase o "clear" X.env (eval o X.env)=eval o X.env:=by rfl) (Jz:(UU.endLine == US.line)=true:=by rfl):PE X (.Call (.Attribute o "clear" UU) [] [] US) (xc to):=by
 intro UL s σ H Q I h;refine wpAny_Call_method0_late JA Jz (da (ho UL s σ H _ I h) fun v s1 ⟨x,H1,I1,r1,a,UM,e,ha,q1⟩=>?_);subst e;obtain rfl:v=Value.ref a:=r1;obtain⟨t1,t2,_⟩:=sZ I1 (.inl ⟨UM,.inl ha⟩);exact⟨"dict","dict.clear",PySem.F.plainAttrs_dict,PySem.F.slot_dict_clear,PySem.F.type_dict_clear,t1,t2,Calls.callWith_builtin rfl (PySem.evalArgs_none (AM I1 ha fun s' I'=>⟨.bb,_,I',rfl,q1⟩))⟩
end
end GS
namespace L3
open PySem PyProof.Rows L2
section
variable {X:Cx}{o i:Expr}{pos:Pos}{td ty:TE}
theorem qc {es t x1}(h:LA X es t):LE X (.Tuple es x1 pos) (GS.AZ t):=.mk (GS.qc h.out)
theorem nD {to UU US}(ho:LE X o to) (JA:attributeBase o "clear" X.env (eval o X.env)=eval o X.env:=by rfl) (Jz:(UU.endLine == US.line)=true:=by rfl):LE X (.Call (.Attribute o "clear" UU) [] [] US) (GS.xc to):=.mk (GS.nD ho.out JA Jz)
theorem vH (K:Fg06) {k e UU US to t}(hr:cZ k X.A) (ho:LE X o to) (ha:LA X [e] t) (hK:X.K=K:=by rfl)
  (JA:attributeBase o "index" X.env (eval o X.env)=eval o X.env:=by rfl)
  (JW:((backTo US (starEach [e] X.env)).all (fun x=>!x.1)&&(backToKw US (keywordEach [] X.env)).all (fun x=>x.1.isSome)
   &&decide ([e].length+([]:List Keyword).length+(if([]:List Keyword).isEmpty then 0 else 1) < 30))=true:=by rfl)
  (Jz:(UU.endLine == US.line)=true:=by rfl) (hs:starEach [e] X.env=(false,eval e X.env)::starEach [] X.env:=by rfl) (Jy:(backTo US (starEach [] X.env)).any (·.1)=false:=by rfl):
  LE X (.Call (.Attribute o "index" UU) [e] [] US) (GS.BK (GS.uz K) to t):=by
 subst hK;exact .mk (GS.yg PySem.F.slot_tuple_index PySem.F.type_tuple_index (GS.vS hr) ho.out ha.out JA JW Jz hs Jy)
theorem o9 (K:Fg06) {k e UU US to t}(hr:cZ k X.A) (ho:LE X o to) (ha:LA X [e] t) (hK:X.K=K:=by rfl)
  (JA:attributeBase o "index" X.env (eval o X.env)=eval o X.env:=by rfl)
  (JW:((backTo US (starEach [e] X.env)).all (fun x=>!x.1)&&(backToKw US (keywordEach [] X.env)).all (fun x=>x.1.isSome)
   &&decide ([e].length+([]:List Keyword).length+(if([]:List Keyword).isEmpty then 0 else 1) < 30))=true:=by rfl)
  (Jz:(UU.endLine == US.line)=true:=by rfl) (hs:starEach [e] X.env=(false,eval e X.env)::starEach [] X.env:=by rfl) (Jy:(backTo US (starEach [] X.env)).any (·.1)=false:=by rfl):
  LE X (.Call (.Attribute o "index" UU) [e] [] US) (G9 K "list" (GS.uA K) to t):=by
 subst hK;exact dQ Jb PySem.F.slot_list_index PySem.F.type_list_index (GS.vT hr) ho ha JA JW Jz hs Jy
end
end L3
namespace GS
open PySem PyProof.Rows
open L2 hiding ag gA cE aj pv bA fN aB iw fu d9 fh iT bC dz bD bz bg bc aI aY ba bV au bE dQ cp bS fP d6 fg fE gk cR eJ cb fT bL eI bQ aJ bT fQ gu bo eS cL aP aa ah
open L3
structure fo where
 F:Addr
 G:Addr
 M:Addr
 Kd:Addr
 O:Addr
 Gr:Addr
 Vw:Addr
 W:Addr
structure ot (K:Fg06) (D:Addr):Prop where
 hg:PySem.W.plainGet K D "__class__"=true
 hd:PySem.W.hasDictIn K D=true
 ha:PySem.W.findIn K (.ref D) "__class__"=some (some (.builtin "object.__class__"))
 hn:PySem.W.specialIn K (.builtin "object.__class__") "__get__"=some (some (.builtin "getset_descriptor.__get__"))
 tk:PySem.W.takesIn K (.builtin "object.__class__")=some true
 hm:PySem.W.mroIn K D (.type "object")=some true
structure qJ (K:Fg06) (c:fo) (C:Addr) (f g m k o r v:Bool):Prop where
 tF:PySem.W.kitOne K (.ref c.F) (.ref C)=some f
 tG:PySem.W.kitOne K (.ref c.G) (.ref C)=some g
 tM:PySem.W.kitOne K (.ref c.M) (.ref C)=some m
 tK:PySem.W.kitOne K (.ref c.Kd) (.ref C)=some k
 tO:PySem.W.kitOne K (.ref c.O) (.ref C)=some o
 tR:PySem.W.kitOne K (.ref c.Gr) (.ref C)=some r
 tV:PySem.W.kitOne K (.ref c.Vw) (.ref C)=some v
 tN:PySem.W.kitOne K (.type "NoneType") (.ref C)=some false
structure j6 (K:Fg06) (c:fo):Prop where
 kc:vq K c.Kd
 k1:NoAttr K c.Kd "name"
 k2:NoAttr K c.Kd "order"
 k3:NoAttr K c.Kd "fields"
 k4:NoAttr K c.Kd "is_given"
 wc:vq K c.W
 w1:NoAttr K c.W "lines"
 w2:NoAttr K c.W "left"
 w3:NoAttr K c.W "things"
 w4:NoAttr K c.W "given"
 gc:vq K c.G
 g1:NoAttr K c.G "name"
 oc:vq K c.O
 o1:NoAttr K c.O "kind"
 o2:NoAttr K c.O "fields"
 fc:vq K c.F
 f1:NoAttr K c.F "name"
 f2:NoAttr K c.F "params"
 f3:NoAttr K c.F "defaults"
 f4:NoAttr K c.F "code"
 f5:NoAttr K c.F "around"
 f6:NoAttr K c.F "gives"
 mc:vq K c.M
 m1:NoAttr K c.M "target"
 m2:NoAttr K c.M "owner"
 rc:vq K c.Gr
 r1:NoAttr K c.Gr "name"
 r2:NoAttr K c.Gr "frame"
 r3:NoAttr K c.Gr "state"
 r4:NoAttr K c.Gr "many"
 r5:NoAttr K c.Gr "handed"
 vc:vq K c.Vw
 v1:NoAttr K c.Vw "kind"
 v2:NoAttr K c.Vw "owner"
 iF:ot K c.F
 iG:ot K c.G
 iM:ot K c.M
 iK:ot K c.Kd
 iO:ot K c.O
 iR:ot K c.Gr
 iV:ot K c.Vw
 tF:qJ K c c.F true false false false false false false
 tG:qJ K c c.G false true false false false false false
 tM:qJ K c c.M false false true false false false false
 tK:qJ K c c.Kd false false false true false false false
 tO:qJ K c c.O false false false false true false false
 tR:qJ K c c.Gr false false false false false true false
 tV:qJ K c c.Vw false false false false false false true
def Hw (K:Fg06):List V->Hp->VK->Prop:=fun xs H Q=>∃x C b,xs=[x,.ref C]/\((∃p D dx fs,x=.ref p/\H p=some (.ins D dx fs)/\ot K D/\PySem.W.kitOne K (.ref D) (.ref C)=some b)\/(x=.bb/\PySem.W.kitOne K (.type "NoneType") (.ref C)=some b))/\Q (.bl b) H
theorem cD {X}:gf X (.builtin "isinstance") (Hw X.K):=by
 intro UL s σ H xs us Q I r h;obtain⟨x,C,b,rfl,hx,q⟩:=h;obtain⟨u,w',rfl,r1,r2⟩:=vals2 r;cases r2;rcases hx with ⟨p,D,dx,fs,rfl,hp,o,hk⟩ | ⟨rfl,hk⟩
 ·cases (show u=Value.ref p from r1);obtain⟨mA,hO,_⟩:=qo I.cA hp;obtain⟨od,hI,_⟩:=hO.look;exact PySem.W.kia_one (PySem.W.kitx_own (ox:=PySem.W.instObj D dx) (od:=od) o.hg o.hd o.ha o.hn o.tk o.hm) I.sd hI hk (fun z=>nomatch z) fun tk=>⟨.bl b,H,I.tok _,rfl,q⟩
 ·cases (show u=Value.none from r1);exact PySem.W.kia_one PySem.W.kitx_none I.sd True.intro hk (fun z=>nomatch z) fun tk=>⟨.bl b,H,I.tok _,rfl,q⟩
def AJ:HO->Bool
 | .tup _=>true
 | .mD _ _=>true
 | _=>false
def Fx (H H':Hp):Prop:=∀p o,H p=some o->AJ o=true->H' p=some o
theorem ak.fx {H H'}(s:ak H H'):Fx H H':=fun p o e _=>s p o e
theorem Fx.put {H p o o'}(h:H p=some o) (e:AJ o=false):Fx H (U1 H p o'):=fun q u eq z=>by
 rw[aD (fun y=>by rw[y,h] at eq;cases eq;rw[e] at z;cases z)];exact eq
def bw (l:Addr) (H H':Hp):Prop:=∀p o,p≠l->H p=some o->H' p=some o
theorem bw.fx {l H H' o'}(b:bw l H H') (h:H l=some o') (e':AJ o'=false):Fx H H':=fun p o e z=>b p o (fun y=>by rw[y,h] at e;cases e;rw[e'] at z;cases z) e
theorem ak.but {H H'} (l) (s:ak H H'):bw l H H':=fun p o _ e=>s p o e
theorem bw.trans {l H H1 H2}(a:bw l H H1) (b:bw l H1 H2):bw l H H2:=fun p o n e=>b p o n (a p o n e)
theorem bw.put {l} (H o):bw l H (U1 H l o):=fun p u n e=>by rw[aD n];exact e
section
variable {K:Fg06}{H H':Hp}
theorem Fx.oE {p vs}(s:Fx H H') (h:gq K H p vs):gq K H' p vs:=by
 rcases h with (h | ⟨o,h⟩) | h
 ·exact .inl (.inl (s _ _ h rfl))
 ·exact .inl (.inr ⟨o,s _ _ h rfl⟩)
 ·exact .inr h
mutual
theorem At.fx (s:Fx H H'):∀d v,At K H d v->At K H' d v
 | .bb,_,h=>cU.mpr (cU.mp h)
 | .bl _,_,h=>dZ.mpr (dZ.mp h)
 | .int _,_,h=>bG.mpr (bG.mp h)
 | .str _,_,h=>aH.mpr (aH.mp h)
 | .tup ds,_,h=>by
  obtain⟨p,vs,rfl,h1,h2⟩:=bf.mp h;exact bf.mpr ⟨p,vs,rfl,Fx.oE s h1,aE.fx s ds vs h2⟩
theorem aE.fx (s:Fx H H'):∀ds vs,aE K H ds vs->aE K H' ds vs
 | [],_,h=>aZ.mpr (aZ.mp h)
 | d::ds,_,h=>by
  obtain⟨v,r,rfl,h1,h2⟩:=aX.mp h;exact aX.mpr ⟨v,r,rfl,At.fx s d v h1,aE.fx s ds r h2⟩
end
end
theorem tW.fx {H H' x}(f:Fx H H') (h:tW H x):tW H' x:=let ⟨p,o,vs,e,h1,h2⟩:=h;⟨p,o,vs,e,f _ _ h1 rfl,h2⟩
def aU (i:Nat):D:=.tup [.str "thing",.int (i:Nat)]
def jA:D:=.tup [.str "none"]
def kF:D:=.tup [.str "fault",.str "KindFault"]
def F7 (v1 vo v3 v4:V):List (Str×V):=[("name",v1),("order",vo),("fields",v3),("is_given",v4)]
def HI (v1 v2:V):List (Str×V):=[("kind",v1),("fields",v2)]
def GV (v1 v2 v3 v4 v5 v6:V):List (Str×V):=[("name",v1),("params",v2),("defaults",v3),("code",v4),("around",v5),("gives",v6)]
def HR (v1 v2:V):List (Str×V):=[("target",v1),("owner",v2)]
def grF (nm:Str) (fr:V):List (Str×V):=[("name",.str nm),("frame",fr),("state",.str "new"),("many",.int 0),("handed",.int 0)]
def GJ (v1 v2:V):List (Str×V):=[("kind",v1),("owner",v2)]
def yW (ns:List Nat):Bool:=decide (ns.headD 0 < 20)
structure Il where
 nm:Str
 np:Nat
 df:List D
 cd:V
 ar:V
 gv:V
inductive Th where
 | pD (n:Str)
 | kd (nm:Str) (ns:List Nat) (d:Addr) (fs:List (Str×D))
 | ob (k:Nat) (d:Addr) (fs:List (Str×D))
 | fn (f:Il)
 | mt (t o:Nat)
 | gr (nm:Str) (fr:V)
 | vw (k o:Nat)
def fz (K:Fg06) (H:Hp) (d:Addr) (fs:List (Str×D)):Prop:=∃UM,H d=some (.dK UM)/\UM.length<=fs.length/\∀n,(fs.lookup n=none/\fG UM (.inr n:Key)=none)\/∃dd v,fs.lookup n=some dd/\fG UM (.inr n:Key)=some v/\At K H dd v
def j5 (K:Fg06) (c:fo) (H:Hp):Th->Addr->Prop
 | .pD n,p=>∃dx,H p=some (.ins c.G dx [("name",.str n)])
 | .kd nm ns d fs,p=>∃dx vo,H p=some (.ins c.Kd dx (F7 (.str nm) vo (.ref d) (.bl (yW ns))))/\At K H (.tup (ns.map aU)) vo/\fz K H d fs/\tW H vo
 | .ob k d fs,p=>∃dx v1,H p=some (.ins c.O dx (HI v1 (.ref d)))/\At K H (aU k) v1/\fz K H d fs
 | .fn f,p=>∃dx v3,H p=some (.ins c.F dx (GV (.str f.nm) (.int (f.np:Nat)) v3 f.cd f.ar f.gv))/\At K H (.tup f.df) v3
 | .mt t o,p=>∃dx v1 v2,H p=some (.ins c.M dx (HR v1 v2))/\At K H (aU t) v1/\At K H (aU o) v2
 | .gr nm fr,p=>∃dx,H p=some (.ins c.Gr dx (grF nm fr))
 | .vw k o,p=>∃dx v1 v2,H p=some (.ins c.Vw dx (GJ v1 v2))/\At K H (aU k) v1/\At K H (aU o) v2
def pH:Th->Option Addr
 | .kd _ _ d _=>some d
 | .ob _ d _=>some d
 | _=>none
theorem fz.keep {K H H' d fs}(e:H' d=H d) (f:Fx H H') (h:fz K H d fs):fz K H' d fs:=by
 obtain⟨UM,h1,h2,h3⟩:=h;exact⟨UM,e.trans h1,h2,fun n=>(h3 n).imp id fun⟨dd,v,a,b,c⟩=>⟨dd,v,a,b,At.fx f _ _ c⟩⟩
theorem fz.dict {K H d fs}(h:fz K H d fs):∃UM,H d=some (.dK UM):=let ⟨UM,h1,_⟩:=h;⟨UM,h1⟩
theorem j5.dict {K c H o p d}(h:j5 K c H o p) (e:pH o=some d):∃UM,H d=some (.dK UM):=by
 cases o with
 | kd nm ns d' fs=>cases e;obtain⟨_,_,_,_,h,_⟩:=h;exact h.dict
 | ob k d' fs=>cases e;obtain⟨_,_,_,_,h⟩:=h;exact h.dict
 | _=>cases e
theorem j5.ins {K c H o p}(h:j5 K c H o p):∃C dx fs,H p=some (.ins C dx fs):=by
 cases o with
 | pD n=>obtain⟨dx,e⟩:=h;exact⟨_,_,_,e⟩
 | kd nm ns d fs=>obtain⟨dx,_,e,_⟩:=h;exact⟨_,_,_,e⟩
 | ob k d fs=>obtain⟨dx,_,e,_⟩:=h;exact⟨_,_,_,e⟩
 | fn f=>obtain⟨dx,_,e,_⟩:=h;exact⟨_,_,_,e⟩
 | mt t o=>obtain⟨dx,_,_,e,_⟩:=h;exact⟨_,_,_,e⟩
 | gr nm fr=>obtain⟨dx,e⟩:=h;exact⟨_,_,_,e⟩
 | vw k o=>obtain⟨dx,_,_,e,_⟩:=h;exact⟨_,_,_,e⟩
theorem j5.keep {K c H H' o p}(e:H' p=H p) (f:Fx H H') (ed:∀d,pH o=some d->H' d=H d) (h:j5 K c H o p):j5 K c H' o p:=by
 cases o with
 | pD n=>obtain⟨dx,h⟩:=h;exact⟨dx,e.trans h⟩
 | kd nm ns d fs=>obtain⟨dx,_,h,a,b,z⟩:=h;exact⟨dx,_,e.trans h,At.fx f _ _ a,b.keep (ed d rfl) f,z.fx f⟩
 | ob k d fs=>obtain⟨dx,_,h,a,b⟩:=h;exact⟨dx,_,e.trans h,At.fx f _ _ a,b.keep (ed d rfl) f⟩
 | fn g=>obtain⟨dx,_,h,a⟩:=h;exact⟨dx,_,e.trans h,At.fx f _ _ a⟩
 | mt t o=>obtain⟨dx,_,_,h,a,b⟩:=h;exact⟨dx,_,_,e.trans h,At.fx f _ _ a,At.fx f _ _ b⟩
 | gr nm fr=>obtain⟨dx,h⟩:=h;exact⟨dx,e.trans h⟩
 | vw k o=>obtain⟨dx,_,_,h,a,b⟩:=h;exact⟨dx,_,_,e.trans h,At.fx f _ _ a,At.fx f _ _ b⟩
def wF (a b:V) (l g:Addr):List (Str×V):=[("lines",a),("left",b),("things",.ref l),("given",.ref g)]
def vn (K:Fg06) (H:Hp) (g:Addr) (gv:List (Str×Nat)):Prop:=∃UM,H g=some (.dK UM)/\UM.length<=gv.length/\(∀n i,(n,i)∈gv->∃v,fG UM (.inr n)=some v/\At K H (aU i) v)/\∀n,(∀i,(n,i)∉gv)->fG UM (.inr n)=none
theorem vn.keep {K H H' g gv}(e:H' g=H g) (f:Fx H H') (h:vn K H g gv):vn K H' g gv:=by
 obtain⟨UM,h1,hl,h2,h3⟩:=h;exact⟨UM,e.trans h1,hl,fun n i e=>let ⟨v,a,b⟩:=h2 n i e;⟨v,a,At.fx f _ _ b⟩,h3⟩
def oK (os:List Th) (d:Addr):Prop:=∃(i:Nat) (o:Th),os[i]?=some o/\pH o=some d
structure Wp where
 W:Addr
 l:Addr
 g:Addr
 n:Addr
 f:Addr
structure dc (K:Fg06) (c:fo) (H:Hp) (w:Wp) (ps:List Addr) (os:List Th) (gv:List (Str×Nat)) (ln:List Str) (lf:List Int):Prop where
 wo:∃dx,H w.W=some (.ins c.W dx (wF (.ref w.n) (.ref w.f) w.l w.g))
 t:H w.l=some (.lst (ps.map V.ref))
 hn:H w.n=some (.lst (ln.map V.str))
 hf:H w.f=some (.lst (lf.map V.int))
 n1:w.l≠w.n
 n2:w.l≠w.f
 n3:w.n≠w.f
 n:ps.length=os.length
 nd:ps.Nodup
 o:∀(i:Nat) p o,ps[i]?=some p->os[i]?=some o->j5 K c H o p
 dn:∀(i j:Nat) a b d,os[i]?=some a->os[j]?=some b->pH a=some d->pH b=some d->i=j
 dg:¬oK os w.g
 v:vn K H w.g gv
theorem getElem?_snoc {α:Type}{xs:List α}{x y:α}{i:Nat}(h:(xs++[x])[i]?=some y):xs[i]?=some y\/(i=xs.length/\y=x):=by
 by_cases hi:i < xs.length
 ·rw[Jo hi] at h;exact .inl h
 ·have hl:=(Ja.mp h).1;rw[Iu,Jl] at hl;have ei:i=xs.length:=by omega
  subst ei;rw[IX (IE _),Nat.sub_self] at h;cases h;exact .inr ⟨rfl,rfl⟩
theorem bP {α:Type}{xs:List α}{x:α}:(xs++[x])[xs.length]?=some x:=by rw[IX (IE _),Nat.sub_self];rfl
theorem g0 {α:Type}{xs:List α}{x y:α}{i:Nat}(h:xs[i]?=some y):(xs++[x])[i]?=some y:=by rw[Jo (Ja.mp h).1];exact h
theorem aq {α:Type}{xs:List α}{i:Nat}{x:α}(h:xs[i]?=some x):i < xs.length:=(Ja.mp h).1
theorem oK.snoc {os o d}(h:oK (os++[o]) d):oK os d\/pH o=some d:=by
 obtain⟨i,a,e,ed⟩:=h;rcases getElem?_snoc e with e | ⟨_,rfl⟩
 ·exact .inl ⟨i,a,e,ed⟩
 ·exact .inr ed
theorem oK.set {os i o o' d}(e0:os[i]?=some o) (ed:pH o'=pH o) (h:oK (os.set i o') d):oK os d:=by
 obtain⟨j,a,e,e2⟩:=h;by_cases hj:j=i
 ·subst hj;rw[IB (aq e0)] at e;cases e;exact⟨j,o,e0,ed▸e2⟩
 ·rw[IA (U8 hj)] at e;exact⟨j,a,e,e2⟩
section
variable {K:Fg06}{c:fo}{H H':Hp}{w:Wp}{ps:List Addr}{os:List Th}{gv:List (Str×Nat)}{ln:List Str}{lf:List Int}
theorem dc.at (h:dc K c H w ps os gv ln lf){i:Nat} {o}(e:os[i]?=some o):∃p,ps[i]?=some p/\j5 K c H o p:=by
 have hi:i < ps.length:=by rw[h.n];exact(Ja.mp e).1
 have e1:ps[i]?=some ps[i]:=Iy hi;exact⟨_,e1,h.o i _ o e1 e⟩
theorem dc.in (h:dc K c H w ps os gv ln lf){p:Addr}(m:p∈ps):∃C dx fs,H p=some (.ins C dx fs):=by
 obtain⟨i,hi,e⟩:=U6 m;have h2:i < os.length:=by rw[<-h.n];exact hi
 exact(h.o i p os[i] (by rw[Iy hi,e]) (Iy h2)).ins
theorem dc.fresh (h:dc K c H w ps os gv ln lf){p:Addr}(e:H p=none):p∉ps:=fun m=>by
 obtain⟨_,_,_,e'⟩:=h.in m;rw[e] at e';cases e'
theorem dc.wd (h:dc K c H w ps os gv ln lf){d:Addr}(m:oK os d):∃UM,H d=some (.dK UM):=by
 obtain⟨i,o,e,ed⟩:=m;obtain⟨p,_,ho⟩:=h.at e;exact ho.dict ed
theorem dc.freshD (h:dc K c H w ps os gv ln lf){d:Addr}(e:H d=none):¬oK os d:=fun m=>by
 obtain⟨_,e'⟩:=h.wd m;rw[e] at e';cases e'
theorem dc.keep (h:dc K c H w ps os gv ln lf) (k:∀p o,H p=some o->(∀xs,o=.lst xs->p=w.l\/p=w.n\/p=w.f)->(∀UM,o=.dK UM->p=w.g\/oK os p)->(∀C dx fs,o=.ins C dx fs->p=w.W\/p∈ps)->AJ o=true\/(∃xs,o=.lst xs)\/(∃UM,o=.dK UM)\/(∃C dx fs,o=.ins C dx fs)->H' p=some o):dc K c H' w ps os gv ln lf:=by
 have f:Fx H H':=fun p o e z=>k p o e (fun xs y=>by rw[y] at z;cases z) (fun UM y=>by rw[y] at z;cases z) (fun _ _ _ y=>by rw[y] at z;cases z) (.inl z);have kl:∀{p xs},H p=some (.lst xs)->(p=w.l\/p=w.n\/p=w.f)->H' p=some (.lst xs):=fun e z=>k _ _ e (fun _ _=>z) (fun _ y=>nomatch y) (fun _ _ _ y=>nomatch y) (.inr (.inl ⟨_,rfl⟩));have ki:∀{p C dx fs},H p=some (.ins C dx fs)->(p=w.W\/p∈ps)->H' p=some (.ins C dx fs):=fun e z=>k _ _ e (fun _ y=>nomatch y) (fun _ y=>nomatch y) (fun _ _ _ _=>z) (.inr (.inr (.inr ⟨_,_,_,rfl⟩)));have kd:∀{p UM},H p=some (.dK UM)->(p=w.g\/oK os p)->H' p=some (.dK UM):=fun e z=>k _ _ e (fun _ y=>nomatch y) (fun _ _=>z) (fun _ _ _ y=>nomatch y) (.inr (.inr (.inl ⟨_,rfl⟩)));obtain⟨⟨dx,h1⟩,h2,ha,hb,q1,q2,q3,h3,h4,h5,h6,h7,h8⟩:=h;refine⟨⟨dx,ki h1 (.inl rfl)⟩,kl h2 (.inl rfl),kl ha (.inr (.inl rfl)),kl hb (.inr (.inr rfl)),q1,q2,q3,h3,h4,fun i p o e1 e2=>?_,h6,h7,h8.keep ?_ f⟩
 ·have ho:=h5 i p o e1 e2;obtain⟨C,dx,fs,e⟩:=ho.ins;refine ho.keep (by rw[ki e (.inr (IG e1)),e]) f fun d ed=>?_;obtain⟨UM,e'⟩:=ho.dict ed;rw[kd e' (.inr ⟨i,o,e2,ed⟩),e']
 ·obtain⟨UM,e,_⟩:=h8;rw[kd e (.inl rfl),e]
theorem dc.same (s:ak H H') (h:dc K c H w ps os gv ln lf):dc K c H' w ps os gv ln lf:=h.keep fun p o e _ _ _ _=>s p o e
theorem dc.dict (h:dc K c H w ps os gv ln lf){d:Addr}{UM:List (Key×V)}{o:HO}(e:H d=some (.dK UM)) (ne:w.g≠d) (nw:¬oK os d):dc K c (U1 H d o) w ps os gv ln lf:=h.keep fun p u e1 _ e3 _ _=>by
 rw[aD (fun y=>?_)];exact e1;rw[y,e] at e1;cases e1;rcases e3 _ rfl with z | z
 ·exact ne (z▸y)
 ·exact nw (y▸z)
theorem dc.Gu (h:dc K c H w ps os gv ln lf){d:Addr}{xs:List V}(e:H d=some (.lst xs)) (m1:w.l≠d) (m2:w.n≠d) (m3:w.f≠d) (b:bw d H H'):dc K c H' w ps os gv ln lf:=h.keep fun p u e1 e2 _ _ _=>by
 refine b _ _ (fun y=>?_) e1;rw[y,e] at e1;cases e1;rcases e2 _ rfl with z | z | z
 ·exact m1 (z.symm.trans y)
 ·exact m2 (z.symm.trans y)
 ·exact m3 (z.symm.trans y)
theorem dc.lst (h:dc K c H w ps os gv ln lf){d:Addr}{xs:List V}{o:HO}(e:H d=some (.lst xs)) (m1:w.l≠d) (m2:w.n≠d) (m3:w.f≠d):dc K c (U1 H d o) w ps os gv ln lf:=h.Gu e m1 m2 m3 (bw.put H o)
theorem dc.add (h:dc K c H w ps os gv ln lf){o:Th}{p:Addr}(hp:p∉ps) (ho:j5 K c H o p) (hd:∀d,pH o=some d->d≠w.g/\¬oK os d):dc K c (U1 H w.l (.lst (ps.map V.ref++[.ref p]))) w (ps++[p]) (os++[o]) gv ln lf:=by
 obtain⟨⟨dx,h1⟩,h2,ha,hb,q1,q2,q3,h3,h4,h5,h6,h7,h8⟩:=h;have f:Fx H (U1 H w.l (.lst (ps.map V.ref++[.ref p]))):=Fx.put h2 rfl;have kp:∀{q o'},j5 K c H o' q->j5 K c (U1 H w.l (.lst (ps.map V.ref++[.ref p]))) o' q:=fun {q o'} z=>by
  obtain⟨C,dx,fs,e'⟩:=z.ins;refine z.keep (aD (fun y=>by rw[y,h2] at e';cases e')) f fun d ed=>aD fun y=>?_;obtain⟨UM,e2⟩:=z.dict ed;rw[y,h2] at e2;cases e2
 refine⟨⟨dx,by rw[aD (cv h1 h2)];exact h1⟩,by rw[ae,Jg];rfl,by rw[aD (U8 q1)];exact ha,by rw[aD (U8 q2)];exact hb,q1,q2,q3,by rw[Iu,Iu,h3];rfl,?_,fun i q o' e1 e2=>?_,fun i j x y d e1 e2 e3 e4=>?_,fun z=>?_,h8.keep (aD fun y=>?_) f⟩
 ·rw[List.nodup_append];refine⟨h4,(by simp),fun x hx y hy=>?_⟩;rw[Vc.mp hy];exact fun z=>hp (z▸hx)
 ·rcases getElem?_snoc e1 with e1 | ⟨rfl,rfl⟩
  ·have hi:i < os.length:=by rw[<-h3];exact aq e1
   rw[Jo hi] at e2;exact kp (h5 i q o' e1 e2)
  ·rw[h3,bP] at e2;cases e2;exact kp ho
 ·rcases getElem?_snoc e1 with u1 | ⟨u1,v1⟩<;>rcases getElem?_snoc e2 with u2 | ⟨u2,v2⟩
  ·exact h6 i j x y d u1 u2 e3 e4
  ·exact Vi ⟨i,x,u1,e3⟩ (hd d (v2▸e4)).2
  ·exact Vi ⟨j,y,u2,e4⟩ (hd d (v1▸e3)).2
  ·rw[u1,u2]
 ·rcases z.snoc with z | z
  ·exact h7 z
  ·exact(hd w.g z).1 rfl
 ·obtain⟨UM,h8,_⟩:=h8;rw[y,h2] at h8;cases h8
def qL (fs:List (Str×D)):Th->Th
 | .kd nm ns d _=>.kd nm ns d fs
 | .ob k d _=>.ob k d fs
 | o=>o
theorem xg (fs o):pH (qL fs o)=pH o:=by cases o<;>rfl
theorem dc.put (h:dc K c H w ps os gv ln lf){i:Nat} {o0 d Js}(eo:os[i]?=some o0) (P6:pH o0=some d) {o}(hf:fz K (U1 H d o) d Js):dc K c (U1 H d o) w ps (os.set i (qL Js o0)) gv ln lf:=by
 have Qr:oK os d:=⟨i,_,eo,P6⟩;obtain⟨UM,hd⟩:=h.wd Qr;obtain⟨⟨dw,h1⟩,h2,ha,hb,q1,q2,q3,h3,h4,h5,h6,h7,h8⟩:=h;have f:Fx H (U1 H d o):=Fx.put hd rfl;have hi:=aq eo;have kl:∀{q xs},H q=some (.lst xs)->U1 H d o q=some (.lst xs):=fun e=>by rw[aD (fun y=>by rw[y,hd] at e;cases e)];exact e
 refine⟨⟨dw,by rw[aD (fun y=>by rw[y,hd] at h1;cases h1)];exact h1⟩,kl h2,kl ha,kl hb,q1,q2,q3,by rw[IY,h3],h4,fun j q o' e1 e2=>?_,fun j1 j2 x y d' e1 e2 e3 e4=>?_,fun z=>h7 (oK.set eo (xg Js o0) z),h8.keep (aD fun y=>h7 (y▸Qr)) f⟩
 ·by_cases hj:j=i
  ·subst hj;rw[IB hi] at e2;cases e2;have ho:=h5 j q _ e1 eo;cases o0 with
   | kd nm ns d1 fs=>
    cases P6;obtain⟨dx,v1,e3,e4,_,e5⟩:=ho;exact⟨dx,v1,by rw[aD (fun y=>by rw[y,hd] at e3;cases e3)];exact e3,At.fx f _ _ e4,hf,e5.fx f⟩
   | ob k d1 fs=>
    cases P6;obtain⟨dx,v1,e3,e4,_⟩:=ho;exact⟨dx,v1,by rw[aD (fun y=>by rw[y,hd] at e3;cases e3)];exact e3,At.fx f _ _ e4,hf⟩
   | _=>cases P6
  ·rw[IA (U8 hj)] at e2;have ho:=h5 j q o' e1 e2;obtain⟨C,dx,fs,e⟩:=ho.ins;exact ho.keep (aD fun y=>by rw[y,hd] at e;cases e) f fun d' ed=>aD fun y=>hj (h6 j i o' _ d e2 eo (y▸ed) P6)
 ·have kd:∀{j:Nat}{x:Th},(os.set i (qL Js o0))[j]?=some x->∃x',os[j]?=some x'/\pH x'=pH x:=fun {j x} e=>by
   by_cases hj:j=i
   ·subst hj;rw[IB hi] at e;cases e;exact⟨_,eo,(xg Js o0).symm⟩
   ·rw[IA (U8 hj)] at e;exact⟨x,e,rfl⟩
  obtain⟨x',u1,u2⟩:=kd e1;obtain⟨y',u3,u4⟩:=kd e2;exact h6 j1 j2 x' y' d' u1 u3 (u2.trans e3) (u4.trans e4)
end
def Vd (os:List Th) (d:D):Prop:=(∃k r,d=.tup (.str k::r)/\(k="thing"->∃i:Nat,r=[.int (i:Nat)]/\i < os.length))/\dep d<=1
theorem jg (i):dep (aU i)=1:=by
 unfold aU;rw[GS.dep,cJ,cJ,cJ,cK,gG];rfl
def iB (os:List Th):D->Option Th
 | .tup [.str k,.int i]=>if k="thing"/\0<=i then os[i.toNat]? else none
 | _=>none
theorem bI (os i):iB os (aU i)=os[i]?:=by
 show(if("thing":Str)="thing"/\(0:Int)<=(i:Nat) then os[((i:Nat):Int).toNat]? else none)=_;rw[II ⟨rfl,by omega⟩,Int.toNat_natCast]
theorem jL (os:List Th){k:Str}(r:List D) (h:k≠"thing"):iB os (.tup (.str k::r))=none:=by
 unfold iB;split
 ·rename_i k' i e;injection e with e;injection e with e1 e2;injection e1 with e1;subst e1;rw[IH (fun z=>h z.1)]
 ·rfl
theorem Vd.th {os i}(h:i < os.length):Vd os (aU i):=⟨⟨_,_,rfl,fun _=>⟨i,rfl,h⟩⟩,by rw[jg];exact IE _⟩
theorem Vd.no {os:List Th}{k:Str}{r:List D}(h:k≠"thing") (hd:dep (.tup (.str k::r))<=1):Vd os (.tup (.str k::r)):=⟨⟨_,_,rfl,fun z=>Vi z h⟩,hd⟩
theorem Vd.jA {os}:Vd os jA:=Vd.no (by decide +kernel) (by decide +kernel)
theorem Vd.mono {os Jw d}(l:os.length<=Jw.length) (h:Vd os d):Vd Jw d:=by
 obtain⟨⟨k,r,e,h⟩,hd⟩:=h;exact⟨⟨k,r,e,fun z=>let ⟨i,a,b⟩:=h z;⟨i,a,Jh b l⟩⟩,hd⟩
theorem Vd.cases {os:List Th}{d:D}(h:Vd os d):(∃i,d=aU i/\i < os.length)\/(∃k r,d=.tup (.str k::r)/\k≠"thing"/\iB os d=none):=by
 obtain⟨⟨k,r,e,h⟩,_⟩:=h;by_cases hk:k="thing"
 ·obtain⟨i,rfl,hi⟩:=h hk;exact .inl ⟨i,by rw[e,hk];rfl,hi⟩
 ·exact .inr ⟨k,r,e,hk,by rw[e];exact jL os r hk⟩
structure ou (os:List Th):Prop where
 k:∀(i:Nat) nm ns d fs,os[i]?=some (.kd nm ns d fs)->(∀n∈ns,∃Qo Ld d' Js,os[n]?=some (.kd Qo Ld d' Js))/\∀n dd,fs.lookup n=some dd->Vd os dd
 o:∀(i k:Nat) d fs,os[i]?=some (.ob k d fs)->(∃nm ns d' Js,os[k]?=some (.kd nm ns d' Js))/\∀n dd,fs.lookup n=some dd->Vd os dd
 m:∀(i t o:Nat),os[i]?=some (.mt t o)->(∃f,os[t]?=some (.fn f))/\o < os.length
 v:∀(i k o:Nat),os[i]?=some (.vw k o)->∃j d fs nm ns d' Js,os[o]?=some (.ob j d fs)/\os[j]?=some (.kd nm ns d' Js)/\k∈ns
abbrev yn:Stmt:=cB 62
abbrev Cy:Stmt:=cB 63
section
variable {P:Program}{w:World}{K:Fg06}{mg:Str->Option Value}{base:Heap}{f:Addr}{fd:FuncData}
inductive mw (K:Fg06) (vs:List V) (H:Hp) (Q:VK) (E:XK):Prop
 | mk x y d e:vs=[x,y]->At K H d x->At K H e y->El d->El e->Q (.bl (decide (d=e))) H->mw K vs H Q E
theorem yN {d}(h:El d):PySem.W.kitOne K (.type (G3 d)) (.type "bool")=some false:=by
 cases d with
 | bl b=>have:=h.nb;rw[GS.nb] at this;cases this
 | _=>rfl
theorem Hi:aQ ["one","other"] ["one","other"] (aC yn):=gp
theorem FP (g:Glb9 mg) (F:fm K "is_same" "is_same" yn f fd):bK P w K mg base fq 1 f fd ["one","other"] (mw K):=by
 refine F.gB Hi fun UO A outer s H vs Q E hr h=>?_;obtain⟨x,y,d,e,rfl,hx,hy,hd,he,q⟩:=h;refine⟨_,ah (aJ (fh (qM cP (au pO rfl g.hJ fW (cq (pv 0) (fN (v:=.ty "bool") rfl g.Bl zx rfl))) (au pO rfl g.hJ fW (cq (pv 1) (fN (v:=.ty "bool") rfl g.Bl zx rfl)))) (d9 (qM (yu hr) (pv 0) (pv 1))))),?_⟩;refine⟨_,rfl,x,"bool",d,false,rfl,hx,yN hd,_,rfl,y,"bool",e,false,rfl,hy,yN he,rfl,_,rfl,?_⟩;refine cC ⟨_,rfl,_,rfl,d,e,hx,hy,ID hd.dep (by decide),?_⟩;rw[qv hd.nb he.nb];exact q
inductive xC (K:Fg06) (vs:List V) (H:Hp) (Q:VK) (E:XK):Prop
 | mk x r d ds:vs=[x,r]->At K H d x->El d->eh K H ds r->(∀e∈ds,El e)->ds.length<=1000->(∀H',ak H H'->Q (.bl (decide (d∈ds.tail))) H')->xC K vs H Q E
theorem E4:aQ ["thing","row"] ["thing","row"] (aC Cy):=gp
theorem kD {xs}:de xs (some 1) none=xs.tail:=by
 unfold de;rw[show((1:Int))=((1:Nat):Int) from rfl,HT.jl,HT.iQ];cases xs with
 | nil=>rfl
 | cons x xs=>
  rw[IT,Nat.min_eq_left (by omega)];simp
theorem aE.tail {K H}:∀{ds vs},aE K H ds vs->aE K H ds.tail vs.tail
 | [],vs,h=>by rw[aZ.mp h];exact aZ.mpr rfl
 | d::ds,vs,h=>by obtain⟨v,r,rfl,_,h2⟩:=aX.mp h;exact h2
theorem Dg (g:Glb9 mg) (F:fm K "is_behind_head" "is_behind_head" Cy f fd) (dS:Def P w K mg base "is_same" ["one","other"] 1 (mw K)):bK P w K mg base fq 2 f fd ["thing","row"] (xC K):=by
 refine F.gB E4 fun UO A outer s H vs Q E hr h=>?_;obtain⟨x,r,d,ds,rfl,hx,hd,Qu,JH,hl,q⟩:=h;refine⟨_,ah (aJ (au (om rfl) rfl g.DE zy (cy (.mk (L2.cG (cl:=[("thing",s.heap.objs.size+1)]) (Xs:=["one"]) (Nf:=["thing"]) (js:=[0]) ?k rfl (LI.out (Fv (bL (bg eE (pv 1) (bz ag) bD)) (eI (bg EL (pv 1) (bz ag) bD)))) (fun C s0 H0 fp=>LG.out (ip 0 (show(["one","thing"]:List Str).Nodup by decide +kernel))) (fun C s0 H0 fp=>eY) (fun C s0 H0 fp=>LE.out (cM dS (cq (pv 1) (pv 0))))))))),?main⟩
 case k=>exact qB
 case main=>
  obtain⟨p,vs,rfl,hq,hA⟩:=Qu;rcases hq with hq | hq
  case' inl=>
   refine .inl ⟨_,rfl,1,rfl,p,vs,rfl,hq,fun t ht=>?_⟩;rw[kD];have s1:ak H _:=ab ht (.lst vs.tail);have j0:aS K _ t vs.tail:=aS.of (ae (H:=H) (a:=t) (o:=.lst vs.tail));have j1:=ee j0;have j2:=gx j0;have j3:=fw j0;refine⟨t,rfl,⟨_,j0⟩,?_⟩
  case' inr=>
   refine .inr ⟨_,rfl,1,rfl,p,vs,rfl,hq,fun t H1 s1 j0=>?_⟩;rw[kD] at j0;replace j0:gq K H1 t vs.tail:=j0;have j1:=hX j0;have j2:=lJ j0;have j3:=jt j0;refine⟨t,rfl,⟨_,j0⟩,?_⟩
  all_goals
   have T8:=aE.same s1 _ _ hA.tail;have lu:=T8.len;have lt:ds.tail.length<=ds.length:=by simp
   refine⟨[x],⟨rfl,fun j i h=>?_⟩,bM (vs:=[x]) (tc:=gN) vs.tail.length (fun i=>vs.tail.getD i .bb) (fun _=>true) (fun i v _=>v=.bl (decide (d=ds.tail.getD i .bb))) (fun _ _ _ _ _ z=>z) (by omega) j1 j2 j3 (fun i H2 Q' hi s2 k=>k H2 (ak.refl _)) (fun i H2 D l Q' hi _ s2 _ _ k=>?_) fun D H2 ys hD s2 JF hP=>?_⟩
   ·match j,h with
    | 0,h=>cases h;exact⟨_,rfl,rfl⟩
    | j+1,h=>simp at h
   ·have KN:i < ds.tail.length:=by omega
    obtain⟨v',Kh,K9⟩:=aE.get (i:=i) T8 (d:=ds.tail[i]) (by simp[KN]);have eu:vs.tail.getD i .bb=v':=by rw[Iz,Kh];rfl
    have ed:ds.tail.getD i .bb=ds.tail[i]:=by rw[Iz,Iy KN];rfl
    refine⟨_,rfl,_,rfl,x,_,d,ds.tail[i],rfl,At.same (s1.trans s2) _ _ hx,At.same s2 _ _ (eu▸K9),hd,JH _ (List.mem_of_mem_tail (List.getElem_mem KN)),k _ H2 (ak.refl _) (by rw[ed])⟩
   ·have e:=hP.eq;rw[U5.mpr (fun _ _=>rfl),lu,di ds.tail .bb (fun e=>V.bl (decide (d=e)))] at e;refine⟨D,ds.tail.map fun e=>decide (d=e),rfl,aS.of (by rw[JF,e,List.map_map];rfl),?_⟩;have e2:(ds.tail.map fun e=>decide (d=e)).any id=decide (d∈ds.tail):=by
     rw[List.any_map];refine Bool.eq_iff_iff.mpr ?_;rw[List.any_eq_true,decide_eq_true_iff];exact⟨fun⟨e,he,z⟩=>(IZ z:d=e)▸he,fun z=>⟨d,z,Iw rfl⟩⟩
    rw[e2];exact q _ (s1.trans s2)
abbrev yo:Stmt:=cB 64
abbrev HB:Stmt:=cB 65
abbrev Cu:Stmt:=cB 66
structure jj (UR:List (List D)):Prop where
 el:∀ds∈UR,∀e∈ds,El e
 len:∀ds∈UR,ds.length<=1000
 many:UR.length<=1000
inductive sD (K:Fg06) (vs:List V) (H:Hp) (Q:VK) (E:XK):Prop
 | mk p UT UR:vs=[.ref p]->aS K H p UT->bU K H UR UT->jj UR->(∀ds∈UR,ds≠[])->((∀i H',ak H H'->i < UR.length->iX UR i=true->(∀j,j < i->iX UR j=false)->Q (.int (i:Nat)) H'))->((∀H',ak H H'->(∀i,i < UR.length->iX UR i=false)->Q .bb H'))->sD K vs H Q E
theorem qa:aQ ["rows","place","row","others"] ["rows"] (aC yo):=gp
theorem kC {xs} (i):de xs none (some (i:Nat))=xs.take i:=by
 unfold de;rw[HT.jl,HT.iQ,List.drop_zero,Nat.sub_zero];rcases Nat.le_total i xs.length with h | h
 ·rw[Nat.min_eq_left h]
 ·rw[Nat.min_eq_right h,List.take_of_length_le (IE _),List.take_of_length_le h]
theorem jh {xs} (i):de xs (some (i:Nat)) none=xs.drop i:=by
 unfold de;rw[HT.jl,HT.iQ];rcases Nat.le_total i xs.length with h | h
 ·rw[Nat.min_eq_left h];exact List.take_of_length_le (by simp)
 ·rw[Nat.min_eq_right h,Nat.sub_self,List.take_zero,List.drop_eq_nil_of_le h]
theorem Gy {u:V}{r:List V}:jZ (u::r) 0=some u:=by
 have h:sY (u::r).length 0=some 0:=by unfold sY;simp
 unfold jZ;rw[h];rfl
theorem eh.head {H:Hp}{d:D}{ds:List D}{v:V}(h:eh K H (d::ds) v):∃u,At K H d u/\∀Q:VK,Q u H->Fp K v (.int 0) H Q:=by
 obtain⟨p,vs,rfl,hq,hA⟩:=h;obtain⟨u,r,rfl,h1,h2⟩:=aX.mp hA;refine⟨u,h1,fun Q q=>?_⟩;rcases hq with hq | hq
 ·exact .inl ⟨p,_,0,u,rfl,rfl,hq,Gy,q⟩
 ·exact .inr (.inl ⟨p,_,0,u,rfl,rfl,hq,Gy,q⟩)
theorem Am (g:Glb9 mg) (F:fm K "place_of_free" "place_of_free" yo f fd) (dB:Def P w K mg base "is_behind_head" ["thing","row"] 2 (xC K)):bK P w K mg base fq 3 f fd ["rows"] (sD K):=by
 refine F.gB qa fun UO A outer s H vs Q E hr h=>?_;obtain⟨p,UT,UR,rfl,hp,hR,cA,JK,qi,qn⟩:=h;refine⟨_,aa (cL IW rfl (.mk (L2.z7 rfl g.F1 (LA.out (cy (pv 0))))) (fT rfl (cb (ip 1 qa.nd) (cb (ip 2 qa.nd) eJ)))
   (aa (eG 3 qa.nd (aB jU (bg eE (pv 0) bD (bz (pv 1))) (bg eE (pv 0) (bz (aB fi (pv 1) ag)) bD)))
   (ah (bo (fP (bS (au (om rfl) rfl g.DE zy (cy (.mk (L2.cG (cl:=[("row",s.heap.objs.size+1)]) (Xs:=["other"]) (Nf:=["row"]) (js:=[2]) ?k rfl (LI.out (bL (pv 3))) (fun C s0 H0 fp=>LG.out (ip 0 (show(["other","row"]:List Str).Nodup by decide +kernel))) (fun C s0 H0 fp=>eY) (fun C s0 H0 fp=>LE.out (cM dB (cq (dz (r:=Fp K) sX (pv 1) ag (fun _ _=>rfl)) (pv 0)))))))))) (ah (aJ (pv 1))) aP))))
  (ah (aJ cE)),?main⟩
 case k=>exact qB
 case main=>
  have lR:=hR.len;refine⟨_,rfl,p,rfl,⟨UT,hp⟩,zc (K:=K) (a:=p) (xs:=UT) (fun i σ H'=>(∃o1 o2 o3,σ=[some (.ref p),o1,o2,o3])/\ak H H'/\∀j,j < i->iX UR j=false) ⟨⟨_,_,_,rfl⟩,ak.refl _,fun j hj=>Vi hj (Nat.not_lt_zero _)⟩ (fun i σ H' _ h=>h.2.1.seq hp) ?turn ?stop⟩
  case stop=>
   rintro σ H' ⟨⟨o1,o2,o3,rfl⟩,sH,hn⟩;exact qn H' sH fun i hi=>hn i (by omega)
  case turn=>
   rintro i x σ H' T hx ⟨⟨o1,o2,o3,rfl⟩,sH,hn⟩ hT;have hi:i < UT.length:=(Ja.mp hx).1;obtain⟨ds,JH,JQ⟩:=hR.get hx;have JV:ds∈UR:=IG JH;have t1:ak H' (U1 H' T (.tup [.int (i:Nat),x])):=ab hT _;have sq:gq K (U1 H' T (.tup [.int (i:Nat),x])) T [.int (i:Nat),x]:=gq.of ae;revert t1 sq;generalize U1 H' T (.tup [.int (i:Nat),x])=H2;intro t1 sq;have s2:=sH.trans t1;refine⟨T,_,rfl,sq,rfl,_,_,rfl,_,_,rfl,rfl,?_⟩;refine⟨_,rfl,_,rfl,i,rfl,p,UT,rfl,s2.seq hp,fun p1 J0=>?_⟩;rw[kC];have t2:ak H2 (U1 H2 p1 (.lst (UT.take i))):=ab J0 _;have Kj:U1 H2 p1 (.lst (UT.take i)) p1=some (.lst (UT.take i)):=ae;generalize U1 H2 p1 (.lst (UT.take i))=H3 at t2 Kj ⊢;refine⟨_,rfl,_,rfl,_,_,rfl,rfl,_,rfl,p,UT,rfl,(s2.trans t2).seq hp,fun p2 Kb=>?_⟩;rw[show((i:Nat):Int)+1=((i+1:Nat):Int) from rfl,jh];have t3:ak H3 (U1 H3 p2 (.lst (UT.drop (i+1)))):=ab Kb _;have JF:U1 H3 p2 (.lst (UT.drop (i+1))) p2=some (.lst (UT.drop (i+1))):=ae;generalize U1 H3 p2 (.lst (UT.drop (i+1)))=H4 at t3 JF ⊢;have KY:=cA.many;refine⟨p1,p2,_,_,rfl,rfl,t3 _ _ Kj,JF,?_,fun p3 Mq=>?_⟩
   ·rw[Vb,List.length_drop];exact small (by omega)
   have t4:ak H4 (U1 H4 p3 (.lst (UT.take i++UT.drop (i+1)))):=ab Mq _;have J1:U1 H4 p3 (.lst (UT.take i++UT.drop (i+1))) p3=some (.lst (UT.take i++UT.drop (i+1))):=ae;generalize U1 H4 p3 (.lst (UT.take i++UT.drop (i+1)))=H5 at t4 J1 ⊢;have s5:ak H H5:=((s2.trans t2).trans t3).trans t4;have hO:=((hR.take i).append (hR.drop (i+1))).same s5;generalize hov:UT.take i++UT.drop (i+1)=ov at J1 hO;generalize Ko:UR.take i++UR.drop (i+1)=od at hO;have lO:=hO.len;have lod:od.length<=1000:=by rw[<-Ko,Iu,Vb,List.length_drop];omega
   have memO:∀ds∈od,ds∈UR:=fun ds h=>by
    rw[<-Ko] at h;rcases I0.mp h with h | h
    ·exact List.mem_of_mem_take h
    ·exact List.mem_of_mem_drop h
   obtain⟨c,cs,rfl⟩:∃c cs,ds=c::cs:=by
    cases ds with
    | nil=>exact Vi rfl (JK _ JV)
    | cons c cs=>exact⟨c,cs,rfl⟩
   have j0:aS K H5 p3 ov:=aS.of J1;refine⟨_,rfl,p3,rfl,⟨_,j0⟩,[x],⟨rfl,fun j i h=>?_⟩,bM (vs:=[x]) (tc:=gN) ov.length (fun i=>ov.getD i .bb) (fun _=>true) (fun i v _=>v=.bl (decide (c∈(od.getD i []).tail))) (fun _ _ _ _ _ z=>z) (by omega) (ee j0) (gx j0) (fw j0) (fun i H2 Q' hi s2 k=>k H2 (ak.refl _)) (fun j H6 D l Q' hj _ s6 _ _ k=>?_) fun D H6 ys hD s6 Nt hP=>?_⟩
   ·match j,h with
    | 0,h=>cases h;exact⟨_,rfl,rfl⟩
    | j+1,h=>simp at h
   ·obtain⟨es,J6,Kt⟩:=hO.get (i:=j) (v:=ov[j]) (by simp[hj]);have eo:ov.getD j .bb=ov[j]:=by rw[Iz,Iy hj];rfl
    have ed:od.getD j []=es:=by rw[Iz,J6];rfl
    obtain⟨u,hu,ku⟩:=(JQ.same (s5.trans s6)).head;refine⟨_,rfl,ku _ ?_⟩;refine⟨_,rfl,u,_,c,es,rfl,hu,cA.el _ JV _ Ir,(by rw[eo];exact Kt.same s6),cA.el _ (memO _ (IG J6)),cA.len _ (memO _ (IG J6)),fun H7 s7=>k _ H7 s7 (by rw[ed])⟩
   ·have e:=hP.eq;rw[U5.mpr (fun _ _=>rfl),lO,di od [] (fun r=>V.bl (decide (c∈r.tail)))] at e;refine⟨D,od.map fun r=>decide (c∈r.tail),rfl,aS.of (by rw[Nt,e,List.map_map];rfl),?_⟩;have e2:(od.map fun r=>decide (c∈r.tail)).any id=bx c od:=by rw[List.any_map];rfl
    have e3:iX UR i=!bx c od:=by rw[iX,JH,<-Ko]
    rw[e2];have s7:ak H H6:=s5.trans s6;cases hb:bx c od with
    | false=>exact⟨false,rfl,⟨_,rfl,qi i H6 s7 (by omega) (by rw[e3,hb];rfl) hn⟩⟩
    | true=>exact⟨true,rfl,⟨⟨_,_,_,rfl⟩,s7,fun j hj=>by
      by_cases z:j=i
      ·rw[z,e3,hb];rfl
      ·exact hn j (by omega)⟩⟩
def Hu (K:Fg06):V->Option Int->Option Int->Hp->VK->Prop:=fun x lo hi H Q=>B9 K x lo hi H Q\/B8 K x lo hi H Q
def zY (K:Fg06):List V->Hp->VK->Prop:=fun xs H Q=>∃p ys,xs=[V.ref p]/\(aS K H p ys\/gq K H p ys)/\Q (V.int ys.length) H
inductive BM (K:Fg06) (vs:List V) (H:Hp) (Q:VK) (E:XK):Prop
 | mk p x UT UR d gh gl:vs=[.ref p,x]->aS K H p UT->H gh=some (.lst gl)->bU K (wo H gh) UR UT->jj UR->(∀ds∈UR,ds≠[])->At K H d x->El d->(∀q H' ws,ak H H'->q≠gh->H' q=some (.lst ws)->bU K (wo H' gh) (lU (UR.map (cw d))) ws->Q (.ref q) H')->BM K vs H Q E
theorem EO:aQ ["rows","head","shorter"] ["rows","head"] (aC HB):=gp
section
variable {H:Hp}{D0 D1:Addr}{l:List V}
theorem AX (h:H D1=some (.lst l)):wo H D0 D1=some (.lst l)\/wo H D0 D1=none:=by
 unfold wo;split
 ·exact .inr rfl
 ·exact .inl h
theorem wU {H D1}(h:H D1=none):wo H D1=H:=by
 funext p;unfold wo;split
 ·rename_i z;rw[z,h]
 ·rfl
theorem gq.GH {p vs}(hD:H D1=some (.lst l)) (h:gq K (GS.wo H D0) p vs):gq K (GS.wo (GS.wo H D0) D1) p vs:=by
 rcases AX (D0:=D0) hD with z | z
 ·exact gq.wo z h
 ·rw[wU z];exact h
theorem aE.GH (hD:H D1=some (.lst l)) (ds vs) (h:aE K (GS.wo H D0) ds vs):aE K (GS.wo (GS.wo H D0) D1) ds vs:=by
 rcases AX (D0:=D0) hD with z | z
 ·exact aE.wo z _ _ h
 ·rw[wU z];exact h
end
theorem eh.rest {H ds v}(h:eh K H ds v) (Q) (hq:∀u H',ak H H'->(∀D l D' l',H D=some (.lst l)->H D'=some (.lst l')->eh K (wo (wo H' D) D') ds.tail u)->Q u H'):(B9 K v (some 1) none H Q)\/(B8 K v (some 1) none H Q):=by
 obtain⟨p,vs,rfl,hs,hA⟩:=h;rcases hs with hs | hs
 ·refine .inl ⟨p,vs,rfl,hs,fun t ht=>?_⟩;rw[kD];have s1:ak H (U1 H t (.lst vs.tail)):=ab ht _;refine hq _ _ s1 fun D l D' l' hD Lw=>?_;have ne:t≠D:=cv ht hD;have ne':t≠D':=fun z=>by rw[<-z,ht] at Lw;cases Lw
  refine⟨t,_,rfl,.inl (aS.of (by rw[oM ne',oM ne];exact ae)),?_⟩;have a1:=aE.wo (D':=D) (s1 _ _ hD) _ _ (aE.same s1 _ _ hA.tail);exact aE.GH (s1 _ _ Lw) _ _ a1
 ·refine .inr ⟨p,vs,rfl,hs,fun t H1 s1 ht=>?_⟩;rw[kD] at ht;exact hq _ _ s1 fun D l D' l' hD Lw=>⟨t,_,rfl,.inr (gq.GH (s1 _ _ Lw) (gq.wo (s1 _ _ hD) ht)),aE.GH (s1 _ _ Lw) _ _ (aE.wo (s1 _ _ hD) _ _ (aE.same s1 _ _ hA.tail))⟩
theorem eh.count {H ds v}(h:eh K H ds v):∃p ys,v=.ref p/\(aS K H p ys\/gq K H p ys)/\ys.length=ds.length:=by
 obtain⟨p,vs,rfl,hs,hA⟩:=h;exact⟨p,vs,rfl,hs,hA.len⟩
theorem FA (g:Glb9 mg) (F:fm K "without_head" "without_head" HB f fd) (dS:Def P w K mg base "is_same" ["one","other"] 1 (mw K)):bK P w K mg base fq 2 f fd ["rows","head"] (BM K):=by
 refine F.gB EO fun UO A outer s H vs Q E hr h=>?_;obtain⟨p,x,UT,UR,d,gh,gl,rfl,hp,Ts,hR,cA,JK,hx,hd,q⟩:=h;refine⟨_,aa (.mk (L2.dq (iy:=2) (cl:=[("head",s.heap.objs.size+1)]) (Xs:=["row"]) (Nf:=["head"]) (js:=[1]) ?k rfl (LI.out (bL (pv 0))) (fun C s0 H0 fp=>LG.out (ip 0 (show(["row","head"]:List Str).Nodup by decide +kernel))) (fun C s0 H0 fp=>eY) (fun C s0 H0 fp=>LE.out (bC (bS (cM dS (cq (dz (r:=Fp K) sX (pv 0) ag (fun _ _=>rfl)) (pv 1)))) (bg (r:=Hu K) (wN.or eE EL) (pv 0) (bz ag) bD) (pv 0))) EO.nd rfl (Or.inl rfl)))
  (ah (aJ (.mk (L2.cG (cl:=[]) (Xs:=["row"]) (Nf:=[]) (js:=[]) ?k2 rfl (LI.out (bL (pv 2))) (fun C s0 H0 fp=>LG.out (ip 0 (show(["row"]:List Str).Nodup by decide +kernel))) (fun C s0 H0 fp=>fJ (LT.out (fR gm (au (r:=zY K) az rfl g.dH bW (cy (pv 0))) ag))) (fun C s0 H0 fp=>LE.out (pv 0)))))),?main⟩
 case k=>exact qB
 case k2=>
  refine⟨rfl,by decide +kernel,rfl,by decide +kernel,fun y c h=>by simp at h,fun y hy=>?_,rfl,fun j y h=>by simp at h⟩;have M5:([(".0",.local),("row",.local),("len",.globalImplicit)]:List (Str×NameKind)).lookup y=some .cell\/([(".0",.local),("row",.local),("len",.globalImplicit)]:List (Str×NameKind)).lookup y=some .free:=hy;rcases M5 with z | z
  ·have m:=IQ z;simp at m
  ·have m:=IQ z;simp at m
 case main=>
  have lR:=hR.len;have KY:=cA.many;refine⟨_,rfl,p,rfl,⟨_,hp⟩,[x],⟨rfl,fun j i h=>?_⟩,bM (vs:=[x]) (tc:=gN) UT.length (fun i=>UT.getD i .bb) (fun _=>true) (fun i v H'=>eh K (wo H' gh) (cw d (UR.getD i [])) v) (fun _ _ _ _ s z=>z.same (ft gh s)) (by omega) (ee hp) (gx hp) (fw hp) (fun i H2 Q' hi s2 k=>k H2 (ak.refl _)) (fun j H6 D l Q' hj _ s6 hD K1 k=>?_) fun D H6 ys hD s6 Nt hP=>?_⟩
  ·match j,h with
   | 0,h=>cases h;exact⟨_,rfl,rfl⟩
   | j+1,h=>simp at h
  ·obtain⟨es,J6,Kt⟩:=hR.get (i:=j) (v:=UT[j]) (by simp[hj]);have eo:UT.getD j .bb=UT[j]:=by rw[Iz,Iy hj];rfl
   have ed:UR.getD j []=es:=by rw[Iz,J6];rfl
   have JV:es∈UR:=IG J6;rw[ed] at k;rw[eo];obtain⟨c,cs,rfl⟩:∃c cs,es=c::cs:=by
    cases es with
    | nil=>exact Vi rfl (JK _ JV)
    | cons c cs=>exact⟨c,cs,rfl⟩
   have S4:=(Kt.same (eB H gh)).same s6;obtain⟨u,hu,ku⟩:=S4.head;refine⟨_,rfl,ku _ ?_⟩;refine⟨_,rfl,u,x,c,d,rfl,hu,At.same s6 _ _ hx,cA.el _ JV _ Ir,hd,_,rfl,?_⟩;by_cases hc:c=d
   ·rw[Iw hc];refine cC ⟨_,rfl,1,rfl,S4.rest _ fun u' H7 s7 w7=>k _ _ s7 ?_⟩;rw[cw,II hc];exact w7 D l gh gl K1 (s6 _ _ Ts)
   ·rw[Iv hc];refine bu ⟨_,rfl,k _ _ (ak.refl _) ?_⟩;rw[cw,IH hc];exact Kt.same (ft gh (pT hD s6))
  ·have Kr:=(hP.mono (fun i v z=>eh.same (ft gh (eB H6 D)) z)).rows;rw[U5.mpr (fun _ _=>rfl),lR,di UR [] (cw d)] at Kr;have lY:=Kr.len;rw[IC] at lY;have j0:aS K H6 D ys:=aS.of Nt;generalize hEs:UR.map (cw d)=UW at Kr q;have lE:UW.length=UR.length:=by rw[<-hEs,IC]
   refine⟨_,rfl,D,rfl,⟨_,j0⟩,[],⟨rfl,fun j i h=>by simp at h⟩,bM (vs:=[]) ys.length (fun i=>ys.getD i .bb) (fun i=>!(UW.getD i []).isEmpty) (fun i v H'=>eh K (wo H' gh) (UW.getD i []) v) (fun _ _ _ _ s z=>z.same (ft gh s)) (by omega) (ee j0) (gx j0) (fw j0) (fun j H7 Q' hj s7 k=>?_) (fun j H7 D' l Q' hj _ s7 L9 _ k=>?_) fun D' H7 zs L9 s7 hl7 PV=>?_⟩
   ·obtain⟨es,J6,Kt⟩:=Kr.get (i:=j) (v:=ys[j]) (by simp[hj]);have eo:ys.getD j .bb=ys[j]:=by rw[Iz,Iy hj];rfl
    have ed:UW.getD j []=es:=by rw[Iz,J6];rfl
    rw[ed] at k;rw[eo];obtain⟨pr,vr,er,hq,lr⟩:=((Kt.same (eB H6 gh)).same s7).count;rw[er];refine⟨_,rfl,pr,vr,rfl,hq,_,_,rfl,rfl,?_⟩;rw[lr];have e:decide ((0:Int) < (es.length:Nat))=!es.isEmpty:=by
     cases es with
     | nil=>rfl
     | cons a b=>rw[Iw];rfl;rw[IT];omega
    exact⟨_,Vj V.bl e,k H7 (ak.refl _)⟩
   ·obtain⟨es,J6,Kt⟩:=Kr.get (i:=j) (v:=ys[j]) (by simp[hj]);have eo:ys.getD j .bb=ys[j]:=by rw[Iz,Iy hj];rfl
    have ed:UW.getD j []=es:=by rw[Iz,J6];rfl
    rw[ed] at k;rw[eo];exact⟨_,rfl,k _ _ (ak.refl _) (Kt.same (ft gh (pT L9 s7)))⟩
   ·have hF:=(PV.mono (fun i v z=>eh.same (ft gh (eB H7 D')) z)).rows;have e:((List.range ys.length).filter fun i=>!(UW.getD i []).isEmpty).map (fun i=>UW.getD i [])=lU UW:=by
     have:=ik UW [] (fun r=>!r.isEmpty) id;rw[List.map_id] at this;rw[show ys.length=UW.length by omega];exact this
    rw[e] at hF;exact q D' H7 zs (s6.trans s7) (cv L9 (s6 _ _ Ts)) hl7 hF
end
section
variable {P:Program}{w:World}{K:Fg06}{mg:Str->Option Value}{base:Heap}{f:Addr}{fd:FuncData}
inductive xw (K:Fg06) (vs:List V) (H:Hp) (Q:VK) (E:XK):Prop
 | mk p UT UR:vs=[.ref p]->aS K H p UT->bU K H UR UT->jj UR->(∀ds∈UR,ds.Nodup)->kT UR<=100000->((∀H',ak H H'->GS.mg UR=none->Q .bb H'))->((∀q H' ws l,ak H H'->GS.mg UR=some l->H q=none->H' q=some (.lst ws)->aE K H' l ws->Q (.ref q) H'))->xw K vs H Q E
theorem Ie {α:Type}{xs:List α}{i:Nat}{x:α}(h:xs[i]?=some x):jZ xs (i:Nat)=some x:=by
 have hi:=(Ja.mp h).1;have e:sY xs.length (i:Nat)=some i:=by
  unfold sY;rw[II (by omega),II (by omega)];rw[Int.toNat_natCast]
 unfold jZ;rw[e];exact h
theorem oY:aQ ["rows","waiting","order","place","head"] ["rows"] (aC Cu):=gp
theorem Bz (H D o):ak (wo H D) (U1 H D o):=fun p u e=>by
 unfold wo at e;split at e
 ·cases e
 ·rename_i h;rw[aD h];exact e
theorem jj.sub {UR UW}(h:jj UR) (hs:∀r∈UW,∃q∈UR,r.Sublist q) (hl:UW.length<=UR.length):jj UW:=
 ⟨fun ds hd e he=>let ⟨q,hq,z⟩:=hs ds hd;h.el q hq e (z.subset he),fun ds hd=>let ⟨q,hq,z⟩:=hs ds hd;ID z.length_le (h.len q hq),ID hl h.many⟩
structure Left (UR:List (List D)):Prop where
 ok:jj UR
 ne:∀ds∈UR,ds≠[]
 nd:∀ds∈UR,ds.Nodup
theorem qg {UR:List (List D)}{r:List D}:r∈lU UR↔r∈UR/\r≠[]:=by
 unfold lU;rw[Jp];constructor
 ·rintro⟨a,b⟩;exact⟨a,fun z=>by rw[z] at b;cases b⟩
 ·rintro⟨a,b⟩;refine⟨a,?_⟩;cases r with
  | nil=>exact Vi rfl b
  | cons x xs=>rfl
theorem Left.of {UR}(h:jj UR) (hn:∀ds∈UR,ds.Nodup):Left (lU UR):=
 ⟨h.sub (fun r hr=>⟨r,(qg.mp hr).1,List.Sublist.refl _⟩) (List.length_filter_le ..),fun ds hd=>(qg.mp hd).2,fun ds hd=>hn _ (qg.mp hd).1⟩
theorem Left.next {UR}(h:Left UR) (c):Left (lU (UR.map (cw c))):=by
 refine Left.of (h.ok.sub (fun r hr=>?_) (by rw[IC];exact IE _)) fun r hr=>?_
 ·obtain⟨q,hq,rfl⟩:=Jq.mp hr;exact⟨q,hq,k7 c q⟩
 ·obtain⟨q,hq,rfl⟩:=Jq.mp hr;exact qZ (h.nd q hq)
theorem C7 (g:Glb9 mg) (F:fm K "merged" "merged" Cu f fd) (dF:Def P w K mg base "place_of_free" ["rows"] 3 (sD K)) (dW:Def P w K mg base "without_head" ["rows","head"] 2 (BM K)):bK P w K mg base fq 4 f fd ["rows"] (xw K):=by
 refine F.gB oY fun UO A outer s H vs Q E hr h=>?_;obtain⟨p,UT,UR,rfl,hp,hR,cA,Lk,htot,qn,qs⟩:=h;refine⟨_,aa (.mk (L2.dq (iy:=1) (cl:=[]) (Xs:=["row"]) (Nf:=[]) (js:=[]) ?k rfl (LI.out (bL (pv 0))) (fun C s0 H0 fp=>LG.out (ip 0 (show(["row"]:List Str).Nodup by decide +kernel))) (fun C s0 H0 fp=>fJ (LT.out (fR gm (au (r:=zY K) az rfl g.dH bW (cy (pv 0))) ag))) (fun C s0 H0 fp=>LE.out (pv 0)) oY.nd rfl (Or.inl rfl)))
  (aa (eG 2 oY.nd (aY bc))
  (aa (eS IW (fR gm (au az rfl g.dH bW (cy (pv 1))) ag)
   (aa (eG 3 oY.nd (cM dF (cy (pv 1))))
   (aa (bo (fR nF (pv 3) cE) (ah (aJ cE)) aP)
   (aa (eG 4 oY.nd (dz (r:=Fp K) sX (cV K (pv 1) (pv 3)) ag (fun _ _=>rfl)))
   (aa (bT (dQ Jb Jc Jd cf (pv 2) (cy (pv 4))))
   (ah (eG 1 oY.nd (cM dW (cq (pv 1) (pv 4))))))))))
  (ah (aJ (pv 2))))),?main⟩
 case k=>
  refine⟨rfl,by decide +kernel,rfl,by decide +kernel,fun y c h=>by simp at h,fun y hy=>?_,rfl,fun j y h=>by simp at h⟩;have M5:([(".0",.local),("row",.local),("len",.globalImplicit)]:List (Str×NameKind)).lookup y=some .cell\/([(".0",.local),("row",.local),("len",.globalImplicit)]:List (Str×NameKind)).lookup y=some .free:=hy;rcases M5 with z | z
  ·have m:=IQ z;simp at m
  ·have m:=IQ z;simp at m
 case main=>
  have lR:=hR.len;have KY:=cA.many;refine⟨_,rfl,p,rfl,⟨_,hp⟩,[],⟨rfl,fun j i h=>by simp at h⟩,bM (vs:=[]) UT.length (fun i=>UT.getD i .bb) (fun i=>!(UR.getD i []).isEmpty) (fun i v H'=>eh K H' (UR.getD i []) v) (fun _ _ _ _ s z=>z.same s) (by omega) (ee hp) (gx hp) (fw hp) (fun j H7 Q' hj s7 k=>?_) (fun j H7 D' l Q' hj _ s7 L9 _ k=>?_) fun wl H1 zs LY s1 Kj hP1=>?_⟩
  ·obtain⟨es,J6,Kt⟩:=hR.get (i:=j) (v:=UT[j]) (by simp[hj]);have eo:UT.getD j .bb=UT[j]:=by rw[Iz,Iy hj];rfl
   have ed:UR.getD j []=es:=by rw[Iz,J6];rfl
   rw[ed] at k;rw[eo];obtain⟨pr,vr,er,hq,lr⟩:=(Kt.same s7).count;rw[er];refine⟨_,rfl,pr,vr,rfl,hq,_,_,rfl,rfl,?_⟩;rw[lr];have e:decide ((0:Int) < (es.length:Nat))=!es.isEmpty:=by
    cases es with
    | nil=>rfl
    | cons a b=>rw[Iw];rfl;rw[IT];omega
   exact⟨_,Vj V.bl e,k H7 (ak.refl _)⟩
  ·obtain⟨es,J6,Kt⟩:=hR.get (i:=j) (v:=UT[j]) (by simp[hj]);have eo:UT.getD j .bb=UT[j]:=by rw[Iz,Iy hj];rfl
   have ed:UR.getD j []=es:=by rw[Iz,J6];rfl
   rw[ed] at k;rw[eo];exact⟨_,rfl,k _ _ (ak.refl _) (Kt.same (pT L9 s7))⟩
  have hF:=(hP1.mono (fun i v z=>eh.same (eB H1 wl) z)).rows;have e:((List.range UT.length).filter fun i=>!(UR.getD i []).isEmpty).map (fun i=>UR.getD i [])=lU UR:=by
   have:=ik UR [] (fun r=>!r.isEmpty) id;rw[List.map_id] at this;rw[lR];exact this
  rw[e] at hF;have Oi:=Left.of cA Lk;have Tf:GS.mg UR=(GS.mg (lU UR)).map ([]++·):=by rw[yF];cases GS.mg UR<;>rfl
  have M9:kT (lU UR)<=100000:=by rw[jq];exact htot
  generalize lU UR=P5 at hF Oi Tf M9;refine⟨by show 0<=sizeLine;exact Je _,fun ol J5=>?_⟩;have O9:H ol=none:=s1.free J5;have nwo:wl≠ol:=cv Kj J5;have sA:ak H (wo (U1 H1 ol (.lst [])) ol):=by rw[kQ];exact pT O9 s1
  have rA:bU K (wo (U1 H1 ol (.lst [])) ol) P5 zs:=by rw[kQ,wU J5];exact hF
  have oA:U1 H1 ol (.lst []) ol=some (.lst []):=ae;have wA:U1 H1 ol (.lst []) wl=some (.lst zs):=by rw[aD nwo];exact Kj
  generalize U1 H1 ol (.lst [])=H2 at sA rA oA wA ⊢;refine⟨fun m σ H'=>∃(wl:Addr) (zs us:List V) (UW:List (List D)) (os:List D) (o3 o4:Option V),σ=[some (.ref p),some (.ref wl),some (.ref ol),o3,o4]/\wl≠ol/\ak H (wo H' ol)/\H' wl=some (.lst zs)/\H' ol=some (.lst us)/\bU K (wo H' ol) UW zs/\aE K (wo H' ol) os us/\Left UW/\GS.mg UR=(GS.mg UW).map (os++·)/\m=kT UW/\kT UW+os.length<=100000,⟨_,wl,zs,[],P5,[],none,none,rfl,nwo,sA,wA,oA,rA,aZ.mpr rfl,Oi,Tf,rfl,by simpa using M9⟩,?_⟩;rintro m σ H3 ⟨wl,zs,us,UW,os,o3,o4,rfl,nwo,sA,wA,oA,rA,aA,hL,hm,rfl,hto⟩;have lz:=rA.len;refine⟨_,rfl,wl,zs,rfl,.inl (aS.of wA),_,_,rfl,rfl,?_⟩;have s3:ak H H3:=sA.trans (eB H3 ol);have rH:=rA.same (eB H3 ol);by_cases he:UW=[]
  ·subst he;have e0:zs.length=0:=by rw[lz];rfl
   rw[e0];refine⟨false,rfl,bu ⟨_,rfl,qs ol H3 us os s3 ?_ O9 oA (aE.same (eB H3 ol) _ _ aA)⟩⟩;rw[hm,uL rfl,Option.map_some,Jf]
  have KG:0 < zs.length:=by
   rw[lz];cases UW with
   | nil=>exact Vi rfl he
   | cons a b=>exact Nat.succ_pos _
  have RC:¬UW.all List.isEmpty=true:=fun z=>by
   cases UW with
   | nil=>exact he rfl
   | cons a b=>
    rw[List.all_cons,Vh] at z;exact hL.ne a Ir (List.isEmpty_iff.mp z.1)
  have Ta:∀r∈UW,r≠[]/\r.Nodup:=fun r hr=>⟨hL.ne r hr,hL.nd r hr⟩;refine⟨true,Vj V.bl (Iw (by omega)),cC ⟨_,fun σ' H' h=>h,?_⟩⟩;refine⟨_,rfl,wl,zs,UW,rfl,aS.of wA,rH,hL.ok,hL.ne,fun i H4 s4 hi ho hn=>?_,fun H4 s4 hn=>?_⟩
  rotate_left
  ·refine⟨_,rfl,rfl,true,rfl,cC (qn H4 (s3.trans s4) ?_)⟩;rw[hm,rj RC (wt Ta hn)];rfl
  refine⟨_,rfl,rfl,false,rfl,bu ?_⟩;have Tr:i < zs.length:=by omega
  obtain⟨es,J6,hri⟩:=rH.get (i:=i) (v:=zs[i]) (by simp[Tr]);obtain⟨c,cs,rfl⟩:∃c cs,es=c::cs:=by
   cases es with
   | nil=>exact Vi rfl (hL.ne _ (IG J6))
   | cons c cs=>exact⟨c,cs,rfl⟩
  have JV:=IG J6;obtain⟨more,hf⟩:=tw Ta J6 ho hn;obtain⟨u,hu,ku⟩:=(hri.same s4).head;have ai:jZ zs (i:Nat)=some zs[i]:=Ie (Iy Tr);refine⟨_,rfl,_,rfl,⟨wl,zs,i,zs[i],rfl,rfl,aS.of (s4 _ _ wA),ai,ku _ ?_⟩⟩;have wA4:=s4 _ _ wA;have Qn:=s4 _ _ oA;have UQ:=aA.len;refine⟨_,rfl,.inl ⟨rfl,us,aS.of Qn⟩,_,rfl,ol,us,u,rfl,rfl,Qn,Jh (Jm _) (small (n:=us.length+1) (by omega)),?_⟩;have w5:bU K (wo (U1 H4 ol (.lst (us++[u]))) ol) UW zs:=by rw[kQ];exact rA.same (ft ol s4)
  have a5:aE K (wo (U1 H4 ol (.lst (us++[u]))) ol) (os++[c]) (us++[u]):=by
   rw[kQ];exact(aE.same (ft ol s4) _ _ aA).append (aX.mpr ⟨_,_,rfl,At.wo Qn _ _ hu,aZ.mpr rfl⟩)
  have SW:At K (U1 H4 ol (.lst (us++[u]))) c u:=At.same (Bz H4 ol _) _ _ (At.wo Qn _ _ hu);have Q2:U1 H4 ol (.lst (us++[u])) ol=some (.lst (us++[u])):=ae;have Sn:U1 H4 ol (.lst (us++[u])) wl=some (.lst zs):=by rw[aD nwo];exact wA4
  have Su:ak H (wo (U1 H4 ol (.lst (us++[u]))) ol):=by rw[kQ];exact sA.trans (ft ol s4)
  generalize U1 H4 ol (.lst (us++[u]))=H5 at w5 a5 SW Q2 Sn Su ⊢;have QC:c∈eA UW:=by rw[hf];exact Ir
  have Ju:=gK c (Jp.mp QC).1;refine⟨_,rfl,_,rfl,wl,u,zs,UW,c,ol,us++[u],rfl,aS.of Sn,Q2,w5,hL.ok,hL.ne,SW,hL.ok.el _ JV _ Ir,fun q H6 ws s6 hq hq6 Kw=>?_⟩;refine⟨kT (lU (UW.map (cw c))),by rw[jq];exact Ju,q,ws,us++[u],lU (UW.map (cw c)),os++[c],_,_,rfl,hq,Su.trans (ft ol s6),hq6,s6 _ _ Q2,Kw,aE.same (ft ol s6) _ _ a5,hL.next c,?_,rfl,?_⟩
  ·rw[hm,uK hf,yF,Option.map_map];refine congrFun (Vj Option.map (funext fun l=>?_)) _;show os++c::l=os++[c]++l;rw[List.append_assoc];rfl
  ·rw[jq,Iu,Jl];omega
end
end GS
namespace GS
section
variable {α:Type} [DecidableEq α]
def cnt (d:α) (l:List α):Nat:=l.countP fun e=>decide (e=d)
theorem cnt_cons (d a:α) (l):cnt d (a::l)=cnt d l+if a=d then 1 else 0:=by
 unfold cnt;rw[List.countP_cons];by_cases h:a=d
 ·simp[h]
 ·simp[h]
theorem rT {d:α}:∀{l:List α},d∉l->cnt d l=0
 | [],_=>rfl
 | a::l,h=>by
  rw[cnt_cons,rT (fun z=>h (Iq _ z)),IH (fun z=>h (by rw[z];exact Ir))]
theorem u7 {d:α}:∀{l:List α},d∈l->1<=cnt d l
 | a::l,h=>by
  rw[cnt_cons];by_cases e:a=d
  ·rw[II e];omega
  ·have:d∈l:=by
    cases h with
    | head=>exact Vi rfl e
    | tail _ z=>exact z
   have:=u7 this;omega
theorem pJ {d:α}:∀{l:List α},l.Nodup->cnt d l<=1
 | [],_=>Je _
 | a::l,h=>by
  rw[List.nodup_cons] at h;rw[cnt_cons];by_cases e:a=d
  ·rw[II e,rT (e▸h.1)];exact IE _
  ·rw[IH e];exact pJ h.2
theorem pz:∀{l:List α},(∀d∈l,cnt d l<=1)->l.Nodup
 | [],_=>List.nodup_nil
 | a::l,h=>by
  have h1:=h a Ir;rw[cnt_cons,II rfl] at h1;refine List.nodup_cons.mpr ⟨fun z=>by have:=u7 z;omega,pz fun d hd=>?_⟩;have:=h d (Iq _ hd);rw[cnt_cons] at this;omega
theorem vt (l:List α):(l.any fun d=>decide (1 < cnt d l))=!decide l.Nodup:=by
 by_cases h:l.Nodup
 ·rw[Iw h];refine Bool.eq_false_iff.mpr fun z=>?_;obtain⟨d,_,hd⟩:=List.any_eq_true.mp z;have:=IZ hd;have:=pJ (d:=d) h;omega
 ·rw[Iv h];cases e:(l.any fun d=>decide (1 < cnt d l)) with
  | true=>rfl
  | false=>
   refine Vi (pz fun d hd=>?_) h;have:=List.any_eq_false.mp e d hd;simp at this;omega
end
def gD (ordOf:Nat->List Nat) (es:List Nat):Option (List Nat):=(mg (es.map ordOf++[es])).bind fun l=>if l.length<=39 then some l else none
theorem k9 {α β:Type}{f:α->β}(hf:∀x y,f x=f y->x=y){l:List α}:(l.map f).Nodup↔l.Nodup:=by
 induction l with
 | nil=>simp
 | cons a l ih=>
  rw[Va,List.nodup_cons,List.nodup_cons,ih];refine and_congr_left fun _=>not_congr ?_;rw[Jq];exact⟨fun⟨x,hx,e⟩=>hf _ _ e▸hx,fun h=>⟨a,h,rfl⟩⟩
end GS
set_option maxRecDepth 100000
set_option maxHeartbeats 4000000
namespace GS
open PySem PyProof.Rows
open L2 hiding ag gA cE aj pv bA fN aB iw fu d9 fh iT bC dz bD bz bg bc aI aY ba bV au bE dQ cp bS fP d6 fg fE gk cR eJ cb fT bL eI bQ aJ bT fQ gu bo eS cL aP aa ah
open L3
section
variable {X:Cx}
def uB (K:Fg06):V->List V->Hp->VK->Prop:=fun x vs H Q=>∃y d ds,vs=[y]/\At K H (.tup ds) x/\At K H d y/\(∀e∈ds,El e)/\El d/\Q (.int (cnt d ds:Nat)) H
theorem vV {k}(hr:cZ k X.A):GB X "tuple.count" (uB X.K):=by
 intro UL s σ H x vs v us Q I rx rv h;obtain⟨y,d,ds,rfl,hx,hy,he,hd,q⟩:=h;obtain⟨p,xs,rfl,hq,ha⟩:=bf.mp hx;cases rx;obtain⟨u,rfl,ru⟩:=rv.one;obtain⟨UN,r,pl,hz⟩:=I.tuple hq;obtain⟨f,f1,f2⟩:=yI I ru hy ha r X.A.in1 (fun e h=>by have:=hr.units;have:=(he e h).dep;show X.A.units+1+_ < _;omega);obtain⟨⟨cls,dd,data,sl⟩,ho,hc,n,JS⟩:=id pl;simp only at hc JS;subst hc JS;refine call_meets PySem.F.slot_tuple_count ⟨_,ho,rfl⟩ PySem.F.entry_tuple_count (PySem.F.args_tuple_count_2 _ _) (SeqAt.tuple_countAt p UN.toArray n dd sl u f) ⟨ho,fun z hz=>f1 z (by simpa using hz),?_⟩;refine⟨.int _,H,I.tok _,⟨_,rfl⟩,?_⟩;have e:UN.countP f=cnt d ds:=by
  have e1:UN.countP f=(UN.map f).countP id:=by rw[List.countP_map];rfl
  rw[e1,f2,List.countP_map];unfold cnt;refine List.countP_congr fun e QA=>?_;show(cm e d=true↔_);rw[qv (he e QA).nb hd.nb]
 rw[show UN.toArray.toList.countP f=UN.countP f from rfl,e];exact q
end
end GS
namespace L3
open PySem PyProof.Rows L2
section
variable {X:Cx}{o i:Expr}{pos:Pos}{td ty:TE}
theorem vI {K k e UU US to t}(hr:cZ k X.A) (hK:X.K=K) (ho:LE X o to) (ha:LA X [e] t)
  (JA:attributeBase o "count" X.env (eval o X.env)=eval o X.env:=by rfl)
  (JW:((backTo US (starEach [e] X.env)).all (fun x=>!x.1)&&(backToKw US (keywordEach [] X.env)).all (fun x=>x.1.isSome)
   &&decide ([e].length+([]:List Keyword).length+(if([]:List Keyword).isEmpty then 0 else 1) < 30))=true:=by rfl)
  (Jz:(UU.endLine == US.line)=true:=by rfl) (hs:starEach [e] X.env=(false,eval e X.env)::starEach [] X.env:=by rfl) (Jy:(backTo US (starEach [] X.env)).any (·.1)=false:=by rfl):
  LE X (.Call (.Attribute o "count" UU) [e] [] US) (GS.BK (GS.uB K) to t):=by
 subst hK;exact .mk (GS.yg PySem.F.slot_tuple_count PySem.F.type_tuple_count (GS.vV hr) ho.out ha.out JA JW Jz hs Jy)
end
end L3
namespace GS
open PySem PyProof.Rows
open L2 hiding ag gA cE aj pv bA fN aB iw fu d9 fh iT bC dz bD bz bg bc aI aY ba bV au bE dQ cp bS fP d6 fg fE gk cR eJ cb fT bL eI bQ aJ bT fQ gu bo eS cL aP aa ah
open L3
def lZ (i:Nat):Stmt->Stmt
 | .ClassDef _ _ _ body _ _ _ _ _ _ _=>body.getD i (.Pass ⟨0,0,0,0⟩)
 | _=>.Pass ⟨0,0,0,0⟩
theorem bh {f g v x r}(h:g≠f):dm f v ((g,x)::r)=(g,x)::dm f v r:=IH h
section
variable {P:Program}{w:World}{K:Fg06}{mg:Str->Option Value}{base:Heap}{f:Addr}{fd:FuncData}
abbrev Ai:Stmt:=(lZ 0 (cB 5))
inductive xH (C:Addr) (vs:List V) (H:Hp) (Q:VK) (E:XK):Prop
 | mk x dx v1 v2 v3 v4 v5 v6:vs=[.ref x,v1,v2,v3,v4,v5,v6]->H x=some (.ins C dx [])->(∀H',(∀p,p≠x->H' p=H p)->H' x=some (.ins C dx [("name",v1),("params",v2),("defaults",v3),("code",v4),("around",v5),("gives",v6)])->Q .bb H')->xH C vs H Q E
theorem E9:aQ ["self","name","params","defaults","code","around","gives"] ["self","name","params","defaults","code","around","gives"] (aC Ai):=gp
theorem Dm {c}(z:j6 K c) (F:fm K "__init__" "Function.__init__" Ai f fd):bK P w K mg base fq 1 f fd ["self","name","params","defaults","code","around","gives"] (xH c.F):=by
 refine F.gB E9 fun UO A outer s H vs Q E hr h=>?_;obtain⟨x,dx,v1,v2,v3,v4,v5,v6,rfl,hx,q⟩:=h;refine⟨_,(aa (L3.cx (pv 0) (pv 1))
   (aa (L3.cx (pv 0) (pv 2))
   (aa (L3.cx (pv 0) (pv 3))
   (aa (L3.cx (pv 0) (pv 4))
   (aa (L3.cx (pv 0) (pv 5))
   (ah (L3.cx (pv 0) (pv 6)))))))),?_⟩
 have e1:dm "name" v1 ([]:List (Str×V))=([("name",v1)]:List (Str×V)):=by rfl
 have e2:dm "params" v2 ([("name",v1)]:List (Str×V))=([("name",v1),("params",v2)]:List (Str×V)):=by rw[bh (by decide +kernel)];rfl
 have e3:dm "defaults" v3 ([("name",v1),("params",v2)]:List (Str×V))=([("name",v1),("params",v2),("defaults",v3)]:List (Str×V)):=by rw[bh (by decide +kernel),bh (by decide +kernel)];rfl
 have e4:dm "code" v4 ([("name",v1),("params",v2),("defaults",v3)]:List (Str×V))=([("name",v1),("params",v2),("defaults",v3),("code",v4)]:List (Str×V)):=by rw[bh (by decide +kernel),bh (by decide +kernel),bh (by decide +kernel)];rfl
 have e5:dm "around" v5 ([("name",v1),("params",v2),("defaults",v3),("code",v4)]:List (Str×V))=([("name",v1),("params",v2),("defaults",v3),("code",v4),("around",v5)]:List (Str×V)):=by rw[bh (by decide +kernel),bh (by decide +kernel),bh (by decide +kernel),bh (by decide +kernel)];rfl
 have e6:dm "gives" v6 ([("name",v1),("params",v2),("defaults",v3),("code",v4),("around",v5)]:List (Str×V))=([("name",v1),("params",v2),("defaults",v3),("code",v4),("around",v5),("gives",v6)]:List (Str×V)):=by rw[bh (by decide +kernel),bh (by decide +kernel),bh (by decide +kernel),bh (by decide +kernel),bh (by decide +kernel)];rfl
 refine⟨_,rfl,_,rfl,x,c.F,dx,_,rfl,hx,z.fc,z.f1,by decide,?_⟩;rw[e1];refine⟨_,rfl,_,rfl,x,c.F,dx,_,rfl,ae,z.fc,z.f2,Jh (Jm 1) (by decide),?_⟩;rw[e2];refine⟨_,rfl,_,rfl,x,c.F,dx,_,rfl,ae,z.fc,z.f3,Jh (Jm 2) (by decide),?_⟩;rw[e3];refine⟨_,rfl,_,rfl,x,c.F,dx,_,rfl,ae,z.fc,z.f4,Jh (Jm 3) (by decide),?_⟩;rw[e4];refine⟨_,rfl,_,rfl,x,c.F,dx,_,rfl,ae,z.fc,z.f5,Jh (Jm 4) (by decide),?_⟩;rw[e5];refine⟨_,rfl,_,rfl,x,c.F,dx,_,rfl,ae,z.fc,z.f6,Jh (Jm 5) (by decide),?_⟩;rw[e6];exact q _ (fun p hp=>by rw[aD hp,aD hp,aD hp,aD hp,aD hp,aD hp]) ae
abbrev Ag:Stmt:=(lZ 0 (cB 6))
inductive xD (C:Addr) (vs:List V) (H:Hp) (Q:VK) (E:XK):Prop
 | mk x dx v1:vs=[.ref x,v1]->H x=some (.ins C dx [])->(∀H',(∀p,p≠x->H' p=H p)->H' x=some (.ins C dx [("name",v1)])->Q .bb H')->xD C vs H Q E
theorem E5:aQ ["self","name"] ["self","name"] (aC Ag):=gp
theorem Dh {c}(z:j6 K c) (F:fm K "__init__" "Given.__init__" Ag f fd):bK P w K mg base fq 1 f fd ["self","name"] (xD c.G):=by
 refine F.gB E5 fun UO A outer s H vs Q E hr h=>?_;obtain⟨x,dx,v1,rfl,hx,q⟩:=h;refine⟨_,(ah (L3.cx (pv 0) (pv 1))),?_⟩;have e1:dm "name" v1 ([]:List (Str×V))=([("name",v1)]:List (Str×V)):=by rfl
 refine⟨_,rfl,_,rfl,x,c.G,dx,_,rfl,hx,z.gc,z.g1,by decide,?_⟩;rw[e1];exact q _ (fun p hp=>by rw[aD hp]) ae
abbrev Af:Stmt:=(lZ 0 (cB 8))
inductive xB (C:Addr) (vs:List V) (H:Hp) (Q:VK) (E:XK):Prop
 | mk x dx v1 v2 v3 v4:vs=[.ref x,v1,v2,v3,v4]->H x=some (.ins C dx [])->(∀H',(∀p,p≠x->H' p=H p)->H' x=some (.ins C dx [("name",v1),("order",v2),("fields",v3),("is_given",v4)])->Q .bb H')->xB C vs H Q E
theorem E2:aQ ["self","name","order","fields","is_given"] ["self","name","order","fields","is_given"] (aC Af):=gp
theorem De {c}(z:j6 K c) (F:fm K "__init__" "Kind.__init__" Af f fd):bK P w K mg base fq 1 f fd ["self","name","order","fields","is_given"] (xB c.Kd):=by
 refine F.gB E2 fun UO A outer s H vs Q E hr h=>?_;obtain⟨x,dx,v1,v2,v3,v4,rfl,hx,q⟩:=h;refine⟨_,(aa (L3.cx (pv 0) (pv 1))
   (aa (L3.cx (pv 0) (pv 2))
   (aa (L3.cx (pv 0) (pv 3))
   (ah (L3.cx (pv 0) (pv 4)))))),?_⟩
 have e1:dm "name" v1 ([]:List (Str×V))=([("name",v1)]:List (Str×V)):=by rfl
 have e2:dm "order" v2 ([("name",v1)]:List (Str×V))=([("name",v1),("order",v2)]:List (Str×V)):=by rw[bh (by decide +kernel)];rfl
 have e3:dm "fields" v3 ([("name",v1),("order",v2)]:List (Str×V))=([("name",v1),("order",v2),("fields",v3)]:List (Str×V)):=by rw[bh (by decide +kernel),bh (by decide +kernel)];rfl
 have e4:dm "is_given" v4 ([("name",v1),("order",v2),("fields",v3)]:List (Str×V))=([("name",v1),("order",v2),("fields",v3),("is_given",v4)]:List (Str×V)):=by rw[bh (by decide +kernel),bh (by decide +kernel),bh (by decide +kernel)];rfl
 refine⟨_,rfl,_,rfl,x,c.Kd,dx,_,rfl,hx,z.kc,z.k1,by decide,?_⟩;rw[e1];refine⟨_,rfl,_,rfl,x,c.Kd,dx,_,rfl,ae,z.kc,z.k2,Jh (Jm 1) (by decide),?_⟩;rw[e2];refine⟨_,rfl,_,rfl,x,c.Kd,dx,_,rfl,ae,z.kc,z.k3,Jh (Jm 2) (by decide),?_⟩;rw[e3];refine⟨_,rfl,_,rfl,x,c.Kd,dx,_,rfl,ae,z.kc,z.k4,Jh (Jm 3) (by decide),?_⟩;rw[e4];exact q _ (fun p hp=>by rw[aD hp,aD hp,aD hp,aD hp]) ae
abbrev Ad:Stmt:=(lZ 0 (cB 9))
inductive xt (C:Addr) (vs:List V) (H:Hp) (Q:VK) (E:XK):Prop
 | mk x dx v1 v2:vs=[.ref x,v1,v2]->H x=some (.ins C dx [])->(∀H',(∀p,p≠x->H' p=H p)->H' x=some (.ins C dx [("kind",v1),("fields",v2)])->Q .bb H')->xt C vs H Q E
theorem EY:aQ ["self","kind","fields"] ["self","kind","fields"] (aC Ad):=gp
theorem C3 {c}(z:j6 K c) (F:fm K "__init__" "Object.__init__" Ad f fd):bK P w K mg base fq 1 f fd ["self","kind","fields"] (xt c.O):=by
 refine F.gB EY fun UO A outer s H vs Q E hr h=>?_;obtain⟨x,dx,v1,v2,rfl,hx,q⟩:=h;refine⟨_,(aa (L3.cx (pv 0) (pv 1))
   (ah (L3.cx (pv 0) (pv 2)))),?_⟩
 have e1:dm "kind" v1 ([]:List (Str×V))=([("kind",v1)]:List (Str×V)):=by rfl
 have e2:dm "fields" v2 ([("kind",v1)]:List (Str×V))=([("kind",v1),("fields",v2)]:List (Str×V)):=by rw[bh (by decide +kernel)];rfl
 refine⟨_,rfl,_,rfl,x,c.O,dx,_,rfl,hx,z.oc,z.o1,by decide,?_⟩;rw[e1];refine⟨_,rfl,_,rfl,x,c.O,dx,_,rfl,ae,z.oc,z.o2,Jh (Jm 1) (by decide),?_⟩;rw[e2];exact q _ (fun p hp=>by rw[aD hp,aD hp]) ae
abbrev Ac:Stmt:=(lZ 0 (cB 11))
inductive xi (C:Addr) (vs:List V) (H:Hp) (Q:VK) (E:XK):Prop
 | mk x dx v1 v2:vs=[.ref x,v1,v2]->H x=some (.ins C dx [])->(∀H',(∀p,p≠x->H' p=H p)->H' x=some (.ins C dx [("kind",v1),("owner",v2)])->Q .bb H')->xi C vs H Q E
theorem ES:aQ ["self","kind","owner"] ["self","kind","owner"] (aC Ac):=gp
theorem CS {c}(z:j6 K c) (F:fm K "__init__" "View.__init__" Ac f fd):bK P w K mg base fq 1 f fd ["self","kind","owner"] (xi c.Vw):=by
 refine F.gB ES fun UO A outer s H vs Q E hr h=>?_;obtain⟨x,dx,v1,v2,rfl,hx,q⟩:=h;refine⟨_,(aa (L3.cx (pv 0) (pv 1))
   (ah (L3.cx (pv 0) (pv 2)))),?_⟩
 have e1:dm "kind" v1 ([]:List (Str×V))=([("kind",v1)]:List (Str×V)):=by rfl
 have e2:dm "owner" v2 ([("kind",v1)]:List (Str×V))=([("kind",v1),("owner",v2)]:List (Str×V)):=by rw[bh (by decide +kernel)];rfl
 refine⟨_,rfl,_,rfl,x,c.Vw,dx,_,rfl,hx,z.vc,z.v1,by decide,?_⟩;rw[e1];refine⟨_,rfl,_,rfl,x,c.Vw,dx,_,rfl,ae,z.vc,z.v2,Jh (Jm 1) (by decide),?_⟩;rw[e2];exact q _ (fun p hp=>by rw[aD hp,aD hp]) ae
abbrev Ae:Stmt:=(lZ 0 (cB 7))
inductive xv (C:Addr) (vs:List V) (H:Hp) (Q:VK) (E:XK):Prop
 | mk x dx v1 v2:vs=[.ref x,v1,v2]->H x=some (.ins C dx [])->(∀H',(∀p,p≠x->H' p=H p)->H' x=some (.ins C dx [("target",v1),("owner",v2)])->Q .bb H')->xv C vs H Q E
theorem E1:aQ ["self","target","owner"] ["self","target","owner"] (aC Ae):=gp
theorem C6 {c}(z:j6 K c) (F:fm K "__init__" "Method.__init__" Ae f fd):bK P w K mg base fq 1 f fd ["self","target","owner"] (xv c.M):=by
 refine F.gB E1 fun UO A outer s H vs Q E hr h=>?_;obtain⟨x,dx,v1,v2,rfl,hx,q⟩:=h;refine⟨_,(aa (L3.cx (pv 0) (pv 1))
   (ah (L3.cx (pv 0) (pv 2)))),?_⟩
 have e1:dm "target" v1 ([]:List (Str×V))=([("target",v1)]:List (Str×V)):=by rfl
 have e2:dm "owner" v2 ([("target",v1)]:List (Str×V))=([("target",v1),("owner",v2)]:List (Str×V)):=by rw[bh (by decide +kernel)];rfl
 refine⟨_,rfl,_,rfl,x,c.M,dx,_,rfl,hx,z.mc,z.m1,by decide,?_⟩;rw[e1];refine⟨_,rfl,_,rfl,x,c.M,dx,_,rfl,ae,z.mc,z.m2,Jh (Jm 1) (by decide),?_⟩;rw[e2];exact q _ (fun p hp=>by rw[aD hp,aD hp]) ae
abbrev Ah:Stmt:=(lZ 0 (cB 10))
inductive xE (C:Addr) (vs:List V) (H:Hp) (Q:VK) (E:XK):Prop
 | mk x dx v1 v2 v3:vs=[.ref x,v1,v2,v3]->H x=some (.ins C dx [])->(∀H',(∀p,p≠x->H' p=H p)->H' x=some (.ins C dx [("name",v1),("frame",v2),("state",.str "new"),("many",v3),("handed",.int 0)])->Q .bb H')->xE C vs H Q E
theorem E6:aQ ["self","name","frame","many"] ["self","name","frame","many"] (aC Ah):=gp
theorem Di {c}(z:j6 K c) (F:fm K "__init__" "Giver.__init__" Ah f fd):bK P w K mg base fq 1 f fd ["self","name","frame","many"] (xE c.Gr):=by
 refine F.gB E6 fun UO A outer s H vs Q E hr h=>?_;obtain⟨x,dx,v1,v2,v3,rfl,hx,q⟩:=h;refine⟨_,(aa (L3.cx (pv 0) (pv 1))
   (aa (L3.cx (pv 0) (pv 2))
   (aa (L3.cx (pv 0) aj)
   (aa (L3.cx (pv 0) (pv 3))
   (ah (L3.cx (pv 0) ag)))))),?_⟩
 have e1:dm "name" (v1) ([]:List (Str×V))=([("name",v1)]:List (Str×V)):=by rfl
 have e2:dm "frame" (v2) ([("name",v1)]:List (Str×V))=([("name",v1),("frame",v2)]:List (Str×V)):=by rw[bh (by decide +kernel)];rfl
 have e3:dm "state" (.str "new") ([("name",v1),("frame",v2)]:List (Str×V))=([("name",v1),("frame",v2),("state",.str "new")]:List (Str×V)):=by rw[bh (by decide +kernel),bh (by decide +kernel)];rfl
 have e4:dm "many" (v3) ([("name",v1),("frame",v2),("state",.str "new")]:List (Str×V))=([("name",v1),("frame",v2),("state",.str "new"),("many",v3)]:List (Str×V)):=by rw[bh (by decide +kernel),bh (by decide +kernel),bh (by decide +kernel)];rfl
 have e5:dm "handed" (.int 0) ([("name",v1),("frame",v2),("state",.str "new"),("many",v3)]:List (Str×V))=([("name",v1),("frame",v2),("state",.str "new"),("many",v3),("handed",.int 0)]:List (Str×V)):=by rw[bh (by decide +kernel),bh (by decide +kernel),bh (by decide +kernel),bh (by decide +kernel)];rfl
 refine⟨_,rfl,_,rfl,x,c.Gr,dx,_,rfl,hx,z.rc,z.r1,by decide,?_⟩;rw[e1];refine⟨_,rfl,_,rfl,x,c.Gr,dx,_,rfl,ae,z.rc,z.r2,Jh (Jm 1) (by decide),?_⟩;rw[e2];refine⟨_,rfl,x,c.Gr,dx,_,rfl,ae,z.rc,z.r3,Jh (Jm 2) (by decide),?_⟩;rw[e3];refine⟨_,rfl,_,rfl,x,c.Gr,dx,_,rfl,ae,z.rc,z.r4,Jh (Jm 3) (by decide),?_⟩;rw[e4];refine⟨_,rfl,x,c.Gr,dx,_,rfl,ae,z.rc,z.r5,Jh (Jm 4) (by decide),?_⟩;rw[e5];exact q _ (fun p hp=>by rw[aD hp,aD hp,aD hp,aD hp,aD hp]) ae
end
abbrev CK:Stmt:=cB 13
abbrev HD:Stmt:=cB 14
abbrev HF:Stmt:=cB 15
abbrev Cw:Stmt:=cB 19
theorem Ia (x y):decide (V.str x=V.str y)=decide (x=y):=decide_eq_decide.mpr ⟨V.str.inj,fun e=>by rw[e]⟩
theorem qA {x y}(h:x≠y):decide (V.str x=V.str y)=false:=Iv fun z=>h (V.str.inj z)
theorem bJ {b:Bool}{A B:Prop}(h1:b=true->A) (h2:b=false->B):if b=true then A else B:=by
 cases b with
 | true=>exact cC (h1 rfl)
 | false=>exact bu (h2 rfl)
def Fn (K:Fg06):R2:=fun x y H Q=>∃i ds d,y=.int (i:Nat)/\At K H (.tup ds) x/\ds[i]?=some d/\∀v,At K H d v->Q v H
theorem ixD {X}:zF X (Fn X.K):=by
 intro value slice UL s σ H x y v u Q I rx ry h hs;obtain⟨i,ds,d,rfl,hx,hd,q⟩:=h;obtain⟨p,vs,w,rfl,h2,h3,h4⟩:=At.ix (i:=i) hx hd;exact yQ value slice UL s σ H _ _ v u Q I rx ry ⟨p,vs,_,w,rfl,rfl,h2,h3,q w h4⟩ hs
theorem cF {X e te n j p pos}(he:LE X e te):LE X (.Subscript e (.Constant (.int n) j p) pos) (su (Fn X.K) te (tC (.int n))):=dz ixD he ag (fun _ _=>rfl)
theorem jk (a b l g):(wF a b l g).lookup ("things":Str)=some (.ref l):=rfl
theorem j9 (a b l g):(wF a b l g).lookup ("given":Str)=some (.ref g):=rfl
theorem jr (a b c d):(F7 a b c d).lookup ("order":Str)=some b:=rfl
theorem q4 (a b):(HI a b).lookup ("kind":Str)=some a:=rfl
theorem nG (a b):(HI a b).lookup ("fields":Str)=some b:=rfl
theorem rq (a b c d):(F7 a b c d).lookup ("name":Str)=some a:=rfl
theorem nL (a b c d):(F7 a b c d).lookup ("fields":Str)=some c:=rfl
theorem aE.mj {K H a x}(h:At K H a x):aE K H [a] [x]:=aX.mpr ⟨x,[],rfl,h,aZ.mpr rfl⟩
theorem ck {K H a b x y}(h:At K H a x) (h2:At K H b y):aE K H [a,b] [x,y]:=aX.mpr ⟨x,_,rfl,h,aE.mj h2⟩
theorem tY {K H a b c x y z}(h:At K H a x) (h2:At K H b y) (h3:At K H c z):aE K H [a,b,c] [x,y,z]:=aX.mpr ⟨x,_,rfl,h,ck h2 h3⟩
theorem cn {i j}(h:aU i=aU j):i=j:=by
 unfold aU at h;injection h with h;injection h with _ h;injection h with h _;injection h with h;exact Int.ofNat.inj h
def TV (K:Fg06) (c:fo) (H:Hp) (ps:List Addr) (os:List Th) (d:D) (v:V):Prop:=(iB os d=none/\v=.bb)\/∃i p o,d=aU i/\iB os d=some o/\ps[i]?=some p/\os[i]?=some o/\v=.ref p/\j5 K c H o p
def so (f g m k o r v:Bool):Option Th->Bool
 | none=>false
 | some (.fn _)=>f
 | some (.pD _)=>g
 | some (.mt ..)=>m
 | some (.kd ..)=>k
 | some (.ob ..)=>o
 | some (.gr ..)=>r
 | some (.vw ..)=>v
section
variable {K:Fg06}{c:fo}{H:Hp}{ps:List Addr}{os:List Th}{d:D}{v:V}
theorem TV.th {i o}(e:os[i]?=some o) (t:TV K c H ps os (aU i) v):∃p,ps[i]?=some p/\v=.ref p/\j5 K c H o p:=by
 rcases t with ⟨h,_⟩ | ⟨j,p,o',h1,h2,h3,h4,h5,h6⟩
 ·rw[bI,e] at h;cases h
 ·have:=cn h1;subst this;rw[e] at h4;cases h4;exact⟨p,h3,h5,h6⟩
theorem TV.is (z:j6 K c) (t:TV K c H ps os d v) {C f g m k o r w}(kt:qJ K c C f g m k o r w):(∃p D dx fs,v=.ref p/\H p=some (.ins D dx fs)/\ot K D/\PySem.W.kitOne K (.ref D) (.ref C)=some (so f g m k o r w (iB os d)))\/(v=.bb/\PySem.W.kitOne K (.type "NoneType") (.ref C)=some (so f g m k o r w (iB os d))):=by
 rcases t with ⟨h,e⟩ | ⟨j,p,o',h1,h2,h3,h4,h5,h6⟩
 ·rw[h];exact .inr ⟨e,kt.tN⟩
 ·rw[h2];obtain⟨C,dx,fs,h,i,a⟩:∃C dx fs,H p=some (.ins C dx fs)/\ot K C/\PySem.W.kitOne K (.ref C) (.ref _)=some (so f g m k o r w (some o')):=by
   cases o' with
   | fn n=>obtain⟨dx,_,h,_⟩:=h6;exact⟨_,_,_,h,z.iF,kt.tF⟩
   | pD n=>obtain⟨dx,h⟩:=h6;exact⟨_,_,_,h,z.iG,kt.tG⟩
   | kd nm ns d fs=>obtain⟨dx,_,h,_⟩:=h6;exact⟨_,_,_,h,z.iK,kt.tK⟩
   | ob n d fs=>obtain⟨dx,_,h,_⟩:=h6;exact⟨_,_,_,h,z.iO,kt.tO⟩
   | mt t o=>obtain⟨dx,_,_,h,_⟩:=h6;exact⟨_,_,_,h,z.iM,kt.tM⟩
   | gr nm fr=>obtain⟨dx,h⟩:=h6;exact⟨_,_,_,h,z.iR,kt.tR⟩
   | vw k o=>obtain⟨dx,_,_,h,_⟩:=h6;exact⟨_,_,_,h,z.iV,kt.tV⟩
  exact .inl ⟨p,C,dx,fs,h5,h,i,a⟩
end
section
variable {P:Program}{w:World}{K:Fg06}{mg:Str->Option Value}{base:Heap}{f:Addr}{fd:FuncData}{c:fo}
inductive kh (K:Fg06) (c:fo) (vs:List V) (H:Hp) (Q:VK) (E:XK):Prop
 | mk wp ps os gv ln lf o p:vs=[.ref wp.W,.ref p]->dc K c H wp ps os gv ln lf->j5 K c H o p->p∉ps->((∀d,pH o=some d->d≠wp.g/\¬oK os d))->os.length<=1000->(∀r H',bw wp.l H H'->dc K c H' wp (ps++[p]) (os++[o]) gv ln lf->At K H' (aU os.length) r->Q r H')->kh K c vs H Q E
theorem Fe:aQ ["world","thing"] ["world","thing"] (aC CK):=gp
theorem Dy (g:Glb9 mg) (z:j6 K c) (F:fm K "added" "added" CK f fd):bK P w K mg base fq 1 f fd ["world","thing"] (kh K c):=by
 refine F.gB Fe fun UO A outer s H vs Q E hr h=>?_;obtain⟨wp,ps,os,gv,ln,lf,o,p,rfl,hw,hv,hp,hk,hl,q⟩:=h;refine⟨_,aa (bT (dQ Jb Jc Jd cf (L3.bR (pv 0)) (cy (pv 1))))
  (ah (aJ (ba (cq aj (aB jS (au az rfl g.dH bW (cy (L3.bR (pv 0)))) ag))))),?_⟩
 obtain⟨dx,h1⟩:=hw.wo;have h2:=hw.t;have h3:=hw.n;refine⟨_,rfl,wp.W,c.W,dx,_,_,rfl,h1,z.wc,z.w3,jk ..,.inl ⟨rfl,_,aS.of h2⟩,_,rfl,wp.l,_,.ref p,rfl,rfl,h2,bZ (by rw[IC];omega),?_⟩;have Rp:=hw.add hp hv hk;have hb:bw wp.l H (U1 H wp.l (.lst (ps.map V.ref++[.ref p]))):=bw.put H _;have T9:U1 H wp.l (.lst (ps.map V.ref++[.ref p])) wp.l=some (.lst (ps.map V.ref++[.ref p])):=ae;generalize U1 H wp.l (.lst (ps.map V.ref++[.ref p]))=H1 at Rp hb T9 ⊢;obtain⟨La,R0⟩:=Rp.wo;refine⟨_,rfl,wp.W,c.W,La,_,_,rfl,R0,z.wc,z.w3,jk ..,wp.l,_,rfl,.inl (aS.of T9),_,_,rfl,rfl,?_⟩;refine⟨jC,fun t ht=>?_⟩;have s1:ak H1 (U1 H1 t (.tup [.str "thing",.int (((ps.map V.ref++[V.ref p]).length:Nat) - 1)])):=ab ht _;refine q _ _ (hb.trans (ak.but wp.l s1)) (Rp.same s1) (At.new ht (ck (aH.mpr rfl) (bG.mpr (Vj V.int ?_))));rw[Iu,Jl,IC,h3];omega
inductive jN (K:Fg06) (c:fo) (vs:List V) (H:Hp) (Q:VK) (E:XK):Prop
 | mk wp ps os gv ln lf x d:vs=[.ref wp.W,x]->dc K c H wp ps os gv ln lf->At K H d x->Vd os d->(∀v,TV K c H ps os d v->Q v H)->jN K c vs H Q E
theorem Hf:aQ ["world","a"] ["world","a"] (aC HD):=gp
theorem FE (z:j6 K c) (F:fm K "thing_of" "thing_of" HD f fd):bK P w K mg base fq 1 f fd ["world","a"] (jN K c):=by
 refine F.gB Hf fun UO A outer s H vs Q E hr h=>?_;obtain⟨wp,ps,os,gv,ln,lf,x,d,rfl,hw,hx,⟨⟨k,r,rfl,hv⟩,_⟩,q⟩:=h;refine⟨_,ah (aJ (bC (fR cP (cF (pv 1)) aj) (cV K (L3.bR (pv 0)) (cF (pv 1))) cE)),?_⟩;obtain⟨dx,h1⟩:=hw.wo;refine⟨_,rfl,0,_,_,rfl,hx,rfl,fun yk Lh=>?_⟩;rw[aH.mp Lh];refine⟨rfl,_,rfl,?_⟩;rw[Ia];by_cases hk:k="thing"
 ·obtain⟨i,rfl,hi⟩:=hv hk;subst hk;rw[Iw rfl];obtain⟨p,ep,hp⟩:=hw.at (Iy hi);refine cC ⟨_,rfl,wp.W,c.W,dx,_,_,rfl,h1,z.wc,z.w3,jk ..,_,rfl,1,_,_,rfl,hx,rfl,fun yi hyi=>?_⟩;rw[bG.mp hyi];refine⟨wp.l,_,i,.ref p,rfl,rfl,aS.of hw.t,aw (by rw[IJ,ep];rfl),q _ (.inr ⟨i,p,_,rfl,?_,ep,Iy hi,rfl,hp⟩)⟩;exact(bI os i).trans (Iy hi)
 ·rw[Iv hk];exact bu (q _ (.inl ⟨jL os r hk,rfl⟩))
inductive vC (K:Fg06) (c:fo) (vs:List V) (H:Hp) (Q:VK) (E:XK):Prop
 | mk wp ps os gv ln lf n:vs=[.ref wp.W,.str n]->dc K c H wp ps os gv ln lf->(((∃i,(n,i)∈gv/\∀v,At K H (aU i) v->Q v H)\/((∀i,(n,i)∉gv)/\Q .bb H)))->vC K c vs H Q E
theorem Hh:aQ ["world","name"] ["world","name"] (aC HF):=gp
theorem FN (z:j6 K c) (F:fm K "known" "known" HF f fd):bK P w K mg base fq 1 f fd ["world","name"] (vC K c):=by
 refine F.gB Hh fun UO A outer s H vs Q E hr h=>?_;obtain⟨wp,ps,os,gv,ln,lf,n,rfl,hw,q⟩:=h;refine⟨_,ah (aJ (.mk (L2.qX (fI hr) (LE.out (L3.bR (pv 0))) (LE.out (pv 1)) ⟨rfl,rfl,rfl,rfl⟩))),?_⟩;obtain⟨dx,h1⟩:=hw.wo;obtain⟨UM,hk,_,hv,JT⟩:=hw.v;refine⟨_,rfl,wp.W,c.W,dx,_,_,rfl,h1,z.wc,z.w4,j9 ..,wp.g,rfl,.inl ⟨UM,.inl hk⟩,_,rfl,_,gM.k (k:=.inr n) hk,?_⟩;rcases q with ⟨i,hn,q⟩ | ⟨hn,q⟩
 ·obtain⟨v,e,hA⟩:=hv n i hn;rw[e];exact q v hA
 ·rw[JT n hn];exact q
inductive zT (K:Fg06) (c:fo) (f g m k o r v:Bool) (vs:List V) (H:Hp) (Q:VK) (E:XK):Prop
 | mk wp ps os gv ln lf x d:vs=[.ref wp.W,x]->dc K c H wp ps os gv ln lf->At K H d x->Vd os d->Q (.bl (so f g m k o r v (iB os d))) H->zT K c f g m k o r v vs H Q E
theorem E3:aQ ["world","a"] ["world","a"] (aC Cw):=gp
theorem Df (g:Glb9 mg) (z:j6 K c) (hK:mg "Kind"=some (.ref c.Kd)) (F:fm K "is_class" "is_class" Cw f fd) (dT:Def P w K mg base "thing_of" ["world","a"] 1 (jN K c)):bK P w K mg base fq 2 f fd ["world","a"] (zT K c false false false true false false false):=by
 refine F.gB E3 fun UO A outer s H vs Q E hr h=>?_;obtain⟨wp,ps,os,gv,ln,lf,x,d,rfl,hw,hx,hv,q⟩:=h;refine⟨_,ah (aJ (au cD rfl g.hJ fW (cq (cM dT (cq (pv 0) (pv 1))) (bA (v:=.ref c.Kd) rfl hK rfl)))),?_⟩;exact⟨_,rfl,_,rfl,wp,ps,os,gv,ln,lf,x,d,rfl,hw,hx,hv,fun v t=>⟨_,c.Kd,_,rfl,t.is z z.tK,q⟩⟩
abbrev CB:Stmt:=cB 16
abbrev HE:Stmt:=cB 17
abbrev Ct:Stmt:=cB 18
abbrev Cv:Stmt:=cB 20
abbrev Cr:Stmt:=cB 21
abbrev HC:Stmt:=cB 22
abbrev CA:Stmt:=cB 23
theorem tS:bootBuiltins "dict"=some (.type "dict"):=by decide +kernel
theorem sQ {X k}(hr:cZ k X.A):ie X (compareOp .In) (Fs X false):=by
 intro UL s σ H x y v u Q I rx ry h;obtain⟨d,ds,hx,hy,hd,q⟩:=h;obtain⟨p,xs,rfl,hq,ha⟩:=bf.mp hy;cases ry;obtain⟨UN,r,pl,hz⟩:=I.tuple hq;obtain⟨f,f1,f2⟩:=yH I rx hx ha r X.A.in1 (fun e he=>by have:=hr.units;have:=hd e he;show X.A.units+1+_ < _;omega);refine SeqAt.in_tupleAt f pl (fun w hw=>f1 w (by simpa using hw)) ⟨.bl _,H,I,rfl,?_⟩;rw[show UN.toArray.any f=UN.any f by simp,f2];exact q
def Cb:List V->Hp->VK->Prop:=fun xs H Q=>∃p UM,xs=[.ref p]/\H p=some (.dK UM)/\∀l,H l=none->Q (.ref l) (U1 H l (.dK UM))
theorem oi {X}:gf X (.type "dict") Cb:=by
 intro UL s σ H xs us Q I r h;obtain⟨p,UM,rfl,hp,q⟩:=h;obtain⟨u,rfl,ru⟩:=vals1 r;cases ru;obtain⟨hz,hs,vs,Mt,hd⟩:=(show dY X.prog X.w H s.heap p (.dK UM) from I.cA p _ hp);have hl:UM.length=vs.length:=Mt.length;refine kt_call_dict hs hd (by omega) fun h' JS KD=>?_;have keep:∀b o,s.heap.get? b=some o->h'.get? b=some o:=fun b o e=>(KD.2 b (Jk (Jj e))).trans (IM _ e);refine⟨.ref s.heap.objs.size,_,I.laid (t':=s.toks) (o:=.dK UM) keep (IE _) ⟨hz,?_,vs,Mt,JS⟩,rfl,q _ (I.cA.fresh (IE _))⟩;exact beq_false_of_ne (Nat.ne_of_gt I.big)
theorem gR {H1 C x dx}(hx:H1 x=none) (hd:H1 dx=none) (JK:dx≠x):ak H1 (U1 (U1 H1 dx (.own x)) x (.ins C dx []))/\U1 (U1 H1 dx (.own x)) x (.ins C dx []) x=some (.ins C dx []):=by
 refine⟨(ab hd _).trans (ab ?_ _),ae⟩;rw[aD (U8 JK)];exact hx
theorem none_of {H H' p}(s:ak H H') (h:H' p=none):H p=none:=by
 cases e:H p with
 | none=>rfl
 | some o=>rw[s _ _ e] at h;cases h
theorem cS {X e t t'}(h:LE X e t) (hi:∀σ H Q,t' σ H Q->t σ H Q):LE X e t':=.mk fun UL s σ H Q I q=>h.out UL s σ H Q I (hi σ H Q q)
theorem qu (i j):cm (aU i) (aU j)=decide (i=j):=by
 by_cases h:i=j
 ·rw[h,cI,Iw rfl]
 ·rw[Iv h];unfold aU;simp only[cm,fX];simp;omega
def TreeG (K:Fg06) (mg:Str->Option Value) (x:Str) (ds:List D):Prop:=∃p vs,mg x=some (.ref p)/\∀H,gq K H p vs/\aE K H ds vs
def oH:Option Th->Bool
 | some (.kd _ ns _ _)=>decide (9∈ns)
 | _=>false
theorem rF (a b c d e g):(GV a b c d e g).lookup ("name":Str)=some a:=rfl
theorem tE (a b c d e g):(GV a b c d e g).lookup ("params":Str)=some b:=rfl
theorem iq (a b c d e g):(GV a b c d e g).lookup ("defaults":Str)=some c:=rfl
theorem nH (a b):(HR a b).lookup ("target":Str)=some a:=rfl
theorem vW (a b):(HR a b).lookup ("owner":Str)=some b:=rfl
theorem yX (nm fr):(grF nm fr).lookup ("name":Str)=some (.str nm):=rfl
theorem wV (a b):(GJ a b).lookup ("kind":Str)=some a:=rfl
theorem oN (a b):(GJ a b).lookup ("owner":Str)=some b:=rfl
theorem wb (a b c d):(F7 a b c d).lookup ("is_given":Str)=some d:=rfl
def G1 (c:fo) (wp:Wp) (H H':Hp):Prop:=∀p o,H p=some o->p≠wp.l->p≠wp.n->p≠wp.f->(∀dx fs,o≠.ins c.Gr dx fs)->H' p=some o
theorem bw.chg {c wp H H'}(s:bw wp.l H H'):G1 c wp H H':=fun p o e h _ _ _=>s p o h e
theorem G1.fx {K c wp H H' ps os gv ln lf}(h:dc K c H wp ps os gv ln lf) (s:G1 c wp H H'):Fx H H':=fun p o e z=>s p o e (fun y=>by rw[y,h.t] at e;cases e;cases z) (fun y=>by rw[y,h.hn] at e;cases e;cases z) (fun y=>by rw[y,h.hf] at e;cases e;cases z) (fun dx fs y=>by rw[y] at z;cases z)
def Gh:List (Str×D):=[("word",jA),("cause",jA),("context",jA)]
def iZ (b:Bool):List (Str×D):=if b then Gh else []
def fldN:List Str:=["word","cause","context"]
def fK (a b e:V):List (Key×V):=[(.inr "word",a),(.inr "cause",b),(.inr "context",e)]
theorem fz.nil {K H d}(e:H d=some (.dK [])):fz K H d []:=⟨[],e,Je _,fun n=>.inl ⟨rfl,rfl⟩⟩
theorem dk {α}(n m:Str) (x:α) (r:List (Str×α)):((m,x)::r).lookup n=if m=n then some x else r.lookup n:=by
 rw[List.lookup_cons];by_cases h:m=n
 ·rw[II h,h,beq_self_eq_true]
 ·rw[IH h,beq_false_of_ne (U8 h)]
theorem fU (n m v r):fG ((.inr m,v)::r) (.inr n:Key)=if m=n then some v else fG r (.inr n:Key):=by
 by_cases h:m=n
 ·rw[II h,d8 (p:=((.inr m:Key),v)) (by show(Sum.inr m:Key)=_;rw[h])]
 ·rw[IH h,cX (p:=((.inr m:Key),v)) (fun z=>h (Sum.inr.inj z))]
theorem fz.three {K:Fg06}{H:Hp}{d:Addr}{a b e:V}(h:H d=some (.dK (fK a b e))) (h1:At K H jA a) (h2:At K H jA b) (h3:At K H jA e):fz K H d Gh:=by
 refine⟨_,h,IE 3,fun n=>?_⟩;unfold Gh fK;rw[dk,dk,dk,fU,fU,fU];by_cases e1:"word"=n
 ·exact .inr ⟨jA,a,by rw[II e1],by rw[II e1],h1⟩
 by_cases e2:"cause"=n
 ·exact .inr ⟨jA,b,by rw[IH e1,II e2],by rw[IH e1,II e2],h2⟩
 by_cases e3:"context"=n
 ·exact .inr ⟨jA,e,by rw[IH e1,IH e2,II e3],by rw[IH e1,IH e2,II e3],h3⟩
 exact .inl ⟨by rw[IH e1,IH e2,IH e3];rfl,by rw[IH e1,IH e2,IH e3];rfl⟩
theorem fz.put {K:Fg06}{H:Hp}{d:Addr}{fs:List (Str×D)}(h:fz K H d fs){n:Str}{dd:D}{v:V}(hv:At K H dd v):∃UM,H d=some (.dK UM)/\UM.length<=fs.length/\fz K (U1 H d (.dK (U3 UM (.inr n:Key) v))) d ((n,dd)::fs):=by
 obtain⟨UM,h1,h2,h3⟩:=h;have f:Fx H (U1 H d (.dK (U3 UM (.inr n:Key) v))):=Fx.put h1 rfl;refine⟨UM,h1,h2,_,ae,?_,fun m=>?_⟩
 ·have:=gC UM (.inr n:Key) v;rw[IT];omega
 ·rw[dk,ka];by_cases e:n=m
  ·rw[II e,II (by rw[e])];exact .inr ⟨_,_,rfl,rfl,At.fx f _ _ hv⟩
  ·rw[IH e,IH (fun z=>e (Sum.inr.inj z).symm)];exact(h3 m).imp id fun⟨dd,v,a,b,c⟩=>⟨dd,v,a,b,At.fx f _ _ c⟩
inductive uo (K:Fg06) (c:fo) (vs:List V) (H:Hp) (Q:VK) (E:XK):Prop
 | mk wp ps os gv ln lf nm v2 d ns fs:vs=[.ref wp.W,.str nm,v2,.ref d,.bl (decide (os.length < 20))]->dc K c H wp ps os gv ln lf->os.length<=1000->eh K H (ns.map aU) v2->ns.length<=1000->fz K H d fs->(∀r H' p d',H d'=none->bw wp.l H H'->dc K c H' wp (ps++[p]) (os++[.kd nm (os.length::ns) d' fs]) gv ln lf->At K H' (aU os.length) r->Q r H')->uo K c vs H Q E
inductive Ey (K:Fg06) (σ:L2.St) (H:Hp) (Q:VK):Prop
 | mk x5 x2 d ds:σ[5]?=some (some x5)->σ[2]?=some (some x2)->At K H d x5->eh K H ds x2->ds.length<=1000->(∀v H',ak H H'->At K H' (.tup (d::ds)) v->tW H' v->Q v H')->Ey K σ H Q
theorem Bb:aQ ["world","name","behind","fields","is_given","own"] ["world","name","behind","fields","is_given"] (aC Ct):=gp
theorem C5 (g:Glb9 mg) (z:j6 K c) (M:jI P w K mg base "Kind" c.Kd ["self","name","order","fields","is_given"] 1 (xB c.Kd)) (F:fm K "new_class" "new_class" Ct f fd) (dA:Def P w K mg base "added" ["world","thing"] 1 (kh K c)):bK P w K mg base fq 3 f fd ["world","name","behind","fields","is_given"] (uo K c):=by
 refine F.gB Bb fun UO A outer s H vs Q E hr h=>?_;obtain⟨wp,ps,os,gv,ln,lf,nm,v2,d,ns,fs,rfl,hw,hl,hb,hn,⟨UM,hd,Pj,JU⟩,q⟩:=h;refine⟨_,aa (eG 5 Bb.nd (ba (cq aj (au az rfl g.dH bW (cy (L3.bR (pv 0)))))))
  (ah (aJ (cM dA (cq (pv 0) (L3.lS M hr (by decide) rfl (mi (pv 1) (cS (t':=Ey K) (aB Al (L3.qc (cy (pv 5))) (bE jE rfl g.qh mI (cy (pv 2)))) ?cat) (bE oi rfl g.yD tS (cy (pv 3))) (pv 4))))))),?main⟩
 case cat=>
  rintro σ H Q ⟨x5,x2,d,ds,e5,e2,h5,Kt,hl,q⟩;refine⟨x5,e5,pY,fun p o hp ho=>?_⟩;have s1:ak H (U1 H p (.mD o (.tup [x5]))):=ab hp _;have a1:At K (U1 H p (.mD o (.tup [x5]))) (.tup [d]) (.ref p):=At.DB hp (aE.mj h5);have p1:tW (U1 H p (.mD o (.tup [x5]))) (.ref p):=⟨p,o,_,rfl,ae,ho⟩;generalize U1 H p (.mD o (.tup [x5]))=H1 at s1 a1 p1 ⊢;obtain⟨pb,vb,rfl,hq,hA⟩:=Kt;have lb:=hA.len;have fin:∀b H2,ak H1 H2->gq K H2 b vb->Bg K (.ref p) (.ref b) H2 Q:=fun b H2 s2 hb=>
   ⟨[d],ds,At.same s2 _ _ a1,p1.same s2,bf.mpr ⟨b,vb,rfl,hb,aE.same (s1.trans s2) _ _ hA⟩,by simp,small (by rw[Jl];omega),fun r H' s' a' p'=>q r H' ((s1.trans s2).trans s') a' p'⟩
  refine⟨_,e2,pb,vb,rfl,?_⟩;rcases hq with hq | hq
  ·exact .inl ⟨s1.seq hq,fun b hb=>fin b _ (ab hb _) (gq.of ae)⟩
  ·exact .inr ⟨ak.oE s1 hq,fin pb H1 (ak.refl _) (ak.oE s1 hq)⟩
 case main=>
  obtain⟨dx,h1⟩:=hw.wo;have h2:=hw.t;have h3:(ps.map V.ref).length=os.length:=by rw[IC];exact hw.n
  refine⟨_,rfl,wp.W,c.W,dx,_,_,rfl,h1,z.wc,z.w3,jk ..,wp.l,_,rfl,.inl (aS.of h2),jC,fun p hp=>?_⟩;have s1:ak H (U1 H p (.tup [.str "thing",.int ((ps.map V.ref).length:Nat)])):=ab hp _;have a1:At K (U1 H p (.tup [.str "thing",.int ((ps.map V.ref).length:Nat)])) (aU os.length) (.ref p):=At.new hp (ck (aH.mpr rfl) (bG.mpr (by rw[h3])));revert s1 a1;generalize U1 H p (.tup [.str "thing",.int ((ps.map V.ref).length:Nat)])=H1;intro s1 a1;refine⟨_,rfl,_,rfl,_,_,aU os.length,ns.map aU,rfl,rfl,a1,hb.same s1,by rw[IC];exact hn,fun vo H2 s2 KS JC=>?_⟩;have Jv:=s1.trans s2;refine⟨_,rfl,d,UM,rfl,Jv _ _ hd,fun dn Og=>?_⟩;have s3:ak H2 (U1 H2 dn (.dK UM)):=ab Og _;have n3:U1 H2 dn (.dK UM) dn=some (.dK UM):=ae;have Nz:H dn=none:=none_of Jv Og;generalize U1 H2 dn (.dK UM)=H3 at s3 n3 ⊢;have JG:=Jv.trans s3;refine⟨_,rfl,fun x La hx Lq JK=>?_⟩;obtain⟨s4,c4⟩:=gR (C:=c.Kd) hx Lq JK;generalize U1 (U1 H3 La (.own x)) x (.ins c.Kd La [])=H4 at s4 c4 ⊢;refine⟨x,La,.str nm,vo,.ref dn,_,rfl,c4,fun H5 hB hx5=>⟨rfl,?_⟩⟩;have s5:ak H3 H5:=fun p o e=>by
   rw[hB p (cv e hx)];exact s4 _ _ e
  have KR:=JG.trans s5;refine⟨wp,ps,os,gv,ln,lf,.kd nm (os.length::ns) dn fs,x,rfl,hw.same KR,⟨La,vo,hx5,At.same (s3.trans s5) _ _ KS,⟨UM,s5 _ _ n3,Pj,fun n=>(JU n).imp id fun⟨dd,v,a,b,c⟩=>⟨dd,v,a,b,At.same KR _ _ c⟩⟩,JC.same (s3.trans s5)⟩,(hw.same JG).fresh hx,fun d' e=>?_,hl,fun r H6 b6 w6 a6=>q r H6 x dn Nz ((ak.but wp.l KR).trans b6) w6 a6⟩;cases e;exact⟨fun y=>(by obtain⟨kv,e,_⟩:=hw.v;rw[<-y,Nz] at e;cases e),hw.freshD Nz⟩
inductive uq (K:Fg06) (c:fo) (vs:List V) (H:Hp) (Q:VK) (E:XK):Prop
 | mk wp ps os gv ln lf nm np df v3 v4 v5 v6:vs=[.ref wp.W,.str nm,.int (np:Nat),v3,v4,v5,v6]->dc K c H wp ps os gv ln lf->os.length<=1000->At K H (.tup df) v3->(∀r H' p,bw wp.l H H'->dc K c H' wp (ps++[p]) (os++[.fn ⟨nm,np,df,v4,v5,v6⟩]) gv ln lf->At K H' (aU os.length) r->Q r H')->uq K c vs H Q E
theorem E8:aQ ["world","name","params","defaults","code","around","gives"] ["world","name","params","defaults","code","around","gives"] (aC CB):=gp
theorem Dk (M:jI P w K mg base "Function" c.F ["self","name","params","defaults","code","around","gives"] 1 (xH c.F)) (F:fm K "function" "function" CB f fd) (dA:Def P w K mg base "added" ["world","thing"] 1 (kh K c)):bK P w K mg base fq 3 f fd ["world","name","params","defaults","code","around","gives"] (uq K c):=by
 refine F.gB E8 fun UO A outer s H vs Q E hr h=>?_;obtain⟨wp,ps,os,gv,ln,lf,nm,np,df,v3,v4,v5,v6,rfl,hw,hl,KZ,q⟩:=h;refine⟨_,ah (aJ (cM dA (cq (pv 0) (L3.lS M hr (by decide) rfl (aI (pv 1) (aI (pv 2) (mi (pv 3) (pv 4) (pv 5) (pv 6)))))))),?_⟩;refine⟨_,rfl,_,rfl,_,rfl,_,rfl,_,rfl,_,rfl,_,rfl,fun x dx hx Lq JK=>?_⟩;obtain⟨s1,c1⟩:=gR (C:=c.F) hx Lq JK;generalize U1 (U1 H dx (.own x)) x (.ins c.F dx [])=H1 at s1 c1 ⊢;refine⟨x,dx,_,_,v3,v4,v5,v6,rfl,c1,fun H2 hB LX=>⟨rfl,?_⟩⟩;have s2:ak H H2:=fun p o e=>by
  rw[hB p (cv e hx)];exact s1 _ _ e
 exact⟨wp,ps,os,gv,ln,lf,.fn ⟨nm,np,df,v4,v5,v6⟩,x,rfl,hw.same s2,⟨dx,v3,LX,At.same s2 _ _ KZ⟩,hw.fresh hx,fun k e=>(nomatch e),hl,fun r H3 b3 w3 a3=>q r H3 x ((ak.but wp.l s2).trans b3) w3 a3⟩
inductive BO (K:Fg06) (c:fo) (vs:List V) (H:Hp) (Q:VK) (E:XK):Prop
 | mk wp ps os gv ln lf v1 v2 k o:vs=[.ref wp.W,v1,v2]->dc K c H wp ps os gv ln lf->os.length<=1000->At K H (aU k) v1->At K H (aU o) v2->(∀r H' p,bw wp.l H H'->dc K c H' wp (ps++[p]) (os++[.vw k o]) gv ln lf->At K H' (aU os.length) r->Q r H')->BO K c vs H Q E
theorem He:aQ ["world","kind","owner"] ["world","kind","owner"] (aC HC):=gp
theorem FD (M:jI P w K mg base "View" c.Vw ["self","kind","owner"] 1 (xi c.Vw)) (F:fm K "new_view" "new_view" HC f fd) (dA:Def P w K mg base "added" ["world","thing"] 1 (kh K c)):bK P w K mg base fq 3 f fd ["world","kind","owner"] (BO K c):=by
 refine F.gB He fun UO A outer s H vs Q E hr h=>?_;obtain⟨wp,ps,os,gv,ln,lf,v1,v2,k,o,rfl,hw,hl,h1,h2,q⟩:=h;refine⟨_,ah (aJ (cM dA (cq (pv 0) (L3.lS M hr (by decide) rfl (cq (pv 1) (pv 2)))))),?_⟩;refine⟨_,rfl,_,rfl,_,rfl,fun x dx hx Lq JK=>?_⟩;obtain⟨s1,c1⟩:=gR (C:=c.Vw) hx Lq JK;generalize U1 (U1 H dx (.own x)) x (.ins c.Vw dx [])=H1 at s1 c1 ⊢;refine⟨x,dx,v1,v2,rfl,c1,fun H2 hB LX=>⟨rfl,?_⟩⟩;have s2:ak H H2:=fun p o e=>by
  rw[hB p (cv e hx)];exact s1 _ _ e
 exact⟨wp,ps,os,gv,ln,lf,.vw k o,x,rfl,hw.same s2,⟨dx,v1,v2,LX,At.same s2 _ _ h1,At.same s2 _ _ h2⟩,hw.fresh hx,fun k e=>(nomatch e),hl,fun r H3 b3 w3 a3=>q r H3 x ((ak.but wp.l s2).trans b3) w3 a3⟩
inductive BP (K:Fg06) (c:fo) (vs:List V) (H:Hp) (Q:VK) (E:XK):Prop
 | mk wp ps os gv ln lf v1 v2 t o:vs=[.ref wp.W,v1,v2]->dc K c H wp ps os gv ln lf->os.length<=1000->At K H (aU t) v1->At K H (aU o) v2->(∀r H' p,bw wp.l H H'->dc K c H' wp (ps++[p]) (os++[.mt t o]) gv ln lf->At K H' (aU os.length) r->Q r H')->BP K c vs H Q E
theorem Hg:aQ ["world","target","owner"] ["world","target","owner"] (aC HE):=gp
theorem FI (M:jI P w K mg base "Method" c.M ["self","target","owner"] 1 (xv c.M)) (F:fm K "new_method" "new_method" HE f fd) (dA:Def P w K mg base "added" ["world","thing"] 1 (kh K c)):bK P w K mg base fq 3 f fd ["world","target","owner"] (BP K c):=by
 refine F.gB Hg fun UO A outer s H vs Q E hr h=>?_;obtain⟨wp,ps,os,gv,ln,lf,v1,v2,t,o,rfl,hw,hl,ht,ho,q⟩:=h;refine⟨_,ah (aJ (cM dA (cq (pv 0) (L3.lS M hr (by decide) rfl (cq (pv 1) (pv 2)))))),?_⟩;refine⟨_,rfl,_,rfl,_,rfl,fun x dx hx Lq JK=>?_⟩;obtain⟨s1,c1⟩:=gR (C:=c.M) hx Lq JK;generalize U1 (U1 H dx (.own x)) x (.ins c.M dx [])=H1 at s1 c1 ⊢;refine⟨x,dx,v1,v2,rfl,c1,fun H2 hB LX=>⟨rfl,?_⟩⟩;have s2:ak H H2:=fun p o e=>by
  rw[hB p (cv e hx)];exact s1 _ _ e
 exact⟨wp,ps,os,gv,ln,lf,.mt t o,x,rfl,hw.same s2,⟨dx,v1,v2,LX,At.same s2 _ _ ht,At.same s2 _ _ ho⟩,hw.fresh hx,fun k e=>(nomatch e),hl,fun r H3 b3 w3 a3=>q r H3 x ((ak.but wp.l s2).trans b3) w3 a3⟩
inductive xF (K:Fg06) (c:fo) (vs:List V) (H:Hp) (Q:VK) (E:XK):Prop
 | mk wp ps os gv ln lf nm fr:vs=[.ref wp.W,.str nm,fr]->dc K c H wp ps os gv ln lf->os.length<=1000->(∀r H' p,bw wp.l H H'->dc K c H' wp (ps++[p]) (os++[.gr nm fr]) gv ln lf->At K H' (aU os.length) r->Q r H')->xF K c vs H Q E
theorem E7:aQ ["world","name","frame"] ["world","name","frame"] (aC CA):=gp
theorem Dj (M:jI P w K mg base "Giver" c.Gr ["self","name","frame","many"] 1 (xE c.Gr)) (F:fm K "giver" "giver" CA f fd) (dA:Def P w K mg base "added" ["world","thing"] 1 (kh K c)):bK P w K mg base fq 3 f fd ["world","name","frame"] (xF K c):=by
 refine F.gB E7 fun UO A outer s H vs Q E hr h=>?_;obtain⟨wp,ps,os,gv,ln,lf,nm,fr,rfl,hw,hl,q⟩:=h;refine⟨_,ah (aJ (cM dA (cq (pv 0) (L3.lS M hr (by decide) rfl (kN (pv 1) (pv 2) ag))))),?_⟩;refine⟨_,rfl,_,rfl,_,rfl,fun x dx hx Lq JK=>?_⟩;obtain⟨s1,c1⟩:=gR (C:=c.Gr) hx Lq JK;generalize U1 (U1 H dx (.own x)) x (.ins c.Gr dx [])=H1 at s1 c1 ⊢;refine⟨x,dx,_,_,_,rfl,c1,fun H2 hB LX=>⟨rfl,?_⟩⟩;have s2:ak H H2:=fun p o e=>by
  rw[hB p (cv e hx)];exact s1 _ _ e
 exact⟨wp,ps,os,gv,ln,lf,.gr nm fr,x,rfl,hw.same s2,⟨dx,LX⟩,hw.fresh hx,fun k e=>(nomatch e),hl,fun r H3 b3 w3 a3=>q r H3 x ((ak.but wp.l s2).trans b3) w3 a3⟩
inductive zU (K:Fg06) (c:fo) (vs:List V) (H:Hp) (Q:VK) (E:XK):Prop
 | mk wp ps os gv ln lf x d:vs=[.ref wp.W,x]->dc K c H wp ps os gv ln lf->At K H d x->Vd os d->((("Fault":Str),9):Str×Nat)∈gv->Q (.bl (oH (iB os d))) H->zU K c vs H Q E
theorem Hj:aQ ["world","a"] ["world","a"] (aC Cv):=gp
theorem sk (n):∀ns:List Nat,((ns.map aU).any fun e=>cm e (aU n))=decide (n∈ns)
 | []=>by simp
 | m::ns=>by
  rw[Va,List.any_cons,sk n ns,qu,Bool.eq_iff_iff];simp only[Bool.or_eq_true,decide_eq_true_eq,List.mem_cons];exact⟨fun h=>h.imp Eq.symm id,fun h=>h.imp Eq.symm id⟩
theorem FT (z:j6 K c) (F:fm K "is_fault_class" "is_fault_class" Cv f fd) (dC:Def P w K mg base "is_class" ["world","a"] 2 (zT K c false false false true false false false)) (dK:Def P w K mg base "known" ["world","name"] 1 (vC K c)) (dT:Def P w K mg base "thing_of" ["world","a"] 1 (jN K c)):bK P w K mg base fq 3 f fd ["world","a"] (zU K c):=by
 refine F.gB Hj fun UO A outer s H vs Q E hr h=>?_;obtain⟨wp,ps,os,gv,ln,lf,x,d,rfl,hw,hx,hv,hg,q⟩:=h;refine⟨_,ah (aJ (fh (cM dC (cq (pv 0) (pv 1))) (d9 (fu (sQ hr) (cM dK (cq (pv 0) aj)) (L3.bR (cM dT (cq (pv 0) (pv 1)))) rfl)))),?_⟩;refine⟨_,rfl,_,rfl,wp,ps,os,gv,ln,lf,x,d,rfl,hw,hx,hv,_,rfl,?_⟩;have nk:so false false false true false false false (iB os d)=false->oH (iB os d)=false:=fun e=>by
  cases ho:iB os d with
  | none=>rfl
  | some o=>rw[ho] at e;cases o<;>first | rfl | cases e
 refine bJ (fun e=>?_) (fun e=>by rw[nk e] at q;exact q);refine⟨_,rfl,wp,ps,os,gv,ln,lf,"Fault",rfl,hw,.inl ⟨9,hg,fun vf hvf=>?_⟩⟩;refine⟨_,rfl,_,rfl,wp,ps,os,gv,ln,lf,x,d,rfl,hw,hx,hv,fun v t=>?_⟩;rcases t with ⟨h0,_⟩ | ⟨i,p,o,h1,h2,h3,h4,rfl,h6⟩
 ·rw[h0] at e;cases e
 rw[h2] at e q;cases o with
 | kd nm ns dd fs=>
  obtain⟨dx,vo,hp,ha,_⟩:=h6;refine⟨p,c.Kd,dx,_,_,rfl,hp,z.kc,z.k2,jr ..,aU 9,ns.map aU,hvf,ha,fun e he=>?_,?_⟩
  ·obtain⟨n,_,rfl⟩:=Jq.mp he;rw[jg];decide
  ·rw[IH IP,sk];exact q
 | _=>cases e
inductive xr (K:Fg06) (c:fo) (vs:List V) (H:Hp) (Q:VK) (E:XK):Prop
 | mk wp ps os gv ln lf x k:vs=[.ref wp.W,x]->dc K c H wp ps os gv ln lf->At K H (aU k) x->k < os.length->((("Fault":Str),9):Str×Nat)∈gv->os.length<=1000->(∀r H' p d,H d=none->bw wp.l H H'->dc K c H' wp (ps++[p]) (os++[.ob k d (iZ (oH os[k]?))]) gv ln lf->At K H' (aU os.length) r->Q r H')->xr K c vs H Q E
inductive sNm (K:Fg06) (c:fo) (D0:U4) (σ:L2.St) (H:Hp):Prop
 | mk wp ps os gv ln lf x k:σ=[some (.ref wp.W),some x,none]->dc K c H wp ps os gv ln lf->At K H (aU k) x->k < os.length->((("Fault":Str),9):Str×Nat)∈gv->(∀H1 pF vF,ak H H1->gq K H1 pF vF->aE K H1 ((if oH os[k]? then fldN else []).map D.str) vF->D0.nx [some (.ref wp.W),some x,some (.ref pF)] H1)->sNm K c D0 σ H
theorem Ba:aQ ["world","kind","names"] ["world","kind"] (aC Cr):=gp
theorem C2 (g:Glb9 mg) (z:j6 K c) (tN:TreeG K mg "NONE" [.str "none"]) (tF:TreeG K mg "FAULT_FIELDS" (fldN.map D.str)) (M:jI P w K mg base "Object" c.O ["self","kind","fields"] 1 (xt c.O)) (F:fm K "new_object" "new_object" Cr f fd) (dFC:Def P w K mg base "is_fault_class" ["world","a"] 3 (zU K c)) (dA:Def P w K mg base "added" ["world","thing"] 1 (kh K c)):bK P w K mg base fq 4 f fd ["world","kind"] (xr K c):=by
 refine F.gB Ba fun UO A outer s H vs Q E hr h=>?_;obtain⟨wp,ps,os,gv,ln,lf,x,k,rfl,hw,hx,hk,hg,hl,q⟩:=h;obtain⟨pN,vN,mN,aN⟩:=tN;obtain⟨pF,vF,mF,aF⟩:=tF;refine⟨_,aa (gs (t':=sNm K c) (eG 2 Ba.nd (bC (bS (cM dFC (cq (pv 0) (pv 1)))) (bA (v:=.ref pF) rfl mF rfl) (ba bc))) ?nm)
  (ah (aJ (cM dA (cq (pv 0) (L3.lS M hr (by decide) rfl (cq (pv 1) (bE (tP rfl) rfl g.yD tS (cy (.mk (L2.cG (cl:=[]) (Xs:=["name"]) (Nf:=[]) (js:=[]) ?k rfl (LI.out (eI (pv 2))) (fun C s0 H0 fp=>LG.out (ip 0 (show(["name"]:List Str).Nodup by decide +kernel))) (fun C s0 H0 fp=>eY) (fun C s0 H0 fp=>LE.out (ba (cq (pv 0) (bA (v:=.ref pN) rfl mN rfl)))))))))))))),?main⟩
 case k=>exact Gq
 case nm=>
  rintro D0 σ H ⟨wp,ps,os,gv,ln,lf,x,k,rfl,hw,hx,hk,hg,q⟩;refine⟨_,rfl,_,rfl,wp,ps,os,gv,ln,lf,x,aU k,rfl,hw,hx,Vd.th hk,hg,_,rfl,?_⟩;rw[bI];cases hb:oH os[k]? with
  | true=>
   rw[hb] at q;exact cC (q H pF vF (ak.refl _) (aF H).1 (aF H).2)
  | false=>
   rw[hb] at q;exact bu ⟨Je _,fun p hp=>q _ p [] (ab hp _) (gq.of ae) (aZ.mpr rfl)⟩
 case main=>
  refine⟨wp,ps,os,gv,ln,lf,x,k,rfl,hw,hx,hk,hg,fun H1 pF vF s1 sqF aF=>?_⟩;generalize eN:(if oH os[k]?=true then fldN else [])=U0 at aF;have SQ:=aF.len;rw[IC] at SQ;have SN:U0.length<=3:=by rw[<-eN];split<;>decide
  refine⟨_,rfl,_,rfl,_,rfl,pF,rfl,⟨vF,sqF⟩,[],⟨rfl,fun j i h=>(by simp at h)⟩,bM (vs:=[]) (tc:=gN) vF.length (fun i=>vF.getD i .bb) (fun _=>true) (fun i v H'=>∃(tp:Addr) (u:V),v=.ref tp/\H' tp=some (.tup [.str (U0.getD i ""),u])/\At K H' jA u) (fun i v H' H'' s z=>by obtain⟨tp,u,e,h1,h2⟩:=z;exact⟨tp,u,e,s _ _ h1,At.same s _ _ h2⟩) (by omega) (hX sqF) (lJ sqF) (jt sqF) (fun i H4 Q' hi s4 k=>k H4 (ak.refl _)) (fun i H4 D l' Q' hi _ s4 hD K5 k=>?_) fun gl H5 ys Pm s5 h5 hP=>?_⟩
  ·have KN:i < U0.length:=by omega
   obtain⟨v',Kh,K9⟩:=aE.get (i:=i) aF (d:=.str (U0.getD i "")) (by
    rw[IJ,Iz,Iy KN];rfl)
   have ev:vF.getD i .bb=.str (U0.getD i ""):=by rw[Iz,Kh];exact aH.mp K9
   rw[ev];refine⟨_,rfl,jC,fun tp SX=>k _ _ (ab SX _) ⟨tp,.ref pN,rfl,?_,?_⟩⟩
   ·rw[oM (cv SX K5)];exact ae
   ·exact bf.mpr ⟨pN,vN,rfl,(aN _).1,(aN _).2⟩
  rw[U5.mpr (fun _ _=>rfl)] at hP;have TU:Pairs (fun i v=>∃(tp:Addr) (u:V),v=.ref tp/\H5 tp=some (.tup [.str (U0.getD i ""),u])/\At K H5 jA u) (List.range U0.length) ys:=by
   rw[<-SQ];refine hP.mono fun i v z=>?_;obtain⟨tp,u,e,h1,h2⟩:=z;exact⟨tp,u,e,eB H5 gl _ _ h1,At.same (eB H5 gl) _ _ h2⟩
  have dic:∃(qs:List Addr) (UM:List (Key×V)),ys=qs.map V.ref/\qs.length=UM.length/\UM.length<=3/\(∀(j:Nat) (a:Addr) (kv:Key×V),qs[j]?=some a->UM[j]?=some kv->H5 a=some (.tup [kV kv.1,kv.2]))/\∀(d:Addr) (H':Hp),ak H5 H'->H' d=some (.dK (dJ [] UM))->fz K H' d (iZ (oH os[k]?)):=by
   cases hb:oH os[k]? with
   | true=>
    rw[hb,II rfl] at eN;subst eN;have PV:Pairs (fun i v=>∃(tp:Addr) (u:V),v=.ref tp/\H5 tp=some (.tup [.str (fldN.getD i ""),u])/\At K H5 jA u) [0,1,2] ys:=TU;cases PV with | cons h0 h1=>
    cases h1 with | cons h1 h2=>
    cases h2 with | cons h2 h3=>
    cases h3;obtain⟨t0,u0,rfl,a0,b0⟩:=h0;obtain⟨t1,u1,rfl,a1,b1⟩:=h1;obtain⟨t2,u2,rfl,a2,b2⟩:=h2;refine⟨[t0,t1,t2],fK u0 u1 u2,rfl,rfl,IE 3,fun j a kv e1 e2=>?_,fun d H' s' e=>fz.three ?_ (At.same s' _ _ b0) (At.same s' _ _ b1) (At.same s' _ _ b2)⟩
    ·match j,e1,e2 with
     | 0,e1,e2=>cases e1;cases e2;exact a0
     | 1,e1,e2=>cases e1;cases e2;exact a1
     | 2,e1,e2=>cases e1;cases e2;exact a2
     | j+3,e1,e2=>cases e1
    ·rw[e];have:dJ [] (fK u0 u1 u2)=fK u0 u1 u2:=by
      show U3 (U3 (U3 [] (.inr "word":Key) u0) (.inr "cause":Key) u1) (.inr "context":Key) u2=_;rfl
     rw[this]
   | false=>
    rw[hb,IH IP] at eN;subst eN;have PV:Pairs (fun i v=>∃(tp:Addr) (u:V),v=.ref tp/\H5 tp=some (.tup [.str (([]:List Str).getD i ""),u])/\At K H5 jA u) [] ys:=TU;cases PV;exact⟨[],[],rfl,rfl,Je _,fun j a kv e1=>(by simp at e1),fun d H' s' e=>fz.nil e⟩
  obtain⟨qs,UM,rfl,lp1,lp2,J0,JU⟩:=dic;refine⟨gl,qs,UM,rfl,aS.of h5,lp1,fun i x kv e1 e2=>.inl (.inl (J0 i x kv e1 e2)),small (by omega),fun td SY=>?_⟩;have s7:ak H5 (U1 H5 td (.dK (dJ [] UM))):=ab SY _;have f7:=JU td _ s7 ae;have d7:∃kv,U1 H5 td (.dK (dJ [] UM)) td=some (.dK kv):=⟨_,ae⟩;have M7:H td=none:=none_of (s1.trans s5) SY;generalize U1 H5 td (.dK (dJ [] UM))=H7 at s7 f7 d7 ⊢;have OA:=(s1.trans s5).trans s7;intro x1 dx N4 Lq JK;obtain⟨s8,c8⟩:=gR (C:=c.O) N4 Lq JK;generalize U1 (U1 H7 dx (.own x1)) x1 (.ins c.O dx [])=H8 at s8 c8 ⊢;refine⟨x1,dx,x,.ref td,rfl,c8,fun H9 hB hx9=>⟨rfl,?_⟩⟩;have s9:ak H7 H9:=fun p o e=>by
   rw[hB p (cv e N4)];exact s8 _ _ e
  have Kz:=OA.trans s9;obtain⟨kv7,d7⟩:=d7;refine⟨wp,ps,os,gv,ln,lf,.ob k td (iZ (oH os[k]?)),x1,rfl,hw.same Kz,⟨dx,x,hx9,At.same Kz _ _ hx,f7.keep (by rw[s9 _ _ d7,d7]) (ak.fx s9)⟩,(hw.same OA).fresh N4,fun d' e=>?_,hl,fun r H3 b3 w3 a3=>q r H3 x1 td M7 ((ak.but wp.l Kz).trans b3) w3 a3⟩;cases e;exact⟨fun y=>(by obtain⟨kv,e,_⟩:=hw.v;rw[<-y,M7] at e;cases e),hw.freshD M7⟩
abbrev GO:Stmt:=lZ 0 (cB 12)
def gfN:List Str:=["say","take","isa","elder","count","go","throw","shut"]
def ic:List (Str×List Str):=[("Thing",[]),("Fault",["Thing"]),("NameFault",["Fault","Thing"]),("KindFault",["Fault","Thing"]),("NoughtFault",["Fault","Thing"]),("GreatFault",["Fault","Thing"]),("FieldFault",["Fault","Thing"]),("OrderFault",["Fault","Thing"]),("EndFault",["Fault","Thing"]),("ShutFault",["Fault","Thing"]),("DeepFault",["Fault","Thing"]),("UnboundFault",["NameFault","Fault","Thing"])]
def gfD:List D:=gfN.map D.str
def gcD:List D:=ic.map fun x=>.tup [.str x.1,.tup (x.2.map D.str)]
def zD:List Str:=gfN++ic.map (·.1)
def hU (x:Str):Nat:=zD.findIdx (· == x)
def gS:List (Str×Nat):=zD.zipIdx
def ib (ds:List Addr):List Th:=gfN.map Th.pD++(ic.zip ds).map fun x=>.kd x.1.1 ((x.1.1::x.1.2).map hU) x.2 []
theorem AS:zD.Nodup:=by decide +kernel
theorem Gf:∀j,j < 12->∀e∈(ic.getD j ("",[])).2,(e,hU e)∈gS.take (8+j):=by decide +kernel
theorem Gg:∀j,j < 12->hU (ic.getD j ("",[])).1=8+j:=by decide +kernel
theorem tu (j) (h:j < 12):ic[j]?=some (ic.getD j ("",[])):=by rw[Iz,Iy (show j < ic.length from h)];rfl
theorem tm (j) (h:j < 8):gfN[j]?=some (gfN.getD j ""):=by rw[Iz,Iy (show j < gfN.length from h)];rfl
theorem my {ds}(h:ds.length<=12):(ib ds).length=8+ds.length:=by
 unfold ib;rw[Iu,IC,IC,List.length_zip];show 8+min 12 ds.length=_;omega
theorem yp {ds d}(h:ds.length < 12):ib (ds++[d])=ib ds++[.kd (ic.getD ds.length ("",[])).1 ((8+ds.length)::(ic.getD ds.length ("",[])).2.map hU) d []]:=by
 unfold ib;rw[List.append_assoc];congr 1;have e:ic.zip (ds++[d])=ic.zip ds++[(ic.getD ds.length ("",[]),d)]:=by
  refine List.ext_getElem? fun j=>?_;by_cases hj:j < ds.length
  ·rw[Jo (by rw[List.length_zip];have:ic.length=12:=rfl;omega)];rw[List.zip_eq_zipWith,List.zip_eq_zipWith,List.getElem?_zipWith,List.getElem?_zipWith,Jo hj]
  ·by_cases N9:j=ds.length
   ·subst N9;have l1:(ic.zip ds).length=ds.length:=by rw[List.length_zip];have:ic.length=12:=rfl;omega
    have e1:(ic.zip ds++[(ic.getD ds.length ("",[]),d)])[ds.length]?=some (ic.getD ds.length ("",[]),d):=by
     have h0:=bP (xs:=ic.zip ds) (x:=(ic.getD ds.length ("",[]),d));rw[l1] at h0;exact h0
    rw[e1,List.zip_eq_zipWith,List.getElem?_zipWith,bP,tu _ h]
   ·rw[List.getElem?_eq_none (by rw[List.length_zip,Iu,Jl];have:ic.length=12:=rfl;omega),List.getElem?_eq_none (by rw[Iu,List.length_zip,Jl];have:ic.length=12:=rfl;omega)]
 rw[e,Jg];show _++[Th.kd (ic.getD ds.length ("",[])).1 (hU (ic.getD ds.length ("",[])).1::(ic.getD ds.length ("",[])).2.map hU) d []]=_;rw[Gg _ h]
theorem HV:∀j,j < 8->gS[j]?=some (gfN.getD j "",j):=by decide +kernel
theorem HW:∀j,j < 12->gS[8+j]?=some ((ic.getD j ("",[])).1,8+j):=by decide +kernel
theorem dc.give {K c H wp ps os gv ln lf}(h:dc K c H wp ps os gv ln lf):
  ∃UM,H wp.g=some (.dK UM)/\UM.length<=gv.length/\∀v n i,At K H (aU i) v->(∀j,(n,j)∉gv)->dc K c (U1 H wp.g (.dK (U3 UM (.inr n) v))) wp ps os (gv++[(n,i)]) ln lf:=by
 obtain⟨⟨dx,h1⟩,h2,ha,hb,q1,q2,q3,h3,h4,h5,h6,hg,UM,h7,h8,h9,Lx⟩:=h;refine⟨UM,h7,h8,fun v n i hv hn=>?_⟩;have f:Fx H (U1 H wp.g (.dK (U3 UM (.inr n) v))):=Fx.put h7 rfl;have kl:∀{q xs},H q=some (.lst xs)->U1 H wp.g (.dK (U3 UM (.inr n) v)) q=some (.lst xs):=fun e=>by rw[aD (cv e h7)];exact e
 refine⟨⟨dx,by rw[aD (cv h1 h7)];exact h1⟩,kl h2,kl ha,kl hb,q1,q2,q3,h3,h4,fun i p o e1 e2=>?_,h6,hg,_,ae,by have:=gC UM (.inr n) v;rw[Iu,Jl];omega,fun m j hm=>?_,fun m hm=>?_⟩
 ·have:=h5 i p o e1 e2;obtain⟨C,dx,fs,e'⟩:=this.ins;exact this.keep (aD (fun y=>by rw[y,h7] at e';cases e')) f fun d ed=>aD fun y=>hg ⟨i,o,e2,y▸ed⟩
 ·rcases I0.mp hm with hm | hm
  ·obtain⟨u,e,a⟩:=h9 m j hm;refine⟨u,?_,At.fx f _ _ a⟩;rw[ka,IH (fun z=>hn j (by injection z with z;rw[<-z];exact hm))];exact e
  ·rw[Vc] at hm;obtain⟨rfl,rfl⟩:=Prod.mk.inj hm;exact⟨v,by rw[ka,II rfl],At.fx f _ _ hv⟩
 ·rw[ka,IH (fun z=>hm i (IV _ (by injection z with z;rw[z];exact List.mem_singleton_self _)))];exact Lx m fun j hj=>hm j (IU _ hj)
theorem yV {j n i}(h:gS[j]?=some (n,i)):∀k,(n,k)∉gS.take j:=by
 have hz:∀m x y,gS[m]?=some (x,y)->zD[m]?=some x:=fun m x y e=>by
  unfold gS at e;rw[List.getElem?_zipIdx] at e;cases e2:zD[m]? with
  | none=>rw[e2] at e;cases e
  | some u=>rw[e2] at e;injection e with e;injection e with e _;rw[e]
 intro k hk;obtain⟨m,hm,e⟩:=U6 hk;rw[Vb] at hm;have e':gS[m]?=some (n,k):=by
  rw[Ja];exact⟨by omega,by rw[<-e,List.getElem_take]⟩
 have h1:=hz _ _ _ h;have h2:=hz _ _ _ e';have hj:=(Ja.mp h1).1;have:=(List.getElem?_inj hj AS).mp (h1.trans h2.symm);omega
inductive BN (K:Fg06) (c:fo) (vs:List V) (H:Hp) (Q:VK) (E:XK):Prop
 | mk x dx q xs:vs=[.ref x,.ref q]->H x=some (.ins c.W dx [])->aS K H q (xs.map V.int)->(∀H' l g n e ps ds,ds.length=12->(∀p o,p≠x->H p=some o->H' p=some o)->H l=none->H g=none->H n=none->H e=none->dc K c H' ⟨x,l,g,n,e⟩ ps (ib ds) gS [] xs->Q .bb H')->BN K c vs H Q E
theorem zW:aQ ["self","inputs","name","behind"] ["self","inputs"] (aC GO):=gp
theorem FC (g:Glb9 mg) (z:j6 K c) (tf:TreeG K mg "GIVEN_FUNCTIONS" gfD) (tc:TreeG K mg "GIVEN_CLASSES" gcD) (M:jI P w K mg base "Given" c.G ["self","name"] 1 (xD c.G)) (F:fm K "__init__" "World.__init__" GO f fd) (dA:Def P w K mg base "added" ["world","thing"] 1 (kh K c)) (dN:Def P w K mg base "new_class" ["world","name","behind","fields","is_given"] 3 (uo K c)):bK P w K mg base fq 4 f fd ["self","inputs"] (BN K c):=by
 refine F.gB zW fun UO A outer s H vs Q E hr h=>?_;obtain⟨x,dx,qi,xs,rfl,hx,hq,q⟩:=h;obtain⟨pf,vf,mf,af⟩:=tf;obtain⟨pc,vc,mc,ac⟩:=tc;refine⟨_,aa (L3.cx (pv 0) (aY bc))
  (aa (L3.cx (pv 0) (bE qE rfl g.nList zv (cy (pv 1))))
  (aa (L3.cx (pv 0) (aY bc))
  (aa (L3.cx (pv 0) (.mk L2.bV))
  (aa (cL IW rfl (eI (bA (v:=.ref pf) rfl mf rfl)) (ip 2 zW.nd)
   (ah (.mk (L2.il (fI hr) (LE.out (L3.bR (pv 0))) (LE.out (pv 2)) (LE.out (cM dA (cq (pv 0) (L3.lS M hr (by decide) rfl (cy (pv 2)))))) rfl))))
  (ah (cL IW rfl (eI (bA (v:=.ref pc) rfl mc rfl)) (fT rfl (cb (ip 2 zW.nd) (cb (ip 3 zW.nd) eJ)))
   (ah (.mk (L2.il (fI hr) (LE.out (L3.bR (pv 0))) (LE.out (pv 2)) (LE.out (cM dN (aI (pv 0) (mi (pv 2) (.mk (L2.cG (cl:=[("self",s.heap.objs.size+1)]) (Xs:=["elder"]) (Nf:=["self"]) (js:=[0]) ?k rfl (LI.out (eI (pv 3))) (fun C s0 H0 fp=>LG.out (ip 0 (show(["elder","self"]:List Str).Nodup by decide +kernel))) (fun C s0 H0 fp=>eY) (fun C s0 H0 fp=>LE.out (L3.gQ (fI hr) (L3.uD (K:=K) rfl (pv 1)) (pv 0))))) (.mk L2.bV) gA)))) rfl)))))))))  ,?main⟩
 case k=>exact qB
 case main=>
  have nx:∀{p o}{H':Hp},bw x H H'->H' x=some o->H' p=none->H p=none:=fun {p o H'} b e1 e2=>by
   cases e:H p with
   | none=>rfl
   | some u=>
    by_cases S5:p=x
    ·rw[S5,e1] at e2;cases e2
    ·rw[b _ _ S5 e] at e2;cases e2
  have e1:∀v1:V,dm "lines" v1 ([]:List (Str×V))=([("lines",v1)]:List (Str×V)):=fun _=>rfl;have e2:∀v1 v2:V,dm "left" v2 ([("lines",v1)]:List (Str×V))=([("lines",v1),("left",v2)]:List (Str×V)):=fun _ _=>by rw[bh (by decide +kernel)];rfl
  have e3:∀v1 v2 v3:V,dm "things" v3 ([("lines",v1),("left",v2)]:List (Str×V))=([("lines",v1),("left",v2),("things",v3)]:List (Str×V)):=fun _ _ _=>by rw[bh (by decide +kernel),bh (by decide +kernel)];rfl
  have e4:∀v1 v2 l g,dm "given" (.ref g) ([("lines",v1),("left",v2),("things",.ref l)]:List (Str×V))=wF v1 v2 l g:=fun _ _ _ _=>by rw[bh (by decide +kernel),bh (by decide +kernel),bh (by decide +kernel)];rfl
  have pt:∀{H' o},bw x H H'->bw x H (U1 H' x o):=fun b=>b.trans (bw.put _ _);refine⟨Je _,fun p1 J0=>?_⟩;have n1x:p1≠x:=cv J0 hx;have b1:bw x H (U1 H p1 (.lst [])):=ak.but x (ab J0 _);have x1:U1 H p1 (.lst []) x=some (.ins c.W dx []):=ab J0 _ _ _ hx;have n1:U1 H p1 (.lst []) p1=some (.lst []):=ae;generalize U1 H p1 (.lst [])=H1 at b1 x1 n1 ⊢;refine⟨_,rfl,x,c.W,dx,_,rfl,x1,z.wc,z.w1,by decide,?_⟩;rw[e1];have b2:bw x H (U1 H1 x (.ins c.W dx [("lines",.ref p1)])):=pt b1;have x2:U1 H1 x (.ins c.W dx [("lines",.ref p1)]) x=some (.ins c.W dx [("lines",.ref p1)]):=ae;have n2:U1 H1 x (.ins c.W dx [("lines",.ref p1)]) p1=some (.lst []):=by rw[aD n1x];exact n1
  generalize U1 H1 x (.ins c.W dx [("lines",.ref p1)])=H2 at b2 x2 n2 ⊢;have Mp:aS K H2 qi (xs.map V.int):=by
   rcases hq with (h | ⟨o,h⟩) | h
   ·exact .inl (.inl (b2 _ _ (cv h hx) h))
   ·exact .inl (.inr ⟨o,b2 _ _ (cv h hx) h⟩)
   ·exact .inr h
  refine⟨_,rfl,qi,xs.map V.int,rfl,.inl Mp,fun p2 Kb=>?_⟩;have Ng:H p2=none:=nx b2 x2 Kb;have n2x:p2≠x:=cv Kb x2;have Q9:p1≠p2:=cv n2 Kb;have b3:bw x H (U1 H2 p2 (.lst (xs.map V.int))):=b2.trans (ak.but x (ab Kb _));have x3:U1 H2 p2 (.lst (xs.map V.int)) x=some (.ins c.W dx [("lines",.ref p1)]):=ab Kb _ _ _ x2;have n3:U1 H2 p2 (.lst (xs.map V.int)) p1=some (.lst []):=ab Kb _ _ _ n2;have f3:U1 H2 p2 (.lst (xs.map V.int)) p2=some (.lst (xs.map V.int)):=ae;generalize U1 H2 p2 (.lst (xs.map V.int))=H3 at b3 x3 n3 f3 ⊢;refine⟨_,rfl,x,c.W,dx,_,rfl,x3,z.wc,z.w2,Jh (Jm 1) (by decide),?_⟩;rw[e2];have b4:bw x H (U1 H3 x (.ins c.W dx [("lines",.ref p1),("left",.ref p2)])):=pt b3;have x4:U1 H3 x (.ins c.W dx [("lines",.ref p1),("left",.ref p2)]) x=some (.ins c.W dx [("lines",.ref p1),("left",.ref p2)]):=ae;have n4:U1 H3 x (.ins c.W dx [("lines",.ref p1),("left",.ref p2)]) p1=some (.lst []):=by rw[aD n1x];exact n3
  have f4:U1 H3 x (.ins c.W dx [("lines",.ref p1),("left",.ref p2)]) p2=some (.lst (xs.map V.int)):=by rw[aD n2x];exact f3
  generalize U1 H3 x (.ins c.W dx [("lines",.ref p1),("left",.ref p2)])=H4 at b4 x4 n4 f4 ⊢;refine⟨Je _,fun l hl=>?_⟩;have Ph:H l=none:=nx b4 x4 hl;have nlx:l≠x:=cv hl x4;have nl1:l≠p1:=cv hl n4;have OE:l≠p2:=cv hl f4;have b5:bw x H (U1 H4 l (.lst [])):=b4.trans (ak.but x (ab hl _));have x5:U1 H4 l (.lst []) x=some (.ins c.W dx [("lines",.ref p1),("left",.ref p2)]):=ab hl _ _ _ x4;have n5:U1 H4 l (.lst []) p1=some (.lst []):=ab hl _ _ _ n4;have f5:U1 H4 l (.lst []) p2=some (.lst (xs.map V.int)):=ab hl _ _ _ f4;have l5:U1 H4 l (.lst []) l=some (.lst []):=ae;generalize U1 H4 l (.lst [])=H5 at b5 x5 n5 f5 l5 ⊢;refine⟨_,rfl,x,c.W,dx,_,rfl,x5,z.wc,z.w3,Jh (Jm 2) (by decide),?_⟩;rw[e3];have b6:bw x H (U1 H5 x (.ins c.W dx [("lines",.ref p1),("left",.ref p2),("things",.ref l)])):=pt b5;have x6:U1 H5 x (.ins c.W dx [("lines",.ref p1),("left",.ref p2),("things",.ref l)]) x=some (.ins c.W dx [("lines",.ref p1),("left",.ref p2),("things",.ref l)]):=ae;have n6:U1 H5 x (.ins c.W dx [("lines",.ref p1),("left",.ref p2),("things",.ref l)]) p1=some (.lst []):=by rw[aD n1x];exact n5
  have f6:U1 H5 x (.ins c.W dx [("lines",.ref p1),("left",.ref p2),("things",.ref l)]) p2=some (.lst (xs.map V.int)):=by rw[aD n2x];exact f5
  have l6:U1 H5 x (.ins c.W dx [("lines",.ref p1),("left",.ref p2),("things",.ref l)]) l=some (.lst []):=by rw[aD nlx];exact l5
  generalize U1 H5 x (.ins c.W dx [("lines",.ref p1),("left",.ref p2),("things",.ref l)])=H6 at b6 x6 n6 f6 l6 ⊢;intro gd Nx;have RF:H gd=none:=nx b6 x6 Nx;have ngx:gd≠x:=cv Nx x6;have b7:bw x H (U1 H6 gd (.dK [])):=b6.trans (ak.but x (ab Nx _));have x7:U1 H6 gd (.dK []) x=some (.ins c.W dx [("lines",.ref p1),("left",.ref p2),("things",.ref l)]):=ab Nx _ _ _ x6;have n7:U1 H6 gd (.dK []) p1=some (.lst []):=ab Nx _ _ _ n6;have f7:U1 H6 gd (.dK []) p2=some (.lst (xs.map V.int)):=ab Nx _ _ _ f6;have l7:U1 H6 gd (.dK []) l=some (.lst []):=ab Nx _ _ _ l6;have g7:U1 H6 gd (.dK []) gd=some (.dK []):=ae;generalize U1 H6 gd (.dK [])=H7 at b7 x7 n7 f7 l7 g7 ⊢;refine⟨_,rfl,x,c.W,dx,_,rfl,x7,z.wc,z.w4,Jh (Jm 3) (by decide),?_⟩;rw[e4];have b8:bw x H (U1 H7 x (.ins c.W dx (wF (.ref p1) (.ref p2) l gd))):=pt b7;have x8:U1 H7 x (.ins c.W dx (wF (.ref p1) (.ref p2) l gd)) x=some (.ins c.W dx (wF (.ref p1) (.ref p2) l gd)):=ae;have n8:U1 H7 x (.ins c.W dx (wF (.ref p1) (.ref p2) l gd)) p1=some (.lst []):=by rw[aD n1x];exact n7
  have f8:U1 H7 x (.ins c.W dx (wF (.ref p1) (.ref p2) l gd)) p2=some (.lst (xs.map V.int)):=by rw[aD n2x];exact f7
  have l8:U1 H7 x (.ins c.W dx (wF (.ref p1) (.ref p2) l gd)) l=some (.lst []):=by rw[aD nlx];exact l7
  have g8:U1 H7 x (.ins c.W dx (wF (.ref p1) (.ref p2) l gd)) gd=some (.dK []):=by rw[aD ngx];exact g7
  generalize U1 H7 x (.ins c.W dx (wF (.ref p1) (.ref p2) l gd))=H8 at b8 x8 n8 f8 l8 g8 ⊢;have w8:dc K c H8 (Wp.mk x l gd p1 p2) [] ((gfN.take 0).map Th.pD) (gS.take 0) [] xs:=⟨⟨dx,x8⟩,l8,n8,f8,nl1,OE,Q9,rfl,List.nodup_nil,fun i v o e=>by simp at e,fun i j a b d e=>by simp at e,fun z=>(by obtain⟨i,o,e,_⟩:=z;simp at e),[],g8,Je _,fun n i h=>by simp at h,fun n _=>rfl⟩;clear e1 e2 e3 e4 pt nx;have lf:vf.length=8:=(af H8).2.len;have lc:vc.length=12:=(ac H8).2.len;refine⟨pf,rfl,⟨vf,(af H8).1⟩,qq (K:=K) (a:=pf) (xs:=vf) (fun i σ H'=>(∃o2 o3,σ=[some (.ref x),some (.ref qi),o2,o3])/\bw x H H'/\∃ps,dc K c H' (Wp.mk x l gd p1 p2) ps ((gfN.take i).map Th.pD) (gS.take i) [] xs) ⟨⟨_,_,rfl⟩,b8,_,w8⟩ (fun i σ H' _ _=>(af H').1) ?t1 ?s1⟩
  case t1=>
   rintro i n σ H' hn ⟨⟨o2,o3,rfl⟩,bH,ps,wH⟩;have hi:i < 8:=by rw[<-lf];exact(Ja.mp hn).1
   obtain⟨v',Kh,K9⟩:=aE.get (i:=i) (af H').2 (d:=.str (gfN.getD i "")) (by
    unfold gfD;rw[IJ,tm i hi];rfl)
   have en:n=.str (gfN.getD i ""):=by rw[hn] at Kh;cases Kh;exact aH.mp K9
   subst en;refine⟨_,rfl,_,rfl,fun y dy hy hdy JK=>?_⟩;obtain⟨s1,c1⟩:=gR (C:=c.G) hy hdy JK;generalize U1 (U1 H' dy (.own y)) y (.ins c.G dy [])=H1 at s1 c1 ⊢;refine⟨y,dy,_,rfl,c1,fun H2 hB Mn=>⟨rfl,?_⟩⟩;have s2:ak H' H2:=fun p o e=>by
    rw[hB p (cv e hy)];exact s1 _ _ e
   have ltk:((gfN.take i).map Th.pD).length=i:=by rw[IC,Vb];show min i 8=i;omega
   refine⟨Wp.mk x l gd p1 p2,ps,(gfN.take i).map Th.pD,gS.take i,[],xs,.pD (gfN.getD i ""),y,rfl,wH.same s2,⟨dy,Mn⟩,wH.fresh hy,fun k e=>(nomatch e),by omega,fun r H3 b3 w3 a3=>?_⟩;rw[ltk] at a3;obtain⟨UM,Pk,Ra,wv⟩:=w3.give;obtain⟨R9,h3⟩:=w3.wo;have gj:=HV i hi;refine⟨_,rfl,x,c.W,R9,_,_,rfl,h3,z.wc,z.w4,j9 ..,_,rfl,gd,_,rfl,mq.k (k:=.inr (gfN.getD i "")) Pk ?_,⟨_,_,rfl⟩,fun p o ne e=>?_,ps++[y],?_⟩
   ·rw[Vb] at Ra;exact bZ (by omega)
   ·rw[aD (cv e RF)];exact b3 _ _ (cv e Ph) (s2 _ _ (bH _ _ ne e))
   ·have:=wv r _ i a3 (yV gj);rw[List.take_add_one,tm i hi,List.take_add_one,gj,Jg];exact this
  case s1=>
   rintro σ H' ⟨⟨o2,o3,rfl⟩,bH,ps,wH⟩;rw[lf] at wH;have wH:dc K c H' (Wp.mk x l gd p1 p2) ps (ib []) (gS.take (8+0)) [] xs:=wH;refine⟨pc,rfl,⟨vc,(ac H').1⟩,qq (K:=K) (a:=pc) (xs:=vc) (fun i σ H'=>(∃o2 o3,σ=[some (.ref x),some (.ref qi),o2,o3])/\bw x H H'/\∃ps ds,ds.length=i/\dc K c H' (Wp.mk x l gd p1 p2) ps (ib ds) (gS.take (8+i)) [] xs) ⟨⟨_,_,rfl⟩,bH,ps,[],rfl,wH⟩ (fun i σ H' _ _=>(ac H').1) ?t2 ?s2⟩
   case s2=>
    rintro σ H' ⟨⟨o2,o3,rfl⟩,bH,ps,ds,ld,wH⟩;rw[lc,List.take_of_length_le (by decide +kernel)] at wH;exact q H' l gd p1 p2 ps ds (by rw[ld,lc]) bH Ph RF J0 Ng wH
   case t2=>
    clear wH bH;rintro i n σ H' hn ⟨⟨o2,o3,rfl⟩,bH,ps,ds,ld,wH⟩;have hi:i < 12:=by rw[<-lc];exact(Ja.mp hn).1
    obtain⟨v',Kh,K9⟩:=aE.get (i:=i) (ac H').2 (d:=.tup [.str (ic.getD i ("",[])).1,.tup ((ic.getD i ("",[])).2.map D.str)]) (by
     unfold gcD;rw[IJ,tu i hi];rfl)
    rw[hn] at Kh;cases Kh;have cA:=Gf i hi;have K4:=fun d=>yp (ds:=ds) (d:=d) (by omega);rw[ld] at K4;have gj:=HW i hi;have lb:(ic.getD i ("",[])).2.length<=3:=(show ∀j,j < 12->(ic.getD j ("",[])).2.length<=3 by decide +kernel) i hi;generalize ic.getD i ("",[])=nb at *;obtain⟨nm,bs⟩:=nb;obtain⟨ap,avs,rfl,sqa,hAa⟩:=bf.mp K9;obtain⟨u1,r1,rfl,Ks,hr1⟩:=aX.mp hAa;obtain⟨u2,r2,rfl,Rr,Kt⟩:=aX.mp hr1;rw[aZ.mp Kt] at sqa;rw[aH.mp Ks] at sqa;obtain⟨bp,bvs,rfl,sqb,T5⟩:=bf.mp Rr;have lbv:=T5.len;rw[IC] at lbv;replace lbv:bvs.length=bs.length:=lbv;replace lb:bs.length<=3:=lb;refine⟨ap,_,rfl,sqa,rfl,_,_,rfl,_,_,rfl,rfl,?_⟩;obtain⟨kv0,Nw,lk0,hv0,_⟩:=wH.v;obtain⟨dx0,Rn⟩:=wH.wo;refine⟨_,rfl,_,rfl,_,rfl,bp,rfl,⟨bvs,sqb⟩,[.ref x],⟨rfl,fun j i h=>?_⟩,bM (vs:=[.ref x]) (tc:=gN) bvs.length (fun i=>bvs.getD i .bb) (fun _=>true) (fun i v H'=>At K H' (aU (hU (bs.getD i ""))) v) (fun _ _ _ _ s z=>At.same s _ _ z) (by omega) (hX sqb) (lJ sqb) (jt sqb) (fun i H2 Q' hi s2 k=>k H2 (ak.refl _)) (fun j H1 D l' Q' hj _ s1 _ K1 k=>?_) fun D H1 ys hD s1 Kj hP=>?_⟩
    ·match j,h with
     | 0,h=>cases h;exact⟨_,rfl,rfl⟩
     | j+1,h=>simp at h
    ·have J2:j < bs.length:=by omega
     have ej:bs[j]?=some bs[j]:=Iy J2;have eo:bs.getD j ""=bs[j]:=by rw[Iz,ej];rfl
     obtain⟨v',Kh,hAj⟩:=aE.get (i:=j) T5 (d:=.str bs[j]) (by rw[IJ,ej];rfl);have ev:bvs.getD j .bb=.str bs[j]:=by rw[Iz,Kh];exact aH.mp hAj
     rw[eo] at k;rw[ev];obtain⟨v,e,hA⟩:=hv0 _ _ (cA bs[j] (List.getElem_mem J2));refine⟨_,rfl,x,c.W,dx0,_,_,rfl,s1 _ _ Rn,z.wc,z.w4,j9 ..,_,rfl,gd,v,rfl,?_,k v H1 (ak.refl _) (At.wo K1 _ _ (At.same s1 _ _ hA))⟩;rw[<-e];exact gM.k (k:=.inr bs[j]) (s1 _ _ Nw)
    ·have T3:=(hP.mono (fun i v z=>At.same (eB H1 D) _ _ z)).at
     rw[U5.mpr (fun _ _=>rfl),lbv,di bs "" (fun e=>aU (hU e))] at T3;intro dn Og;have s2:ak H1 (U1 H1 dn (.dK [])):=ab Og _;have d2:U1 H1 dn (.dK []) dn=some (.dK []):=ae;generalize U1 H1 dn (.dK [])=H2 at s2 d2 ⊢;have Jv:=s1.trans s2;have ltk:(ib ds).length=8+i:=by rw[my (by omega),ld]
     have eT:bs.map (fun e=>aU (hU e))=(bs.map hU).map aU:=by rw[List.map_map];rfl
     refine⟨Wp.mk x l gd p1 p2,ps,ib ds,gS.take (8+i),[],xs,nm,.ref D,dn,bs.map hU,[],by rw[Iw (show(ib ds).length < 20 by omega)];rfl,wH.same Jv,by omega,⟨D,ys,rfl,.inl (aS.of (s2 _ _ Kj)),?_⟩,by rw[IC];omega,fz.nil d2,fun r H3 p3 dn3 _ b3 w3 a3=>?_⟩
     ·rw[<-eT];exact aE.same s2 _ _ T3
     rw[ltk] at a3 w3;obtain⟨UM,Pk,Ra,wv⟩:=w3.give;obtain⟨R9,h3⟩:=w3.wo;refine⟨_,rfl,x,c.W,R9,_,_,rfl,h3,z.wc,z.w4,j9 ..,_,rfl,gd,_,rfl,mq.k (k:=.inr nm) Pk ?_,⟨_,_,rfl⟩,fun p o ne e=>?_,ps++[p3],ds++[dn3],by rw[Iu,ld];rfl,?_⟩
     ·rw[Vb] at Ra;exact bZ (by omega)
     ·rw[aD (cv e RF)];exact b3 _ _ (cv e Ph) (Jv _ _ (bH _ _ ne e))
     ·have:=wv r _ (8+i) a3 (yV gj);rw[show 8+(i+1)=8+i+1 from rfl,K4,List.take_add_one,gj];exact this
end
abbrev CF:Stmt:=cB 30
abbrev CG:Stmt:=cB 31
abbrev Cq:Stmt:=cB 32
abbrev CC:Stmt:=cB 33
abbrev CD:Stmt:=cB 34
abbrev CJ:Stmt:=cB 35
abbrev Cn:Stmt:=cB 36
theorem At.mP {K H r v}(h:At K H (.tup r) v):v≠.bb:=by
 obtain⟨p,vs,rfl,_⟩:=bf.mp h;exact fun z=>nomatch z
def rp:Option Th->List (Str×D)
 | some (.kd _ _ _ fs)=>fs
 | _=>[]
def fe (os:List Th) (n:Str):List Nat->Option D
 | []=>none
 | m::ns=>match (rp os[m]?).lookup n with
  | some d=>some d
  | none=>fe os n ns
theorem gy (os n m ns):fe os n (m::ns)=match (rp os[m]?).lookup n with
  | some d=>some d
  | none=>fe os n ns:=rfl
theorem lL (os n):∀ns i,(∀j,j < i->∀m,ns[j]?=some m->(rp os[m]?).lookup n=none)->fe os n ns=fe os n (ns.drop i)
 | [],i,_=>by rw[List.drop_nil]
 | m::ns,0,_=>rfl
 | m::ns,i+1,h=>by
  rw[gy,h 0 (Nat.succ_pos _) m rfl];exact lL os n ns i fun j hj m hm=>h (j+1) (Nat.succ_lt_succ hj) m hm
inductive FR where
 | no
 | val (d:D)
 | ml (t:Nat)
def zR:D->Nat
 | .tup [_,.int i]=>i.toNat
 | _=>0
theorem BE (i):zR (aU i)=i:=rfl
def tD (os:List Th):Option D->FR
 | none=>.no
 | some d=>match iB os d with
  | some (.fn _)=>.ml (zR d)
  | _=>.val d
def zd (os:List Th) (fs:List (Str×D)) (ns:List Nat) (n:Str):FR:=match fs.lookup n with
 | some d=>.val d
 | none=>tD os (fe os n ns)
section
variable (K:Fg06) (c:fo) (wp:Wp) (ps:List Addr) (os:List Th) (gv:List (Str×Nat)) (ln:List Str) (lf:List Int) (i:Nat) (H:Hp) (Q:VK)
def Im:FR->Prop
 | .no=>Q .bb H
 | .val d=>∀v,At K H d v->Q v H
 | .ml t=>∀r H' p,bw wp.l H H'->dc K c H' wp (ps++[p]) (os++[.mt t i]) gv ln lf->At K H' (aU os.length) r->Q r H'
def GD:FR->Prop
 | .no=>∀H',ak H H'->Q .bb H'
 | .val d=>∀v H',ak H H'->At K H' d v->Q v H'
 | .ml t=>∀r H' p,bw wp.l H H'->dc K c H' wp (ps++[p]) (os++[.mt t i]) gv ln lf->At K H' (aU os.length) r->Q r H'
def FRq:FR->Prop
 | .no=>∀r H',ak H H'->At K H' (.tup [.str "fault",.str "FieldFault"]) r->Q r H'
 | .val d=>∀r H',ak H H'->At K H' (.tup [.str "value",d]) r->Q r H'
 | .ml t=>∀r H' p,bw wp.l H H'->dc K c H' wp (ps++[p]) (os++[.mt t i]) gv ln lf->At K H' (.tup [.str "value",aU os.length]) r->Q r H'
end
theorem Vd.mP {os d}(h:Vd os d):∃r,d=.tup r:=by
 obtain⟨⟨k,r,rfl,_⟩,_⟩:=h;exact⟨_,rfl⟩
theorem iJ {os d o}(hv:Vd os d) (h:iB os d=some o):∃i,d=aU i/\os[i]?=some o:=by
 obtain⟨⟨k,r,rfl,hk⟩,_⟩:=hv;by_cases e:k="thing"
 ·obtain⟨i,rfl,hi⟩:=hk e;subst e;exact⟨i,rfl,(bI os i).symm.trans h⟩
 ·rw[jL os r e] at h;cases h
section
variable {P:Program}{w:World}{K:Fg06}{mg:Str->Option Value}{base:Heap}{f:Addr}{fd:FuncData}{c:fo}
inductive uu (K:Fg06) (c:fo) (vs:List V) (H:Hp) (Q:VK) (E:XK):Prop
 | mk wp ps os gv ln lf x ns n:vs=[.ref wp.W,x,.str n]->dc K c H wp ps os gv ln lf->At K H (.tup (ns.map aU)) x->(∀m∈ns,∃nm Ld d' Js,os[m]?=some (.kd nm Ld d' Js))->((fe os n ns=none->Q .bb H))->(∀d v,fe os n ns=some d->At K H d v->Q v H)->uu K c vs H Q E
theorem xS:aQ ["world","classes","name","one","fields"] ["world","classes","name"] (aC CF):=gp
theorem Dp (z:j6 K c) (F:fm K "found_in" "found_in" CF f fd) (dT:Def P w K mg base "thing_of" ["world","a"] 1 (jN K c)):bK P w K mg base fq 2 f fd ["world","classes","name"] (uu K c):=by
 refine F.gB xS fun UO A outer s H vs Q E hr h=>?_;obtain⟨wp,ps,os,gv,ln,lf,x,ns,n,rfl,hw,hx,hk,q1,q2⟩:=h;refine⟨_,(aa (cL IW rfl (eI (pv 1)) (ip 3 xS.nd) (aa (eG 4 xS.nd (L3.bR (cM dT (cq (pv 0) (pv 3)))))
   (ah (bo (L3.sI (fI hr) (pv 2) (pv 4)) (ah (aJ (L3.gQ (fI hr) (pv 4) (pv 2)))) aP))))
   (ah (aJ cE))),?_⟩
 obtain⟨px,xs,rfl,sq,hA⟩:=bf.mp hx;have lx:=hA.len;rw[IC] at lx;refine⟨_,rfl,px,rfl,⟨xs,sq⟩,qq (K:=K) (a:=px) (xs:=xs) (fun i σ H'=>(∃o3 o4,σ=[some (.ref wp.W),some (.ref px),some (.str n),o3,o4])/\H'=H/\∀j,j < i->∀m,ns[j]?=some m->(rp os[m]?).lookup n=none) ⟨⟨_,_,rfl⟩,rfl,fun j hj=>Vi hj (Nat.not_lt_zero _)⟩ (fun i σ H' _ h=>h.2.1▸sq) ?t ?s⟩
 case s=>
  rintro σ H' ⟨⟨o3,o4,rfl⟩,rfl,hj⟩;refine q1 ?_;rw[lL os n ns xs.length hj,List.drop_eq_nil_of_le (by omega)];rfl
 case t=>
  rintro i u σ H' hu ⟨⟨o3,o4,rfl⟩,rfl,hj⟩;have hi:i < ns.length:=by rw[<-lx];exact aq hu
  have ei:ns[i]?=some ns[i]:=Iy hi;obtain⟨v',Kh,K9⟩:=aE.get (i:=i) hA (d:=aU ns[i]) (by rw[IJ,ei];rfl);rw[hu] at Kh;cases Kh;obtain⟨nm,Ld,d',Js,ho⟩:=hk ns[i] (List.getElem_mem hi);refine⟨_,rfl,_,rfl,wp,ps,os,gv,ln,lf,u,aU ns[i],rfl,hw,K9,Vd.th (aq ho),fun v t=>?_⟩;obtain⟨p,_,rfl,dx,vo,hp,_,⟨UM,hd,_,JU⟩,_⟩:=t.th ho;refine⟨p,c.Kd,dx,_,_,rfl,hp,z.kc,z.k3,nL ..,_,rfl,_,rfl,d',_,rfl,gM.k (k:=.inr n) hd,_,rfl,?_⟩;rcases JU n with ⟨e1,e2⟩ | ⟨dd,v,e1,e2,hv⟩
  ·rw[e2];refine bu ⟨⟨_,_,rfl⟩,rfl,fun j N9 m hm=>?_⟩;by_cases e:j=i
   ·subst e;rw[ei] at hm;cases hm;rw[ho];exact e1
   ·exact hj j (by omega) m hm
  ·rw[e2];refine cC ⟨_,rfl,_,rfl,d',v,rfl,?_,q2 dd v ?_ hv⟩
   ·rw[<-e2];exact gM.k (k:=.inr n) hd
   ·rw[lL os n ns i hj,List.drop_eq_getElem_cons hi,gy,ho];show(match Js.lookup n with | some d=>some d | none=>_)=_;rw[e1]
inductive uv (K:Fg06) (c:fo) (vs:List V) (H:Hp) (Q:VK) (E:XK):Prop
 | mk wp ps os gv ln lf y x i ns n:vs=[.ref wp.W,y,x,.str n]->dc K c H wp ps os gv ln lf->At K H (aU i) y->At K H (.tup (ns.map aU)) x->(∀m∈ns,∃nm Ld d' Js,os[m]?=some (.kd nm Ld d' Js))->((∀d,fe os n ns=some d->Vd os d))->os.length<=1000->Im K c wp ps os gv ln lf i H Q (tD os (fe os n ns))->uv K c vs H Q E
theorem Bd:aQ ["world","owner","classes","name","found"] ["world","owner","classes","name"] (aC CG):=gp
theorem Dq (g:Glb9 mg) (z:j6 K c) (hF:mg "Function"=some (.ref c.F)) (F:fm K "found_by_way" "found_by_way" CG f fd) (dT:Def P w K mg base "thing_of" ["world","a"] 1 (jN K c)) (dF:Def P w K mg base "found_in" ["world","classes","name"] 2 (uu K c)) (dM:Def P w K mg base "new_method" ["world","target","owner"] 3 (BP K c)):bK P w K mg base fq 4 f fd ["world","owner","classes","name"] (uv K c):=by
 refine F.gB Bd fun UO A outer s H vs Q E hr h=>?_;obtain⟨wp,ps,os,gv,ln,lf,y,x,i,ns,n,rfl,hw,hy,hx,hk,Kg,hl,q⟩:=h;refine⟨_,(aa (eG 4 Bd.nd (cM dF (kN (pv 0) (pv 2) (pv 3))))
   (aa (bo (LW.pt (fE (fR Aj (pv 4) cE) (d6 (bS (au cD rfl g.hJ fW (cq (cM dT (cq (pv 0) (pv 4))) (bA (v:=.ref c.F) rfl hF rfl))))))) (ah (aJ (cM dM (kN (pv 0) (pv 4) (pv 1))))) aP)
   (ah (aJ (pv 4))))),?_⟩
 refine⟨_,rfl,_,rfl,_,rfl,wp,ps,os,gv,ln,lf,x,ns,n,rfl,hw,hx,hk,fun e=>?_,fun d v e hv=>?_⟩
 ·rw[e] at q;exact⟨_,rfl,rfl,_,rfl,bu (bu ⟨_,rfl,q⟩)⟩
 ·rw[e] at q;have hd:=Kg d e;obtain⟨r,er⟩:=hd.mP;have nv:decide (v=V.bb)=false:=Iv (At.mP (er▸hv));refine⟨_,rfl,rfl,_,rfl,?_⟩;show if(!decide (v=V.bb))=true then _ else _
  rw[nv];refine cC ⟨_,rfl,_,rfl,wp,ps,os,gv,ln,lf,v,d,rfl,hw,hv,hd,fun u t=>?_⟩;refine⟨_,c.F,_,rfl,t.is z z.tF,_,rfl,?_⟩;refine bJ (fun e1=>?_) (fun e1=>?_)
  ·cases ho:iB os d with
   | none=>rw[ho] at e1;cases e1
   | some o=>
    rw[ho] at e1;cases o with
    | fn g1=>
     obtain⟨j,rfl,hj⟩:=iJ hd ho;have q:Im K c wp ps os gv ln lf i H Q (match iB os (aU j) with | some (.fn _)=>.ml (zR (aU j)) | _=>.val (aU j)):=q;rw[ho] at q;exact⟨_,rfl,_,rfl,_,rfl,wp,ps,os,gv,ln,lf,v,y,j,i,rfl,hw,hl,hv,hy,fun r H' p b1 w1 a1=>q r H' p b1 w1 a1⟩
    | _=>cases e1
  ·have q:Im K c wp ps os gv ln lf i H Q (match iB os d with | some (.fn _)=>.ml (zR d) | _=>.val d):=q;refine⟨_,rfl,?_⟩;cases ho:iB os d with
   | none=>rw[ho] at q;exact q v hv
   | some o=>
    rw[ho] at e1 q;cases o with
    | fn g1=>cases e1
    | _=>exact q v hv
inductive qT (K:Fg06) (c:fo) (vs:List V) (H:Hp) (Q:VK) (E:XK):Prop
 | mk wp ps os gv ln lf x i k d fs nm ns d' Js:vs=[.ref wp.W,x]->dc K c H wp ps os gv ln lf->At K H (aU i) x->os[i]?=some (.ob k d fs)->os[k]?=some (.kd nm ns d' Js)->(∀v,At K H (.tup (ns.map aU)) v->tW H v->Q v H)->qT K c vs H Q E
theorem EX:aQ ["world","owner"] ["world","owner"] (aC Cq):=gp
theorem C1 (z:j6 K c) (F:fm K "order_of_owner" "order_of_owner" Cq f fd) (dT:Def P w K mg base "thing_of" ["world","a"] 1 (jN K c)):bK P w K mg base fq 2 f fd ["world","owner"] (qT K c):=by
 refine F.gB EX fun UO A outer s H vs Q E hr h=>?_;obtain⟨wp,ps,os,gv,ln,lf,x,i,k,d,fs,nm,ns,d',Js,rfl,hw,hx,ho,hk,q⟩:=h;refine⟨_,(ah (aJ (L3.bR (cM dT (cq (pv 0) (L3.bR (cM dT (cq (pv 0) (pv 1))))))))),?_⟩;refine⟨_,rfl,_,rfl,_,rfl,wp,ps,os,gv,ln,lf,x,aU i,rfl,hw,hx,Vd.th (aq ho),fun v t=>?_⟩;obtain⟨p,_,rfl,dx,v1,hp,JE,_⟩:=t.th ho;refine⟨p,c.O,dx,_,_,rfl,hp,z.oc,z.o1,q4 ..,wp,ps,os,gv,ln,lf,v1,aU k,rfl,hw,JE,Vd.th (aq hk),fun v t=>?_⟩;obtain⟨p',_,rfl,La,vo,O5,ha,_,JC⟩:=t.th hk;exact⟨p',c.Kd,La,_,_,rfl,O5,z.kc,z.k2,jr ..,q _ ha JC⟩
theorem pI {ds k}(h:k<=ds.length):cutD ds (some ((k:Nat):Int)) none=ds.drop k:=by
 unfold cutD;rw[HT.jl,HT.iQ,Nat.min_eq_left h];exact List.take_of_length_le (by rw[List.length_drop];exact IE _)
def r8:Option Th->List Nat
 | some (.kd _ ns _ _)=>ns
 | _=>[]
def kiT:Option Th->Nat
 | some (.ob k _ _)=>k
 | _=>0
def sO (os:List Th) (o:Nat):List Nat:=r8 os[kiT os[o]?]?
def Bt (k:Nat) (ns:List Nat):List Nat:=ns.drop (ns.idxOf k+1)
theorem Aw {k m ns}(h:m∈Bt k ns):m∈ns:=List.mem_of_mem_drop h
theorem y6 {k}:∀{ns:List Nat},k∈ns->wG (aU k) (ns.map aU) (ns.idxOf k)
 | [],h=>by cases h
 | n::ns,h=>by
  by_cases e:n=k
  ·subst e;rw[List.idxOf_cons_self];exact⟨⟨_,rfl,cI _⟩,fun m _ hm=>Vi hm (Nat.not_lt_zero _)⟩
  ·obtain⟨⟨d,h1,h2⟩,h3⟩:=y6 (List.mem_of_ne_of_mem (U8 e) h);rw[List.idxOf_cons,beq_false_of_ne e];simp only[cond_false];refine⟨⟨d,h1,h2⟩,fun m d' hm he=>?_⟩;cases m with
   | zero=>cases he;rw[qu,Iv e]
   | succ m=>exact h3 m d' (Nat.lt_of_succ_lt_succ hm) he
theorem jw {os}(hf:ou os) {n d}:∀{ns},fe os n ns=some d->Vd os d
 | [],h=>nomatch h
 | m::ns,h=>by
  rw[gy] at h;cases e:(rp os[m]?).lookup n with
  | none=>rw[e] at h;exact jw hf h
  | some d'=>
   rw[e] at h;cases h;cases ho:os[m]? with
   | none=>rw[ho] at e;cases e
   | some o=>
    rw[ho] at e;cases o with
    | kd nm ns d' fs=>exact(hf.k m nm ns d' fs ho).2 n _ e
    | _=>cases e
inductive xG (K:Fg06) (c:fo) (vs:List V) (H:Hp) (Q:VK) (E:XK):Prop
 | mk wp ps os gv ln lf p dx v1 v2 k o n:vs=[.ref wp.W,.ref p,.str n]->dc K c H wp ps os gv ln lf->ou os->os.length<=1000->H p=some (.ins c.Vw dx (GJ v1 v2))->At K H (aU k) v1->At K H (aU o) v2->(∃j d fs nm ns d' Js,os[o]?=some (.ob j d fs)/\os[j]?=some (.kd nm ns d' Js)/\k∈ns)->GD K c wp ps os gv ln lf o H Q (tD os (fe os n (Bt k (sO os o))))->xG K c vs H Q E
theorem Bc:aQ ["world","view","name","order"] ["world","view","name"] (aC CC):=gp
theorem Dl (z:j6 K c) (F:fm K "found_of_view" "found_of_view" CC f fd) (dO:Def P w K mg base "order_of_owner" ["world","owner"] 2 (qT K c)) (dB:Def P w K mg base "found_by_way" ["world","owner","classes","name"] 4 (uv K c)):bK P w K mg base fq 5 f fd ["world","view","name"] (xG K c):=by
 refine F.gB Bc fun UO A outer s H vs Q E hr h=>?_;obtain⟨wp,ps,os,gv,ln,lf,p,dx,v1,v2,k,o,n,rfl,hw,hf,hl,hp,h1,h2,⟨j,d,fs,nm,ns,d',Js,ho,hk,hm⟩,q⟩:=h;refine⟨_,(aa (eG 3 Bc.nd (cM dO (cq (pv 0) (L3.bR (pv 1)))))
   (ah (aJ (cM dB (mi (pv 0) (L3.bR (pv 1)) (bg EM (pv 3) (bz (aB fi (L3.vH K hr (pv 3) (cy (L3.bR (pv 1)))) ag)) bD) (pv 2)))))),?_⟩
 have eo:sO os o=ns:=by unfold sO;rw[ho];show r8 os[j]?=_;rw[hk];rfl
 rw[eo] at q;refine⟨_,rfl,_,rfl,p,c.Vw,dx,_,_,rfl,hp,z.vc,z.v2,oN ..,wp,ps,os,gv,ln,lf,v2,o,j,d,fs,nm,ns,d',Js,rfl,hw,h2,ho,hk,fun vo KS JC=>?_⟩;have Ju:ns.idxOf k+1<=(ns.map aU).length:=by rw[IC];exact List.idxOf_lt_length_iff.mpr hm
 refine⟨_,rfl,_,rfl,p,c.Vw,dx,_,_,rfl,hp,z.vc,z.v2,oN ..,_,rfl,_,rfl,JC,_,rfl,p,c.Vw,dx,_,_,rfl,hp,z.vc,z.v1,wV ..,v1,aU k,ns.map aU,ns.idxOf k,rfl,KS,h1,fun e he=>?_,y6 hm,_,_,rfl,rfl,_,rfl,ns.map aU,KS,fun r1 H1 s1 a1=>?_⟩
 ·obtain⟨m,_,rfl⟩:=Jq.mp he;rw[jg];decide
 have a1:At K H1 (.tup (cutD (ns.map aU) (some (((ns.idxOf k+1:Nat):Nat):Int)) none)) r1:=a1;rw[pI Ju,<-List.map_drop] at a1;have hwk:=(hf.k j nm ns d' Js hk).1;refine⟨_,rfl,wp,ps,os,gv,ln,lf,v2,r1,o,Bt k ns,n,rfl,hw.same s1,At.same s1 _ _ h2,a1,fun m hm=>hwk m (Aw hm),fun d hd=>jw hf hd,hl,?_⟩;generalize tD os (fe os n (Bt k ns))=fr at q ⊢;cases fr with
 | no=>exact q H1 s1
 | val d=>exact fun v hv=>q v H1 s1 hv
 | ml t=>exact fun r H' p b w a=>q r H' p ((ak.but wp.l s1).trans b) w a
def fZ (os:List Th) (d:D) (n:Str):FR×Nat:=match iB os d with
 | some (.ob k _ fs)=>(zd os fs (r8 os[k]?) n,zR d)
 | some (.kd _ ns _ _)=>(match fe os n ns with | some e=>.val e | none=>.no,0)
 | some (.vw k o)=>(tD os (fe os n (Bt k (sO os o))),o)
 | _=>(.no,0)
theorem zb {os n ns dd}(hf:ou os) (e:tD os (fe os n ns)=.val dd):Vd os dd:=by
 cases e3:fe os n ns with
 | none=>rw[e3] at e;cases e
 | some d3=>
  rw[e3] at e;have e:(match iB os d3 with | some (.fn _)=>FR.ml (zR d3) | _=>.val d3)=.val dd:=e;split at e
  ·cases e
  ·cases e;exact jw hf e3
theorem AI {os d n dd}(hf:ou os) (hd:Vd os d) (e:(fZ os d n).1=.val dd):Vd os dd:=by
 unfold fZ at e;split at e
 ·rename_i k d' fs ho;obtain⟨i,rfl,hi⟩:=iJ hd ho;have e:(match fs.lookup n with | some d=>FR.val d | none=>tD os (fe os n (r8 os[k]?)))=.val dd:=e;split at e
  ·rename_i d2 e2;cases e;exact(hf.o i k d' fs hi).2 n _ e2
  ·exact zb hf e
 ·rename_i nm ns d' fs ho;cases e3:fe os n ns with
  | none=>rw[e3] at e;cases e
  | some d3=>rw[e3] at e;cases e;exact jw hf e3
 ·exact zb hf e
 ·cases e
inductive ur (K:Fg06) (c:fo) (vs:List V) (H:Hp) (Q:VK) (E:XK):Prop
 | mk wp ps os gv ln lf x d n:vs=[.ref wp.W,x,.str n]->dc K c H wp ps os gv ln lf->ou os->os.length<=1000->At K H d x->Vd os d->FRq K c wp ps os gv ln lf (fZ os d n).2 H Q (fZ os d n).1->ur K c vs H Q E
inductive sFd (K:Fg06) (c:fo) (D0:U4) (σ:L2.St) (H:Hp):Prop
 | mk wp ps os gv ln lf x d n v:σ=[some (.ref wp.W),some x,some (.str n),some v,some .bb]->dc K c H wp ps os gv ln lf->ou os->os.length<=1000->At K H d x->Vd os d->TV K c H ps os d v->GD K c wp ps os gv ln lf (fZ os d n).2 H (fun r H'=>D0.nx [some (.ref wp.W),some x,some (.str n),some v,some r] H') (fZ os d n).1->sFd K c D0 σ H
theorem nt:aQ ["world","a","name","thing","found"] ["world","a","name"] (aC CD):=gp
theorem Dn (g:Glb9 mg) (z:j6 K c) (hO:mg "Object"=some (.ref c.O)) (hK:mg "Kind"=some (.ref c.Kd)) (hV:mg "View"=some (.ref c.Vw)) (F:fm K "field_of" "field_of" CD f fd) (dT:Def P w K mg base "thing_of" ["world","a"] 1 (jN K c)) (dO:Def P w K mg base "order_of_owner" ["world","owner"] 2 (qT K c)) (dB:Def P w K mg base "found_by_way" ["world","owner","classes","name"] 4 (uv K c)) (dI:Def P w K mg base "found_in" ["world","classes","name"] 2 (uu K c)) (dV:Def P w K mg base "found_of_view" ["world","view","name"] 5 (xG K c)):bK P w K mg base fq 6 f fd ["world","a","name"] (ur K c):=by
 refine F.gB nt fun UO A outer s H vs Q E hr h=>?_;obtain⟨wp,ps,os,gv,ln,lf,x,d,n,rfl,hw,hf,hl,hx,hd,q⟩:=h;refine⟨_,(aa (eG 3 nt.nd (cM dT (cq (pv 0) (pv 1))))
   (aa (eG 4 nt.nd cE)
   (aa (gs (t':=sFd K c) (bo (bS (au cD rfl g.hJ fW (cq (pv 3) (bA (v:=.ref c.O) rfl hO rfl)))) (aa (eG 4 nt.nd (.mk (L2.qX (fI hr) (LE.out (L3.bR (pv 3))) (LE.out (pv 2)) ⟨rfl,rfl,rfl,rfl⟩)))
   (ah (bo (fR nF (pv 4) cE) (ah (eG 4 nt.nd (cM dB (mi (pv 0) (pv 1) (cM dO (cq (pv 0) (pv 1))) (pv 2))))) aP)))
    (ah (bo (bS (au cD rfl g.hJ fW (cq (pv 3) (bA (v:=.ref c.Kd) rfl hK rfl)))) (ah (eG 4 nt.nd (cM dI (kN (pv 0) (L3.bR (pv 3)) (pv 2)))))
     (ah (bo (bS (au cD rfl g.hJ fW (cq (pv 3) (bA (v:=.ref c.Vw) rfl hV rfl)))) (ah (eG 4 nt.nd (cM dV (kN (pv 0) (pv 3) (pv 2))))) aP))))) ?fd)
   (ah (aJ (bC (fR nF (pv 4) cE) (ba (cq aj aj)) (ba (cq aj (pv 4))))))))),?main⟩
 case fd=>
  rintro D0 σ H ⟨wp,ps,os,gv,ln,lf,x,d,n,v,rfl,hw,hf,hl,hx,hd,t,q⟩;have t1:=t.is z z.tO;have t2:=t.is z z.tK;have t3:=t.is z z.tV;cases ho:iB os d with
  | none=>
   rw[ho] at t1 t2 t3;unfold fZ at q;rw[ho] at q;exact⟨_,rfl,_,c.O,false,rfl,t1,_,rfl,bu ⟨_,rfl,_,c.Kd,false,rfl,t2,_,rfl,bu ⟨_,rfl,_,c.Vw,false,rfl,t3,_,rfl,bu (q H (ak.refl _))⟩⟩⟩
  | some o=>
   obtain⟨i,rfl,hi⟩:=iJ hd ho;obtain⟨p,ep,rfl,hp⟩:=t.th hi;rw[ho] at t1 t2 t3;unfold fZ at q;rw[ho] at q;cases o with
   | ob k d' fs=>
    obtain⟨dx,v1,hp,JE,UM,TF,_,JU⟩:=hp;obtain⟨⟨nm,ns,d2,MD,hk⟩,Kg⟩:=hf.o i k d' fs hi;refine⟨_,rfl,_,c.O,true,rfl,t1,_,rfl,cC ?_⟩;refine⟨_,rfl,p,c.O,dx,_,_,rfl,hp,z.oc,z.o2,nG ..,d',rfl,.inl ⟨UM,.inl TF⟩,_,rfl,_,gM.k (k:=.inr n) TF,?_⟩;have q:GD K c wp ps os gv ln lf i H _ (match fs.lookup n with | some d=>.val d | none=>tD os (fe os n (r8 os[k]?))):=q;rw[hk] at q;rcases JU n with ⟨e1,e2⟩ | ⟨dd,v,e1,e2,hA⟩
    ·rw[e2];rw[e1] at q;refine⟨_,rfl,rfl,_,rfl,cC ⟨_,rfl,_,rfl,_,rfl,_,rfl,wp,ps,os,gv,ln,lf,x,i,k,d',fs,nm,ns,d2,MD,rfl,hw,hx,hi,hk,fun vo KS _=>⟨_,rfl,wp,ps,os,gv,ln,lf,x,vo,i,ns,n,rfl,hw,hx,KS,(hf.k k nm ns d2 MD hk).1,fun dd Mx=>jw hf Mx,hl,?_⟩⟩⟩;have q:GD K c wp ps os gv ln lf i H _ (tD os (fe os n ns)):=q;generalize tD os (fe os n ns)=fr at q ⊢;cases fr with
     | no=>exact q H (ak.refl _)
     | val d=>exact fun v hv=>q v H (ak.refl _) hv
     | ml t=>exact q
    ·rw[e2];rw[e1] at q;obtain⟨r,rfl⟩:=(Kg n dd e1).mP;have nv:decide (v=V.bb)=false:=Iv hA.mP;refine⟨_,rfl,rfl,_,rfl,?_⟩;show if decide (v=V.bb)=true then _ else _
     rw[nv];exact bu (q v H (ak.refl _) hA)
   | kd nm ns d' fs=>
    obtain⟨dx,vo,hp,KS,_⟩:=hp;have q:GD K c wp ps os gv ln lf 0 H _ (match fe os n ns with | some e=>.val e | none=>.no):=q;refine⟨_,rfl,_,c.O,false,rfl,t1,_,rfl,bu ⟨_,rfl,_,c.Kd,true,rfl,t2,_,rfl,cC ⟨_,rfl,_,rfl,p,c.Kd,dx,_,_,rfl,hp,z.kc,z.k2,jr ..,_,rfl,wp,ps,os,gv,ln,lf,vo,ns,n,rfl,hw,KS,(hf.k i nm ns d' fs hi).1,fun e=>?_,fun dd v e hv=>?_⟩⟩⟩
    ·rw[e] at q;exact q H (ak.refl _)
    ·rw[e] at q;exact q v H (ak.refl _) hv
   | vw k1 o1=>
    obtain⟨dx,v1,v2,hp,h1,h2⟩:=hp;exact⟨_,rfl,_,c.O,false,rfl,t1,_,rfl,bu ⟨_,rfl,_,c.Kd,false,rfl,t2,_,rfl,bu ⟨_,rfl,_,c.Vw,true,rfl,t3,_,rfl,cC ⟨_,rfl,_,rfl,_,rfl,wp,ps,os,gv,ln,lf,p,dx,v1,v2,k1,o1,n,rfl,hw,hf,hl,hp,h1,h2,hf.v i k1 o1 hi,q⟩⟩⟩⟩
   | _=>exact⟨_,rfl,_,c.O,false,rfl,t1,_,rfl,bu ⟨_,rfl,_,c.Kd,false,rfl,t2,_,rfl,bu ⟨_,rfl,_,c.Vw,false,rfl,t3,_,rfl,bu (q H (ak.refl _))⟩⟩⟩
 case main=>
  refine⟨_,rfl,_,rfl,wp,ps,os,gv,ln,lf,x,d,rfl,hw,hx,hd,fun v t=>⟨wp,ps,os,gv,ln,lf,x,d,n,v,rfl,hw,hf,hl,hx,hd,t,?_⟩⟩;have Kg:∀dd,(fZ os d n).1=.val dd->Vd os dd:=fun dd e=>AI hf hd e;generalize (fZ os d n).1=fr at q Kg ⊢;generalize (fZ os d n).2=ow at q ⊢;cases fr with
  | no=>
   intro H1 s1;exact⟨_,rfl,rfl,_,rfl,cC ⟨jC,fun p hp=>q _ _ (s1.trans (ab hp _)) (At.new hp (ck (aH.mpr rfl) (aH.mpr rfl)))⟩⟩
  | val dd=>
   intro v H1 s1 hv;obtain⟨r,rfl⟩:=(Kg dd rfl).mP;have nv:decide (v=V.bb)=false:=Iv hv.mP;refine⟨_,rfl,rfl,_,rfl,?_⟩;show if decide (v=V.bb)=true then _ else _
   rw[nv];exact bu ⟨_,rfl,jC,fun p hp=>q _ _ (s1.trans (ab hp _)) (At.new hp (ck (aH.mpr rfl) hv))⟩
  | ml t=>
   intro r H1 p1 b1 w1 a1;have nv:decide (r=V.bb)=false:=Iv a1.mP;refine⟨_,rfl,rfl,_,rfl,?_⟩;show if decide (r=V.bb)=true then _ else _
   rw[nv];exact bu ⟨_,rfl,jC,fun p hp=>q _ _ p1 (b1.trans (ak.but wp.l (ab hp _))) (w1.same (ab hp _)) (At.new hp (ck (aH.mpr rfl) a1))⟩
def tJ:Option Th->Bool
 | some (.ob ..)=>true
 | some (.kd _ ns _ _)=>!yW ns
 | _=>false
inductive xM (K:Fg06) (c:fo) (vs:List V) (H:Hp) (Q:VK) (E:XK):Prop
 | mk ps os d v:vs=[v]->TV K c H ps os d v->Vd os d->Q (.bl (tJ (iB os d))) H->xM K c vs H Q E
theorem Fb:aQ ["thing"] ["thing"] (aC CJ):=gp
theorem Dv (g:Glb9 mg) (z:j6 K c) (hO:mg "Object"=some (.ref c.O)) (hK:mg "Kind"=some (.ref c.Kd)) (F:fm K "can_be_put" "can_be_put" CJ f fd):bK P w K mg base fq 1 f fd ["thing"] (xM K c):=by
 refine F.gB Fb fun UO A outer s H vs Q E hr h=>?_;obtain⟨ps,os,d,v,rfl,t,hd,q⟩:=h;refine⟨_,(ah (aJ (iT (au cD rfl g.hJ fW (cq (pv 0) (bA (v:=.ref c.O) rfl hO rfl))) (d9 (fh (au cD rfl g.hJ fW (cq (pv 0) (bA (v:=.ref c.Kd) rfl hK rfl))) (d9 (.mk (L2.Ce (LE.out (L3.bR (pv 0))))))))))),?_⟩;have t1:=t.is z z.tO;have t2:=t.is z z.tK;cases ho:iB os d with
 | none=>
  rw[ho] at t1 t2 q;exact⟨_,rfl,_,c.O,false,rfl,t1,_,rfl,bu ⟨_,rfl,_,c.Kd,false,rfl,t2,_,rfl,bu q⟩⟩
 | some o=>
  obtain⟨i,rfl,hi⟩:=iJ hd ho;obtain⟨p,ep,rfl,hp⟩:=t.th hi;rw[ho] at t1 t2 q;cases o with
  | ob k d' fs=>exact⟨_,rfl,_,c.O,true,rfl,t1,_,rfl,cC q⟩
  | kd nm ns d' fs=>
   obtain⟨dx,vo,hp,_⟩:=hp;exact⟨_,rfl,_,c.O,false,rfl,t1,_,rfl,bu ⟨_,rfl,_,c.Kd,true,rfl,t2,_,rfl,cC ⟨_,rfl,p,c.Kd,dx,_,_,rfl,hp,z.kc,z.k4,wb ..,_,rfl,q⟩⟩⟩
  | _=>exact⟨_,rfl,_,c.O,false,rfl,t1,_,rfl,bu ⟨_,rfl,_,c.Kd,false,rfl,t2,_,rfl,bu q⟩⟩
def DU:Option Th->List (Str×D)
 | some (.ob _ _ fs)=>fs
 | some (.kd _ _ _ fs)=>fs
 | _=>[]
inductive xn (K:Fg06) (c:fo) (vs:List V) (H:Hp) (Q:VK) (E:XK):Prop
 | mk wp ps os gv ln lf x y d n dv:vs=[.ref wp.W,x,.str n,y]->dc K c H wp ps os gv ln lf->At K H d x->Vd os d->(DU (iB os d)).length<=100->At K H dv y->(tJ (iB os d)=false->∀r H',ak H H'->At K H' (.tup [.str "fault",.str "FieldFault"]) r->Q r H')->(∀i o dd r H',d=aU i->os[i]?=some o->tJ (some o)=true->pH o=some dd->bw dd H H'->dc K c H' wp ps (os.set i (qL ((n,dv)::DU (some o)) o)) gv ln lf->At K H' (.tup [.str "value",jA]) r->Q r H')->xn K c vs H Q E
theorem A9:aQ ["world","a","name","v","thing"] ["world","a","name","v"] (aC Cn):=gp
theorem CY (z:j6 K c) (tN:TreeG K mg "NONE" [.str "none"]) (F:fm K "put_field" "put_field" Cn f fd) (dT:Def P w K mg base "thing_of" ["world","a"] 1 (jN K c)) (dC:Def P w K mg base "can_be_put" ["thing"] 1 (xM K c)):bK P w K mg base fq 2 f fd ["world","a","name","v"] (xn K c):=by
 refine F.gB A9 fun UO A outer s H vs Q E hr h=>?_;obtain⟨wp,ps,os,gv,ln,lf,x,y,d,n,dv,rfl,hw,hx,hd,hn,hy,q1,q2⟩:=h;obtain⟨pN,vN,mN,aN⟩:=tN;refine⟨_,(aa (eG 4 A9.nd (cM dT (cq (pv 0) (pv 1))))
   (aa (bo (fP (bS (cM dC (cy (pv 4))))) (ah (aJ (ba (cq aj aj)))) aP)
   (aa (.mk (L2.il (fI hr) (LE.out (L3.bR (pv 4))) (LE.out (pv 2)) (LE.out (pv 3)) rfl))
   (ah (aJ (ba (cq aj (bA (v:=.ref pN) rfl mN rfl)))))))),?_⟩
 refine⟨_,rfl,_,rfl,wp,ps,os,gv,ln,lf,x,d,rfl,hw,hx,hd,fun v t=>⟨_,rfl,ps,os,d,v,rfl,t,hd,_,rfl,?_⟩⟩;cases hc:tJ (iB os d) with
 | false=>exact cC ⟨jC,fun p hp=>q1 hc _ _ (ab hp _) (At.new hp (ck (aH.mpr rfl) (aH.mpr rfl)))⟩
 | true=>
  refine bu ?_;cases ho:iB os d with
  | none=>rw[ho] at hc;cases hc
  | some o=>
   rw[ho] at hc hn;obtain⟨i,rfl,hi⟩:=iJ hd ho;obtain⟨p,ep,rfl,hp⟩:=t.th hi;have fin:∀dd UM,pH o=some dd->H dd=some (.dK UM)->UM.length<=(DU (some o)).length->fz K (U1 H dd (.dK (U3 UM (.inr n:Key) y))) dd ((n,dv)::DU (some o))->UM.length < sizeLine/\BH (BG (gP (tC (.str "value")) (gP (tC (.ref pN)) oB))) ⟨fun _ H'=>Q .bb H',Q,fun _ _=>False,fun _ _=>False⟩ [some (.ref wp.W),some x,some (.str n),some y,some (.ref p)] (U1 H dd (.dK (U3 UM (.inr n:Key) y))):=fun dd UM ed hd hl hf=>by
    have w2:=hw.put hi ed hf;have b2:bw dd H (U1 H dd (.dK (U3 UM (.inr n:Key) y))):=bw.put _ _;refine⟨bZ (by omega),?_⟩;generalize U1 H dd (.dK (U3 UM (.inr n:Key) y))=H2 at w2 b2 ⊢;exact⟨jC,fun t ht=>q2 i o dd _ _ rfl hi hc ed (b2.trans (ak.but dd (ab ht _))) (w2.same (ab ht _)) (At.new ht (ck (aH.mpr rfl) (bf.mpr ⟨pN,vN,rfl,(aN _).1,(aN _).2⟩)))⟩
   cases o with
   | ob k dd fs=>
    obtain⟨dx,v1,hp,JE,JU⟩:=hp;obtain⟨UM,hd,hl,hf⟩:=JU.put (n:=n) hy;obtain⟨h1,h2⟩:=fin dd UM rfl hd hl hf;exact⟨_,rfl,_,rfl,p,c.O,dx,_,_,rfl,hp,z.oc,z.o2,nG ..,_,rfl,dd,_,rfl,mq.k (k:=.inr n) hd h1,h2⟩
   | kd nm ns dd fs=>
    obtain⟨dx,vo,hp,KS,JU,_⟩:=hp;obtain⟨UM,hd,hl,hf⟩:=JU.put (n:=n) hy;obtain⟨h1,h2⟩:=fin dd UM rfl hd hl hf;exact⟨_,rfl,_,rfl,p,c.Kd,dx,_,_,rfl,hp,z.kc,z.k3,nL ..,_,rfl,dd,_,rfl,mq.k (k:=.inr n) hd h1,h2⟩
   | _=>cases hc
abbrev Cs:Stmt:=cB 37
abbrev Cm:Stmt:=cB 38
abbrev Ck:Stmt:=cB 39
theorem bX (a b:Str):(a++b).length=a.length+b.length:=by
 show(a.cps++b.cps).size=a.cps.size+b.cps.size;rw[Array.size_append]
def tF3 (c:Str) (ta tb:TE):TE:=fun σ H Q=>ta σ H fun x H1=>∃a,x=.str a/\a.length<=1000/\tb σ H1 fun y H2=>∃b,y=.str b/\b.length<=1000/\Q (.str (Str.empty++a++c++b)) H2
theorem Fw {X c}{j:Nat} {e1 e2 p1 p2 p3 pos ta tb}(hc:c.length<=1000) (ha:LE X e1 ta) (hb:LE X e2 tb):LE X (.JoinedStr [.FormattedValue e1 (-1) none p1,.Constant (.str c) j p2,.FormattedValue e2 (-1) none p3] pos) (tF3 c ta tb):=by
 refine .mk fun UL s σ H Q I h=>?_;have hz:Str.empty.length=0:=rfl;have hS:=sizeLine_eq;refine JoinedStr_many (joinParts_cons (FormattedValue_plain (da (ha.out UL s σ H _ I h) fun u s1 ⟨x,H1,I1,rx,a,ea,la,q1⟩=>?_)));subst ea;obtain⟨t,rfl⟩:=rx;refine formatField_str (fun t' tk=>⟨by rw[bX];omega,joinParts_cons (Calls.Constant_str ⟨by rw[bX,bX];omega,?_⟩)⟩) (by omega);refine joinParts_cons (FormattedValue_plain (da (hb.out UL _ σ H1 _ ((I1.tok tk).tok _) q1) fun u s2 ⟨y,H2,I2,ry,b,eb,lb,q2⟩=>?_));subst eb;obtain⟨t2,rfl⟩:=ry;refine formatField_str (fun t' Sr=>⟨by rw[bX,bX,bX];omega,joinParts_nil ⟨.str _,H2,(I2.tok Sr).tok (Sr+1),⟨_,rfl⟩,q2⟩ (by rw[bX,bX,bX];omega)⟩) (by omega)
def Ha:V->Str
 | .int i=>toString i
 | .str x=>x
 | .bl b=>if b then "True" else "False"
 | _=>""
theorem pL {X}:gf X (.type "str") (fun xs H Q=>∃x,xs=[x]/\((∃i:Int,x=.int i/\i.natAbs.log2 < 1920)\/(∃y,x=.str y)\/∃b,x=.bl b)/\Q (.str (Ha x)) H):=by
 intro UL s σ H xs us Q I r h;obtain⟨x,rfl,h,q⟩:=h;rcases h with ⟨i,rfl,hz⟩ | ⟨y,rfl⟩ | ⟨b,rfl⟩
 ·obtain⟨u,rfl,t,rfl⟩:=vals1 r;exact PySem.P.str_of_int hz ⟨.str _,H,I.tok _,⟨_,rfl⟩,q⟩
 ·obtain⟨u,rfl,t,rfl⟩:=vals1 r;exact PySem.P.str_of_str ⟨.str _,H,I,⟨_,rfl⟩,q⟩
 ·obtain⟨u,rfl,r1⟩:=vals1 r;cases r1;exact PySem.P.str_of_bool ⟨.str _,H,I.tok _,⟨_,rfl⟩,q⟩
def jn (a b:Str):Str:=Str.empty++a++" "++b
def Aq:Option Th->Str
 | some (.fn g)=>g.nm
 | some (.pD n)=>n
 | some (.kd nm _ _ _)=>nm
 | some (.gr nm _)=>nm
 | _=>""
def Ew (os:List Th):Th->Str
 | .fn g=>jn "function" g.nm
 | .pD n=>jn "function" n
 | .mt t _=>jn "method" (Aq os[t]?)
 | .kd nm _ _ _=>jn "class" nm
 | .ob k _ _=>jn "a" (Aq os[k]?)
 | .gr nm _=>jn "giver" nm
 | .vw ..=>"view"
def Ii (os:List Th):Prop:=∀(i:Nat) o,os[i]?=some o->(Aq (some o)).length<=1000
def HJ (i:Int):D:=.tup [.str "number",.int i]
def G4 (x:Str):D:=.tup [.str "text",.str x]
def trD (b:Bool):D:=.tup [.str "truth",.bl b]
inductive Vp (os:List Th):D->Prop
 | th i (h:i < os.length):Vp os (aU i)
 | no:Vp os jA
 | nu i (h:i.natAbs.log2 < 1920):Vp os (HJ i)
 | te x:Vp os (G4 x)
 | tr b:Vp os (trD b)
theorem Vp.vd {os d}(h:Vp os d):Vd os d:=by
 cases h with
 | th i h=>exact Vd.th h
 | no=>exact Vd.jA
 | nu i h=>exact Vd.no (by decide +kernel) (by rw[GS.dep,cJ,cJ,cJ,cK,gG];exact IE _)
 | te x=>exact Vd.no (by decide +kernel) (by rw[GS.dep,cJ,cJ,cJ,cK,cK];exact IE _)
 | tr b=>exact Vd.no (by decide +kernel) (by rw[GS.dep,cJ,cJ,cJ,cK,qz];exact IE _)
def wJ (os:List Th):D->Str
 | .tup [.str k,.int i]=>if k="thing" then(match os[i.toNat]? with | some o=>Ew os o | none=>"") else toString i
 | .tup [.str _,.str x]=>x
 | .tup [.str _,.bl b]=>if b then "True" else "False"
 | _=>"None"
theorem gU {os i o}(h:os[i]?=some o):wJ os (aU i)=Ew os o:=by
 show(if("thing":Str)="thing" then(match os[((i:Nat):Int).toNat]? with | some o=>Ew os o | none=>"") else(toString ((i:Nat):Int):Str))=_;rw[II rfl,Int.toNat_natCast,h]
theorem pX (os i):wJ os (HJ i)=Ha (.int i):=by
 show(if("number":Str)="thing" then(match os[i.toNat]? with | some o=>Ew os o | none=>"") else(toString i:Str))=_;rw[IH (by decide +kernel)];rfl
inductive xu (vs:List V) (H:Hp) (Q:VK) (E:XK):Prop
 | mk a b:vs=[.str a,.str b]->a.length<=1000->b.length<=1000->Q (.str (Str.empty++a++" "++b)) H->xu  vs H Q E
theorem EZ:aQ ["word","name"] ["word","name"] (aC Cs):=gp
theorem C4 (F:fm K "named" "named" Cs f fd):bK P w K mg base fq 1 f fd ["word","name"] xu:=by
 refine F.gB EZ fun UO A outer s H vs Q E hr h=>?_;obtain⟨a,b,rfl,la,lb,q⟩:=h;refine⟨_,(ah (aJ (Fw (by decide +kernel) (pv 0) (pv 1)))),?_⟩;exact⟨_,rfl,a,rfl,la,_,rfl,b,rfl,lb,q⟩
inductive xm (K:Fg06) (c:fo) (vs:List V) (H:Hp) (Q:VK) (E:XK):Prop
 | mk wp ps os gv ln (lf:List Int) p (i:Nat) o:vs=[.ref wp.W,.ref p]->dc K c H wp ps os gv ln lf->ou os->Ii os->ps[i]?=some p->os[i]?=some o->Q (.str (Ew os o)) H->xm K c vs H Q E
theorem EV:aQ ["world","thing"] ["world","thing"] (aC Cm):=gp
theorem CW (g:Glb9 mg) (z:j6 K c) (hF:mg "Function"=some (.ref c.F)) (hG:mg "Given"=some (.ref c.G)) (hM:mg "Method"=some (.ref c.M)) (hK:mg "Kind"=some (.ref c.Kd)) (hO:mg "Object"=some (.ref c.O)) (hR:mg "Giver"=some (.ref c.Gr)) (F:fm K "text_of_thing" "text_of_thing" Cm f fd) (dT:Def P w K mg base "thing_of" ["world","a"] 1 (jN K c)) (dN:Def P w K mg base "named" ["word","name"] 1 xu):bK P w K mg base fq 2 f fd ["world","thing"] (xm K c):=by
 refine F.gB EV fun UO A outer s H vs Q E hr h=>?_;obtain⟨wp,ps,os,gv,ln,lf,p,i,o,rfl,hw,hf,hn,hi,ho,q⟩:=h;refine⟨_,(aa (bo (LW.pt (gk (bS (au cD rfl g.hJ fW (cq (pv 1) (bA (v:=.ref c.F) rfl hF rfl)))) (fg (bS (au cD rfl g.hJ fW (cq (pv 1) (bA (v:=.ref c.G) rfl hG rfl))))))) (ah (aJ (cM dN (cq aj (L3.bR (pv 1)))))) aP)
   (aa (bo (bS (au cD rfl g.hJ fW (cq (pv 1) (bA (v:=.ref c.M) rfl hM rfl)))) (ah (aJ (cM dN (cq aj (L3.bR (cM dT (cq (pv 0) (L3.bR (pv 1))))))))) aP)
   (aa (bo (bS (au cD rfl g.hJ fW (cq (pv 1) (bA (v:=.ref c.Kd) rfl hK rfl)))) (ah (aJ (cM dN (cq aj (L3.bR (pv 1)))))) aP)
   (aa (bo (bS (au cD rfl g.hJ fW (cq (pv 1) (bA (v:=.ref c.O) rfl hO rfl)))) (ah (aJ (cM dN (cq aj (L3.bR (cM dT (cq (pv 0) (L3.bR (pv 1))))))))) aP)
   (ah (aJ (bC (bS (au cD rfl g.hJ fW (cq (pv 1) (bA (v:=.ref c.Gr) rfl hR rfl)))) (cM dN (cq aj (L3.bR (pv 1)))) aj))))))),?_⟩
 have hp:=hw.o i p o hi ho;have ti:∀{C:Addr}{f g m k o' r w:Bool},qJ K c C f g m k o' r w->(∃p1 D dx fs,V.ref p=.ref p1/\H p1=some (.ins D dx fs)/\ot K D/\PySem.W.kitOne K (.ref D) (.ref C)=some (so f g m k o' r w (some o)))\/(V.ref p=.bb/\PySem.W.kitOne K (.type "NoneType") (.ref C)=some (so f g m k o' r w (some o))):=fun kt=>by
  have h:=TV.is (ps:=ps) (os:=os) (d:=aU i) z (.inr ⟨i,p,o,rfl,(bI os i).trans ho,hi,ho,rfl,hp⟩) kt;rw[bI,ho] at h;exact h
 have hl:=hn i o ho;cases o with
 | fn g1=>
  obtain⟨dx,v3,hp,_⟩:=hp;exact⟨_,rfl,_,c.F,true,rfl,ti z.tF,_,rfl,cC ⟨_,rfl,p,c.F,dx,_,_,rfl,hp,z.fc,z.f1,rF ..,"function",g1.nm,rfl,by decide +kernel,hl,q⟩⟩
 | pD n=>
  obtain⟨dx,hp⟩:=hp;exact⟨_,rfl,_,c.F,false,rfl,ti z.tF,_,rfl,bu ⟨_,rfl,_,c.G,true,rfl,ti z.tG,_,rfl,cC ⟨_,rfl,p,c.G,dx,_,_,rfl,hp,z.gc,z.g1,rfl,"function",n,rfl,by decide +kernel,hl,q⟩⟩⟩
 | mt t o1=>
  obtain⟨dx,v1,v2,hp,JE,_⟩:=hp;obtain⟨⟨g1,Mv⟩,_⟩:=hf.m i t o1 ho;have hl:=hn t _ Mv;have q:Q (.str (jn "method" (Aq os[t]?))) H:=q;rw[Mv] at q;refine⟨_,rfl,_,c.F,false,rfl,ti z.tF,_,rfl,bu ⟨_,rfl,_,c.G,false,rfl,ti z.tG,_,rfl,bu ⟨_,rfl,_,c.M,true,rfl,ti z.tM,_,rfl,cC ⟨_,rfl,_,rfl,p,c.M,dx,_,_,rfl,hp,z.mc,z.m1,nH ..,wp,ps,os,gv,ln,lf,v1,aU t,rfl,hw,JE,Vd.th (aq Mv),fun v t=>?_⟩⟩⟩⟩;obtain⟨p',_,rfl,La,v3,O5,_⟩:=t.th Mv;exact⟨p',c.F,La,_,_,rfl,O5,z.fc,z.f1,rF ..,"method",g1.nm,rfl,by decide +kernel,hl,q⟩
 | kd nm ns d fs=>
  obtain⟨dx,vo,hp,_⟩:=hp;exact⟨_,rfl,_,c.F,false,rfl,ti z.tF,_,rfl,bu ⟨_,rfl,_,c.G,false,rfl,ti z.tG,_,rfl,bu ⟨_,rfl,_,c.M,false,rfl,ti z.tM,_,rfl,bu ⟨_,rfl,_,c.Kd,true,rfl,ti z.tK,_,rfl,cC ⟨_,rfl,p,c.Kd,dx,_,_,rfl,hp,z.kc,z.k1,rq ..,"class",nm,rfl,by decide +kernel,hl,q⟩⟩⟩⟩⟩
 | ob k d fs=>
  obtain⟨dx,v1,hp,JE,_⟩:=hp;obtain⟨⟨nm,ns,d',Js,hk⟩,_⟩:=hf.o i k d fs ho;have hl:=hn k _ hk;have q:Q (.str (jn "a" (Aq os[k]?))) H:=q;rw[hk] at q;refine⟨_,rfl,_,c.F,false,rfl,ti z.tF,_,rfl,bu ⟨_,rfl,_,c.G,false,rfl,ti z.tG,_,rfl,bu ⟨_,rfl,_,c.M,false,rfl,ti z.tM,_,rfl,bu ⟨_,rfl,_,c.Kd,false,rfl,ti z.tK,_,rfl,bu ⟨_,rfl,_,c.O,true,rfl,ti z.tO,_,rfl,cC ⟨_,rfl,_,rfl,p,c.O,dx,_,_,rfl,hp,z.oc,z.o1,q4 ..,wp,ps,os,gv,ln,lf,v1,aU k,rfl,hw,JE,Vd.th (aq hk),fun v t=>?_⟩⟩⟩⟩⟩⟩;obtain⟨p',_,rfl,La,vo,O5,_⟩:=t.th hk;exact⟨p',c.Kd,La,_,_,rfl,O5,z.kc,z.k1,rq ..,"a",nm,rfl,by decide +kernel,hl,q⟩
 | gr nm fr=>
  obtain⟨dx,hp⟩:=hp;exact⟨_,rfl,_,c.F,false,rfl,ti z.tF,_,rfl,bu ⟨_,rfl,_,c.G,false,rfl,ti z.tG,_,rfl,bu ⟨_,rfl,_,c.M,false,rfl,ti z.tM,_,rfl,bu ⟨_,rfl,_,c.Kd,false,rfl,ti z.tK,_,rfl,bu ⟨_,rfl,_,c.O,false,rfl,ti z.tO,_,rfl,bu ⟨_,rfl,_,c.Gr,true,rfl,ti z.tR,_,rfl,cC ⟨_,rfl,p,c.Gr,dx,_,_,rfl,hp,z.rc,z.r1,yX ..,"giver",nm,rfl,by decide +kernel,hl,q⟩⟩⟩⟩⟩⟩⟩
 | vw k1 o1=>
  exact⟨_,rfl,_,c.F,false,rfl,ti z.tF,_,rfl,bu ⟨_,rfl,_,c.G,false,rfl,ti z.tG,_,rfl,bu ⟨_,rfl,_,c.M,false,rfl,ti z.tM,_,rfl,bu ⟨_,rfl,_,c.Kd,false,rfl,ti z.tK,_,rfl,bu ⟨_,rfl,_,c.O,false,rfl,ti z.tO,_,rfl,bu ⟨_,rfl,_,c.Gr,false,rfl,ti z.tR,_,rfl,bu q⟩⟩⟩⟩⟩⟩
inductive mZ (K:Fg06) (c:fo) (vs:List V) (H:Hp) (Q:VK) (E:XK):Prop
 | mk wp ps os gv ln lf x d:vs=[.ref wp.W,x]->dc K c H wp ps os gv ln lf->ou os->Ii os->At K H d x->Vp os d->Q (.str (wJ os d)) H->mZ K c vs H Q E
theorem EU:aQ ["world","a"] ["world","a"] (aC Ck):=gp
theorem CU (g:Glb9 mg) (F:fm K "text_of" "text_of" Ck f fd) (dT:Def P w K mg base "thing_of" ["world","a"] 1 (jN K c)) (dX:Def P w K mg base "text_of_thing" ["world","thing"] 2 (xm K c)):bK P w K mg base fq 3 f fd ["world","a"] (mZ K c):=by
 refine F.gB EU fun UO A outer s H vs Q E hr h=>?_;obtain⟨wp,ps,os,gv,ln,lf,x,d,rfl,hw,hf,hn,hx,hv,q⟩:=h;refine⟨_,(aa (bo (fR cP (cF (pv 1)) aj) (ah (aJ (cM dX (cq (pv 0) (cM dT (cq (pv 0) (pv 1))))))) aP)
   (ah (aJ (bC (fR cP (cF (pv 1)) aj) aj (bE pL rfl g.DC zu (cy (cF (pv 1)))))))),?_⟩
 have pl:(∃i,d=aU i/\i < os.length)\/d=jA\/∃(k:Str) (u:V) (dv:D),d=.tup [.str k,dv]/\k≠"thing"/\k≠"none"/\(∀y,At K H dv y->y=u)/\((∃i:Int,u=.int i/\i.natAbs.log2 < 1920)\/(∃y,u=.str y)\/∃b,u=.bl b)/\wJ os d=Ha u:=by
  cases hv with
  | th i h=>exact .inl ⟨i,rfl,h⟩
  | no=>exact .inr (.inl rfl)
  | nu i h=>exact .inr (.inr ⟨"number",.int i,.int i,rfl,by decide +kernel,by decide +kernel,fun y h=>bG.mp h,.inl ⟨i,rfl,h⟩,pX os i⟩)
  | te y=>exact .inr (.inr ⟨"text",.str y,.str y,rfl,by decide +kernel,by decide +kernel,fun y h=>aH.mp h,.inr (.inl ⟨y,rfl⟩),rfl⟩)
  | tr b=>exact .inr (.inr ⟨"truth",.bl b,.bl b,rfl,by decide +kernel,by decide +kernel,fun y h=>dZ.mp h,.inr (.inr ⟨b,rfl⟩),rfl⟩)
 rcases pl with ⟨i,rfl,hi⟩ | rfl | ⟨k,u,dv,rfl,h1,h2,hu,hk,e⟩
 ·have ho:os[i]?=some os[i]:=Iy hi;rw[gU ho] at q;refine⟨_,rfl,0,_,_,rfl,hx,rfl,fun yk Lh=>?_⟩;rw[aH.mp Lh];refine⟨rfl,_,rfl,cC ⟨_,rfl,_,rfl,_,rfl,wp,ps,os,gv,ln,lf,x,aU i,rfl,hw,hx,Vd.th hi,fun v t=>?_⟩⟩;obtain⟨p,hp,rfl,_⟩:=t.th ho;exact⟨wp,ps,os,gv,ln,lf,p,i,os[i],rfl,hw,hf,hn,hp,ho,q⟩
 ·refine⟨_,rfl,0,_,_,rfl,hx,rfl,fun yk Lh=>?_⟩;rw[aH.mp Lh];refine⟨rfl,_,rfl,?_⟩;rw[qA (by decide +kernel)];refine bu ⟨_,rfl,0,_,_,rfl,hx,rfl,fun yk Lh=>?_⟩;rw[aH.mp Lh];exact⟨rfl,_,rfl,cC q⟩
 ·rw[e] at q;refine⟨_,rfl,0,_,_,rfl,hx,rfl,fun yk Lh=>?_⟩;rw[aH.mp Lh];refine⟨rfl,_,rfl,?_⟩;rw[qA h1];refine bu ⟨_,rfl,0,_,_,rfl,hx,rfl,fun yk Lh=>?_⟩;rw[aH.mp Lh];refine⟨rfl,_,rfl,?_⟩;rw[qA h2];refine bu ⟨_,rfl,1,_,_,rfl,hx,rfl,fun y1 hy1=>?_⟩;rw[hu y1 hy1];exact⟨_,rfl,hk,q⟩
abbrev CH:Stmt:=cB 46
abbrev Cp:Stmt:=cB 47
abbrev Cj:Stmt:=cB 50
abbrev Ci:Stmt:=cB 52
abbrev HH:Stmt:=cB 58
abbrev CI:Stmt:=cB 59
def pW (os:List Th) (x k:D):Bool:=match iB os x with
 | some (.ob j _ _)=>((r8 os[j]?).map aU).any fun e=>cm e k
 | _=>false
def AY (d:D):D:=.tup [.str "value",d]
theorem uV {os i u}(h:Vd os u) (e:cm (aU i) u=true):u=aU i:=by
 obtain⟨⟨k,r,rfl,hk⟩,_⟩:=h;unfold aU at e;by_cases ek:k="thing"
 ·obtain⟨j,rfl,_⟩:=hk ek;subst ek;have e:cm (aU i) (aU j)=true:=e;rw[qu] at e;rw[IZ e];rfl
 ·exfalso
  simp only[cm,fX,Bool.and_eq_true,decide_eq_true_eq] at e;exact ek (eq_of_beq e.1).symm
theorem zN {os x k}(hx:Vd os x) (hk:Vd os k) (h:pW os x k=true):∃o j d fs n,x=aU o/\os[o]?=some (.ob j d fs)/\k=aU n/\n∈r8 os[j]?:=by
 unfold pW at h;split at h
 ·rename_i j d fs ho;obtain⟨o,rfl,hi⟩:=iJ hx ho;obtain⟨e,he,h⟩:=List.any_eq_true.mp h;obtain⟨n,hn,rfl⟩:=Jq.mp he;exact⟨o,j,d,fs,n,rfl,hi,uV hk h,hn⟩
 ·cases h
inductive xI (K:Fg06) (c:fo) (vs:List V) (H:Hp) (Q:VK) (E:XK):Prop
 | mk wp ps os gv ln lf x y i (g:Il) u:vs=[.ref wp.W,x,y]->dc K c H wp ps os gv ln lf->At K H (aU i) x->os[i]?=some (.fn g)->g.np=1->g.df=[]->At K H (.tup [u]) y->(∀r H',ak H H'->At K H' (.tup [.str "enter",aU i,.tup [u]]) r->Q r H')->xI K c vs H Q E
theorem xT:aQ ["world","f","values","target","lacking"] ["world","f","values"] (aC CH):=gp
theorem Dr (g:Glb9 mg) (z:j6 K c) (F:fm K "entered" "entered" CH f fd) (dT:Def P w K mg base "thing_of" ["world","a"] 1 (jN K c)):bK P w K mg base fq 2 f fd ["world","f","values"] (xI K c):=by
 refine F.gB xT fun UO A outer s H vs Q E hr h=>?_;obtain⟨wp,ps,os,gv,ln,lf,x,y,i,g1,u,rfl,hw,hx,ho,S9,KZ,hy,q⟩:=h;refine⟨_,(aa (eG 3 xT.nd (cM dT (cq (pv 0) (pv 1))))
   (aa (eG 4 xT.nd (aB jS (L3.bR (pv 3)) (au az rfl g.dH bW (cy (pv 2)))))
   (aa (bo (LW.pt (gk (fR ph (pv 4) ag) (fg (fR gm (pv 4) (au az rfl g.dH bW (cy (L3.bR (pv 3)))))))) (ah cQ) aP)
   (ah (aJ (ba (kN aj (pv 1) (aB uG (pv 2) (bg EM (L3.bR (pv 3)) (bz (aB jS (au az rfl g.dH bW (cy (L3.bR (pv 3)))) (pv 4))) bD))))))))),?_⟩
 obtain⟨py,vy,rfl,sy,ay⟩:=bf.mp hy;have ly:vy.length=1:=ay.len;refine⟨_,rfl,_,rfl,wp,ps,os,gv,ln,lf,x,aU i,rfl,hw,hx,Vd.th (aq ho),fun v t=>?_⟩;obtain⟨p,_,rfl,dx,v3,hp,h3⟩:=t.th ho;rw[KZ] at h3;obtain⟨p3,w3,rfl,s3,a3⟩:=bf.mp h3;have l3:w3.length=0:=a3.len;refine⟨_,rfl,p,c.F,dx,_,_,rfl,hp,z.fc,z.f2,tE ..,_,rfl,py,vy,rfl,.inr sy,_,_,rfl,rfl,?_⟩;refine⟨_,rfl,_,_,rfl,rfl,_,rfl,bJ (fun e=>?_) (fun e=>?_)⟩
 ·have e:=IZ e;omega
 refine⟨_,rfl,_,rfl,p,c.F,dx,_,_,rfl,hp,z.fc,z.f3,iq ..,p3,w3,rfl,.inr s3,_,_,rfl,rfl,_,rfl,bJ (fun e2=>?_) (fun e2=>?_)⟩
 ·have e2:=IZ e2;omega
 refine⟨_,rfl,_,rfl,_,rfl,p,c.F,dx,_,_,rfl,hp,z.fc,z.f3,iq ..,_,rfl,p,c.F,dx,_,_,rfl,hp,z.fc,z.f3,iq ..,p3,w3,rfl,.inr s3,_,rfl,_,_,rfl,rfl,_,rfl,[],h3,fun r1 H1 s1 a1=>?_⟩;have a1:At K H1 (.tup (cutD [] (some (((w3.length:Nat):Int) - ((g1.np:Nat) - (vy.length:Nat):Int))) none)) r1:=a1;rw[show((w3.length:Nat):Int) - ((g1.np:Nat) - (vy.length:Nat):Int)=((0:Nat):Int) by omega,pI (Je _)] at a1;refine⟨[u],_,At.same s1 _ _ hy,a1,small (by show 1+0<=_;omega),fun r2 H2 s2 a2=>⟨En,fun t ht=>?_⟩⟩;exact q _ _ ((s1.trans s2).trans (ab ht (.tup [.str "enter",x,r2]))) (At.new ht (tY (aH.mpr rfl) (At.same (s1.trans s2) _ _ hx) a2))
inductive xj (K:Fg06) (c:fo) (vs:List V) (H:Hp) (Q:VK) (E:XK):Prop
 | mk wp ps os gv ln lf x y d k:vs=[.ref wp.W,x,y]->dc K c H wp ps os gv ln lf->ou os->At K H d x->Vd os d->At K H k y->Q (.bl (pW os d k)) H->xj K c vs H Q E
theorem ET:aQ ["world","x","kind"] ["world","x","kind"] (aC Cj):=gp
theorem CT (g:Glb9 mg) (z:j6 K c) (hO:mg "Object"=some (.ref c.O)) (F:fm K "is_under" "is_under" Cj f fd) (dT:Def P w K mg base "thing_of" ["world","a"] 1 (jN K c)) (dO:Def P w K mg base "order_of_owner" ["world","owner"] 2 (qT K c)):bK P w K mg base fq 3 f fd ["world","x","kind"] (xj K c):=by
 refine F.gB ET fun UO A outer s H vs Q E hr h=>?_;obtain⟨wp,ps,os,gv,ln,lf,x,y,d,k,rfl,hw,hf,hx,hv,hy,q⟩:=h;refine⟨_,(ah (aJ (fh (au cD rfl g.hJ fW (cq (cM dT (cq (pv 0) (pv 1))) (bA (v:=.ref c.O) rfl hO rfl))) (d9 (fu (sQ hr) (pv 2) (cM dO (cq (pv 0) (pv 1))) rfl))))),?_⟩;refine⟨_,rfl,_,rfl,wp,ps,os,gv,ln,lf,x,d,rfl,hw,hx,hv,fun v t=>⟨_,c.O,_,rfl,t.is z z.tO,_,rfl,?_⟩⟩;have q2:Q (.bl (match iB os d with | some (.ob j _ _)=>((r8 os[j]?).map aU).any fun e=>cm e k | _=>false)) H:=q;cases ho:iB os d with
 | none=>rw[ho] at q2;exact bu q2
 | some o=>
  rw[ho] at q2;cases o with
  | ob j dd fs=>
   obtain⟨i,rfl,hi⟩:=iJ hv ho;obtain⟨⟨nm,ns,d',Js,hk⟩,_⟩:=hf.o i j dd fs hi;refine cC ⟨_,rfl,_,rfl,_,rfl,wp,ps,os,gv,ln,lf,x,i,j,dd,fs,nm,ns,d',Js,rfl,hw,hx,hi,hk,fun vo KS _=>⟨k,ns.map aU,hy,KS,fun e he=>?_,?_⟩⟩
   ·obtain⟨n,_,rfl⟩:=Jq.mp he;rw[jg];decide
   ·rw[IH IP];have q3:Q (.bl (((r8 os[j]?).map aU).any fun e=>cm e k)) H:=q2;rw[hk] at q3;exact q3
  | _=>exact bu q2
def Ih (K:Fg06) (c:fo) (wp:Wp) (ps:List Addr) (os:List Th) (gv:List (Str×Nat)) (ln:List Str) (lf:List Int) (H:Hp) (Q:VK) (e k:D):Prop:=
 (pW os e k=false->∀r H',ak H H'->At K H' kF r->Q r H')/\∀o j n r H' p,pW os e k=true->e=aU o->kiT os[o]?=j->k=aU n->n∈r8 os[j]?->bw wp.l H H'->dc K c H' wp (ps++[p]) (os++[.vw n o]) gv ln lf->At K H' (AY (aU os.length)) r->Q r H'
inductive xh (K:Fg06) (c:fo) (vs:List V) (H:Hp) (Q:VK) (E:XK):Prop
 | mk wp ps os gv ln lf x y d k:vs=[.ref wp.W,y,x]->dc K c H wp ps os gv ln lf->ou os->At K H d x->Vd os d->At K H k y->Vd os k->os.length<=1000->Ih K c wp ps os gv ln lf H Q d k->xh K c vs H Q E
theorem ER:aQ ["world","kind","x"] ["world","kind","x"] (aC Ci):=gp
theorem CQ (z:j6 K c) (tK:TreeG K mg "KIND_FAULT" [.str "fault",.str "KindFault"]) (F:fm K "viewed" "viewed" Ci f fd) (dV:Def P w K mg base "new_view" ["world","kind","owner"] 3 (BO K c)) (dU:Def P w K mg base "is_under" ["world","x","kind"] 3 (xj K c)):bK P w K mg base fq 4 f fd ["world","kind","x"] (xh K c):=by
 refine F.gB ER fun UO A outer s H vs Q E hr h=>?_;obtain⟨wp,ps,os,gv,ln,lf,x,y,d,k,rfl,hw,hf,hx,hv,hy,hvk,hl,q1,q2⟩:=h;obtain⟨pK,vK,mK,aK⟩:=tK;refine⟨_,(ah (aJ (bC (bS (cM dU (kN (pv 0) (pv 2) (pv 1)))) (ba (cq aj (cM dV (kN (pv 0) (pv 1) (pv 2))))) (bA (v:=.ref pK) rfl mK rfl)))),?_⟩;refine⟨_,rfl,_,rfl,_,rfl,wp,ps,os,gv,ln,lf,x,y,d,k,rfl,hw,hf,hx,hv,hy,_,rfl,bJ (fun e=>?_) (fun e=>?_)⟩
 ·obtain⟨o,j,dd,fs,n,rfl,ho,rfl,hn⟩:=zN hv hvk e;exact⟨_,rfl,_,rfl,_,rfl,wp,ps,os,gv,ln,lf,y,x,n,o,rfl,hw,hl,hy,hx,fun r H1 p b1 w1 a1=>⟨jC,fun t ht=>q2 o j n _ _ p e rfl (by rw[ho];rfl) rfl hn (b1.trans (ak.but wp.l (ab ht _))) (w1.same (ab ht _)) (At.new ht (ck (aH.mpr rfl) a1))⟩⟩
 ·exact q1 e _ _ (ak.refl H) (bf.mpr ⟨pK,vK,rfl,(aK _).1,(aK _).2⟩)
theorem bN {α:Type}{xs ys:List α}{i:Nat}{x:α}(h:xs[i]?=some x):(xs++ys)[i]?=some x:=by rw[Jo (aq h)];exact h
theorem rJ {os Jw n}:∀{ns},(∀m∈ns,m < os.length)->fe (os++Jw) n ns=fe os n ns
 | [],_=>rfl
 | m::ns,h=>by
  rw[gy,gy,Jo (h m Ir),rJ fun k hk=>h k (Iq _ hk)]
def OkT (os:List Th):Th->Prop
 | .kd _ ns _ fs=>(∀n∈ns,n=os.length\/∃Qo Ld d' Js,os[n]?=some (.kd Qo Ld d' Js))/\∀n dd,fs.lookup n=some dd->Vd os dd
 | .ob k _ fs=>(∃nm ns d' Js,os[k]?=some (.kd nm ns d' Js))/\∀n dd,fs.lookup n=some dd->Vd os dd
 | .mt t o=>(∃f,os[t]?=some (.fn f))/\o < os.length
 | .vw k o=>∃j d fs nm ns d' Js,os[o]?=some (.ob j d fs)/\os[j]?=some (.kd nm ns d' Js)/\k∈ns
 | _=>True
theorem ou.add {os:List Th}{o:Th}(h:ou os) (ho:OkT os o):ou (os++[o]):=by
 have ll:os.length<=(os++[o]).length:=by rw[Iu];omega
 refine⟨fun i nm ns d fs e=>?_,fun i k d fs e=>?_,fun i t q e=>?_,fun i k q e=>?_⟩
 ·rcases getElem?_snoc e with u | ⟨_,u⟩
  ·obtain⟨a,b⟩:=h.k i nm ns d fs u;exact⟨fun n hn=>let ⟨x,y,z,v,e⟩:=a n hn;⟨x,y,z,v,bN e⟩,fun n dd e=>(b n dd e).mono ll⟩
  ·subst u;obtain⟨a,b⟩:=ho;refine⟨fun n hn=>?_,fun n dd e=>(b n dd e).mono ll⟩;rcases a n hn with rfl | ⟨x,y,z,v,e⟩
   ·exact⟨_,_,_,_,bP⟩
   ·exact⟨x,y,z,v,bN e⟩
 ·rcases getElem?_snoc e with u | ⟨_,u⟩
  ·obtain⟨⟨x,y,z,v,e⟩,b⟩:=h.o i k d fs u;exact⟨⟨x,y,z,v,bN e⟩,fun n dd e=>(b n dd e).mono ll⟩
  ·subst u;obtain⟨⟨x,y,z,v,e⟩,b⟩:=ho;exact⟨⟨x,y,z,v,bN e⟩,fun n dd e=>(b n dd e).mono ll⟩
 ·rcases getElem?_snoc e with u | ⟨_,u⟩
  ·obtain⟨⟨x,e⟩,b⟩:=h.m i t q u;exact⟨⟨x,bN e⟩,Jh b ll⟩
  ·subst u;obtain⟨⟨x,e⟩,b⟩:=ho;exact⟨⟨x,bN e⟩,Jh b ll⟩
 ·rcases getElem?_snoc e with u | ⟨_,u⟩
  ·obtain⟨a1,a2,a3,a4,a5,a6,a7,h1,h2,h3⟩:=h.v i k q u;exact⟨a1,a2,a3,a4,a5,a6,a7,bN h1,bN h2,h3⟩
  ·subst u;obtain⟨a1,a2,a3,a4,a5,a6,a7,h1,h2,h3⟩:=ho;exact⟨a1,a2,a3,a4,a5,a6,a7,bN h1,bN h2,h3⟩
theorem y8 {os b n dd}(h:(iZ b).lookup n=some dd):Vd os dd:=by
 cases b with
 | false=>cases h
 | true=>
  have h:Gh.lookup n=some dd:=h;unfold Gh at h;rw[dk,dk,dk] at h;split at h
  ·cases h;exact Vd.jA
  ·split at h
   ·cases h;exact Vd.jA
   ·split at h
    ·cases h;exact Vd.jA
    ·cases h
theorem wq (b):(iZ b).lookup ("start":Str)=none:=by
 cases b with
 | false=>rfl
 | true=>decide +kernel
theorem AD (b):(iZ b).length<=3:=by cases b<;>decide
theorem ou.set {os:List Th}{i:Nat} {o0 Js}(h:ou os) (eo:os[i]?=some o0) (hv:∀n dd,Js.lookup n=some dd->Vd os dd):ou (os.set i (qL Js o0)):=by
 have ll:os.length<=(os.set i (qL Js o0)).length:=by rw[IY];omega
 have hi:=aq eo;have kd:∀{n:Nat} {nm ns d fs},os[n]?=some (.kd nm ns d fs)->∃Mc,(os.set i (qL Js o0))[n]?=some (.kd nm ns d Mc):=fun {n nm ns d fs} e=>by
  by_cases hn:n=i
  ·subst hn;rw[eo] at e;cases e;exact⟨Js,IB hi⟩
  ·exact⟨fs,by rw[IA (U8 hn)];exact e⟩
 have ob:∀{n:Nat} {k d fs},os[n]?=some (.ob k d fs)->∃Mc,(os.set i (qL Js o0))[n]?=some (.ob k d Mc):=fun {n k d fs} e=>by
  by_cases hn:n=i
  ·subst hn;rw[eo] at e;cases e;exact⟨Js,IB hi⟩
  ·exact⟨fs,by rw[IA (U8 hn)];exact e⟩
 have fn:∀{n:Nat} {f},os[n]?=some (.fn f)->(os.set i (qL Js o0))[n]?=some (.fn f):=fun {n f} e=>by
  by_cases hn:n=i
  ·subst hn;rw[eo] at e;cases e;exact IB hi
  ·rw[IA (U8 hn)];exact e
 refine⟨fun n nm ns d fs e=>?_,fun n k d fs e=>?_,fun n t q e=>?_,fun n k q e=>?_⟩
 ·have key:∃iZ,os[n]?=some (.kd nm ns d iZ)/\(iZ=fs\/fs=Js):=by
   by_cases hn:n=i
   ·subst hn;rw[IB hi] at e;cases o0<;>cases e;exact⟨_,eo,.inr rfl⟩
   ·rw[IA (U8 hn)] at e;exact⟨fs,e,.inl rfl⟩
  obtain⟨iZ,e0,hc⟩:=key;obtain⟨a,b⟩:=h.k n nm ns d iZ e0;refine⟨fun m hm=>?_,fun m dd em=>?_⟩
  ·obtain⟨x,y,z,v,ex⟩:=a m hm;obtain⟨Mc,e1⟩:=kd ex;exact⟨x,y,z,Mc,e1⟩
  ·rcases hc with rfl | rfl
   ·exact(b m dd em).mono ll
   ·exact(hv m dd em).mono ll
 ·have key:∃iZ,os[n]?=some (.ob k d iZ)/\(iZ=fs\/fs=Js):=by
   by_cases hn:n=i
   ·subst hn;rw[IB hi] at e;cases o0<;>cases e;exact⟨_,eo,.inr rfl⟩
   ·rw[IA (U8 hn)] at e;exact⟨fs,e,.inl rfl⟩
  obtain⟨iZ,e0,hc⟩:=key;obtain⟨⟨x,y,z,v,ex⟩,b⟩:=h.o n k d iZ e0;obtain⟨Mc,e1⟩:=kd ex;refine⟨⟨x,y,z,Mc,e1⟩,fun m dd em=>?_⟩;rcases hc with rfl | rfl
  ·exact(b m dd em).mono ll
  ·exact(hv m dd em).mono ll
 ·have e:os[n]?=some (.mt t q):=by
   by_cases hn:n=i
   ·subst hn;rw[IB hi] at e;cases o0<;>cases e;exact eo
   ·rw[IA (U8 hn)] at e;exact e
  obtain⟨⟨x,ex⟩,b⟩:=h.m n t q e;exact⟨⟨x,fn ex⟩,Jh b ll⟩
 ·have e:os[n]?=some (.vw k q):=by
   by_cases hn:n=i
   ·subst hn;rw[IB hi] at e;cases o0<;>cases e;exact eo
   ·rw[IA (U8 hn)] at e;exact e
  obtain⟨a1,a2,a3,a4,a5,a6,a7,h1,h2,h3⟩:=h.v n k q e;obtain⟨f1,e1⟩:=ob h1;obtain⟨f2,e2⟩:=kd h2;exact⟨a1,a2,f1,a4,a5,a6,f2,e1,e2,h3⟩
inductive xq (K:Fg06) (c:fo) (vs:List V) (H:Hp) (Q:VK) (E:XK):Prop
 | mk wp ps os gv ln lf x y k nm ns d0 fs:vs=[.ref wp.W,x,y]->dc K c H wp ps os gv ln lf->ou os->At K H (aU k) x->os[k]?=some (.kd nm ns d0 fs)->At K H (.tup []) y->((("Fault":Str),9):Str×Nat)∈gv->os.length<=900->fe os "start" ns=none->(∀d' r H' p,H d'=none->bw wp.l H H'->dc K c H' wp (ps++[p]) (os++[.ob k d' (iZ (decide (9∈ns)))]) gv ln lf->At K H' (AY (aU os.length)) r->Q r H')->xq K c vs H Q E
theorem xR:aQ ["world","kind","values","made","start","is_method"] ["world","kind","values"] (aC Cp):=gp
theorem C0 (g:Glb9 mg) (F:fm K "object_of" "object_of" Cp f fd) (dO:Def P w K mg base "new_object" ["world","kind"] 4 (xr K c)) (dF:Def P w K mg base "field_of" ["world","a","name"] 6 (ur K c)) (dC:Def P w K mg base "is_fault_class" ["world","a"] 3 (zU K c)):bK P w K mg base fq 7 f fd ["world","kind","values"] (xq K c):=by
 refine F.gB xR fun UO A outer s H vs Q E hr h=>?_;obtain⟨wp,ps,os,gv,ln,lf,x,y,k,nm,ns,d0,fs,rfl,hw,hf,hx,hk,hy,hg,hl,Km,q⟩:=h;refine⟨_,(aa (eG 3 xR.nd (cM dO (cq (pv 0) (pv 1))))
   (aa (eG 4 xR.nd (cM dF (kN (pv 0) (pv 3) aj)))
   (aa (bo (fR cP (cF (pv 4)) aj) (aa cQ (ah cQ)) aP)
   (aa (bo (fR gm (au az rfl g.dH bW (cy (pv 2))) (bC (bS (cM dC (cq (pv 0) (pv 1)))) ag ag)) (ah cQ) aP)
   (aa (bo (fR cP (au az rfl g.dH bW (cy (pv 2))) ag) (ah cQ) aP)
   (ah (aJ (ba (cq aj (pv 3)))))))))),?_⟩
 have eC:oH os[k]?=decide (9∈ns):=by rw[hk];rfl
 refine⟨_,rfl,_,rfl,wp,ps,os,gv,ln,lf,x,k,rfl,hw,hx,aq hk,hg,by omega,fun rm H1 p1 d' JS b1 w1 am=>?_⟩;have q:=q d';rw[eC] at w1;have hf1:ou (os++[.ob k d' (iZ (decide (9∈ns)))]):=hf.add ⟨⟨_,_,_,_,hk⟩,fun n dd e=>y8 e⟩;have nsl:∀m∈ns,m < os.length:=fun m hm=>let ⟨_,_,_,_,e⟩:=(hf.k k nm ns d0 fs hk).1 m hm;aq e;have Ub:Fx H H1:=G1.fx hw (c:=c) (K:=K) b1.chg;have l1:(os++[Th.ob k d' (iZ (decide (9∈ns)))]).length=os.length+1:=by rw[Iu];rfl
 refine⟨_,rfl,_,rfl,wp,ps++[p1],os++[.ob k d' (iZ (decide (9∈ns)))],gv,ln,lf,rm,aU os.length,"start",rfl,w1,hf1,by rw[l1];omega,am,Vd.th (by rw[l1];omega),?_⟩;have eF:(fZ (os++[.ob k d' (iZ (decide (9∈ns)))]) (aU os.length) "start").1=.no:=by
  unfold fZ;rw[bI,bP];show zd _ _ _ _=_;unfold zd;rw[wq,bN hk];show tD _ (fe _ _ ns)=_;rw[rJ nsl,Km];rfl
 rw[eF];intro rs H2 s2 hs;have w2:=w1.same s2;have Uo:=At.same s2 _ _ am;obtain⟨py,vy,rfl,sy,ay⟩:=bf.mp (At.same s2 _ _ (At.fx Ub _ _ hy));have ly:vy.length=0:=ay.len;have LX:=At.same s2 _ _ (At.fx Ub _ _ hx);refine⟨_,rfl,0,_,_,rfl,hs,rfl,fun y0 h0=>?_⟩;rw[aH.mp h0];refine⟨rfl,_,rfl,?_⟩;rw[qA (by decide +kernel)];refine bu ⟨_,rfl,py,vy,rfl,.inr sy,_,rfl,_,rfl,wp,ps++[p1],_,gv,ln,lf,x,aU k,rfl,w2,LX,Vd.th (by rw[l1];have:=aq hk;omega),hg,_,rfl,?_⟩;refine bJ (fun eb=>?_) (fun eb=>?_)
 ·refine⟨_,_,rfl,rfl,_,rfl,bJ (fun e=>?_) (fun _=>?_)⟩
  ·have e:=IZ e;omega
  refine⟨_,rfl,py,vy,rfl,.inr sy,rfl,_,rfl,bJ (fun e=>?_) (fun _=>?_)⟩
  ·have e:((vy.length:Nat):Int)=1:=V.int.inj (IZ e);omega
  exact⟨_,rfl,jC,fun t ht=>q _ _ p1 JS (b1.trans (ak.but wp.l (s2.trans (ab ht _)))) (w2.same (ab ht _)) (At.new ht (ck (aH.mpr rfl) Uo))⟩
 ·refine⟨_,_,rfl,rfl,_,rfl,bJ (fun e=>?_) (fun _=>?_)⟩
  ·have e:=IZ e;omega
  refine⟨_,rfl,py,vy,rfl,.inr sy,rfl,_,rfl,bJ (fun e=>?_) (fun _=>?_)⟩
  ·have e:((vy.length:Nat):Int)=1:=V.int.inj (IZ e);omega
  exact⟨_,rfl,jC,fun t ht=>q _ _ p1 JS (b1.trans (ak.but wp.l (s2.trans (ab ht _)))) (w2.same (ab ht _)) (At.new ht (ck (aH.mpr rfl) Uo))⟩
def Ec:List (Str×Nat×Nat):=[("say",1,1),("take",0,0),("isa",2,2),("elder",2,2),("count",1,1)]
def BndG (w:World) (K:Fg06) (mg:Str->Option Value):Prop:=∃a es n,mg "VALUES_OF_GIVEN"=some (.ref a)/\K.lookup a=some ⟨.type "dict",none,.dict es n,#[]⟩/\(∀e∈es,∃x t,e.key=.str x t/\e.hash=PyData.keyHash w.params x)/\
 ∀nm lo hi,(nm,lo,hi)∈Ec->∃u,findBy Value.isStrOf es nm=some (.ref u)/\∀H,At K H (.tup [.int (lo:Nat),.int (hi:Nat)]) (.ref u)
def G8 (K:Fg06) (ty:TE):TE:=fun σ H Q=>ty σ H fun y H1=>∃n lo hi,y=.str n/\(n,lo,hi)∈Ec/\∀v,At K H1 (.tup [.int (lo:Nat),.int (hi:Nat)]) v->Q v H1
theorem Cf {X i ty p pos}(B:BndG X.w X.K X.mg) (hg:Gl X "VALUES_OF_GIVEN") (hi:LE X i ty) (hs:AW i):LE X (.Subscript (.Name "VALUES_OF_GIVEN" p) i pos) (G8 X.K ty):=by
 obtain⟨a,es,n,hm,hl,hk,hf⟩:=B;refine .mk fun UL s σ H Q I h=>?_;have he:PE X (.Name "VALUES_OF_GIVEN" p) (tC (.ref a)):=L2.bA hg hm rfl;refine uh PySem.F.slot_dict_getitem.lookup hs (da (he UL s σ H (fun x H1=>x=.ref a/\H1=H) I ⟨rfl,rfl⟩) fun u s1 ⟨x,H1,I1,rx,ex,eH⟩=>?_);subst ex eH;obtain rfl:u=Value.ref a:=rx;refine da (hi.out UL s1 σ H1 _ I1 h) fun iv s2 ⟨y,H2,I2,ry,nm,lo,KN,ey,JV,q⟩=>?_;subst ey;obtain⟨t,rfl⟩:=ry;obtain⟨u,hu,hA⟩:=hf _ _ _ JV;have hh:=I2.sd _ _ hl;have M:s2.heap.MapOf (strKind X.prog X.w) a (findBy (strKind X.prog X.w).is es):=by
  refine⟨_,es,n,hh,⟨rfl,rfl,rfl⟩,rfl,fun e he=>?_,fun k=>rfl⟩;obtain⟨x,t,e1,e2⟩:=hk e he;exact⟨x,by rw[e1];exact strKind_is ..,e2⟩
 exact⟨M.typeIs,wpAny_getItem_of (strKind_is ..) M hu ⟨.ref u,H2,I2.tok _,rfl,q _ (hA _)⟩⟩
inductive BR (K:Fg06) (c:fo) (vs:List V) (H:Hp) (Q:VK) (E:XK):Prop
 | mk wp ps os gv ln lf y k e:vs=[.ref wp.W,.str "elder",y]->dc K c H wp ps os gv ln lf->ou os->At K H (.tup [k,e]) y->Vd os k->Vd os e->os.length<=900->Ih K c wp ps os gv ln lf H Q e k->BR K c vs H Q E
theorem Fc:aQ ["world","name","values","bounds"] ["world","name","values"] (aC HH):=gp
theorem FX (g:Glb9 mg) (B:BndG w K mg) (F:fm K "called_given" "called_given" HH f fd) (dV:Def P w K mg base "viewed" ["world","kind","x"] 4 (xh K c)):bK P w K mg base fq 5 f fd ["world","name","values"] (BR K c):=by
 refine F.gB Fc fun UO A outer s H vs Q E hr h=>?_;obtain⟨wp,ps,os,gv,ln,lf,y,k,e,rfl,hw,hf,hy,hk,he,hl,q⟩:=h;refine⟨_,(aa (eG 3 Fc.nd (Cf B rfl (pv 1) (fun _ _=>rfl)))
   (aa (bo (LW.pt (gk (fR ph (au az rfl g.dH bW (cy (pv 2))) (cF (pv 3))) (fg (fR gm (au az rfl g.dH bW (cy (pv 2))) (cF (pv 3)))))) (ah cQ) aP)
   (aa (bo (fR cP (pv 1) aj) (ah cQ) aP)
   (aa (bo (fR cP (pv 1) aj) (ah cQ) aP)
   (aa (bo (fR cP (pv 1) aj) (ah cQ) aP)
   (aa (bo (fR cP (pv 1) aj) (ah (aJ (cM dV (kN (pv 0) (cF (pv 2)) (cF (pv 2)))))) aP)
   (aa cQ
   (aa cQ
   (aa cQ
   (ah cQ)))))))))),?_⟩
 refine⟨_,rfl,"elder",2,2,rfl,by decide +kernel,fun vb SV=>?_⟩;obtain⟨py,vy,rfl,sq,hA⟩:=bf.mp hy;have UQ:vy.length=2:=hA.len;refine⟨_,rfl,py,vy,rfl,.inr sq,_,rfl,0,_,_,rfl,SV,rfl,fun y0 h0=>?_⟩;rw[bG.mp h0];refine⟨_,_,rfl,rfl,_,rfl,bJ (fun e=>?_) (fun e=>?_)⟩
 ·have e:=IZ e;omega
 refine⟨_,rfl,py,vy,rfl,.inr sq,_,rfl,1,_,_,rfl,SV,rfl,fun y1 h1=>?_⟩;rw[bG.mp h1];refine⟨_,_,rfl,rfl,_,rfl,bJ (fun e2=>?_) (fun e2=>?_)⟩
 ·have e2:=IZ e2;omega
 refine⟨_,rfl,rfl,_,rfl,?_⟩;rw[qA (by decide +kernel)];refine bu ⟨_,rfl,rfl,_,rfl,?_⟩;rw[qA (by decide +kernel)];refine bu ⟨_,rfl,rfl,_,rfl,?_⟩;rw[qA (by decide +kernel)];refine bu ⟨_,rfl,rfl,_,rfl,?_⟩;rw[Iw rfl];exact cC ⟨_,rfl,_,rfl,0,[k,_],k,rfl,hy,rfl,fun ya hya=>⟨_,rfl,1,[k,_],_,rfl,hy,rfl,fun yb hyb=>⟨wp,ps,os,gv,ln,lf,yb,ya,_,k,rfl,hw,hf,hyb,he,hya,hk,by omega,q⟩⟩⟩
inductive iP (K:Fg06) (c:fo) (vs:List V) (H:Hp) (Q:VK) (E:XK):Prop
 | mt wp ps os gv ln lf x y i t o (g:Il):vs=[.ref wp.W,x,y]->dc K c H wp ps os gv ln lf->At K H (aU i) x->os[i]?=some (.mt t o)->os[t]?=some (.fn g)->g.np=1->g.df=[]->At K H (.tup []) y->(∀r H',ak H H'->At K H' (.tup [.str "enter",aU t,.tup [aU o]]) r->Q r H')->iP K c vs H Q E
 | kd wp ps os gv ln lf x y k nm ns d0 fs:vs=[.ref wp.W,x,y]->dc K c H wp ps os gv ln lf->ou os->At K H (aU k) x->os[k]?=some (.kd nm ns d0 fs)->At K H (.tup []) y->((("Fault":Str),9):Str×Nat)∈gv->os.length<=900->fe os "start" ns=none->(∀d' r H' p,H d'=none->bw wp.l H H'->dc K c H' wp (ps++[p]) (os++[.ob k d' (iZ (decide (9∈ns)))]) gv ln lf->At K H' (AY (aU os.length)) r->Q r H')->iP K c vs H Q E
 | gv wp ps os gv ln lf x y i k e:vs=[.ref wp.W,x,y]->dc K c H wp ps os gv ln lf->ou os->At K H (aU i) x->os[i]?=some (.pD "elder")->At K H (.tup [k,e]) y->Vd os k->Vd os e->os.length<=900->Ih K c wp ps os gv ln lf H Q e k->iP K c vs H Q E
theorem Be:aQ ["world","a","values","thing"] ["world","a","values"] (aC CI):=gp
theorem Du (g:Glb9 mg) (z:j6 K c) (hF:mg "Function"=some (.ref c.F)) (hG:mg "Given"=some (.ref c.G)) (hM:mg "Method"=some (.ref c.M)) (hKd:mg "Kind"=some (.ref c.Kd)) (F:fm K "called" "called" CI f fd) (dT:Def P w K mg base "thing_of" ["world","a"] 1 (jN K c)) (dE:Def P w K mg base "entered" ["world","f","values"] 2 (xI K c)) (dO:Def P w K mg base "object_of" ["world","kind","values"] 7 (xq K c)) (dG:Def P w K mg base "called_given" ["world","name","values"] 5 (BR K c)):bK P w K mg base fq 8 f fd ["world","a","values"] (iP K c):=by
 refine F.GQ Be (fun vs H Q E h=>by cases h<;>(subst_vars;rfl)) (fun UO A outer s H vs Q E hr h=>?_);refine⟨_,(aa (eG 3 Be.nd (cM dT (cq (pv 0) (pv 1))))
   (aa (bo (bS (au cD rfl g.hJ fW (cq (pv 3) (bA (v:=.ref c.F) rfl hF rfl)))) (ah cQ) aP)
   (aa (bo (bS (au cD rfl g.hJ fW (cq (pv 3) (bA (v:=.ref c.M) rfl hM rfl)))) (ah (aJ (cM dE (kN (pv 0) (L3.bR (pv 3)) (aB uG (ba (cy (L3.bR (pv 3)))) (pv 2)))))) aP)
   (aa (bo (bS (au cD rfl g.hJ fW (cq (pv 3) (bA (v:=.ref c.Kd) rfl hKd rfl)))) (ah (aJ (cM dO (kN (pv 0) (pv 1) (pv 2))))) aP)
   (ah (aJ (bC (bS (au cD rfl g.hJ fW (cq (pv 3) (bA (v:=.ref c.G) rfl hG rfl)))) (cM dG (kN (pv 0) (L3.bR (pv 3)) (pv 2))) Aa))))))),?_⟩
 rcases h with ⟨wp,ps,os,gv,ln,lf,x,y,i,t,o,g1,rfl,hw,hx,hi,Mv,S9,KZ,hy,q⟩ | ⟨wp,ps,os,gv,ln,lf,x,y,k,nm,ns,d0,fs,rfl,hw,hf,hx,hk,hy,hg,hl,Km,q⟩ | ⟨wp,ps,os,gv,ln,lf,x,y,i,k,e,rfl,hw,hf,hx,hi,hy,hk,he,hl,q⟩
 ·refine⟨_,rfl,_,rfl,wp,ps,os,gv,ln,lf,x,aU i,rfl,hw,hx,Vd.th (aq hi),fun v tv=>?_⟩;have t1:=tv.is z z.tF;have t2:=tv.is z z.tM;rw[bI,hi] at t1 t2;obtain⟨p,_,rfl,dx,v1,v2,hp,JE,JT⟩:=tv.th hi;refine⟨_,rfl,_,c.F,false,rfl,t1,_,rfl,bu ⟨_,rfl,_,c.M,true,rfl,t2,_,rfl,cC ⟨_,rfl,_,rfl,p,c.M,dx,_,_,rfl,hp,z.mc,z.m1,nH ..,_,rfl,p,c.M,dx,_,_,rfl,hp,z.mc,z.m2,vW ..,pY,fun t1 N6=>⟨_,rfl,[aU o],[],At.new N6 (aE.mj JT),At.same (ab N6 _) _ _ hy,small (by show 1+0<=_;omega),fun r2 H2 s2 a2=>?_⟩⟩⟩⟩;have Jv:=(ab N6 (.tup [v2])).trans s2;exact⟨wp,ps,os,gv,ln,lf,v1,r2,t,g1,aU o,rfl,hw.same Jv,At.same Jv _ _ JE,Mv,S9,KZ,a2,fun r H3 s3 a3=>q _ _ (Jv.trans s3) a3⟩
 ·refine⟨_,rfl,_,rfl,wp,ps,os,gv,ln,lf,x,aU k,rfl,hw,hx,Vd.th (aq hk),fun v tv=>?_⟩;have t1:=tv.is z z.tF;have t2:=tv.is z z.tM;have t3:=tv.is z z.tK;rw[bI,hk] at t1 t2 t3;exact⟨_,rfl,_,c.F,false,rfl,t1,_,rfl,bu ⟨_,rfl,_,c.M,false,rfl,t2,_,rfl,bu ⟨_,rfl,_,c.Kd,true,rfl,t3,_,rfl,cC ⟨_,rfl,_,rfl,_,rfl,wp,ps,os,gv,ln,lf,x,y,k,nm,ns,d0,fs,rfl,hw,hf,hx,hk,hy,hg,hl,Km,q⟩⟩⟩⟩
 ·refine⟨_,rfl,_,rfl,wp,ps,os,gv,ln,lf,x,aU i,rfl,hw,hx,Vd.th (aq hi),fun v tv=>?_⟩;have t1:=tv.is z z.tF;have t2:=tv.is z z.tM;have t3:=tv.is z z.tK;have t4:=tv.is z z.tG;rw[bI,hi] at t1 t2 t3 t4;obtain⟨p,_,rfl,dx,hp⟩:=tv.th hi;exact⟨_,rfl,_,c.F,false,rfl,t1,_,rfl,bu ⟨_,rfl,_,c.M,false,rfl,t2,_,rfl,bu ⟨_,rfl,_,c.Kd,false,rfl,t3,_,rfl,bu ⟨_,rfl,_,c.G,true,rfl,t4,_,rfl,cC ⟨_,rfl,_,rfl,p,c.G,dx,_,_,rfl,hp,z.gc,z.g1,rfl,_,rfl,wp,ps,os,gv,ln,lf,y,k,e,rfl,hw,hf,hy,hk,he,hl,q⟩⟩⟩⟩⟩
abbrev Co:Stmt:=cB 67
abbrev HG:Stmt:=cB 68
theorem El.th (i):El (aU i):=by
 refine⟨?_,?_⟩
 ·unfold aU;rw[GS.nb,Bi,Bi,Bi,(El.str "thing").nb,(El.int (i:Nat)).nb];rfl
 ·unfold aU;rw[GS.dep,cJ,cJ,cJ,cK,gG];decide
theorem wY {α:Type} [DecidableEq α] {m:Nat}:∀{rs:List (List α)},(∀r∈rs,r.length<=m)->kT rs<=rs.length*m
 | [],_=>Je _
 | r::rs,h=>by
  have h1:=wY fun q hq=>h q (Iq _ hq);have h2:=h r Ir;rw[eM,IT,Nat.succ_mul];omega
theorem bU.kS {K:Fg06}{H:Hp}{f:Nat->List D}:∀{is:List Nat}{vs:List V},Pairs (fun i v=>At K H (.tup (f i)) v) is vs->bU K H (is.map f) vs
 | _,_,.nil=>.nil
 | _,_,.cons h1 h2=>.cons (eh.tup h1) (bU.kS h2)
def AG (x:Str):D:=.tup [.str "fault",.str x]
def fH (os:List Th) (i:Nat):List Nat:=r8 os[i]?
def qY (os:List Th) (es:List Nat):D:=
 if ¬es.Nodup then AG "OrderFault"
 else match gD (fH os) (if es=[] then [8] else es) with
  | none=>AG "OrderFault"
  | some l=>.tup [.str "value",.tup (l.map aU)]
def Ij (os:List Th):Prop:=∀(i:Nat) nm ns d fs,os[i]?=some (.kd nm ns d fs)->ns.Nodup/\ns.length<=40
theorem CM {os}(h:Ij os) (i):(fH os i).Nodup/\(fH os i).length<=40:=by
 unfold fH;cases e:os[i]? with
 | none=>exact⟨List.nodup_nil,Je _⟩
 | some o=>
  cases o with
  | kd nm ns d fs=>exact h i nm ns d fs e
  | _=>exact⟨List.nodup_nil,Je _⟩
def Eu (os:List Th) (e:Nat):Prop:=∃nm ns d fs,os[e]?=some (.kd nm ns d fs)
inductive A1 (K:Fg06) (c:fo) (σ:L2.St) (H:Hp) (Q:VK):Prop
 | mk wp ps os gv ln lf x es:σ[0]?=some (some (.ref wp.W))->σ[1]?=some (some x)->dc K c H wp ps os gv ln lf->((("Thing":Str),8):Str×Nat)∈gv->At K H (.tup (es.map aU)) x->(∀v H',ak H H'->At K H' (.tup ((if es=[] then [8] else es).map aU)) v->Q v H')->A1 K c σ H Q
inductive xp (K:Fg06) (c:fo) (vs:List V) (H:Hp) (Q:VK) (E:XK):Prop
 | mk wp ps os gv ln lf x es:vs=[.ref wp.W,x]->dc K c H wp ps os gv ln lf->Ij os->((("Thing":Str),8):Str×Nat)∈gv->Eu os 8->At K H (.tup (es.map aU)) x->tW H x->es.length<=100->(∀e∈es,Eu os e)->(∀r H',ak H H'->At K H' (qY os es) r->Q r H')->xp K c vs H Q E
theorem xQ:aQ ["world","elders","own","order"] ["world","elders"] (aC Co):=gp
theorem CZ (g:Glb9 mg) (z:j6 K c) (hMost:∃t,mg "MOST_CLASSES"=some (.int 40 t)) (F:fm K "order_of" "order_of" Co f fd) (dC:Def P w K mg base "is_class" ["world","a"] 2 (zT K c false false false true false false false)) (dT:Def P w K mg base "thing_of" ["world","a"] 1 (jN K c)) (dN:Def P w K mg base "known" ["world","name"] 1 (vC K c)) (dM:Def P w K mg base "merged" ["rows"] 4 (xw K)):bK P w K mg base fq 5 f fd ["world","elders"] (xp K c):=by
 refine F.gB xQ fun UO A outer s H vs Q E hr h=>?_;obtain⟨wp,ps,os,gv,ln,lf,x,es,rfl,hw,K4,Rt,hti2,hx,JC,UQ,J6,q⟩:=h;refine⟨_,(aa (bo (fP (bS (au (zt rfl) rfl g.HQ Gx (cy (.mk (L2.cG (cl:=[("world",s.heap.objs.size+1)]) (Xs:=["elder"]) (Nf:=["world"]) (js:=[0]) ?k1 rfl (LI.out (eI (pv 1))) (fun C s0 H0 fp=>LG.out (ip 0 (show(["elder","world"]:List Str).Nodup by decide +kernel))) (fun C s0 H0 fp=>eY) (fun C s0 H0 fp=>LE.out (cM dC (cq (pv 1) (pv 0)))))))))) (ah (aJ (ba (cq aj aj)))) aP)
   (aa (bo (bS (au (om rfl) rfl g.DE zy (cy (.mk (L2.cG (cl:=[("elders",s.heap.objs.size+2)]) (Xs:=["elder"]) (Nf:=["elders"]) (js:=[1]) ?k2 rfl (LI.out (eI (pv 1))) (fun C s0 H0 fp=>LG.out (ip 0 (show(["elder","elders"]:List Str).Nodup by decide +kernel))) (fun C s0 H0 fp=>eY) (fun C s0 H0 fp=>LE.out (qM gm (L3.vI (K:=K) (k:=4) hr rfl (pv 1) (cy (pv 0))) ag))))))) (ah (aJ (ba (cq aj aj)))) aP)
   (aa (eG 2 xQ.nd (cS (t':=A1 K c) (bC (fR gm (au az rfl g.dH bW (cy (pv 1))) ag) (pv 1) (ba (cy (cM dN (cq (pv 0) aj))))) ?own))
   (aa (eG 3 xQ.nd (cM dM (cy (aB jU (.mk (L2.cG (cl:=[("world",s.heap.objs.size+1)]) (Xs:=["elder"]) (Nf:=["world"]) (js:=[0]) ?k3 rfl (LI.out (eI (pv 2))) (fun C s0 H0 fp=>LG.out (ip 0 (show(["elder","world"]:List Str).Nodup by decide +kernel))) (fun C s0 H0 fp=>eY) (fun C s0 H0 fp=>LE.out (L3.uD (K:=K) rfl (cM dT (cq (pv 1) (pv 0))))))) (aY (cy (pv 2)))))))
   (aa (bo (LW.pt (gk (fR nF (pv 3) cE) (fg (fR gm (aB fi (au az rfl g.dH bW (cy (pv 3))) ag) (L3.qd rfl hMost))))) (ah (aJ (ba (cq aj aj)))) aP)
   (ah (aJ (ba (cq aj (bE jE rfl g.qh mI (cy (pv 3)))))))))))),?main⟩
 case k1=>exact qB
 case k2=>exact qB
 case k3=>exact qB
 case main=>
  obtain⟨ax,xvs,rfl,sqx,hA⟩:=bf.mp hx;have lx:=hA.len;rw[IC] at lx;have elAt:∀j,j < es.length->∃e,es[j]?=some e/\(es.map aU).getD j .bb=aU e/\Eu os e/\At K H (aU e) (xvs.getD j .bb):=fun j hj=>by
   have e1:es[j]?=some es[j]:=Iy hj;obtain⟨v,hv,K9⟩:=aE.get (i:=j) hA (d:=aU es[j]) (by rw[IJ,e1];rfl);refine⟨es[j],e1,by rw[Iz,IJ,e1];rfl,J6 _ (List.getElem_mem hj),?_⟩;rw[Iz,hv];exact K9
  refine⟨_,rfl,ax,rfl,⟨xvs,sqx⟩,[.ref wp.W],⟨rfl,fun j i h=>?_⟩,bM (vs:=[.ref wp.W]) (tc:=gN) xvs.length (fun i=>xvs.getD i .bb) (fun _=>true) (fun i v _=>v=.bl true) (fun _ _ _ _ _ z=>z) (by omega) (hX sqx) (lJ sqx) (jt sqx) (fun i H2 Q' hi s2 k=>k H2 (ak.refl _)) (fun j H1 D l' Q' hj _ s1 _ _ k=>?_) fun D H1 ys hD s1 Kj hP=>?_⟩
  ·match j,h with
   | 0,h=>cases h;exact⟨_,rfl,rfl⟩
   | j+1,h=>simp at h
  ·obtain⟨e,e1,e3,⟨nm,ns,d,fs,e4⟩,e5⟩:=elAt j (by omega);refine⟨_,rfl,_,rfl,wp,ps,os,gv,ln,lf,_,aU e,rfl,hw.same s1,At.same s1 _ _ e5,Vd.th (aq e4),k _ _ (ak.refl _) ?_⟩;rw[bI,e4];rfl
  have e1:=hP.eq;rw[U5.mpr (fun _ _=>rfl)] at e1;refine⟨D,(List.range xvs.length).map (fun _=>true),rfl,aS.of (by rw[Kj,e1,List.map_map];rfl),_,rfl,?_⟩;rw[show((List.range xvs.length).map fun _=>true).all id=true by simp];refine bu ?_;have tell:∀(a b:Str) (H':Hp),ak H H'->.tup [.str a,.str b]=qY os es->2<=sizeLine/\∀p,H' p=none->Q (.ref p) (U1 H' p (.tup [.str a,.str b])):=fun a b H' s' e=>⟨by decide,fun p hp=>q _ _ (s'.trans (ab hp _)) (by rw[<-e];exact At.new hp (ck (aH.mpr rfl) (aH.mpr rfl)))⟩;have el0:∀d∈es.map aU,El d:=fun d hd=>by
   obtain⟨e,he,rfl⟩:=Jq.mp hd;exact El.th e
  have LP:=ak.oE s1 sqx;refine⟨_,rfl,ax,rfl,⟨xvs,LP⟩,[.ref ax],⟨rfl,fun j i h=>?_⟩,bM (vs:=[.ref ax]) (tc:=gN) xvs.length (fun i=>xvs.getD i .bb) (fun _=>true) (fun i v _=>v=.bl (decide (1 < cnt ((es.map aU).getD i .bb) (es.map aU)))) (fun _ _ _ _ _ z=>z) (by omega) (hX LP) (lJ LP) (jt LP) (fun i H2 Q' hi s2 k=>k H2 (ak.refl _)) (fun j H2 D l' Q' hj _ s2 _ _ k=>?_) fun D2 H2 ys2 Ma s2 JF hP2=>?_⟩
  ·match j,h with
   | 0,h=>cases h;exact⟨_,rfl,rfl⟩
   | j+1,h=>simp at h
  ·obtain⟨e,e1,e3,e4,e5⟩:=elAt j (by omega);have Jv:=s1.trans s2;rw[e3] at k;refine⟨_,rfl,JC.same Jv,_,rfl,_,aU e,es.map aU,rfl,At.same Jv _ _ hx,At.same Jv _ _ e5,el0,El.th e,_,_,rfl,rfl,k _ _ (ak.refl _) (Vj V.bl (decide_eq_decide.mpr (by omega)))⟩
  have f1:=hP2.eq;have lm:xvs.length=(es.map aU).length:=by rw[IC];exact lx
  rw[U5.mpr (fun _ _=>rfl),lm,di (es.map aU) .bb (fun d=>V.bl (decide (1 < cnt d (es.map aU))))] at f1;refine⟨D2,(es.map aU).map fun d=>decide (1 < cnt d (es.map aU)),rfl,aS.of (by rw[JF,f1];simp only[List.map_map];rfl),_,rfl,?_⟩;have eany:((es.map aU).map fun d=>decide (1 < cnt d (es.map aU))).any id=!decide (es.map aU).Nodup:=by rw[<-vt,List.any_map];rfl
  rw[eany];have ndm:(es.map aU).Nodup↔es.Nodup:=k9 fun _ _ e=>cn e;have Jv:=s1.trans s2;by_cases Lk:(es.map aU).Nodup
  rotate_left
  ·rw[Iv Lk];refine cC (tell "fault" "OrderFault" H2 Jv ?_);rw[qY,II (fun z=>Lk (ndm.mpr z))];rfl
  rw[Iw Lk];refine bu ⟨wp,ps,os,gv,ln,lf,.ref ax,es,rfl,rfl,hw.same Jv,Rt,At.same Jv _ _ hx,fun vo H3 s3 KS=>?_⟩;have JG:=Jv.trans s3;have eR:qY os es=match gD (fH os) (if es=[] then [8] else es) with
    | none=>AG "OrderFault"
    | some l=>.tup [.str "value",.tup (l.map aU)]:=by
   rw[qY,IH (fun z=>z (ndm.mp Lk))]
  have ownC:∀i∈(if es=[] then [8] else es),Eu os i:=fun i hi=>by
   split at hi
   ·rw[Vc] at hi;rw[hi];exact hti2
   ·exact J6 i hi
  have ownN:(if es=[] then [8] else es).Nodup:=by
   split
   ·exact List.nodup_cons.mpr ⟨by simp,List.nodup_nil⟩
   ·exact ndm.mp Lk
  have ownL:(if es=[] then [8] else es).length<=100:=by
   split
   ·show 1<=100;decide
   ·exact UQ
  rw[eR] at q tell;generalize (if es=[] then [8] else es)=own at *;obtain⟨ao,ovs,rfl,sqo,T4⟩:=bf.mp KS;have lo:=T4.len;rw[IC] at lo;refine⟨_,rfl,ao,rfl,⟨ovs,sqo⟩,[.ref wp.W],⟨rfl,fun j i h=>?_⟩,bM (vs:=[.ref wp.W]) (tc:=gN) ovs.length (fun i=>ovs.getD i .bb) (fun _=>true) (fun i v H'=>At K H' (.tup ((fH os (own.getD i 0)).map aU)) v) (fun _ _ _ _ s z=>At.same s _ _ z) (by omega) (hX sqo) (lJ sqo) (jt sqo) (fun i H2 Q' hi s2 k=>k H2 (ak.refl _)) (fun j H4 D l' Q' hj _ s4 _ K1 k=>?_) fun D4 H4 NZ NN s4 K5 hP4=>?_⟩
  ·match j,h with
   | 0,h=>cases h;exact⟨_,rfl,rfl⟩
   | j+1,h=>simp at h
  ·have J2:j < own.length:=by omega
   have eo:own.getD j 0=own[j]:=by rw[Iz,Iy J2];rfl
   obtain⟨nm,ns,d,fs,hi⟩:=ownC own[j] (List.getElem_mem J2);obtain⟨v',Kh,K9⟩:=aE.get (i:=j) T4 (d:=aU own[j]) (by rw[IJ,Iy J2];rfl);have ev:ovs.getD j .bb=v':=by rw[Iz,Kh];rfl
   have eord:fH os own[j]=ns:=by unfold fH;rw[hi];rfl
   rw[eo,eord] at k;rw[ev];refine⟨_,rfl,_,rfl,wp,ps,os,gv,ln,lf,v',aU own[j],rfl,(hw.same JG).same s4,At.same s4 _ _ K9,Vd.th (aq hi),fun v t=>?_⟩;obtain⟨p,_,rfl,dx,vo',hp,ho,_⟩:=t.th hi;exact⟨p,c.Kd,dx,_,vo',rfl,hp,z.kc,z.k2,jr ..,k _ _ (ak.refl _) (At.wo K1 _ _ ho)⟩
  have Ka:=JG.trans s4;have RQ:=bU.kS (f:=fun i=>(fH os (own.getD i 0)).map aU) (hP4.mono (fun i v z=>At.same (eB H4 D4) _ _ z));rw[U5.mpr (fun _ _=>rfl),lo,di own 0 (fun i=>(fH os i).map aU)] at RQ;have l4:=RQ.len;rw[IC] at l4;refine⟨_,rfl,pY,fun p5 RA=>?_⟩;have s5:ak H4 (U1 H4 p5 (.lst [.ref ao])):=ab RA _;have h5:U1 H4 p5 (.lst [.ref ao]) p5=some (.lst [.ref ao]):=ae;revert s5 h5;generalize U1 H4 p5 (.lst [.ref ao])=H5;intro s5 h5;refine⟨D4,p5,NZ,[.ref ao],rfl,rfl,s5 _ _ K5,h5,small (by rw[Jl];omega),fun p6 hp6=>?_⟩;have s6:ak H5 (U1 H5 p6 (.lst (NZ++[.ref ao]))):=ab hp6 _;have h6:U1 H5 p6 (.lst (NZ++[.ref ao])) p6=some (.lst (NZ++[.ref ao])):=ae;revert s6 h6;generalize U1 H5 p6 (.lst (NZ++[.ref ao]))=H6;intro s6 h6;have Mh:=s5.trans s6;have Mi:=Ka.trans Mh;have Kw:bU K H6 (own.map (fun i=>(fH os i).map aU)++[own.map aU]) (NZ++[.ref ao]):=(RQ.same Mh).append (.cons (eh.tup (At.same (s4.trans Mh) _ _ KS)) .nil);have eD:own.map (fun i=>(fH os i).map aU)++[own.map aU]=(own.map (fH os)++[own]).map (List.map aU):=by
   rw[Jg,List.map_map];rfl
  have emg:GS.mg (own.map (fun i=>(fH os i).map aU)++[own.map aU])=(GS.mg (own.map (fH os)++[own])).map (List.map aU):=by
   rw[eD];exact sR (S:=fun _=>True) (fun _ _ _ _ e=>cn e) fun _ _ _ _=>trivial
  have memR:∀r∈own.map (fun i=>(fH os i).map aU)++[own.map aU],∃ns:List Nat,r=ns.map aU/\ns.Nodup/\ns.length<=100:=fun r hr=>by
   rcases I0.mp hr with h | h
   ·obtain⟨i,_,rfl⟩:=Jq.mp h;exact⟨_,rfl,(CM K4 i).1,ID (CM K4 i).2 (by decide)⟩
   ·rw[Vc] at h;exact⟨own,h,ownN,ownL⟩
  have lenR:∀r∈own.map (fun i=>(fH os i).map aU)++[own.map aU],r.length<=100:=fun r hr=>by
   obtain⟨ns,rfl,_,h⟩:=memR r hr;rw[IC];exact h
  have manyR:(own.map (fun i=>(fH os i).map aU)++[own.map aU]).length<=101:=by
   rw[Iu,IC,Jl];omega
  refine⟨p6,_,_,rfl,aS.of h6,Kw,⟨fun ds hd e he=>?_,fun ds hd=>ID (lenR ds hd) (by decide),by omega⟩,fun ds hd=>?_,?_,fun H7 s7 hm=>?_,fun q7 H7 ws l7 s7 hm _ Rz T6=>?_⟩
  ·obtain⟨ns,rfl,_,_⟩:=memR ds hd;obtain⟨i,_,rfl⟩:=Jq.mp he;exact El.th i
  ·obtain⟨ns,rfl,h,_⟩:=memR ds hd;exact(k9 fun _ _ e=>cn e).mpr h
  ·have:=wY lenR;omega
  ·rw[emg,Option.map_eq_none_iff] at hm;refine⟨_,rfl,rfl,true,rfl,cC (cC (tell "fault" "OrderFault" H7 (Mi.trans s7) ?_))⟩;unfold gD;rw[hm];rfl
  ·rw[emg,Option.map_eq_some_iff] at hm;obtain⟨ls,hm,rfl⟩:=hm;have l7:=T6.len;rw[IC] at l7;have OA:=Mi.trans s7;by_cases hle:ls.length<=39
   ·have eb:gD (fH os) own=some ls:=by unfold gD;rw[hm,Option.bind_some,II hle]
    rw[eb] at q;refine⟨_,rfl,rfl,false,rfl,bu ⟨_,rfl,q7,ws,rfl,.inl (aS.of Rz),_,_,rfl,rfl,_,_,rfl,rfl,false,Vj V.bl (Iv (by omega)),bu ?_⟩⟩;refine⟨_,rfl,q7,ws,rfl,.inl ⟨aS.of Rz,fun t ht=>⟨jC,fun p hp=>?_⟩⟩⟩;have s8:ak H7 (U1 H7 t (.tup ws)):=ab ht _;have a8:At K (U1 H7 t (.tup ws)) (.tup (ls.map aU)) (.ref t):=At.new ht T6;exact q _ _ ((OA.trans s8).trans (ab hp _)) (At.new hp (ck (aH.mpr rfl) a8))
   ·have eb:gD (fH os) own=none:=by unfold gD;rw[hm,Option.bind_some,IH hle]
    rw[eb] at tell;exact⟨_,rfl,rfl,false,rfl,bu ⟨_,rfl,q7,ws,rfl,.inl (aS.of Rz),_,_,rfl,rfl,_,_,rfl,rfl,true,Vj V.bl (Iw (by omega)),cC (tell "fault" "OrderFault" H7 OA rfl)⟩⟩
 case own=>
  rintro σ H Q ⟨wp,ps,os,gv,ln,lf,x,es,e0,e1,hw,Rt,hx,q⟩;obtain⟨ax,xvs,rfl,sqx,hA⟩:=bf.mp hx;have lx:=hA.len;rw[IC] at lx;refine⟨_,e1,ax,xvs,rfl,.inr sqx,_,_,rfl,rfl,?_⟩;by_cases he:es=[]
  ·subst he;rw[II rfl] at q;have:xvs.length=0:=lx;refine⟨false,Vj V.bl (Iv (by omega)),bu ⟨_,e0,wp,ps,os,gv,ln,lf,"Thing",rfl,hw,.inl ⟨8,Rt,fun v hv=>⟨pY,fun p hp=>?_⟩⟩⟩⟩;exact q _ _ (ab hp _) (At.new hp (aE.mj hv))
  ·rw[IH he] at q;have:0 < es.length:=List.length_pos_iff.mpr he;exact⟨true,Vj V.bl (Iw (by omega)),cC ⟨_,e1,q _ _ (ak.refl _) hx⟩⟩
inductive BQ (K:Fg06) (c:fo) (vs:List V) (H:Hp) (Q:VK) (E:XK):Prop
 | mk wp ps os gv ln lf nm v2 d ns fs:vs=[.ref wp.W,.str nm,v2,.ref d]->dc K c H wp ps os gv ln lf->20<=os.length->os.length<=1000->At K H (.tup (ns.map aU)) v2->ns.length<=1000->fz K H d fs->(∀r H' p d',H d'=none->bw wp.l H H'->dc K c H' wp (ps++[p]) (os++[.kd nm (os.length::ns) d' fs]) gv ln lf->At K H' (aU os.length) r->Q r H')->BQ K c vs H Q E
theorem Hk:aQ ["world","name","order","fields"] ["world","name","order","fields"] (aC HG):=gp
theorem FU (F:fm K "class_of" "class_of" HG f fd) (dN:Def P w K mg base "new_class" ["world","name","behind","fields","is_given"] 3 (uo K c)):bK P w K mg base fq 4 f fd ["world","name","order","fields"] (BQ K c):=by
 refine F.gB Hk fun UO A outer s H vs Q E hr h=>?_;obtain⟨wp,ps,os,gv,ln,lf,nm,v2,d,ns,fs,rfl,hw,h20,hl,h2,hn,hd,q⟩:=h;refine⟨_,(ah (aJ (cM dN (aI (pv 0) (mi (pv 1) (pv 2) (pv 3) gA))))),?_⟩;exact⟨_,rfl,_,rfl,_,rfl,_,rfl,wp,ps,os,gv,ln,lf,nm,v2,d,ns,fs,by rw[Iv (show ¬os.length < 20 by omega)];rfl,hw,hl,eh.tup h2,hn,hd,q⟩
end
abbrev B3:Stmt:=cB 70
abbrev sG:Stmt:=cB 71
theorem ji {α:Type}{xs:List α}{k:Int}(h0:0<=k) (h1:k < (xs.length:Nat)):∃v,v∈xs/\jZ xs k=some v:=by
 obtain⟨n,rfl⟩:∃n:Nat,k=(n:Int):=⟨k.toNat,by omega⟩;have hn:n < xs.length:=by omega
 exact⟨xs[n],List.getElem_mem hn,aw (by simp[hn])⟩
theorem bw.sqL {K a b H H' xs}(h:bw b H H') (ne:a≠b) (hs:aS K H a xs):aS K H' a xs:=by
 rcases hs with (e | ⟨o',e⟩) | e
 ·exact .inl (.inl (h _ _ ne e))
 ·exact .inl (.inr ⟨o',h _ _ ne e⟩)
 ·exact .inr e
section
variable {P:Program}{w:World}{K:Fg06}{mg:Str->Option Value}{base:Heap}{f:Addr}{fd:FuncData}
inductive xN (K:Fg06) (vs:List V) (H:Hp) (Q:VK) (E:XK):Prop
 | mk (a:Addr) (ns:List Int) (k:Nat):vs=[.ref a,.int (k:Nat)]->aS K H a (ns.map V.int)->(∀i:Int,Q (.int i) H)->xN K vs H Q E
theorem Fd:aQ ["_law_script","_law_k"] ["_law_script","_law_k"] (aC B3):=gp
theorem Dw (g:Glb9 mg) (F:fm K "_law_cell_at" "_law_cell_at" B3 f fd):bK P w K mg base fq 1 f fd ["_law_script","_law_k"] (xN K):=by
 refine F.gB Fd fun UO A outer s H vs Q E hr h=>?_;obtain⟨a,ns,k,rfl,hS,q⟩:=h;refine⟨_,aa (bo (fR ph (pv 1) (au az rfl g.dH bW (cy (pv 0)))) (ah (aJ (cV K (pv 0) (pv 1)))) aP)
  (ah (aJ ag)),?_⟩
 refine⟨_,rfl,_,rfl,a,_,rfl,.inl hS,_,_,rfl,rfl,_,rfl,?_⟩;refine bJ (fun e=>?_) (fun e=>q 0);have h1:=IZ e;obtain⟨v,hv,RO⟩:=ji (k:=(k:Nat)) (by omega) h1;obtain⟨i,_,rfl⟩:=Jq.mp hv;exact⟨_,rfl,_,rfl,a,_,_,_,rfl,rfl,hS,RO,q i⟩
structure jH (K:Fg06) (H:Hp) (a b:Addr) (n:Nat):Prop where
 cells:∃ns:List Int,aS K H a (ns.map V.int)/\ns.length<=63
 ne:a≠b
 mh:H b=some (.lst [.int (n:Nat)])
theorem jH.go {H H' a b n n'}(h:jH K H a b n) (hb:bw b H H') (hs:H' b=some (.lst [.int (n':Nat)])):jH K H' a b n':=by
 obtain⟨⟨ns,h1,h2⟩,h3,_⟩:=h;exact⟨⟨ns,hb.sqL h3 h1,h2⟩,h3,hs⟩
inductive kg (K:Fg06) (vs:List V) (H:Hp) (Q:VK) (E:XK):Prop
 | mk a b n:vs=[.ref a,.ref b]->jH K H a b n->n<=1000000000000->(∀i H',0<=i->i < 306783380->bw b H H'->H' b=some (.lst [.int ((n+1:Nat):Int)])->Q (.int i) H')->kg K vs H Q E
theorem mx:aQ ["_law_cells","_law_spot","_law_k","_law_base"] ["_law_cells","_law_spot"] (aC sG):=gp
theorem yv (g:Glb9 mg) (F:fm K "_law_cell" "_law_cell" sG f fd):bK P w K mg base fq 1 f fd ["_law_cells","_law_spot"] (kg K):=by
 refine F.gB mx fun UO A outer s H vs Q E hr h=>?_;obtain⟨a,b,n,rfl,⟨⟨ns,hS,h63⟩,hab,hb⟩,hn,q⟩:=h;refine⟨_,aa (gu (aB fi (dz eZ (pv 1) ag (fun _ _=>rfl)) ag) (.mk (L2.yd (L2.pv 1) L2.ag set_list)))
  (aa (eG 2 mx.nd (dz eZ (pv 1) ag (fun _ _=>rfl)))
  (aa (eG 3 mx.nd (aB fi (aB jT (aB jT ag (pv 2)) (pv 2)) (aB jT ag (pv 2))))
  (aa (bo (fR gm (au az rfl g.dH bW (cy (pv 0))) ag)
   (ah (eG 3 mx.nd (aB fi (pv 3) (aB jT (dz eZ (pv 0) (aB br (pv 2) (au az rfl g.dH bW (cy (pv 0)))) (fun _ _=>rfl)) (aB fi ag (aB bF (pv 2) (au az rfl g.dH bW (cy (pv 0))))))))) aP)
  (ah (aJ (aB bF (aB br (aB jT (pv 3) ag) ag) ag)))))),?_⟩
 have Ke:∀o,aS K (U1 H b o) a (ns.map V.int):=fun o=>(bw.put H o).sqL hab hS;have RD:sY [V.int (n:Int)].length 0=some 0:=by
  unfold sY;rw[II (by decide),II (by show(0:Int) < ((1:Nat):Int);decide)];rfl
 refine⟨_,rfl,b,_,_,_,rfl,rfl,aS.of hb,aw (j:=0) rfl,_,_,rfl,rfl,_,rfl,b,_,_,0,rfl,rfl,hb,RD,?_⟩;have e1:((n:Int)+1)=((n+1:Nat):Int):=by omega
 refine⟨_,rfl,b,_,_,_,rfl,rfl,aS.of ae,aw (j:=0) rfl,?_⟩;dsimp only;show zS _ _ _ _ (U1 H b (.lst [V.int ((n:Int)+1)]));rw[e1];generalize hm:n+1=m at q;have Te:m<=1000000000001:=by omega
 have fin:∀B:Int,0<=B*48271 % 2147483647 / 7/\B*48271 % 2147483647 / 7 < 306783380:=fun B=>by
  have:=Int.emod_nonneg (B*48271) (b:=2147483647) (by decide);have:=Int.emod_lt_of_pos (B*48271) (b:=2147483647) (by decide);omega
 refine⟨_,rfl,_,_,rfl,rfl,.inl ⟨by decide,by decide⟩,_,rfl,_,_,rfl,rfl,.inr ⟨by omega,by omega⟩,_,rfl,_,_,rfl,rfl,.inl ⟨by decide,by decide⟩,_,_,rfl,rfl,?_⟩;refine⟨_,rfl,a,_,rfl,.inl (Ke _),_,_,rfl,rfl,_,rfl,?_⟩;refine bJ (fun e=>?_) (fun e=>?_)
 ·have h0:(0:Int) < ((ns.map V.int).length:Nat):=IZ e;have UQ:((ns.map V.int).length:Nat)<=63:=by rw[IC];exact h63
  have k0:=Int.emod_nonneg (m:Int) (b:=((ns.map V.int).length:Nat)) (by omega);have k1:=Int.emod_lt_of_pos (m:Int) (b:=((ns.map V.int).length:Nat)) h0;obtain⟨v,hv,RO⟩:=ji k0 k1;obtain⟨z,_,rfl⟩:=Jq.mp hv;have d0:0<=(m:Int) / ((ns.map V.int).length:Nat):=Int.ediv_nonneg (by omega) (by omega);have d1:(m:Int) / ((ns.map V.int).length:Nat)<=m:=Int.ediv_le_self _ (by omega);refine⟨_,rfl,_,rfl,_,rfl,_,rfl,a,_,rfl,.inl (Ke _),_,_,rfl,rfl,h0,a,_,_,_,rfl,rfl,Ke _,RO,_,rfl,_,rfl,a,_,rfl,.inl (Ke _),_,_,rfl,rfl,⟨h0,by show _ < (1073741824:Int);omega⟩,_,_,rfl,rfl,_,_,rfl,rfl,.inr ⟨by show _ < 1+(m:Int) / _;omega,by show 1+(m:Int) / _ < _;omega⟩,_,_,rfl,rfl,?_⟩;refine⟨_,rfl,_,_,rfl,rfl,.inr ⟨by decide,by decide⟩,_,_,rfl,rfl,(by show(0:Int) < 2147483647;decide),_,_,rfl,rfl,⟨by decide,by decide⟩,?_⟩;exact q _ _ (fin _).1 (fin _).2 (bw.put H _) ae
 ·refine⟨_,rfl,_,_,rfl,rfl,.inr ⟨by decide,by decide⟩,_,_,rfl,rfl,(by show(0:Int) < 2147483647;decide),_,_,rfl,rfl,⟨by decide,by decide⟩,?_⟩;exact q _ _ (fin _).1 (fin _).2 (bw.put H _) ae
end
abbrev Hm:Stmt:=cB 73
theorem pB {i:Int}(h:i.natAbs < 2 ^ 64):i.natAbs.log2 < 1920:=by
 by_cases e:i.natAbs=0
 ·rw[e];decide
 ·exact(Nat.log2_lt e).mpr (Jh h (Nat.pow_le_pow_right (by decide) (by decide)))
theorem vX {a b:Int}(h0:0 < b) (h1:b<=2 ^ 63):(a % b).natAbs < 2 ^ 64:=by
 have h2:=Int.emod_nonneg a (b:=b) (by omega);have h3:=Int.emod_lt_of_pos a h0;omega
def vm (d:D):Prop:=(∃i:Int,d=.tup [.str "number",.int i]/\i.natAbs.log2 < 1920)\/(∃t,d=.tup [.str "text",.str t])\/(∃b,d=.tup [.str "truth",.bl b])\/d=jA
theorem vm.dep {d}(h:vm d):GS.dep d<=1:=by
 rcases h with ⟨i,rfl,_⟩ | ⟨t,rfl⟩ | ⟨b,rfl⟩ | rfl
 ·rw[GS.dep,cJ,cJ,cJ,cK,gG];decide
 ·rw[GS.dep,cJ,cJ,cJ,cK,cK];decide
 ·rw[GS.dep,cJ,cJ,cJ,cK,qz];decide
 ·rw[jA,GS.dep,cJ,cJ,cK];decide
theorem vm.vd {d} (os) (h:vm d):Vd os d/\iB os d=none:=by
 have hd:=h.dep;rcases h with ⟨i,rfl,_⟩ | ⟨t,rfl⟩ | ⟨b,rfl⟩ | rfl
 ·exact⟨Vd.no (by decide +kernel) hd,jL _ _ (by decide +kernel)⟩
 ·exact⟨Vd.no (by decide +kernel) hd,jL _ _ (by decide +kernel)⟩
 ·exact⟨Vd.no (by decide +kernel) hd,jL _ _ (by decide +kernel)⟩
 ·exact⟨Vd.jA,jL _ _ (by decide +kernel)⟩
theorem vm.none {d}(h:vm d) (e:cm d jA=true):d=jA:=by
 rcases h with ⟨i,rfl,_⟩ | ⟨t,rfl⟩ | ⟨b,rfl⟩ | rfl
 ·simp[jA,cm,fX] at e
 ·simp[jA,cm,fX] at e
 ·simp[jA,cm,fX] at e
 ·rfl
theorem zA {a b c d:V}{k:Int}(h0:0<=k) (h1:k < 4):∃v,jZ [a,b,c,d] k=some v/\(v=a\/v=b\/v=c\/v=d):=by
 obtain⟨v,hv,e⟩:=ji (xs:=[a,b,c,d]) h0 h1;simp at hv;exact⟨v,e,hv⟩
inductive Ek (K:Fg06) (σ:L2.St) (H:Hp) (Q:VK):Prop
 | mk (n):σ[0]?=some (some (.int n))->(∀d v H',vm d->ak H H'->At K H' d v->Q v H')->Ek K σ H Q
section
variable {P:Program}{w:World}{K:Fg06}{mg:Str->Option Value}{base:Heap}{f:Addr}{fd:FuncData}{c:fo}
inductive xo (K:Fg06) (vs:List V) (H:Hp) (Q:VK) (E:XK):Prop
 | mk n:vs=[.int n]->(∀d v H',vm d->ak H H'->At K H' d v->Q v H')->xo K vs H Q E
theorem EW:aQ ["_law_n","_law_some"] ["_law_n"] (aC Hm):=gp
theorem FH (F:fm K "_law_plain" "_law_plain" Hm f fd):bK P w K mg base fq 1 f fd ["_law_n"] (xo K):=by
 refine F.gB EW fun UO A outer s H vs Q E hr h=>?_;obtain⟨n,rfl,q⟩:=h;refine⟨_,aa (eG 1 EW.nd (aY (aI (cS (t':=Ek K) (ba (cq aj (aB jS (aB br (aB bF (pv 0) ag) ag) ag))) ?e1)
   (aI (cS (t':=Ek K) (ba (cq aj (bg kU aj bD (bz (aB br (aB bF (pv 0) ag) ag))))) ?e2)
   (aI (cS (t':=Ek K) (ba (cq aj (qM cP (aB br (aB bF (pv 0) ag) ag) ag))) ?e3)
   (cy (cS (t':=Ek K) (ba (cy aj)) ?e4)))))))
  (ah (aJ (bC (fR gm (aB br (aB bF (pv 0) ag) ag) ag) (cV K (pv 1) (aB br (pv 0) ag))
   (cS (t':=Ek K) (ba (cq aj (aB br (aB bF (pv 0) ag) (aB CO ag ag)))) ?e5)))),?main⟩
 case e1=>
  rintro σ H Q ⟨n,e0,q⟩;exact⟨_,e0,_,_,rfl,rfl,⟨by decide,by decide⟩,_,_,rfl,rfl,cH,_,_,rfl,rfl,jC,fun p hp=>q _ _ _ (.inl ⟨_,rfl,pB (by omega)⟩) (ab hp _) (At.new hp (ck (aH.mpr rfl) (bG.mpr rfl)))⟩
 case e2=>
  rintro σ H Q ⟨n,e0,q⟩;exact⟨_,e0,_,_,rfl,rfl,⟨by decide,by decide⟩,_,_,rfl,rfl,cH,_,rfl,_,rfl,jC,jC,fun p hp=>q _ _ _ (.inr (.inl ⟨_,rfl⟩)) (ab hp _) (At.new hp (ck (aH.mpr rfl) (aH.mpr rfl)))⟩
 case e3=>
  rintro σ H Q ⟨n,e0,q⟩;exact⟨_,e0,_,_,rfl,rfl,⟨by decide,by decide⟩,_,_,rfl,rfl,cH,rfl,jC,fun p hp=>q _ _ _ (.inr (.inr (.inl ⟨_,rfl⟩))) (ab hp _) (At.new hp (ck (aH.mpr rfl) (dZ.mpr rfl)))⟩
 case e4=>
  rintro σ H Q ⟨n,e0,q⟩;exact⟨pY,fun p hp=>q jA _ _ (.inr (.inr (.inr rfl))) (ab hp _) (At.new hp (aE.mj (aH.mpr rfl)))⟩
 case e5=>
  rintro σ H Q ⟨n,e0,q⟩;exact⟨_,e0,_,_,rfl,rfl,⟨by decide,by decide⟩,_,_,rfl,rfl,⟨by decide,by decide,by decide⟩,_,_,rfl,rfl,by show(0:Int) < 10 ^ (Int.toNat 9);decide,jC,fun p hp=>q _ _ _ (.inl ⟨_,rfl,pB (vX (by decide) (by decide))⟩) (ab hp _) (At.new hp (ck (aH.mpr rfl) (bG.mpr rfl)))⟩
 case main=>
  refine⟨n,rfl,fun d1 v1 H1 p1 s1 a1=>⟨n,rfl,fun d2 v2 H2 p2 s2 a2=>⟨n,rfl,fun d3 v3 H3 p3 s3 a3=>⟨n,rfl,fun d4 v4 H4 p4 s4 a4=>⟨sz4,fun pl JC=>?_⟩⟩⟩⟩⟩;have s5:ak H4 (U1 H4 pl (.lst [v1,v2,v3,v4])):=ab JC _;have l5:U1 H4 pl (.lst [v1,v2,v3,v4]) pl=some (.lst [v1,v2,v3,v4]):=ae;generalize U1 H4 pl (.lst [v1,v2,v3,v4])=H5 at s5 l5 ⊢;have t4:=s4.trans s5;have t3:=s3.trans t4;have t2:=s2.trans t3;have t1:=s1.trans t2;refine⟨_,rfl,_,_,rfl,rfl,⟨by decide,by decide⟩,_,_,rfl,rfl,cH,_,_,rfl,rfl,_,rfl,bJ (fun _=>?_) (fun _=>⟨n,rfl,fun d v H' p s a=>q d v H' p (t1.trans s) a⟩)⟩;have k0:=Int.emod_nonneg n (b:=4) (by decide);have k1:=Int.emod_lt_of_pos n (b:=4) (by decide);obtain⟨v,e,hv⟩:=zA (a:=v1) (b:=v2) (c:=v3) (d:=v4) k0 k1;refine⟨_,rfl,_,rfl,_,_,rfl,rfl,cH,pl,_,_,v,rfl,rfl,aS.of l5,e,?_⟩;rcases hv with rfl | rfl | rfl | rfl
  ·exact q _ _ _ p1 t1 (At.same t2 _ _ a1)
  ·exact q _ _ _ p2 t1 (At.same t3 _ _ a2)
  ·exact q _ _ _ p3 t1 (At.same t4 _ _ a3)
  ·exact q _ _ _ p4 t1 (At.same s5 _ _ a4)
end
theorem vm.vp {d} (os) (h:vm d):Vp os d:=by
 rcases h with ⟨i,rfl,h⟩ | ⟨t,rfl⟩ | ⟨b,rfl⟩ | rfl
 ·exact .nu i h
 ·exact .te t
 ·exact .tr b
 ·exact .no
abbrev B2:Stmt:=cB 72
theorem jx {a:Int}{b:Int}(hb:0 < b):0<=a % b/\a % b < b:=⟨Int.emod_nonneg _ (by omega),Int.emod_lt_of_pos _ hb⟩
def tU:Str:="abcdefghijklmnopqrstuvwxyzABCDEFGHIJKLMNOPQRSTUVWXYZ"
theorem AU:tU.cps.toList.length=52:=by decide +kernel
theorem zE {k}(h0:0<=k) (h1:k < 52):∃c,jZ tU.cps.toList k=some c:=by
 obtain⟨v,_,e⟩:=ji (xs:=tU.cps.toList) h0 (by rw[AU];exact h1);exact⟨v,e⟩
def pA (k:Int):Str:=match jZ tU.cps.toList (k % 52) with
 | some c=>⟨#[c]⟩
 | none=>""
def pV (a:Int):Str:=Txt.join ("":Str) ((List.range 8).map fun(j:Nat)=>pA (a+5*(0+(j:Int))))
theorem uM (a b:Int):pA (a % 52+b)=pA (a+b):=by unfold pA;rw[show(a % 52+b) % 52=(a+b) % 52 by omega]
theorem tZ (a:Int):pV (a % 52)=pV a:=by unfold pV;simp only[uM]
theorem BB:∀a:Nat,a < 52->(pV (a:Nat)).length=8:=by decide +kernel
theorem DI:∀a:Nat,a < 52->(pA (a:Nat)).length=1:=by decide +kernel
theorem BA:∀a:Nat,a < 52->¬((pV (a:Nat)).cps[0]?=some 116/\(pV (a:Nat)).cps[1]?=some 97):=by decide +kernel
theorem mz (k:Int):(pA k).length=1:=by
 have h:=DI (k % 52).toNat (by omega);rw[show(((k % 52).toNat:Nat):Int)=k % 52+0 by omega,uM,Int.add_zero] at h;exact h
theorem pU (k:Int):(pV k).length=8:=by
 have h:=BB (k % 52).toNat (by omega);rw[show(((k % 52).toNat:Nat):Int)=k % 52 by omega,tZ] at h;exact h
theorem zL (k:Int):¬((pV k).cps[0]?=some 116/\(pV k).cps[1]?=some 97):=by
 have h:=BA (k % 52).toNat (by omega);rw[show(((k % 52).toNat:Nat):Int)=k % 52 by omega,tZ] at h;exact h
theorem A8 {x:Str}{j:Int}(h0:0<=j) (h:j<=x.length):(StrLaws.sliceText x none (some j)).cps.toList=x.cps.toList.take j.toNat:=by
 rw[StrLaws.sliceText_to ⟨h0,by simpa[Str.length] using h⟩];simp
theorem oX {x:Str}{j:Int}(h0:0<=j) (h:j<=x.length):(StrLaws.sliceText x none (some j)).length=j.toNat:=by
 have:=Vj List.length (A8 h0 h);rw[Vb,Array.length_toList,Array.length_toList] at this;have h':x.length=x.cps.size:=rfl;show(StrLaws.sliceText x none (some j)).cps.size=_;omega
theorem qV {x:Str}{j:Int}(h0:0<=j) (h:j<=x.length):(StrLaws.sliceText x (some j) none).length=x.length - j.toNat:=by
 rw[StrLaws.sliceText_from ⟨h0,by simpa[Str.length] using h⟩];simp only[Str.length,List.size_toArray,List.length_take,List.length_drop,Array.length_toList];omega
def Hc:Str:="start"
theorem BL:Hc.length=5:=by decide +kernel
theorem Hb:Hc.cps.toList=[115,116,97,114,116]:=by decide +kernel
theorem yB {x:Str}(h:x.length≠5):x≠"start":=fun e=>h (by rw[e];exact BL)
theorem DA (a b:Int){m:Int}(h0:0<=m) (h8:m < 8):StrLaws.sliceText (pA b++pV a) none (some (1+m))≠"start":=fun e=>by
 have hl:(pA b++pV a).length=9:=by rw[bX,mz,pU]
 have h1:=A8 (x:=pA b++pV a) (j:=1+m) (by omega) (by omega);have e2:(StrLaws.sliceText (pA b++pV a) none (some (1+m))).cps.toList=Hc.cps.toList:=by rw[e];rfl
 rw[h1,Hb] at e2;have e3:(pA b++pV a).cps.toList=(pA b).cps.toList++(pV a).cps.toList:=Array.toList_append;have lb:(pA b).cps.toList.length=1:=by rw[Array.length_toList];exact mz b
 obtain⟨c,hc⟩:=Vg.mp lb;rw[e3,hc] at e2;have g1:=Vj (fun l=>l[1]?) e2;have g2:=Vj (fun l=>l[2]?) e2;have lm:(1+m).toNat=5:=by
  have:=Vj List.length e2;rw[Vb,Iu,Jl,Array.length_toList] at this;have hw:(pV a).cps.size=8:=pU a;have h5:([115,116,97,114,116]:List Nat).length=5:=rfl;omega
 rw[lm] at g1 g2;simp at g1 g2;exact zL a ⟨by simpa using g1,by simpa using g2⟩
theorem rB {n H}:∀H',ak H H'->(zJ 0 n).stop n H':=fun _ _=>IE _
theorem yT {n H}:∀i H',i < n->ak H H'->(zJ 0 n).go i H':=fun _ _ h _=>h
theorem uP {n H}:∀i H1 x H2,i < n->ak H H1->(zJ 0 n).rZ i H1 x H2->x=V.int (0+(i:Int))/\H2=H1:=fun i H1 x H2 _ _ h=>⟨h.2,h.1⟩
theorem zB {a b c:V}{k:Int}(h0:0<=k) (h1:k < 3):∃v,jZ [a,b,c] k=some v/\(v=a\/v=b\/v=c):=by
 obtain⟨v,hv,e⟩:=ji (xs:=[a,b,c]) h0 h1;simp at hv;exact⟨v,e,hv⟩
section
variable {P:Program}{w:World}{K:Fg06}{mg:Str->Option Value}{base:Heap}{f:Addr}{fd:FuncData}
inductive xK (K:Fg06) (vs:List V) (H:Hp) (Q:VK) (E:XK):Prop
 | mk n:vs=[.int n]->(∀p (xs:List Str) H',ak H H'->H p=none->H' p=some (.lst (xs.map V.str))->xs.length=12->(∀x∈xs,x.length<=100/\x≠"start")->Q (.ref p) H')->xK K vs H Q E
inductive EC (K:Fg06) (σ:L2.St) (H:Hp) (Q:VK):Prop
 | mk n at' k a b:σ[0]?=some (some (.int n))->σ[2]?=some (some (.str (pV a)))->σ[3]?=some (some (.int at'))->σ[5]?=some (some (.int k))->σ[6]?=some (some (.str (pA b)))->0<=at'->at' < 8->0<=k->k < 12->(∀(z:Str) H',ak H H'->z.length<=100->z≠"start"->Q (.str z) H')->EC K σ H Q
theorem ny:aQ ["_law_n","_law_some","_law_word","_law_at","_law_names_here","_law_k","_law_sign"] ["_law_n"] (aC B2):=gp
theorem Dt (g:Glb9 mg) (F:fm K "_law_names" "_law_names" B2 f fd):bK P w K mg base fq 1 f fd ["_law_n"] (xK K):=by
 refine F.gB ny fun UO A outer s H vs Q E hr h=>?_;obtain⟨n,rfl,q⟩:=h;refine⟨_,(aa (eG 1 ny.nd aj)
   (aa (eG 2 ny.nd (dQ PySem.F.plainAttrs_str PySem.F.slot_str_join PySem.F.type_str_join Ar aj (cy (.mk (L2.cG (cl:=[("_law_some",s.heap.objs.size+2),("_law_n",s.heap.objs.size+1)]) (Xs:=["_law_j"]) (Nf:=["_law_some","_law_n"]) (js:=[1,0]) ?k rfl (LI.out (bQ rfl g.gX (cy ag))) (fun C s0 H0 fp=>LG.out (ip 0 (show(["_law_j","_law_some","_law_n"]:List Str).Nodup by decide +kernel))) (fun C s0 H0 fp=>eY) (fun C s0 H0 fp=>LE.out (dz (r:=zZ) sW (pv 1) (aB br (aB fi (aB bF (pv 2) ag) (aB jT ag (pv 0))) ag) (fun _ _=>rfl))))))))
   (aa (eG 3 ny.nd (aB br (aB bF (pv 0) ag) ag))
   (aa (eG 4 ny.nd (aY bc))
   (aa (cL IW rfl (bQ rfl g.gX (cy ag)) (ip 5 ny.nd) (aa (eG 6 ny.nd (dz (r:=zZ) sW (pv 1) (aB br (aB fi (aB fi (aB bF (pv 0) ag) (aB jT ag (pv 5))) ag) ag) (fun _ _=>rfl)))
   (ah (bT (dQ Jb Jc Jd cf (pv 4) (cy (cS (t':=EC K) (cV K (aY (kN (aB cY (bg kU (pv 2) bD (bz ag)) (bE qD rfl g.DC zu (cy (pv 5)))) (aB cY (aB cY (bg kU (pv 2) bD (bz (pv 3))) (pv 6)) (bg kU (pv 2) (bz (aB fi (pv 3) ag)) bD)) (bg kU (aB cY (pv 6) (pv 2)) bD (bz (aB fi ag (aB br (aB bF (pv 0) ag) ag)))))) (aB br (pv 0) ag)) ?nm)))))))
   (ah (aJ (pv 4)))))))),?main⟩
 case k=>exact qB
 case nm=>
  rintro σ H Q ⟨n,at',k,a,b,e0,e2,e3,e5,e6,t0,t1,k0,k1,q⟩;have lw:=pU a;have lc:=mz b;generalize ec:pA b=c at lc e6;generalize ew:pV a=word at lw e2;have zw:word.length<=sizeLine:=small (by omega);obtain⟨kn,rfl⟩:∃kn:Nat,k=(kn:Int):=⟨k.toNat,by omega⟩;have Tg:kn < 12:=by omega
  have hz:(Str.ofString (toString (kn:Int))).length<=2:=(show ∀i:Nat,i < 12->(Str.ofString (toString (i:Int))).length<=2 by decide +kernel) kn Tg;have hlg:(kn:Int).natAbs.log2 < 1920:=(show ∀i:Nat,i < 12->(i:Int).natAbs.log2 < 1920 by decide +kernel) kn Tg;have a1:=oX (x:=word) (j:=1) (by decide) (by omega);have a2:=oX (x:=word) (j:=at') t0 (by omega);have a3:=qV (x:=word) (j:=at'+1) (by omega) (by omega);have a4:(c++word).length<=9:=by rw[bX];omega
  have a5:=fY (c++word) none (some (1+n / 3 % 8));refine⟨_,e2,_,rfl,_,rfl,zw,_,e5,kn,rfl,hlg,_,_,rfl,rfl,small (n:=(StrLaws.sliceText word none (some 1)).length+(Str.ofString (toString (kn:Int))).length) (by omega),?_⟩;refine⟨_,e2,_,e3,_,rfl,_,rfl,zw,_,e6,_,_,rfl,rfl,small (n:=(StrLaws.sliceText word none (some at')).length+c.length) (by omega),_,e2,_,e3,_,_,rfl,rfl,_,rfl,_,rfl,zw,_,_,rfl,rfl,small (n:=(StrLaws.sliceText word none (some at')++c).length+(StrLaws.sliceText word (some (at'+1)) none).length) (by rw[bX];omega),?_⟩;refine⟨_,e6,_,e2,_,_,rfl,rfl,small (n:=c.length+word.length) (by omega),_,e0,_,_,rfl,rfl,⟨by decide,by decide⟩,_,_,rfl,rfl,cH,_,_,rfl,rfl,_,rfl,_,rfl,small (n:=(c++word).length) (by omega),En,fun pl JC=>?_⟩;obtain⟨m0,m1⟩:=jx (a:=n) (b:=3) (by decide);have s1:=ab JC (.lst [.str (StrLaws.sliceText word none (some 1)++Str.ofString (toString (kn:Int))),.str (StrLaws.sliceText word none (some at')++c++StrLaws.sliceText word (some (at'+1)) none),.str (StrLaws.sliceText (c++word) none (some (1+n / 3 % 8)))]);obtain⟨u,eu,hu⟩:=zB (a:=.str (StrLaws.sliceText word none (some 1)++Str.ofString (toString (kn:Int)))) (b:=.str (StrLaws.sliceText word none (some at')++c++StrLaws.sliceText word (some (at'+1)) none)) (c:=.str (StrLaws.sliceText (c++word) none (some (1+n / 3 % 8)))) m0 m1;refine⟨_,e0,_,_,rfl,rfl,cH,pl,_,_,u,rfl,rfl,aS.of ae,eu,?_⟩;rcases hu with rfl | rfl | rfl
  ·have l0:(StrLaws.sliceText word none (some 1)++Str.ofString (toString (kn:Int))).length<=3:=by rw[bX];omega
   exact q _ _ s1 (ID l0 (by decide)) (yB fun e=>by rw[e] at l0;exact Vi l0 (by decide))
  ·have l0:(StrLaws.sliceText word none (some at')++c++StrLaws.sliceText word (some (at'+1)) none).length=8:=by rw[bX,bX];omega
   exact q _ _ s1 (ID (Nat.le_of_eq l0) (by decide)) (yB fun e=>by rw[e] at l0;exact Vi l0 (by decide))
  ·refine q _ _ s1 (ID (ID a5 a4) (by decide)) ?_;obtain⟨z0,z1⟩:=jx (a:=n / 3) (b:=8) (by decide);rw[<-ec,<-ew];exact DA a b z0 z1
 case main=>
  refine⟨rfl,_,rfl,by decide,by decide,[.str tU,.int n],⟨rfl,fun j i h=>?_⟩,bM (vs:=[.str tU,.int n]) (tc:=gN) 8 (fun i=>V.int (0+(i:Int))) (fun _=>true) (fun i v _=>v=.str (pA (n / 192+5*(0+(i:Int))))) (fun _ _ _ _ _ z=>z) (by decide) rB yT uP (fun i H2 Q' hi s2 k=>k H2 (ak.refl _)) (fun j H1 D l' Q' hj _ s1 _ _ k=>?_) fun D H1 ys hD s1 Kj hP=>?_⟩
  ·match j,h with
   | 0,h=>cases h;exact⟨_,rfl,rfl⟩
   | 1,h=>cases h;exact⟨_,rfl,rfl⟩
   | j+2,h=>simp at h
  ·obtain⟨m0,m1⟩:=jx (a:=n / 192+5*(0+(j:Int))) (b:=52) (by decide);obtain⟨ch,hc⟩:=zE m0 m1;exact⟨_,rfl,_,rfl,_,_,rfl,rfl,⟨by decide,by decide⟩,_,rfl,_,_,rfl,rfl,.inl ⟨by decide,by decide⟩,_,_,rfl,rfl,_,_,rfl,rfl,cH,_,_,ch,rfl,rfl,by decide +kernel,hc,k _ _ (ak.refl _) (by unfold pA;rw[hc])⟩
  have eP:=hP.eq;rw[U5.mpr (fun _ _=>rfl)] at eP;have eP:ys=((List.range 8).map fun(j:Nat)=>pA (n / 192+5*(0+(j:Int)))).map V.str:=by rw[eP,List.map_map];rfl
  have hz0:("":Str).length=0:=rfl;have hsum:(((List.range 8).map fun(j:Nat)=>pA (n / 192+5*(0+(j:Int)))).map (·.length)).sum<=8:=by
   simp only[List.map_map,Function.comp_def,mz];decide
  refine⟨_,D,_,rfl,rfl,aS.of (by rw[Kj,eP]),by rw[hz0];simp only[List.length_map,List.length_range];omega,?_⟩;show zS _ _ _ _ _;refine⟨_,rfl,_,_,rfl,rfl,⟨by decide,by decide⟩,_,_,rfl,rfl,cH,Je _,fun pn O4=>?_⟩;have O3:H pn=none:=none_of s1 O4;have s2:ak H (U1 H1 pn (.lst [])):=s1.trans (ab O4 _);have l2:U1 H1 pn (.lst []) pn=some (.lst []):=ae;generalize U1 H1 pn (.lst [])=H2 at s2 l2 ⊢;refine⟨_,rfl,by decide,by decide,ju (lo:=0) (n:=12) (fun i σ H'=>(∃o5 o6,σ=[some (.int n),some (.str tU),some (.str (pV (n / 192))),some (.int (n / 24 % 8)),some (.ref pn),o5,o6])/\ak H H'/\∃xs:List Str,H' pn=some (.lst (xs.map V.str))/\xs.length=i/\∀x∈xs,x.length<=100/\x≠"start") ⟨⟨_,_,rfl⟩,s2,[],l2,rfl,fun x h=>(by simp at h)⟩ ?t ?s⟩
  case s=>
   rintro σ H' ⟨⟨o5,o6,rfl⟩,sH,xs,hx,lx,Rl⟩;exact⟨_,rfl,q _ xs H' sH O3 hx lx Rl⟩
  case t=>
   rintro i σ H' hi ⟨⟨o5,o6,rfl⟩,sH,xs,hx,lx,Rl⟩;obtain⟨m0,m1⟩:=jx (a:=n / 192+7*(0+(i:Int))+1) (b:=52) (by decide);obtain⟨ch,hc⟩:=zE m0 m1;refine⟨_,rfl,_,rfl,_,_,rfl,rfl,⟨by decide,by decide⟩,_,rfl,_,_,rfl,rfl,.inl ⟨by decide,by decide⟩,_,_,rfl,rfl,_,_,rfl,rfl,_,_,rfl,rfl,cH,_,_,ch,rfl,rfl,by decide +kernel,hc,?_⟩;refine⟨_,rfl,.inl ⟨rfl,_,aS.of hx⟩,n,_,0+(i:Int),n / 192,n / 192+7*(0+(i:Int))+1,rfl,rfl,rfl,rfl,by show some (some (V.str ⟨#[ch]⟩))=_;unfold pA;rw[hc],(jx (a:=n / 24) (b:=8) (by decide)).1,(jx (a:=n / 24) (b:=8) (by decide)).2,by omega,by omega,fun z H3 s3 Rk hz4=>?_⟩;have hx3:=s3 _ _ hx;refine⟨pn,_,.str z,rfl,rfl,hx3,bZ (by rw[IC];omega),⟨_,_,rfl⟩,gz (sH.trans s3) O3 _,xs++[z],by rw[ae,Jg];rfl,by rw[Iu,lx];rfl,fun y hy=>?_⟩;rcases I0.mp hy with hy | hy
   ·exact Rl y hy
   ·rw[Vc.mp hy];exact⟨Rk,hz4⟩
end
end GS
namespace L2
open PySem PySem.Spec PyProof.Rows PySem.Builtin PySem.Builtin.Str
theorem Inv.zP {X:Cx}{UL:List (Addr×Obj)}{σ:St}{H:Hp}{s:Shared}{fp:List Addr}{h':Heap}{t':Nat}(I:Inv X UL σ H s) (k:∀b u,b∉fp->s.heap.get? b=some u->h'.get? b=some u)
  (hf:∀b∈fp,kJ X UL H b):Inv X UL σ H { s with heap:=h',toks:=t' }:=by
 have nf:∀b u,H b=some u->b∉fp:=fun b u e hb=>by rw[(hf b hb).1] at e;cases e
 refine I.vi (ch:=fp) (s':={ s with heap:=h',toks:=t' }) rfl ⟨fun b o q _ _ hx=>k b o hx q,fun b o q _ _ hx=>⟨o.slots,k b o hx q⟩,fun b u q n _=>n,fun b o q hx=>⟨o,k b o hx q⟩,fun b xs q=>q,fun b u xs q=>q,fun b ps q=>⟨#[],?_⟩⟩ ?_ I.bare
  fun b hb=>⟨(hf b hb).2.2.2.1,(hf b hb).2.1,(hf b hb).2.2.2.2.1,(hf b hb).2.2.2.2.2⟩
 ·rw[q];simp
 ·intro b u e;refine(I.cA b u e).qS (fun c v hc q=>k c v ?_ q) (fun c q=>q) fun c xs q=>q;rcases hc with z | z
  ·rw[z];exact nf b u e
  ·exact nf c _ z
def zG (K:Fg06) (a b:Addr):It:=
 ⟨fun i H=>∃xs x ys y,aS K H a xs/\xs[i]?=some x/\aS K H b ys/\ys[i]?=some y,fun i H x H'=>∃T u v,H T=none/\x=.ref T/\H'=U1 H T (.tup [u,v])/\(∀xs,aS K H a xs->xs[i]?=some u)/\∀ys,aS K H b ys->ys[i]?=some v,fun i H=>∃xs ys,aS K H a xs/\aS K H b ys/\(xs.length<=i\/ys.length<=i)⟩
theorem wX {P:Program}{w:World}{K:Fg06}{elts:List Expr}{x1:Nat}{pos:Pos}{a b z TI TO i1 i2:Addr}(D:ZipApart z TI TO i1 i2 a b):Turn P w K (.Tuple elts x1 pos) (zG K a b) [z,TI,TO,i1,i2] z (fun i h=>IsZip h z TI TO .none/\IsPair h TI (.ref i1) (.ref i2)/\(∃u v,IsPair h TO u v)/\h.IsListIter i1 a i/\h.IsListIter i2 b i) where
 mem:=by simp
 obj:=fun i h st c hc=>by
  obtain⟨h1,h2,⟨u,v,h3⟩,⟨o4,e4,c4,d4⟩,⟨o5,e5,c5,d5⟩⟩:=st;simp only[List.mem_cons,List.not_mem_nil,or_false] at hc;rcases hc with rfl | rfl | rfl | rfl | rfl
  ·exact⟨_,h1,fun v z=>by cases z⟩
  ·exact⟨_,h2,fun v z=>by cases z⟩
  ·exact⟨_,h3,fun v z=>by cases z⟩
  ·exact⟨_,e4,fun v z=>by rw[d4] at z;cases z⟩
  ·exact⟨_,e5,fun v z=>by rw[d5] at z;cases z⟩
 keep:=fun i h h' st k=>by
  obtain⟨h1,h2,⟨u,v,h3⟩,h4,h5⟩:=st;exact⟨k _ (by simp) _ h1,k _ (by simp) _ h2,⟨u,v,k _ (by simp) _ h3⟩,h4.at fun o e=>k _ (by simp) o e,h5.at fun o e=>k _ (by simp) o e⟩
 item:=by
  intro X hP hw hK hc i UL s σ H E I hf st hg;subst hP hw hK;obtain⟨h1,h2,⟨u0,v0,h3⟩,h4,h5⟩:=st;obtain⟨xs,x,ys,y,hq,hx,Mp,hy⟩:=hg;obtain⟨UN,rv,p,hz⟩:=I.list hq;obtain⟨JB,Mj,p2,LV⟩:=I.list Mp;obtain⟨u,hu,ru⟩:=rv.get hx;obtain⟨v,hv,rv'⟩:=Mj.get hy;have Ri:z < s.heap.objs.size:=Jj h1;refine wpAny_pyNext_zip_item D h1 h2 h3 h4 h5 p.isList p2.isList (x:=u) (y:=v) (by simpa using hu) (by simpa using hv) fun h' a1 a2 a3 a4 a5 a6 a7=>?_;refine⟨_,rfl,wpAny_letOwnedTupleGo_zip a1 fun h'' b1 b2=>?_⟩;have kz:∀c o,c≠z->h'.get? c=some o->h''.get? c=some o:=fun c o n e=>(b2.2 c n).trans e;have Ju:∀c∈[z,TI,TO,i1,i2],c < s.heap.objs.size:=fun c hc=>by
   obtain⟨o4,e4,_⟩:=id h4;obtain⟨o5,e5,_⟩:=id h5;simp only[List.mem_cons,List.not_mem_nil,or_false] at hc;rcases hc with rfl | rfl | rfl | rfl | rfl
   ·exact Jj h1
   ·exact Jj h2
   ·exact Jj h3
   ·exact Jj e4
   ·exact Jj e5
  have hT:h''.get? s.heap.objs.size=some { cls:=.type "tuple",data:=.seq #[u,v] }:=kz _ _ (Nat.ne_of_gt Ri) a5;refine⟨.ref s.heap.objs.size,U1 H s.heap.objs.size (.tup [x,y]),?_,rfl,⟨_,x,y,I.cA.fresh (IE _),rfl,rfl,fun ws hw=>by rw[I.kr hw hq];exact hx,fun ws hw=>by rw[I.kr hw Mp];exact hy⟩,⟨b1,kz _ _ D.TIz (a7 _ _ D.TIz D.TITO D.TIi1 D.TIi2 h2),⟨_,_,kz _ _ D.TOz a2⟩,a3.at fun o e=>kz _ o D.i1z e,a4.at fun o e=>kz _ o D.i2z e⟩,fun c hc=>?_⟩
  ·refine Inv.oU (s:=s) (h':=h'') (fp:=[z,TI,TO,i1,i2]) (t':=s.toks) I (fun c o hc q=>?_) hf (IE _) ⟨by show 2<=sizeLine;decide,_,.cons ru (.cons rv' .nil),⟨_,hT,rfl,_,rfl⟩⟩;simp only[List.mem_cons,List.not_mem_nil,or_false,not_or] at hc;exact kz _ _ hc.1 (a7 c o hc.1 hc.2.2.1 hc.2.2.2.1 hc.2.2.2.2 q)
  ·rw[aD (Jk (Ju c hc))];exact(hf c hc).1
 done:=by
  intro X hP hw hK hc i UL s σ H E I hf st hg;subst hP hw hK;obtain⟨h1,h2,⟨u0,v0,h3⟩,h4,h5⟩:=st;obtain⟨xs,ys,hq,Mp,hx⟩:=hg;obtain⟨UN,rv,p,hz⟩:=I.list hq;obtain⟨JB,Mj,p2,LV⟩:=I.list Mp;have hl:=rv.length;have JF:=Mj.length;refine wpAny_pyNext_zip_end (I.ok.hd hc) D h1 h2 h3 h4 h5 p.isList p2.isList ?_ fun h' hk=>⟨rfl,Inv.zP (t':=s.toks) (fp:=[z,TI,TO,i1,i2]) I (fun c o hc q=>?_) hf⟩
  ·rcases hx with hx | hx
   ·exact .inl (by simp;omega)
   ·exact .inr (by simp;omega)
  ·simp only[List.mem_cons,List.not_mem_nil,or_false,not_or] at hc;exact hk c o hc.1 hc.2.2.1 hc.2.2.2.1 hc.2.2.2.2 q
 self:=fun _ _ _ _ _ st h=>wpAny_pyIter_zip st.1 h
theorem boot_zip:bootBuiltins "zip"=some (.type "zip"):=by decide +kernel
section
variable {X:Cx}{elts:List Expr}{x1:Nat}{tpos:Pos}
def HU (K:Fg06) (ta:TA):TI:=fun σ H R=>ta σ H fun vs H1=>∃a b,vs=[.ref a,.ref b]/\(∃xs,aS K H1 a xs)/\(∃ys,aS K H1 b ys)/\R (zG K a b) H1
theorem yc {a b:Expr}{ta:TA}{p pos:Pos}(hg:Gl X "zip") (hm:X.mg "zip"=none) (ha:PA X [a,b] ta) (hs:starEach [a,b] X.env=(false,eval a X.env)::starEach [b] X.env:=by rfl) (Mo:(backTo pos (starEach [b] X.env)).any (·.1)=false:=by rfl):PI X (.Tuple elts x1 tpos) (.Call (.Name "zip" p) [a,b] [] pos) (HU X.K ta):=by
 intro UL s σ H R I h;refine Call_ (lG I hg hm boot_zip (PyProof.Rows.callWith_type1 (da (ha pos UL s σ H _ I h) fun us s1 ⟨vs,H1,I1,r1,q1⟩=>?_) hs Mo));obtain⟨l1,l2,e,⟨xs,hq⟩,⟨ys,Mp⟩,q⟩:=q1;subst e;obtain⟨u,v,rfl,ru,rv⟩:=vals2 r1;cases ru;cases rv;obtain⟨UN,rv,p,hz⟩:=I1.list hq;obtain⟨JB,Mj,p2,LV⟩:=I1.list Mp;have lt1:l1 < s1.heap.objs.size:=let ⟨o,n,e,_⟩:=p;Jj e;have lt2:l2 < s1.heap.objs.size:=let ⟨o,n,e,_⟩:=p2;Jj e;refine call_zip_2 p.isList p2.isList fun h' hz hTI hTO hi1 Qy hsz hk=>wpAny_pyIter_zip hz ?_;refine⟨s1.heap.objs.size+4,[s1.heap.objs.size+4,s1.heap.objs.size+2,s1.heap.objs.size+3,s1.heap.objs.size,s1.heap.objs.size+1],_,_,H1,rfl,I1.kept (t':=s1.toks) hk,wX (zipApart_new lt1 lt2),⟨hz,hTI,⟨_,_,hTO⟩,hi1,Qy⟩,fun b hb=>?_,q⟩;have KO:s1.heap.objs.size<=b:=by
  simp only[List.mem_cons,List.not_mem_nil,or_false] at hb;rcases hb with rfl | rfl | rfl | rfl | rfl
  ·exact Nat.le_add_right _ _
  ·exact Nat.le_add_right _ _
  ·exact Nat.le_add_right _ _
  ·exact IE _
  ·exact Nat.le_add_right _ _
 exact I1.wu KO (I1.cA.fresh KO)
end
end L2
namespace GS
open PySem PyProof.Rows
open L2 hiding ag gA cE aj pv bA fN aB iw fu d9 fh iT bC dz bD bz bg bc aI aY ba bV au bE dQ cp bS fP d6 fg fE gk cR eJ cb fT bL eI bQ aJ bT fQ gu bo eS cL aP aa ah
open L3
section
variable {X:Cx}
theorem uS {UL:List (Addr×Obj)}{σ:L2.St}{H:Hp}{s:Shared}{Q:VK}{b b':Bool}(I:Inv X UL σ H s) (q:Q (.bl b) H) (e:b'=b):EP X UL σ Q (.bool b') s:=by
 subst e;exact⟨.bl _,H,I,rfl,q⟩
def Hx (X:Cx):R2:=fun x y H Q=>∃(p q:Addr) (us ws:List V) (ds es:List D),x=.ref p/\y=.ref q/\aS X.K H p us/\aS X.K H q ws/\aE X.K H ds us/\aE X.K H es ws/\cJ ds<=40/\(∀d∈ds,El d)/\(∀d∈es,El d)/\Q (.bl (decide (ds=es))) H
theorem zh {ds es:List D}(h1:∀d∈ds,El d) (h2:∀d∈es,El d):fX ds es=decide (ds=es):=by
 induction ds generalizing es with
 | nil=>
  cases es with
  | nil=>rw[fX];exact(Iw rfl).symm
  | cons e es=>rw[fX];exact(Iv (by simp)).symm;all_goals nofun
 | cons d ds ih=>
  cases es with
  | nil=>rw[fX];exact(Iv (by simp)).symm;all_goals nofun
  | cons e es=>
   rw[fX,ih (fun x hx=>h1 x (Iq _ hx)) (fun x hx=>h2 x (Iq _ hx)),qv (h1 d Ir).nb (h2 e Ir).nb];by_cases a:d=e
   ·subst a;simp
   ·simp[a]
theorem CP {k:Nat}(hr:cZ k X.A):ie X (compareOp .Eq) (Hx X):=by
 intro UL s σ H x y v u Q I rx ry h;obtain⟨p,q,us,ws,ds,es,rfl,rfl,hp,hq,ha,hb,hd,e1,e2,hQ⟩:=h;cases rx;cases ry;obtain⟨UN,r1,p1,z1⟩:=I.list hp;obtain⟨JB,r2,p2,z2⟩:=I.list hq;have hu:=hr.units;have hS:=qW r1 r2 ha hb;have l1:UN.toArray.size=ds.length:=by rw[U9,<-r1.length];exact ha.len
 have l2:JB.toArray.size=es.length:=by rw[U9,<-r2.length];exact hb.len
 by_cases hsz:UN.toArray.size=JB.toArray.size
 ·refine SeqAt.eq_listAt (e:=fun j=>cm (ds.getD j .bb) (es.getD j .bb)) p1.isList p2.isList hsz (by omega) (rC I (A:=X.A.in1) (n:=cJ ds) r1 r2 ha hb (IE _) (by show X.A.units+1+cJ ds < cLine;omega)) (uS I hQ ?_);rw[<-zh e1 e2,<-hS,hsz,Nat.min_self,beq_self_eq_true,Bool.and_true]
 ·refine SeqAt.eq_list_lengthsAt p1.isList p2.isList (bne_iff_ne.mpr hsz) (by omega) (uS I hQ ?_);refine(Iv fun z=>hsz ?_).symm;rw[l1,l2,z]
end
def qK (d:D):Prop:=(∃i,d=.int i)\/∃s,d=.str s
theorem qK.el {d:D}(h:qK d):El d:=by
 rcases h with ⟨i,rfl⟩ | ⟨s,rfl⟩
 ·exact El.int i
 ·exact El.str s
def fV:D->V
 | .int i=>.int i
 | .str s=>.str s
 | _=>.bb
theorem uT (d:D):i3 (fV d)=true:=by cases d<;>rfl
theorem ze (l:List D):(l.map fV).all i3=true:=by rw[List.all_map,List.all_eq_true];exact fun d _=>uT d
theorem Bq {d e:D}(h1:qK d) (h2:qK e):zf (fV d) (fV e)=decide (d=e):=by
 rcases h1 with ⟨i,rfl⟩ | ⟨s,rfl⟩<;>rcases h2 with ⟨j,rfl⟩ | ⟨t,rfl⟩
 ·show(i == j)=_;rw[Bool.eq_iff_iff,beq_iff_eq,decide_eq_true_iff];exact⟨fun z=>by rw[z],fun z=>by injection z⟩
 ·exact(Iv (by nofun)).symm
 ·exact(Iv (by nofun)).symm
 ·show(s == t)=_;rw[Bool.eq_iff_iff,beq_iff_eq,decide_eq_true_iff];exact⟨fun z=>by rw[z],fun z=>by injection z⟩
theorem Br {K:Fg06}{H:Hp}{d:D}{v:V}(h:qK d):At K H d v↔v=fV d:=by
 rcases h with ⟨i,rfl⟩ | ⟨s,rfl⟩
 ·exact bG
 ·exact aH
theorem qt {K:Fg06}{H:Hp}:∀{ds:List D}{us:List V},(∀d∈ds,qK d)->(aE K H ds us↔us=ds.map fV)
 | [],_,_=>aZ
 | d::ds,us,h=>by
  rw[aX,Va];have h1:=h d Ir;have h2:∀x∈ds,qK x:=fun x hx=>h x (Iq _ hx);constructor
  ·rintro⟨v,r,rfl,a,b⟩;rw[(Br h1).mp a,(qt h2).mp b]
  ·rintro rfl;exact⟨_,_,rfl,(Br h1).mpr rfl,(qt h2).mpr rfl⟩
theorem DS {d:D}{l:List D}(hd:qK d) (hl:∀e∈l,qK e):DT (fV d) (l.map fV)=decide (d∈l):=by
 unfold DT;rw[List.any_map,Bool.eq_iff_iff,List.any_eq_true,decide_eq_true_iff];constructor
 ·rintro⟨x,hx,h⟩;have h':zf (fV x) (fV d)=true:=h;rw[Bq (hl x hx) hd,decide_eq_true_iff] at h';rw[<-h'];exact hx
 ·exact fun h=>⟨d,h,by show zf (fV d) (fV d)=true;rw[Bq hd hd];exact Iw rfl⟩
def kj (n:Nat) (rw:Nat->List D) (a:Nat->Nat):List (List D):=(List.range n).map fun i=>(rw i).drop (a i)
def mJ (n:Nat) (a:Nat->Nat):List V:=(List.range n).map fun i=>V.int (a i:Nat)
noncomputable def pq (rw:Nat->List D) (a:Nat->Nat) (c:D) (i:Nat):Nat:=if((rw i).drop (a i)).take 1=[c] then a i+1 else a i
section
variable {n:Nat}{rw:Nat->List D}{a:Nat->Nat}
theorem jy:(mJ n a).length=n:=by rw[mJ,IC,List.length_range]
theorem jz {i:Nat}(h:i < n):(mJ n a)[i]?=some (.int (a i:Nat)):=by rw[mJ,IJ,List.getElem?_range h];rfl
theorem AR {k b:Nat}:(mJ n a).set k (.int (b:Nat))=mJ n (fun i=>if i=k then b else a i):=by
 refine List.ext_getElem? fun j=>?_;rw[List.getElem?_set];by_cases hj:j < n
 ·rw[jz hj,jz hj,jy];by_cases e:k=j
  ·rw[II e,II (by omega),II e.symm]
  ·rw[IH e,IH (fun z=>e z.symm)]
 ·have h1:(mJ n a)[j]?=none:=List.getElem?_eq_none (by rw[jy];omega);have h2:∀a',(mJ n a')[j]?=none:=fun a'=>List.getElem?_eq_none (by rw[jy];omega);rw[h1,h2,jy];by_cases e:k=j
  ·rw[II e,IH (by omega)]
  ·rw[IH e]
theorem zX:(kj n rw a).all List.isEmpty=((List.range n).filter fun i=>decide (a i < (rw i).length)).isEmpty:=by
 unfold kj;rw[List.all_map]
 induction List.range n with
 | nil=>rfl
 | cons i l ih=>
  rw[List.all_cons,ih];by_cases h:a i < (rw i).length
  ·rw[List.filter_cons_of_pos (by exact Iw h)];have:(List.isEmpty∘fun i=>(rw i).drop (a i)) i=false:=by
    show((rw i).drop (a i)).isEmpty=false;rw[List.isEmpty_eq_false_iff];intro z;have:=List.drop_eq_nil_iff.mp z;omega
   rw[this];rfl
  ·rw[List.filter_cons_of_neg (by rw[Iv h];exact IP)];have:(List.isEmpty∘fun i=>(rw i).drop (a i)) i=true:=by
    show((rw i).drop (a i)).isEmpty=true;rw[List.drop_eq_nil_iff.mpr (by omega)];rfl
   rw[this];rfl
theorem vE:(kj n rw a).filterMap List.head?=((List.range n).filter fun i=>decide (a i < (rw i).length)).map fun i=>(rw i).getD (a i) .bb:=by
 unfold kj
 induction List.range n with
 | nil=>rfl
 | cons i l ih=>
  rw[Va,List.filterMap_cons,ih,List.head?_drop];by_cases h:a i < (rw i).length
  ·rw[List.filter_cons_of_pos (by exact Iw h),Va,Iy h,Iz,Iy h];rfl
  ·rw[List.filter_cons_of_neg (by rw[Iv h];exact IP),List.getElem?_eq_none (by omega)]
def Bs (rw:Nat->List D) (a:Nat->Nat) (j:Nat):List D:=((List.range j).map fun i=>(rw i).drop (a i+1)).flatten
theorem rX (j:Nat):Bs rw a (j+1)=Bs rw a j++(rw j).drop (a j+1):=by
 unfold Bs;rw[List.range_succ,Jg,List.flatten_append];simp
theorem vj (h:∀i,i < n->(rw i).length<=100):∀j,j<=n->(Bs rw a j).length<=100*j
 | 0,_=>IE _
 | j+1,hj=>by
  have h1:=vj h j (by omega);have h2:=h j (by omega);rw[rX,Iu,List.length_drop];omega
theorem AO (c:D):decide (c∈Bs rw a n)=bx c (kj n rw a):=by
 rw[Bool.eq_iff_iff,decide_eq_true_iff];unfold Bs bx kj;rw[List.any_map,List.any_eq_true,List.mem_flatten];constructor
 ·rintro⟨l,hl,hc⟩;obtain⟨i,hi,rfl⟩:=Jq.mp hl;refine⟨i,hi,?_⟩;show decide (c∈((rw i).drop (a i)).tail)=true;rw[decide_eq_true_iff,List.tail_drop];exact hc
 ·rintro⟨i,hi,h⟩;have h':decide (c∈((rw i).drop (a i)).tail)=true:=h;rw[decide_eq_true_iff,List.tail_drop] at h';exact⟨_,Jq.mpr ⟨i,hi,rfl⟩,h'⟩
theorem Ee (h:∀i,∀d∈rw i,qK d) (j:Nat):∀d∈Bs rw a j,qK d:=fun d hd=>by
 obtain⟨l,hl,hc⟩:=List.mem_flatten.mp hd;obtain⟨i,hi,rfl⟩:=Jq.mp hl;exact h i d (List.mem_of_mem_drop hc)
theorem qb (c:D):kj n rw (pq rw a c)=(kj n rw a).map (cw c):=by
 unfold kj;rw[List.map_map];refine List.map_congr_left fun i _=>?_;show(rw i).drop (pq rw a c i)=cw c ((rw i).drop (a i));unfold pq;have e:(rw i).drop (a i+1)=((rw i).drop (a i)).tail:=List.tail_drop.symm;cases h:(rw i).drop (a i) with
 | nil=>rw[IH (by simp),h];rfl
 | cons x xs=>
  rw[cw];by_cases hx:x=c
  ·rw[II (by simp[hx]),II hx,e,h];rfl
  ·rw[IH (by simpa using hx),IH hx,h]
theorem uy {r:List D}(h:r∈kj n rw a):∃i,i < n/\r=(rw i).drop (a i):=by
 obtain⟨i,hi,e⟩:=Jq.mp h;exact⟨i,List.mem_range.mp hi,e.symm⟩
theorem AE (h:∀i,∀d∈rw i,qK d):∀c∈eA (kj n rw a),qK c:=fun c hc=>by
 obtain⟨h1,_⟩:=Jp.mp hc;rw[List.mem_filterMap] at h1;obtain⟨r,hr,e⟩:=h1;obtain⟨i,_,rfl⟩:=uy hr;exact h i c (List.mem_of_mem_drop (List.mem_of_mem_head? (by rw[e];rfl)))
theorem zQ (h:∀i,i < n->(rw i).length<=100):kT (kj n rw a)<=100*n:=by
 have:∀l:List Nat,(∀i∈l,(rw i).length<=100)->kT (l.map fun i=>(rw i).drop (a i))<=100*l.length:=fun l=>by
  induction l with
  | nil=>intro _;exact IE _
  | cons i l ih=>
   intro hl;have h1:=ih fun j hj=>hl j (Iq _ hj);have h2:=hl i Ir;rw[Va,eM,List.length_drop,IT];omega
 have:=this (List.range n) fun i hi=>h i (List.mem_range.mp hi)
 rwa [List.length_range] at this
end
theorem xX (UR:List (List D)):kj UR.length (fun i=>UR.getD i []) (fun _=>0)=UR:=by
 have:=di UR [] id;rw[List.map_id] at this;exact this
theorem zq {xs:List V}(i j:Nat):de xs (some (i:Nat)) (some (j:Nat))=(xs.drop i).take (j - i):=by
 unfold de;rw[HT.jl,HT.jl];by_cases h:i<=xs.length
 ·rw[Nat.min_eq_left h];by_cases h2:j<=xs.length
  ·rw[Nat.min_eq_left h2]
  ·rw[Nat.min_eq_right (by omega),List.take_of_length_le (by rw[List.length_drop];omega),List.take_of_length_le (by rw[List.length_drop];omega)]
 ·rw[Nat.min_eq_right (by omega:xs.length<=i),List.drop_eq_nil_iff.mpr (IE _),List.drop_eq_nil_iff.mpr (by omega)];simp
def Bv (K:Fg06) (H:Hp) (UR:List (List D)) (vs:List V):Prop:=vs.length=UR.length/\∀i,i < UR.length->∃q,vs[i]?=some (.ref q)/\aS K H q ((UR.getD i []).map fV)
section
variable {K:Fg06}{H:Hp}{p q:Addr}{xs ys:List V}
theorem yR (h1:aS K H p xs) (h2:aS K H q ys) (hl:xs.length=ys.length):(zG K p q).stop xs.length H:=⟨xs,ys,h1,h2,.inl (IE _)⟩
theorem yS (h1:aS K H p xs) (h2:aS K H q ys) (hl:xs.length=ys.length){i:Nat}(hi:i < xs.length):(zG K p q).go i H:=⟨xs,xs[i],ys,ys[i],h1,Iy hi,h2,Iy (by omega)⟩
theorem uO (h1:aS K H p xs) (h2:aS K H q ys){i:Nat}{x:V}{H':Hp}(hy:(zG K p q).rZ i H x H'):∃T u v,H T=none/\x=.ref T/\H'=U1 H T (.tup [u,v])/\xs[i]?=some u/\ys[i]?=some v:=by
 obtain⟨T,u,v,a,b,c,d,e⟩:=hy;exact⟨T,u,v,a,b,c,d xs h1,e ys h2⟩
theorem AF {g:TG}{tb:TS}{D:U4}{σ:L2.St}{H:Hp}(Pv:Nat->L2.St->Hp->Prop) (h0:Pv 0 σ H) (hl:xs.length=ys.length) (hq:∀i σ H,Pv i σ H->aS K H p xs/\aS K H q ys)
  (hs:∀i σ H T u v,i < xs.length->Pv i σ H->xs[i]?=some u->ys[i]?=some v->H T=none->g (.ref T) σ (U1 H T (.tup [u,v])) fun σ2 H2=>tb { D with nx:=Pv (i+1),ct:=Pv (i+1),bk:=D.nx } σ2 H2) (hd:∀σ H,Pv xs.length σ H->D.nx σ H):
  ∃W:Nat->Nat->L2.St->Hp->Prop,(∃m,W 0 m σ H)/\∀i m σ H,W i m σ H->
   ((zG K p q).stop i H/\D.nx σ H)\/((zG K p q).go i H/\∃N:L2.St->Hp->Prop,(∀σ' H',N σ' H'->∃m',m' < m/\W (i+1) m' σ' H')/\∀x H',(zG K p q).rZ i H x H'->g x σ H' fun σ2 H2=>tb { D with nx:=N,ct:=N,bk:=D.nx } σ2 H2):=by
 refine⟨fun i m σ H=>m=xs.length - i/\i<=xs.length/\Pv i σ H,⟨_,rfl,Je _,h0⟩,?_⟩;rintro i m σ H ⟨rfl,hi,pv⟩;obtain⟨a1,a2⟩:=hq i σ H pv;by_cases Ju:i < xs.length
 ·refine .inr ⟨yS a1 a2 (by omega) (by omega),Pv (i+1),fun σ' H' p'=>⟨xs.length - (i+1),by omega,rfl,Ju,p'⟩,fun x H' y=>?_⟩;obtain⟨T,u,v,hT,rfl,rfl,e1,e2⟩:=uO a1 a2 y;exact hs i σ H T u v Ju pv e1 e2 hT
 ·have e:i=xs.length:=by omega
  subst e;exact .inl ⟨⟨xs,ys,a1,a2,.inl (by omega)⟩,hd σ H pv⟩
end
theorem Gn {K:Fg06}{p q:Addr}{tc:TT}{te:TE}{H:Hp}{R:Addr->Hp->Prop}{vs xs ys:List V}(h1:aS K H p xs) (h2:aS K H q ys) (hl:xs.length=ys.length) (b:Nat->Bool) (f:Nat->V) (hn:xs.length<=1000000)
  (Rv:∀i H1 (Q':Bool->Hp->Prop) u v,i < xs.length->ak H H1->xs[i]?=some u->ys[i]?=some v->(∀H2,ak H1 H2->Q' (b i) H2)->tc (some u::some v::vs.map some) H1 Q')
  (Ru:∀i H1 (Q':VK) u v,i < xs.length->b i=true->ak H H1->xs[i]?=some u->ys[i]?=some v->(∀H2,ak H1 H2->Q' (f i) H2)->te (some u::some v::vs.map some) H1 Q')
  (q':∀D H',H D=none->ak H H'->H' D=some (.lst (((List.range xs.length).filter b).map f))->R D H'):
  ∀D,H D=none->∃W:Nat->Nat->List V->Hp->Prop,(∃m,W 0 m [] (U1 H D (.lst [])))/\∀i m zs H,W i m zs H->
   ((zG K p q).stop i H/\R D H)\/((zG K p q).go i H/\∀x H' (ox:List (Option V)),ox.length=2->(zG K p q).rZ i H x H'->AA K 2 (pE (iz 0) (pE (iz 1) AB)) x (ox++vs.map some) H' fun σ2 H2=>∃Kl,Kl.length=2/\σ2=Kl++vs.map some/\tc σ2 H2 fun b H3=>
    if b=true then te σ2 H3 fun v H4=>H4 D=some (.lst zs)/\zs.length < sizeLine/\∃m',m' < m/\W (i+1) m' (zs++[v]) (U1 H4 D (.lst (zs++[v]))) else ∃m',m' < m/\W (i+1) m' zs H3):=by
 intro D hD;refine⟨fun i m zs H'=>m=xs.length - i/\i<=xs.length/\ak H H'/\H' D=some (.lst zs)/\zs=((List.range i).filter b).map f,⟨_,rfl,Je _,ab hD _,ae,rfl⟩,?_⟩;rintro i m zs H1 ⟨rfl,hi,sH,K1,hz⟩;by_cases Ju:i < xs.length
 ·refine .inr ⟨yS (sH.seq h1) (sH.seq h2) hl Ju,fun x H' ox Ni hy=>?_⟩;obtain⟨T,u,v,hT,rfl,rfl,e1,e2⟩:=uO (sH.seq h1) (sH.seq h2) hy;obtain⟨o1,o2,rfl⟩:∃o1 o2,ox=[o1,o2]:=by
   match ox,Ni with
   | [o1,o2],_=>exact⟨o1,o2,rfl⟩
  have s1:ak H1 (U1 H1 T (.tup [u,v])):=ab hT _;refine⟨T,[u,v],rfl,.inl (.inl ae),rfl,u,[v],rfl,v,[],rfl,rfl,[some u,some v],rfl,rfl,Rv i _ _ u v Ju (sH.trans s1) e1 e2 fun H2 s2=>?_⟩;have JF:((List.range i).filter b).length<=i:=ID (List.length_filter_le ..) (by simp);have er:(List.range (i+1)).filter b=(List.range i).filter b++(if b i=true then [i] else []):=by
   rw[List.range_succ,List.filter_append,List.filter_cons,List.filter_nil]
  have Jv:=s1.trans s2;cases hb:b i with
  | false=>
   refine bu ⟨xs.length - (i+1),by omega,rfl,Ju,sH.trans Jv,Jv _ _ K1,?_⟩;rw[er,hb,IH IP,Jf];exact hz
  | true=>
   refine cC (Ru i H2 _ u v Ju hb (sH.trans Jv) e1 e2 fun H3 s3=>?_);have s4:=Jv.trans s3;have lz:zs.length<=i:=by rw[hz,IC];exact JF
   refine⟨s4 _ _ K1,Jh (Jm _) (small (n:=zs.length+1) (by omega)),xs.length - (i+1),by omega,rfl,Ju,gz (sH.trans s4) hD _,ae,?_⟩;rw[er,hb,II rfl,Jg,hz];rfl
 ·have e:i=xs.length:=by omega
  subst e;refine .inl ⟨yR (sH.seq h1) (sH.seq h2) hl,q' D H1 hD sH ?_⟩;rw[K1,hz]
abbrev Hn:Stmt:=cB 74
theorem uX:∀{ds:List D},(∀d∈ds,qK d)->cJ ds=0
 | [],_=>by rw[cJ]
 | d::ds,h=>by
  rw[cJ,uX fun x hx=>h x (Iq _ hx)];rcases h d Ir with ⟨i,rfl⟩ | ⟨s,rfl⟩
  ·rw[gG];rfl
  ·rw[cK];rfl
theorem Az {n j:Nat}(h:j < n):sY n ((0:Int)+(j:Nat))=some j:=by
 unfold sY;rw[II (by omega),II (by omega)];congr 1;omega
section
variable {P:Program}{w:World}{K:Fg06}{mg:Str->Option Value}{base:Heap}{f:Addr}{fd:FuncData}
def EJ (K:Fg06):Sp:=fun vs H Q _=>∃(p:Addr) (UT:List V) (UR:List (List D)),vs=[.ref p]/\aS K H p UT/\Bv K H UR UT/\(∀ds∈UR,∀d∈ds,qK d)/\UR.length<=1000/\(∀ds∈UR,ds.length<=100)/\
 (∀H',ak H H'->GS.mg UR=none->Q .bb H')/\(∀q H' l,ak H H'->GS.mg UR=some l->H q=none->H' q=some (.lst (l.map fV))->Q (.ref q) H')
theorem p7:aQ ["_law_rows","_law_at","_law_found","_law_heads","_law_behind","_law_row","_law_spot","_law_free","_law_k"] ["_law_rows"] (aC Hn):=gp
theorem FJ (g:Glb9 mg) (F:fm K "_law_merged" "_law_merged" Hn f fd):bK P w K mg base fq 1 f fd ["_law_rows"] (EJ K):=by
 refine F.GQ p7 (fun vs H Q E h=>?_) (fun UO A outer s H vs Q E hr h=>?_)
 ·obtain⟨_,_,_,rfl,_⟩:=h;rfl
 obtain⟨p,UT,UR,rfl,hp,hR,Pr,KY,UQ,qn,qs⟩:=h;refine⟨_,aa (fQ (i:=1) p7.nd rfl (Or.inr rfl) (aB CN (aY (aI ag bc)) (au az rfl g.dH bW (aI (pv 0) bc))))
  (aa (fQ (i:=2) p7.nd rfl (Or.inl rfl) (aY bc))
  (aa (eS IW (cp (yt hr) (.mk (L2.cG (cl:=[("_law_rows",s.heap.objs.size+1),("_law_at",s.heap.objs.size+2)]) (Xs:=["_law_k"]) (Nf:=["_law_rows","_law_at"]) (js:=[0,1]) ?k1 rfl (LI.out (bQ rfl g.gX (aI (au az rfl g.dH bW (aI (pv 0) bc)) bc))) (fun C s0 H0 fp=>LG.out (cR (i:=0) (show(["_law_k","_law_rows","_law_at"]:List Str).Nodup by decide +kernel) rfl (Or.inl rfl))) (fun C s0 H0 fp=>fJ (LT.out (cp ph (dz (r:=km K) eZ (pv 2) (pv 0) (fun _ _=>rfl)) (au (r:=zY K) az rfl g.dH bW (aI (dz (r:=km K) eZ (pv 1) (pv 0) (fun _ _=>rfl)) bc)) (jX _)))) (fun C s0 H0 fp=>LE.out (pv 0)))) (aY bc) (jX _))
   (aa (.mk (L2.dq (iy:=3) (cl:=[]) (Xs:=["_law_row","_law_spot"]) (Nf:=[]) (js:=[]) (g:=AA K 2 (pE (iz 0) (pE (iz 1) AB))) ?k2 rfl (L2.yc rfl g.FZ (LA.out (aI (pv 0) (aI (pv 1) bc)))) (fun C s0 H0 fp=>LG.out (fT rfl (cb (cR (i:=0) (show(["_law_row","_law_spot"]:List Str).Nodup by decide +kernel) rfl (Or.inl rfl)) (cb (cR (i:=1) (show(["_law_row","_law_spot"]:List Str).Nodup by decide +kernel) rfl (Or.inl rfl)) eJ)))) (fun C s0 H0 fp=>fJ (LT.out (cp ph (pv 1) (au (r:=zY K) az rfl g.dH bW (aI (pv 0) bc)) (jX _)))) (fun C s0 H0 fp=>LE.out (dz (r:=km K) eZ (pv 0) (pv 1) (fun _ _=>rfl))) p7.nd rfl (Or.inl rfl)))
   (aa (fQ (i:=4) p7.nd rfl (Or.inr rfl) (aY bc))
   (aa (cL IW rfl (.mk (L2.yc rfl g.FZ (LA.out (aI (pv 0) (aI (pv 1) bc))))) (fT rfl (cb (cR (i:=5) p7.nd rfl (Or.inl rfl)) (cb (cR (i:=6) p7.nd rfl (Or.inl rfl)) eJ)))
    (ah (bT (dQ Jb PySem.F.slot_list_extend PySem.F.type_list_extend vU (pv 4) (aI (bg eE (pv 5) (bz (aB fi (pv 6) ag)) bD) bc)))))
   (aa (.mk (L2.dq (iy:=7) (cl:=[("_law_behind",s.heap.objs.size+3)]) (Xs:=["_law_head"]) (Nf:=["_law_behind"]) (js:=[4]) ?k3 rfl (LI.out (bL (pv 3))) (fun C s0 H0 fp=>LG.out (cR (i:=0) (show(["_law_head","_law_behind"]:List Str).Nodup by decide +kernel) rfl (Or.inl rfl))) (fun C s0 H0 fp=>fJ (LT.out (cp (r:=Ft K true) ko (pv 0) (pv 1) rfl))) (fun C s0 H0 fp=>LE.out (pv 0)) p7.nd rfl (Or.inl rfl)))
   (aa (bo (cp (kq hr) (pv 7) (aY bc) (jX _)) (ah (aJ cE)) aP)
   (aa (bT (dQ Jb Jc Jd cf (pv 2) (aI (dz (r:=km K) eZ (pv 7) ag (fun _ _=>rfl)) bc)))
   (ah (cL IW rfl (bQ rfl g.gX (aI (au az rfl g.dH bW (aI (pv 0) bc)) bc)) (cR (i:=8) p7.nd rfl (Or.inl rfl))
    (ah (bo (cp (CP hr) (bg eE (dz (r:=km K) eZ (pv 0) (pv 8) (fun _ _=>rfl)) (bz (dz (r:=km K) eZ (pv 1) (pv 8) (fun _ _=>rfl))) (bz (aB fi (dz (r:=km K) eZ (pv 1) (pv 8) (fun _ _=>rfl)) ag))) (aY (aI (dz (r:=km K) eZ (pv 7) ag (fun _ _=>rfl)) bc)) (jX _))
     (ah (gu (aB fi (dz (r:=km K) eZ (pv 1) (pv 8) (fun _ _=>rfl)) ag) (.mk (L2.yd (L2.pv 1) (L2.pv 8) set_list)))) aP)))))))))))
  (ah (aJ (pv 2))))),?main⟩
 case k1=>exact qB
 case k2=>exact Gq
 case k3=>exact qB
 case main=>
  obtain⟨lR,hR⟩:=id hR;obtain⟨n,en⟩:∃n,n=UR.length:=⟨_,rfl⟩;obtain⟨Jt,erw⟩:∃Jt:Nat->List D,Jt=fun i=>UR.getD i []:=⟨_,rfl⟩;have Kn:∀i,i < n->(Jt i).length<=100:=fun i hi=>by
   rw[erw];show(UR.getD i []).length<=100;rw[Iz,Iy (by omega)];exact UQ _ (List.getElem_mem _)
  have L7:∀i,∀d∈Jt i,qK d:=fun i d hd=>by
   rw[erw] at hd;have JS:d∈UR.getD i []:=hd;rw[Iz] at JS;by_cases hi:i < UR.length
   ·rw[Iy hi] at JS;exact Pr _ (List.getElem_mem _) d JS
   ·rw[List.getElem?_eq_none (by omega)] at JS;cases JS
  have JQ:∀i,i < n->∃q,UT[i]?=some (.ref q)/\aS K H q ((Jt i).map fV):=fun i hi=>by rw[erw];exact hR i (by omega)
  have e0:kj n Jt (fun _=>0)=UR:=by rw[en,erw];exact xX UR
  rw[<-en] at lR KY;refine⟨by show 1<=sizeLine;decide,fun zl Ri=>?_⟩;have sz:ak H (U1 H zl (.lst [.int 0])):=ab Ri _;have cz:U1 H zl (.lst [.int 0]) zl=some (.lst [.int 0]):=ae;revert sz cz;generalize U1 H zl (.lst [.int 0])=H1;intro sz cz;refine⟨_,rfl,p,UT,rfl,.inl (sz.seq hp),zl,_,_,rfl,rfl,cz,by omega,by omega,?_,fun al TM=>?_⟩
  ·show 1*Int.toNat (UT.length:Nat)<=sizeLine;exact small (by omega)
  have eal:(List.replicate (Int.toNat (UT.length:Nat)) [V.int 0]).flatten=mJ n (fun _=>0):=by
   rw[Int.toNat_natCast,lR,List.flatten_replicate_singleton,mJ,List.map_const',List.length_range];rfl
  rw[eal];have s2:ak H (U1 H1 al (.lst (mJ n fun _=>0))):=sz.trans (ab TM _);have c2:U1 H1 al (.lst (mJ n fun _=>0)) al=some (.lst (mJ n fun _=>0)):=ae;have hal0:H al=none:=sz.free TM;revert s2 c2;generalize U1 H1 al (.lst (mJ n fun _=>0))=H2;intro s2 c2;refine⟨Je _,fun fl L6=>?_⟩;have naf:al≠fl:=fun z=>by rw[<-z,c2] at L6;cases L6
  have Pq:H fl=none:=s2.free L6;have s3:ak H (U1 H2 fl (.lst [])):=s2.trans (ab L6 _);have a3:U1 H2 fl (.lst []) al=some (.lst (mJ n fun _=>0)):=by rw[aD naf];exact c2
  have c3:U1 H2 fl (.lst []) fl=some (.lst []):=ae;revert s3 a3 c3;generalize U1 H2 fl (.lst [])=H3;intro s3 a3 c3;refine⟨fun m σ H'=>∃(a:Nat->Nat) (os:List D) (o3 o4 o5 o6 o7 o8:Option V),σ=[some (.ref p),some (.ref al),some (.ref fl),o3,o4,o5,o6,o7,o8]/\ak H H'/\H' al=some (.lst (mJ n a))/\H' fl=some (.lst (os.map fV))/\GS.mg UR=(GS.mg (kj n Jt a)).map (os++·)/\m=kT (kj n Jt a)/\kT (kj n Jt a)+os.length<=100*n,⟨_,fun _=>0,[],none,none,none,none,none,none,rfl,s3,a3,c3,?_,rfl,?_⟩,?_⟩
  ·rw[e0];cases GS.mg UR<;>rfl
  ·have:=zQ (n:=n) (rw:=Jt) (a:=fun _=>0) Kn
   simpa using this
  rintro m σ H4 ⟨a,os,o3,o4,o5,o6,o7,o8,rfl,s4,a4,c4,hm,rfl,hto⟩;have ge:∀(H':Hp),ak H H'->∀i,i < n->∃q,jZ UT ((0:Int)+(i:Nat))=some (.ref q)/\aS K H' q ((Jt i).map fV):=fun H' s' i hi=>by
   obtain⟨q,e,z⟩:=JQ i hi;refine⟨q,?_,s'.seq z⟩;rw[show(0:Int)+(i:Nat)=(i:Nat) by omega];exact aw e
  have ga:∀(a:Nat->Nat) (i:Nat),i < n->jZ (mJ n a) ((0:Int)+(i:Nat))=some (.int (a i:Nat)):=fun a i hi=>by
   rw[show(0:Int)+(i:Nat)=(i:Nat) by omega];exact aw (jz hi)
  refine⟨_,rfl,p,UT,rfl,.inl (s4.seq hp),_,rfl,by omega,by omega,?_⟩;refine⟨[.ref p,.ref al],⟨rfl,fun j i h=>?_⟩,bM (vs:=[.ref p,.ref al]) n (fun i=>.int (0+(i:Nat))) (fun i=>decide (a i < (Jt i).length)) (fun i v _=>v=.int (i:Nat)) (fun _ _ _ _ _ z=>z) (by omega) (fun H' _=>?_) (fun i H' hi _=>?_) (fun i H1 x H2 hi _ hy=>⟨hy.2,hy.1⟩) (fun i H5 Q' hi s5 k=>?_) (fun j H5 D l' Q' hj _ s5 _ _ k=>?_) fun D H5 ys hD s5 Ms hP=>?_⟩
  ·match j,h with
   | 0,h=>cases h;exact⟨_,rfl,rfl⟩
   | 1,h=>cases h;exact⟨_,rfl,rfl⟩
   | j+2,h=>simp at h
  ·show Int.toNat _<=_;omega
  ·show i < Int.toNat _;omega
  ·obtain⟨q,e1,z1⟩:=ge H5 (s4.trans s5) i hi;refine⟨_,rfl,_,rfl,al,_,_,_,rfl,rfl,aS.of (s5 _ _ a4),ga a i hi,_,rfl,_,rfl,p,_,_,_,rfl,rfl,(s4.trans s5).seq hp,e1,q,_,rfl,.inl z1,_,_,rfl,rfl,_,rfl,?_⟩;have e:decide (((a i:Nat):Int) < (((Jt i).map fV).length:Nat))=decide (a i < (Jt i).length):=by
    rw[IC];exact decide_eq_decide.mpr (by omega)
   rw[e];exact k H5 (ak.refl _)
  ·exact⟨_,rfl,k _ _ (ak.refl _) (by rw[Int.zero_add])⟩
  have eys:=hP.eq;have Np:ys.isEmpty=(kj n Jt a).all List.isEmpty:=by
   rw[zX,eys];cases (List.range n).filter fun i=>decide (a i < (Jt i).length)<;>rfl
  refine⟨Je _,fun nl Nn=>⟨D,nl,ys,rfl,rfl,aS.of (by rw[aD (fun z=>by rw[<-z,Ms] at Nn;cases Nn)];exact Ms),aS.of ae,_,rfl,?_⟩⟩;have s6:ak H4 (U1 H5 nl (.lst [])):=s5.trans (ab Nn _);revert s6;generalize U1 H5 nl (.lst [])=H6;intro s6;rw[Np];cases J7:(kj n Jt a).all List.isEmpty with
  | true=>
   refine bu ⟨_,rfl,qs fl H6 os (s4.trans s6) ?_ Pq (s6 _ _ c4)⟩;rw[hm,uL J7,Option.map_some,Jf]
  | false=>
  have RC:¬(kj n Jt a).all List.isEmpty=true:=by rw[J7];exact IP
  refine cC ⟨_,fun σ' H' h=>h,?_⟩;have Ox:=s4.trans s6;have a6:=s6 _ _ a4;have c6:=s6 _ _ c4;have lat:UT.length=(mJ n a).length:=by rw[lR,jy]
  refine⟨_,rfl,_,rfl,p,al,rfl,⟨_,Ox.seq hp⟩,⟨_,aS.of a6⟩,[],⟨rfl,fun j i h=>by simp at h⟩,Gn (vs:=[]) (Ox.seq hp) (aS.of a6) lat (fun i=>decide (a i < (Jt i).length)) (fun i=>fV ((Jt i).getD (a i) .bb)) (by omega) (fun i H7 Q' u v hi s7 hu hv k=>?_) (fun i H7 Q' u v hi hb s7 hu hv k=>?_) fun hl H7 hhl s7 c7=>?_⟩
  ·obtain⟨q,e1,z1⟩:=JQ i (by omega);rw[e1] at hu;rw[jz (by omega)] at hv;cases hu;cases hv;refine⟨_,rfl,_,rfl,q,_,rfl,.inl ((Ox.trans s7).seq z1),_,_,rfl,rfl,_,rfl,?_⟩;have e:decide (((a i:Nat):Int) < (((Jt i).map fV).length:Nat))=decide (a i < (Jt i).length):=by
    rw[IC];exact decide_eq_decide.mpr (by omega)
   rw[e];exact k H7 (ak.refl _)
  ·obtain⟨q,e1,z1⟩:=JQ i (by omega);rw[e1] at hu;rw[jz (by omega)] at hv;cases hu;cases hv;have Ju:=IZ hb;refine⟨_,rfl,_,rfl,q,_,_,_,rfl,rfl,(Ox.trans s7).seq z1,aw (v:=fV ((Jt i).getD (a i) .bb)) ?_,k H7 (ak.refl _)⟩;rw[IJ,Iz,Iy Ju];rfl
  rw[lR] at c7;have ehd:((List.range n).filter fun i=>decide (a i < (Jt i).length)).map (fun i=>fV ((Jt i).getD (a i) .bb))=((kj n Jt a).filterMap List.head?).map fV:=by
   rw[vE,List.map_map];rfl
  rw[ehd] at c7;have Ow:=Ox.trans s7;have a7:=s7 _ _ a6;refine⟨Je _,fun bl RM=>?_⟩;have s8:ak H7 (U1 H7 bl (.lst [])):=ab RM _;have b8:U1 H7 bl (.lst []) bl=some (.lst []):=ae;have hbl0:H bl=none:=Ow.free RM;revert s8 b8;generalize U1 H7 bl (.lst [])=H8;intro s8 b8;refine⟨_,rfl,_,rfl,p,al,rfl,⟨_,(Ow.trans s8).seq hp⟩,⟨_,aS.of (s8 _ _ a7)⟩,AF (fun j σ H'=>(∃o5 o6 o7 o8,σ=[some (.ref p),some (.ref al),some (.ref fl),some (.ref hl),some (.ref bl),o5,o6,o7,o8])/\ak H7 H'/\H' bl=some (.lst ((Bs Jt a j).map fV))) ⟨⟨_,_,_,_,rfl⟩,s8,b8⟩ lat (fun j σ H' hj=>⟨(Ow.trans hj.2.1).seq hp,aS.of (hj.2.1 _ _ a7)⟩) ?turn ?stop⟩
  case turn=>
   rintro j σ H' T u v hj ⟨⟨o5,o6,o7,o8,rfl⟩,sj,bj⟩ hu hv hT;obtain⟨q,e1,z1⟩:=JQ j (by omega);rw[e1] at hu;rw[jz (by omega)] at hv;cases hu;cases hv;have sT:ak H' (U1 H' T (.tup [.ref q,.int (a j:Nat)])):=ab hT _;have cT:U1 H' T (.tup [.ref q,.int (a j:Nat)]) T=some (.tup [.ref q,.int (a j:Nat)]):=ae;revert sT cT;generalize U1 H' T (.tup [.ref q,.int (a j:Nat)])=H9;intro sT cT;have s9:=sj.trans sT;have b9:=sT _ _ bj;refine⟨T,_,rfl,.inl (.inl cT),rfl,_,_,rfl,_,_,rfl,rfl,?_⟩;refine⟨_,rfl,.inl ⟨rfl,_,aS.of b9⟩,_,rfl,_,rfl,_,_,rfl,rfl,_,rfl,_,_,rfl,(Ow.trans s9).seq z1,fun xl LH=>?_⟩;have ec:de ((Jt j).map fV) (some ((a j:Nat)+(1:Int))) none=((Jt j).drop (a j+1)).map fV:=by
    rw[show((a j:Nat):Int)+1=((a j+1:Nat):Int) by omega,jh,List.map_drop]
   rw[ec];have nxb:bl≠xl:=fun z=>by rw[<-z,b9] at LH;cases LH
   have lb:=vj (rw:=Jt) (a:=a) Kn j (by omega);have lj:=Kn j (by omega);refine⟨bl,xl,_,_,rfl,rfl,by rw[aD nxb];exact b9,ae,small ?_,⟨_,_,_,_,rfl⟩,?_,?_⟩
   ·rw[IC,IC,List.length_drop];omega
   ·exact gz (s9.trans (ab LH _)) RM _
   ·rw[ae,rX,Jg]
  case stop=>
  rintro σ H9 ⟨⟨o5,o6,o7,o8,rfl⟩,s9,b9⟩;rw[lR] at b9;have c9:=s9 _ _ c7;have a9:=s9 _ _ a7;have s9':=Ow.trans s9;have f9:=s9 _ _ (s7 _ _ c6);obtain⟨JH,ehds⟩:∃JH,JH=(kj n Jt a).filterMap List.head?:=⟨_,rfl⟩;have lh:JH.length<=n:=by
   rw[ehds];refine ID (List.length_filterMap_le ..) ?_;rw[kj,IC,List.length_range];exact IE _
  have hhf:∀i,i < JH.length->qK (JH.getD i .bb):=fun i hi=>by
   rw[Iz,Iy hi];have KJ:=List.getElem_mem hi;generalize JH[i]=c at KJ;rw[ehds,List.mem_filterMap] at KJ;obtain⟨r,O0,e⟩:=KJ;obtain⟨i,_,rfl⟩:=uy O0;exact L7 i _ (List.mem_of_mem_drop (List.mem_of_mem_head? (by rw[e];rfl)))
  rw[<-ehds] at c9;have gh:∀i,i < JH.length->(JH.map fV).getD i .bb=fV (JH.getD i .bb):=fun i hi=>by
   rw[Iz,Iz,IJ,Iy hi];rfl
  refine⟨_,rfl,hl,rfl,⟨_,aS.of c9⟩,[.ref bl],⟨rfl,fun j i h=>?_⟩,bM (vs:=[.ref bl]) (JH.map fV).length (fun i=>(JH.map fV).getD i .bb) (fun i=>!bx (JH.getD i .bb) (kj n Jt a)) (fun i v _=>v=fV (JH.getD i .bb)) (fun _ _ _ _ _ z=>z) (by rw[IC];omega) (ee (aS.of c9)) (gx (aS.of c9)) (fw (aS.of c9)) (fun i JL Q' hi JO k=>?_) (fun i JL D l' Q' hi _ JO _ _ k=>?_) fun gl JL ys Pm JO NP hP10=>?_⟩
  ·match j,h with
   | 0,h=>cases h;exact⟨_,rfl,rfl⟩
   | j+1,h=>simp at h
  ·rw[IC] at hi;rw[gh i hi];refine⟨_,rfl,_,rfl,bl,_,rfl,.inl (aS.of (JO _ _ b9)),uT _,ze _,_,rfl,?_⟩;rw[II rfl,DS (hhf i hi) (Ee L7 n),AO];exact k JL (ak.refl _)
  ·rw[IC] at hi;rw[gh i hi];exact⟨_,rfl,k _ _ (ak.refl _) rfl⟩
  have efr:ys=(eA (kj n Jt a)).map fV:=by
   rw[hP10.eq,IC,ik JH .bb (fun c=>!bx c (kj n Jt a)) fV,ehds];rfl
  rw[efr] at NP;have OC:=s9'.trans JO;have a10:=JO _ _ a9;have ME:=JO _ _ f9;refine⟨_,rfl,Je _,fun OE Nm=>⟨gl,OE,_,rfl,rfl,aS.of (by rw[aD (fun z=>by rw[<-z,NP] at Nm;cases Nm)];exact NP),aS.of ae,_,rfl,?_⟩⟩;have JY:ak JL (U1 JL OE (.lst [])):=ab Nm _;revert JY;generalize U1 JL OE (.lst [])=Lb;intro JY;cases hf:eA (kj n Jt a) with
  | nil=>
   refine cC (qn Lb (OC.trans JY) ?_);rw[hm,rj RC hf];rfl
  | cons c cs=>
  rw[hf] at NP;have Ua:=JY _ _ NP;have Qb:=JY _ _ a10;have NR:=JY _ _ ME;have s11':=OC.trans JY;have QC:c∈eA (kj n Jt a):=by rw[hf];exact Ir
  have hcfl:=AE L7 c QC;have Qa:jZ ((c::cs).map fV) 0=some (fV c):=aw (j:=0) rfl;refine bu ⟨_,rfl,.inl ⟨rfl,_,aS.of NR⟩,_,rfl,gl,_,_,_,rfl,rfl,aS.of Ua,Qa,fl,_,_,rfl,rfl,NR,Jh (Jm _) (small (n:=(os.map fV).length+1) (by rw[IC];omega)),?_⟩;have ngf:gl≠fl:=fun z=>by rw[z,f9] at Pm;cases Pm
  have nga:gl≠al:=fun z=>by rw[z,a9] at Pm;cases Pm
  have Jv:ak H (U1 Lb fl (.lst (os.map fV++[fV c]))):=gz s11' Pq _;have NX:U1 Lb fl (.lst (os.map fV++[fV c])) al=some (.lst (mJ n a)):=by rw[aD naf];exact Qb
  have R3:U1 Lb fl (.lst (os.map fV++[fV c])) gl=some (.lst ((c::cs).map fV)):=by rw[aD ngf];exact Ua
  have P4:U1 Lb fl (.lst (os.map fV++[fV c])) fl=some (.lst ((os++[c]).map fV)):=by rw[Jg];exact ae
  revert Jv NX R3 P4;generalize U1 Lb fl (.lst (os.map fV++[fV c]))=UB;intro Jv NX R3 P4;have Ju:=gK c (Jp.mp QC).1;refine⟨_,rfl,p,UT,rfl,.inl (Jv.seq hp),_,rfl,by omega,by omega,?_⟩;refine ju (fun j σ H'=>(∃o5 o6 o8,σ=[some (.ref p),some (.ref al),some (.ref fl),some (.ref hl),some (.ref bl),o5,o6,some (.ref gl),o8])/\ak H H'/\H' al=some (.lst (mJ n fun i=>if i < j then pq Jt a c i else a i))/\H' gl=some (.lst ((c::cs).map fV))/\H' fl=some (.lst ((os++[c]).map fV))) ⟨⟨_,_,_,rfl⟩,Jv,by simpa using NX,R3,P4⟩ ?turn2 ?stop2
  case stop2=>
   rintro σ MI ⟨⟨o5,o6,o8,rfl⟩,JG,LC,QF,Md⟩;have ea:mJ n (fun i=>if i < Int.toNat (UT.length:Nat) then pq Jt a c i else a i)=mJ n (pq Jt a c):=by
    rw[Int.toNat_natCast,lR];exact List.map_congr_left fun i hi=>by
     show V.int ((if i < n then pq Jt a c i else a i:Nat):Int)=_;rw[II (List.mem_range.mp hi)]
   rw[ea] at LC;refine⟨kT (kj n Jt (pq Jt a c)),by rw[qb];exact Ju,pq Jt a c,os++[c],_,_,_,_,_,_,rfl,JG,LC,Md,?_,rfl,?_⟩
   ·rw[hm,uK hf,qb,Option.map_map];refine congrFun (Vj Option.map (funext fun l=>?_)) _;show os++c::l=os++[c]++l;rw[List.append_assoc];rfl
   ·rw[qb,Iu,Jl];omega
  case turn2=>
   rintro j σ MI hj ⟨⟨o5,o6,o8,rfl⟩,JG,LC,QF,Md⟩;have J2:j < n:=by omega
   obtain⟨q,e1,z1⟩:=ge MI JG j J2;have ej:(if j < j then pq Jt a c j else a j)=a j:=IH (Vf _);have gaj:=ga (fun i=>if i < j then pq Jt a c i else a i) j J2;rw[ej] at gaj;refine⟨_,rfl,_,rfl,p,UT,_,_,rfl,rfl,JG.seq hp,e1,_,rfl,_,rfl,al,_,_,_,rfl,rfl,aS.of LC,gaj,_,rfl,_,rfl,_,rfl,al,_,_,_,rfl,rfl,aS.of LC,gaj,_,_,rfl,rfl,_,rfl,q,_,rfl,z1,fun xl LH=>?_⟩;have ec:de ((Jt j).map fV) (some (a j:Nat)) (some ((a j:Nat)+(1:Int)))=(((Jt j).drop (a j)).take 1).map fV:=by
    rw[show((a j:Nat):Int)+1=((a j+1:Nat):Int) by omega,zq,Nat.add_sub_cancel_left,List.map_take,List.map_drop]
   rw[ec];have Ka:ak MI (U1 MI xl (.lst ((((Jt j).drop (a j)).take 1).map fV))):=ab LH _;have QT:U1 MI xl (.lst ((((Jt j).drop (a j)).take 1).map fV)) xl=some (.lst ((((Jt j).drop (a j)).take 1).map fV)):=ae;revert Ka QT;generalize U1 MI xl (.lst ((((Jt j).drop (a j)).take 1).map fV))=Qe;intro Ka QT;refine⟨_,rfl,gl,_,_,_,rfl,rfl,aS.of (Ka _ _ QF),Qa,by show 1<=sizeLine;decide,fun ol J5=>?_⟩;have KR:ak Qe (U1 Qe ol (.lst [fV c])):=ab J5 _;have QS:U1 Qe ol (.lst [fV c]) ol=some (.lst [fV c]):=ae;revert KR QS;generalize U1 Qe ol (.lst [fV c])=H15;intro KR QS;have sA:=Ka.trans KR;have RG:∀d∈((Jt j).drop (a j)).take 1,qK d:=fun d hd=>L7 j d (List.mem_of_mem_drop (List.mem_of_mem_take hd));have Tu:∀d∈[c],qK d:=fun d hd=>by rw[Vc] at hd;rw[hd];exact hcfl
   refine⟨xl,ol,_,_,_,[c],rfl,rfl,aS.of (KR _ _ QT),aS.of QS,(qt RG).mpr rfl,(qt Tu).mpr rfl,by rw[uX RG];exact Je _,fun d hd=>(RG d hd).el,fun d hd=>(Tu d hd).el,_,rfl,?_⟩;have Qz:∀b:Nat,b=pq Jt a c j->mJ n (fun i=>if i=j then b else if i < j then pq Jt a c i else a i)=mJ n (fun i=>if i < j+1 then pq Jt a c i else a i):=fun b hb=>List.map_congr_left fun i hi=>by
    show V.int ((if i=j then b else if i < j then pq Jt a c i else a i:Nat):Int)=V.int ((if i < j+1 then pq Jt a c i else a i:Nat):Int);by_cases e:i=j
    ·rw[II e,II (by omega),hb,e]
    ·by_cases e2:i < j
     ·rw[IH e,II e2,II (by omega)]
     ·rw[IH e,IH e2,IH (by omega)]
   by_cases hc:((Jt j).drop (a j)).take 1=[c]
   ·rw[Iw hc];refine cC ⟨_,rfl,_,rfl,al,_,_,_,rfl,rfl,aS.of (sA _ _ LC),gaj,_,_,rfl,rfl,_,rfl,_,rfl,al,_,_,j,rfl,rfl,sA _ _ LC,by rw[jy];exact Az J2,⟨_,_,_,rfl⟩,gz (JG.trans sA) hal0 _,?_,?_,?_⟩
    ·rw[ae,show(fun i j:Int=>V.int (i+j)) ((a j:Nat):Int) 1=V.int ((a j+1:Nat):Int) by rw[Int.natCast_add];rfl,AR,Qz (a j+1) (by unfold pq;rw[II hc])]
    ·rw[aD nga];exact sA _ _ QF
    ·rw[aD (U8 naf)];exact sA _ _ Md
   ·rw[Iv hc];refine bu ⟨⟨_,_,_,rfl⟩,JG.trans sA,?_,sA _ _ QF,sA _ _ Md⟩;rw[sA _ _ LC,<-Qz (a j) (by unfold pq;rw[IH hc])];refine Vj (fun z=>some (HO.lst z)) (List.map_congr_left fun i hi=>?_);show V.int ((if i < j then pq Jt a c i else a i:Nat):Int)=V.int ((if i=j then a j else if i < j then pq Jt a c i else a i:Nat):Int);by_cases e:i=j
    ·rw[II e,IH (by omega),e]
    ·rw[IH e]
abbrev Ho:Stmt:=cB 75
def ia (H:Hp) (ors:List (Str×List Str)) (UM:List (Key×V)) (N:Addr->Prop):Prop:=UM.length=ors.length/\∀(i:Nat) (n:Str) (r:List Str),ors[i]?=some (n,r)->∃q:Addr,UM[i]?=some (.inr n,.ref q)/\H q=some (.lst (r.map V.str))/\N q
theorem ia.mono {H H':Hp}{ors:List (Str×List Str)}{UM:List (Key×V)}{N N':Addr->Prop}(h:ia H ors UM N) (f:∀q xs,N q->H q=some (.lst xs)->H' q=some (.lst xs)/\N' q):ia H' ors UM N':=
 ⟨h.1,fun i n r e=>by obtain⟨q,a,b,c⟩:=h.2 i n r e;exact⟨q,a,(f q _ c b).1,(f q _ c b).2⟩⟩
theorem ia.snoc {H:Hp}{ors:List (Str×List Str)}{UM:List (Key×V)}{N:Addr->Prop}{n:Str}{r:List Str}{q:Addr}(h:ia H ors UM N) (hq:H q=some (.lst (r.map V.str))) (hN:N q):ia H (ors++[(n,r)]) (UM++[(.inr n,.ref q)]) N:=by
 refine⟨by rw[Iu,Iu,h.1];rfl,fun i m s e=>?_⟩;by_cases hi:i < ors.length
 ·rw[Jo hi] at e;obtain⟨p,a,b,c⟩:=h.2 i m s e;exact⟨p,by rw[Jo (by rw[h.1];exact hi)];exact a,b,c⟩
 ·have Ju:=(Ja.mp e).1;rw[Iu,Jl] at Ju;have ei:i=ors.length:=by omega
  subst ei;rw[IX (IE _),Nat.sub_self] at e;cases e;refine⟨q,?_,hq,hN⟩;rw[<-h.1,IX (IE _),Nat.sub_self];rfl
theorem ua {n:Str}{v:V}:∀{UM:List (Key×V)}{i:Nat},(UM.map (·.1)).Nodup->UM[i]?=some (.inr n,v)->fG UM (.inr n)=some v
 | [],_,_,e=>by simp at e
 | p::r,0,_,e=>by
  have e':p=(.inr n,v):=by simpa using e
  rw[d8 (by rw[e']),e']
 | p::r,i+1,h,e=>by
  rw[Va,List.nodup_cons] at h;have e':r[i]?=some (.inr n,v):=by simpa using e
  rw[cX (fun z=>h.1 (by rw[z];exact Jq.mpr ⟨_,IG e',rfl⟩))];exact ua h.2 e'
theorem oS {k:Key}:∀{UM:List (Key×V)},k∉UM.map (·.1)->fG UM k=none
 | [],_=>rfl
 | p::r,h=>by
  rw[Va,Ji,not_or] at h;rw[cX (fun z=>h.1 z.symm)];exact oS h.2
theorem ia.keys {H:Hp}{ors:List (Str×List Str)}{UM:List (Key×V)}{N:Addr->Prop}(h:ia H ors UM N):UM.map (·.1)=ors.map fun x=>(.inr x.1:Key):=by
 refine List.ext_getElem? fun i=>?_;rw[IJ,IJ];by_cases hi:i < ors.length
 ·obtain⟨q,a,_⟩:=h.2 i ors[i].1 ors[i].2 (by rw[Iy hi]);rw[a,Iy hi];rfl
 ·rw[List.getElem?_eq_none (by rw[h.1];omega),List.getElem?_eq_none (by omega)];rfl
theorem Ax {ors:List (Str×List Str)}(h:(ors.map (·.1)).Nodup):(ors.map fun x=>(.inr x.1:Key)).Nodup:=by
 have:(ors.map fun x=>(.inr x.1:Key))=(ors.map (·.1)).map (fun x=>(.inr x:Key)):=by rw[List.map_map];rfl
 rw[this,k9 (fun x y z=>by injection z)];exact h
theorem ia.get {H:Hp}{ors:List (Str×List Str)}{UM:List (Key×V)}{N:Addr->Prop}(h:ia H ors UM N) (hn:(ors.map (·.1)).Nodup){n:Str}{r:List Str}(e:(n,r)∈ors):∃q,fG UM (.inr n)=some (.ref q)/\H q=some (.lst (r.map V.str))/\N q:=by
 obtain⟨i,hi,ei⟩:=U6 e;obtain⟨q,a,b,c⟩:=h.2 i n r (by rw[Iy hi,ei]);exact⟨q,ua (by rw[h.keys];exact Ax hn) a,b,c⟩
theorem ia.out {H:Hp}{ors:List (Str×List Str)}{UM:List (Key×V)}{N:Addr->Prop}(h:ia H ors UM N){n:Str}(e:n∉ors.map (·.1)):fG UM (.inr n)=none:=by
 refine oS ?_;rw[h.keys];intro z;obtain⟨x,hx,ex⟩:=Jq.mp z;injection ex with ex;exact e (Jq.mpr ⟨x,hx,ex⟩)
def wL (p1 p2:Addr):List (Key×V):=[(.inr "Thing",.ref p1),(.inr "Fault",.ref p2)]
def jQ:List (Str×List Str):=ic.map fun x=>(x.1,x.1::x.2)
def j8:List Str:=["Name","Kind","Nought","Great","Field","Order","End","Shut","Deep"]
theorem CL:∀i,i < 9->jQ[2+i]?=some (j8.getD i ""++"Fault",[j8.getD i ""++"Fault","Fault","Thing"]):=by decide +kernel
theorem uE:(jQ.map (·.1)).Nodup:=by decide +kernel
theorem zK:∀i,i < 9->(j8.getD i "").length<=10:=by decide +kernel
def EK:Sp:=fun vs H Q _=>vs=[]/\∀(d:Addr) (H':Hp) (UM:List (Key×V)),ak H H'->H d=none->H' d=some (.dK UM)->ia H' jQ UM (fun q=>H q=none)->Q (.ref d) H'
theorem BS:aQ ["_law_found","_law_word"] [] (aC Ho):=gp
theorem FQ (g:Glb9 mg) (F:fm K "_law_given_orders" "_law_given_orders" Ho f fd):bK P w K mg base fq 1 f fd [] EK:=by
 refine F.GQ BS (fun vs H Q E h=>?_) (fun UO A outer s H vs Q E hr h=>?_)
 ·obtain⟨rfl,_⟩:=h;rfl
 obtain⟨rfl,q⟩:=h;refine⟨_,aa (fQ (i:=0) BS.nd rfl (Or.inl rfl) (L3.jo (L3.eU aj (aY (aI aj bc)) (L3.eU aj (aY (aI aj (aI aj bc))) L3.jm))))
  (aa (cL IW rfl (bL (aY (aI aj (aI aj (aI aj (aI aj (aI aj (aI aj (aI aj (aI aj (aI aj bc))))))))))) (cR (i:=1) BS.nd rfl (Or.inl rfl))
   (ah (.mk (L2.il (fI hr) (LE.out (pv 0)) (LE.out (aB cY (pv 1) aj)) (LE.out (aY (aI (aB cY (pv 1) aj) (aI aj (aI aj bc))))) rfl))))
  (aa (.mk (L2.il (fI hr) (LE.out (pv 0)) (LE.out aj) (LE.out (aY (aI aj (aI aj (aI aj (aI aj bc)))))) rfl))
  (ah (aJ (pv 0))))),?main⟩
 case main=>
  intro d hd;have s1:ak H (U1 H d (.dK [])):=ab hd _;have d1:U1 H d (.dK []) d=some (.dK []):=ae;revert s1 d1;generalize U1 H d (.dK [])=H1;intro s1 d1;refine⟨by show 1<=sizeLine;decide,fun p1 J0=>?_⟩;have hp10:H p1=none:=s1.free J0;have s2:ak H1 (U1 H1 p1 (.lst [.str "Thing"])):=ab J0 _;have c2:U1 H1 p1 (.lst [.str "Thing"]) p1=some (.lst ((["Thing"]:List Str).map V.str)):=ae;revert s2 c2;generalize U1 H1 p1 (.lst [.str "Thing"])=H2;intro s2 c2;refine⟨by show 2<=sizeLine;decide,fun p2 Kb=>?_⟩;have Ng:H p2=none:=(s1.trans s2).free Kb;have s3:ak H2 (U1 H2 p2 (.lst [.str "Fault",.str "Thing"])):=ab Kb _;have c3:U1 H2 p2 (.lst [.str "Fault",.str "Thing"]) p2=some (.lst ((["Fault","Thing"]:List Str).map V.str)):=ae;revert s3 c3;generalize U1 H2 p2 (.lst [.str "Fault",.str "Thing"])=H3;intro s3 c3;have d3:H3 d=some (.dK []):=s3 _ _ (s2 _ _ d1);refine⟨d3,(wL p1 p2),rfl,by show 2<=15;decide,?_⟩;have em:dJ [] (wL p1 p2)=(wL p1 p2):=by
   show U3 (U3 ([]:List (Key×V)) (Sum.inr "Thing":Key) (V.ref p1)) (Sum.inr "Fault":Key) (V.ref p2)=_;have e1:U3 ([]:List (Key×V)) (Sum.inr "Thing":Key) (V.ref p1)=[((Sum.inr "Thing":Key),V.ref p1)]:=nA _ rfl;have e2:fG [((Sum.inr "Thing":Key),V.ref p1)] (Sum.inr "Fault":Key)=none:=by rw[cX (show ¬((Sum.inr "Thing":Key)=(Sum.inr "Fault":Key)) from by decide +kernel)];rfl
   rw[e1,nA _ e2];rfl
  rw[em];have nd1:p1≠d:=fun z=>by rw[z,d1] at J0;cases J0
  have nd2:p2≠d:=fun z=>by rw[z,s2 _ _ d1] at Kb;cases Kb
  have s4:ak H (U1 H3 d (.dK (wL p1 p2))):=gz (s1.trans (s2.trans s3)) hd _;have d4:U1 H3 d (.dK (wL p1 p2)) d=some (.dK (wL p1 p2)):=ae;have r1:U1 H3 d (.dK (wL p1 p2)) p1=some (.lst ((["Thing"]:List Str).map V.str)):=by rw[aD nd1];exact s3 _ _ c2
  have r2:U1 H3 d (.dK (wL p1 p2)) p2=some (.lst ((["Fault","Thing"]:List Str).map V.str)):=by rw[aD nd2];exact c3
  revert s4 d4 r1 r2;generalize U1 H3 d (.dK (wL p1 p2))=H4;intro s4 d4 r1 r2;have o4:ia H4 (jQ.take 2) (wL p1 p2) (fun q=>H q=none):=by
   have h0:ia H4 [] [] (fun q=>H q=none):=⟨rfl,fun i n r e=>by simp at e⟩;exact(h0.snoc (n:="Thing") r1 hp10).snoc (n:="Fault") r2 Ng
  have put:∀(H':Hp) (j:Nat) (UM:List (Key×V)) (n:Str) (r:List Str) (q':Addr),ak H H'->H' d=some (.dK UM)->ia H' (jQ.take j) UM (fun q=>H q=none)->jQ[j]?=some (n,r)->H q'=none->q'≠d->H' q'=some (.lst (r.map V.str))->
    ak H (U1 H' d (.dK (U3 UM (.inr n) (.ref q'))))/\ia (U1 H' d (.dK (U3 UM (.inr n) (.ref q')))) (jQ.take (j+1)) (U3 UM (.inr n) (.ref q')) (fun q=>H q=none):=fun H' j UM n r q' s' d' o' ej LZ nq KL=>by
   have hn:n∉(jQ.take j).map (·.1):=fun z=>by
    obtain⟨x,hx,ex⟩:=Jq.mp z;obtain⟨i,hi,ei⟩:=U6 hx;rw[Vb] at hi;have e1:(jQ.map (·.1))[i]?=some n:=by
     rw[IJ,Iy (by omega)];rw[List.getElem_take] at ei;rw[ei,<-ex];rfl
    have e2:(jQ.map (·.1))[j]?=some n:=by rw[IJ,ej];rfl
    have hj:=(Ja.mp e2).1;have:=(List.getElem?_inj hj uE).mp (e2.trans e1.symm);omega
   rw[nA _ (o'.out hn),List.take_add_one,ej];refine⟨gz s' hd _,?_⟩;refine(o'.mono (N':=fun q=>H q=none) fun q xs hq e=>⟨?_,hq⟩).snoc ?_ LZ
   ·rw[aD (fun z=>by rw[z,d'] at e;cases e)];exact e
   ·rw[aD nq];exact KL
  refine⟨by show 9<=sizeLine;decide,fun wl LY=>?_⟩;have ndw:d≠wl:=fun z=>by rw[<-z,d4] at LY;cases LY
  have hwl0:H wl=none:=s4.free LY;have e9:([.str "Name",.str "Kind",.str "Nought",.str "Great",.str "Field",.str "Order",.str "End",.str "Shut",.str "Deep"]:List V)=j8.map V.str:=rfl;rw[e9];have s5:ak H4 (U1 H4 wl (.lst (j8.map V.str))):=ab LY _;have c5:U1 H4 wl (.lst (j8.map V.str)) wl=some (.lst (j8.map V.str)):=ae;revert s5 c5;generalize U1 H4 wl (.lst (j8.map V.str))=H5;intro s5 c5;refine⟨wl,rfl,⟨_,aS.of c5⟩,hZ (K:=K) (xs:=j8.map V.str) (fun j σ H'=>(∃o1,σ=[some (.ref d),o1])/\ak H H'/\H' wl=some (.lst (j8.map V.str))/\∃UM,H' d=some (.dK UM)/\ia H' (jQ.take (2+j)) UM (fun q=>H q=none)) ⟨⟨_,rfl⟩,s4.trans s5,c5,_,s5 _ _ d4,o4.mono fun q xs hq e=>⟨s5 _ _ e,hq⟩⟩ (fun j σ H' _ h=>aS.of h.2.2.1) ?turn ?stop⟩
  case turn=>
   rintro j x σ H' hx ⟨⟨o1,rfl⟩,sj,cj,UM,dj,oj⟩;have hj:j < 9:=by have:=(Ja.mp hx).1;rw[IC] at this;exact this
   have ex:x=.str (j8.getD j ""):=by
    rw[IJ,Iy (show j < j8.length from hj)] at hx;injection hx with hx;rw[<-hx,Iz,Iy (show j < j8.length from hj)];rfl
   subst ex;have lw:=zK j hj;have ej:=CL j hj;generalize j8.getD j ""=wd at lw ej;have l5:("Fault":Str).length=5:=by decide +kernel
   refine⟨_,rfl,_,_,rfl,rfl,small (by omega),by show 3<=sizeLine;decide,fun rl Kn=>?_⟩;have ndr:rl≠d:=fun z=>by rw[z,dj] at Kn;cases Kn
   have ndw':rl≠wl:=fun z=>by rw[z,cj] at Kn;cases Kn
   have s6:ak H' (U1 H' rl (.lst [.str (wd++"Fault"),.str "Fault",.str "Thing"])):=ab Kn _;have c6:U1 H' rl (.lst [.str (wd++"Fault"),.str "Fault",.str "Thing"]) rl=some (.lst (([wd++"Fault","Fault","Thing"]:List Str).map V.str)):=ae;revert s6 c6;generalize U1 H' rl (.lst [.str (wd++"Fault"),.str "Fault",.str "Thing"])=H6;intro s6 c6;have Pj:UM.length<=12:=by rw[oj.1,Vb];exact ID (Nat.min_le_right _ _) (by decide)
   obtain⟨s7,o7⟩:=put H6 (2+j) UM _ _ rl (sj.trans s6) (s6 _ _ dj) (oj.mono fun q xs hq e=>⟨s6 _ _ e,hq⟩) ej (sj.free Kn) ndr c6;exact⟨_,rfl,_,rfl,_,_,rfl,rfl,small (by omega),d,_,rfl,mq.k (k:=.inr (wd++"Fault")) (s6 _ _ dj) (bZ (by omega)),⟨_,rfl⟩,s7,by rw[aD (U8 ndw)];exact s6 _ _ cj,_,ae,o7⟩
  case stop=>
   rintro σ H' ⟨⟨o1,rfl⟩,sj,cj,UM,dj,oj⟩;have SM:ia H' (jQ.take 11) UM (fun q=>H q=none):=oj;refine⟨by show 4<=sizeLine;decide,fun rl Kn=>?_⟩;have ndr:rl≠d:=fun z=>by rw[z,dj] at Kn;cases Kn
   have s6:ak H' (U1 H' rl (.lst [.str "UnboundFault",.str "NameFault",.str "Fault",.str "Thing"])):=ab Kn _;have c6:U1 H' rl (.lst [.str "UnboundFault",.str "NameFault",.str "Fault",.str "Thing"]) rl=some (.lst ((["UnboundFault","NameFault","Fault","Thing"]:List Str).map V.str)):=ae;revert s6 c6;generalize U1 H' rl (.lst [.str "UnboundFault",.str "NameFault",.str "Fault",.str "Thing"])=H6;intro s6 c6;have Pj:UM.length<=12:=by rw[SM.1,Vb];exact ID (Nat.min_le_right _ _) (by decide)
   obtain⟨s7,o7⟩:=put H6 11 UM "UnboundFault" _ rl (sj.trans s6) (s6 _ _ dj) (SM.mono fun q xs hq e=>⟨s6 _ _ e,hq⟩) (by decide +kernel) (sj.free Kn) ndr c6;refine⟨_,rfl,d,_,rfl,mq.k (k:=.inr "UnboundFault") (s6 _ _ dj) (bZ (by omega)),_,rfl,q d _ _ s7 hd ae ?_⟩;exact o7
end
structure Rw where
 tag:Str
 val:D
 two:D
 js:List Nat
 ol:Addr
 dl:Addr
 fs:List (Str×D)
 gv:Bool
def Fi (r:Rw) (v1 v2:V):List V:=.str r.tag::v1::v2::.ref r.ol::.ref r.dl::(if r.gv then [.str "given"] else [])
structure jB (K:Fg06) (H:Hp) (S:List Addr) (a:Addr) (r:Rw):Prop where
 l:∃v1 v2,H a=some (.lst (Fi r v1 v2))/\At K H r.val v1/\At K H r.two v2
 o:H r.ol=some (.lst (r.js.map fun j=>V.int (j:Nat)))
 na:a∉S
 no:r.ol∉S
 d:fz K H r.dl r.fs
structure Lp where
 T:Addr
 M:Addr
 b:Addr
def Sy (wp:Wp) (q:Lp):List Addr:=[wp.l,q.T,q.M,q.b]
theorem Sy.l {wp q}:wp.l∈Sy wp q:=Ir
theorem Sy.T {wp q}:q.T∈Sy wp q:=Iq _ Ir
theorem Sy.M {wp q}:q.M∈Sy wp q:=Iq _ (Iq _ Ir)
theorem Sy.b {wp q}:q.b∈Sy wp q:=Iq _ (Iq _ (Iq _ Ir))
structure eX (K:Fg06) (c:fo) (H:Hp) (wp:Wp) (q:Lp) (ps:List Addr) (os:List Th) (rs:List Rw) (as:List Addr) (ms:List D):Prop where
 w:dc K c H wp ps os gS [] []
 t:H q.T=some (.lst (as.map V.ref))
 n:as.length=rs.length
 r:∀(i:Nat) a r,as[i]?=some a->rs[i]?=some r->jB K H (Sy wp q) a r
 dn:∀(i j:Nat) r r',rs[i]?=some r->rs[j]?=some r'->r.dl=r'.dl->i=j
 dw:∀(i:Nat) r,rs[i]?=some r->¬oK os r.dl/\r.dl≠wp.g
 m:∃vs,H q.M=some (.lst vs)/\aE K H ms vs
 sT:q.T≠wp.l/\q.T≠wp.n/\q.T≠wp.f
 sM:q.M≠wp.l/\q.M≠wp.n/\q.M≠wp.f
 sb:q.b≠wp.l/\q.b≠wp.n/\q.b≠wp.f
 nTM:q.T≠q.M
 yC:q.T≠q.b
 nMb:q.M≠q.b
 sp:∃ns,H q.b=some (.lst ns)
def mv (S:List Addr) (H H':Hp):Prop:=∀p o,H p=some o->p∉S->(∀UM,o≠.dK UM)->H' p=some o
theorem mv.trans {S H H' H''}(a:mv S H H') (b:mv S H' H''):mv S H H'':=fun p o e h1 h2=>b p o (a p o e h1 h2) h1 h2
theorem ak.iD {S H H'}(s:ak H H'):mv S H H':=fun p o e _ _=>s p o e
theorem bw.iD {S H H' l}(s:bw l H H') (h:l∈S):mv S H H':=fun p o e h1 _=>s p o (fun y=>h1 (y▸h)) e
theorem bw.Ic {S H H' d UM}(s:bw d H H') (h:H d=some (.dK UM)):mv S H H':=fun p o e _ h1=>s p o (fun y=>by rw[y,h] at e;cases e;exact h1 _ rfl) e
section
variable {K:Fg06}{c:fo}{H H':Hp}{wp:Wp}{q:Lp}{ps JJ:List Addr}{os Jw:List Th}{rs:List Rw}{as:List Addr}{ms:List D}
theorem jB.keep {S a r}(h:jB K H S a r) (f:Fx H H') (kl:∀p xs,p∉S->H p=some (.lst xs)->H' p=some (.lst xs)) (kd:H' r.dl=H r.dl):jB K H' S a r:=by
 obtain⟨⟨v1,v2,h1,h2,h3⟩,h4,h5,h6,h7⟩:=h;exact⟨⟨v1,v2,kl _ _ h5 h1,At.fx f _ _ h2,At.fx f _ _ h3⟩,kl _ _ h6 h4,h5,h6,h7.keep kd f⟩
theorem eX.chg (h:eX K c H wp q ps os rs as ms) (w':dc K c H' wp JJ Jw gS [] []) (t':H' q.T=H q.T) (m':H' q.M=H q.M) (p':∃ns,H' q.b=some (.lst ns)) (f:Fx H H') (kl:∀p xs,p∉Sy wp q->H p=some (.lst xs)->H' p=some (.lst xs)) (kd:∀(i:Nat) r,rs[i]?=some r->H' r.dl=H r.dl/\¬oK Jw r.dl):eX K c H' wp q JJ Jw rs as ms:=by
 obtain⟨h1,h2,h3,h4,h5,h6,⟨vs,h7,h8⟩,h9,Lx,NO,LL,MC,MB,LK⟩:=h;exact⟨w',t'.trans h2,h3,fun i a r e1 e2=>(h4 i a r e1 e2).keep f kl (kd i r e2).1,h5,fun i r e=>⟨(kd i r e).2,(h6 i r e).2⟩,⟨vs,m'.trans h7,aE.fx f _ _ h8⟩,h9,Lx,NO,LL,MC,MB,p'⟩
theorem eX.dict (h:eX K c H wp q ps os rs as ms){i:Nat} {r}(e:rs[i]?=some r):∃UM,H r.dl=some (.dK UM):=by
 have hi:i < as.length:=by rw[h.n];exact aq e
 exact(h.r i _ r (Iy hi) e).d.dict
theorem eX.same (h:eX K c H wp q ps os rs as ms) (s:ak H H'):eX K c H' wp q ps os rs as ms:=by
 obtain⟨vs,hm,_⟩:=h.m;refine h.chg (h.w.same s) ?_ ?_ (let ⟨ns,e⟩:=h.sp;⟨ns,s _ _ e⟩) (ak.fx s) (fun p xs _ e=>s _ _ e) fun i r e=>?_
 ·rw[h.t];exact s _ _ h.t
 ·rw[hm];exact s _ _ hm
 ·obtain⟨UM,hk⟩:=h.dict e;exact⟨by rw[hk];exact s _ _ hk,(h.dw i r e).1⟩
theorem eX.grow (h:eX K c H wp q ps os rs as ms) {o p}(b:bw wp.l H H') (w':dc K c H' wp (ps++[p]) (os++[o]) gS [] []) (hd:∀d,pH o=some d->H d=none):eX K c H' wp q (ps++[p]) (os++[o]) rs as ms:=by
 obtain⟨vs,hm,_⟩:=h.m;refine h.chg w' ?_ ?_ (let ⟨ns,e⟩:=h.sp;⟨ns,b _ _ h.sb.1 e⟩) (b.fx h.w.t rfl) (fun p xs hp e=>b _ _ (fun y=>hp (y▸Sy.l)) e) fun i r e=>?_
 ·rw[h.t];exact b _ _ h.sT.1 h.t
 ·rw[hm];exact b _ _ h.sM.1 hm
 ·obtain⟨UM,hk⟩:=h.dict e;refine⟨by rw[hk];exact b _ _ (cv hk h.w.t) hk,fun z=>?_⟩;rcases z.snoc with z | z
  ·exact(h.dw i r e).1 z
  ·rw[hd _ z] at hk;cases hk
theorem eX.G2 (h:eX K c H wp q ps os rs as ms){i:Nat} {o d fs}(eo:os[i]?=some o) (ed:pH o=some d) (b:bw d H H') (w':dc K c H' wp ps (os.set i (qL fs o)) gS [] []):eX K c H' wp q ps (os.set i (qL fs o)) rs as ms:=by
 obtain⟨vs,hm,_⟩:=h.m;obtain⟨kv,hd⟩:=h.w.wd ⟨i,o,eo,ed⟩;refine h.chg w' ?_ ?_ (let ⟨ns,e⟩:=h.sp;⟨ns,b _ _ (cv e hd) e⟩) (b.fx hd rfl) (fun p xs _ e=>b _ _ (cv e hd) e) fun j r e=>?_
 ·rw[h.t];exact b _ _ (cv h.t hd) h.t
 ·rw[hm];exact b _ _ (cv hm hd) hm
 ·obtain⟨UM,hk⟩:=h.dict e;exact⟨by rw[hk];exact b _ _ (fun y=>(h.dw j r e).1 (y▸⟨i,o,eo,ed⟩)) hk,fun z=>(h.dw j r e).1 (z.set eo (xg fs o))⟩
theorem eX.mh (h:eX K c H wp q ps os rs as ms) {ns Ld}(hb:H q.b=some (.lst ns)) (b:bw q.b H H') (KO:H' q.b=some (.lst Ld)):eX K c H' wp q ps os rs as ms:=by
 obtain⟨vs,hm,_⟩:=h.m;have w':dc K c H' wp ps os gS [] []:=h.w.Gu hb (U8 h.sb.1) (U8 h.sb.2.1) (U8 h.sb.2.2) b;refine h.chg w' ?_ ?_ ⟨_,KO⟩ (b.fx hb rfl) (fun p xs hp e=>b _ _ (fun y=>hp (y▸Sy.b)) e) fun j r e=>?_
 ·rw[h.t];exact b _ _ h.yC h.t
 ·rw[hm];exact b _ _ h.nMb hm
 ·obtain⟨UM,hk⟩:=h.dict e;exact⟨by rw[hk];exact b _ _ (cv hk hb) hk,(h.dw j r e).1⟩
theorem eX.push (h:eX K c H wp q ps os rs as ms) {a r}(hr:jB K H (Sy wp q) a r) (hd:∀(i:Nat) r',rs[i]?=some r'->r'.dl≠r.dl) (hw:¬oK os r.dl/\r.dl≠wp.g):eX K c (U1 H q.T (.lst (as.map V.ref++[.ref a]))) wp q ps os (rs++[r]) (as++[a]) ms:=by
 have b:bw q.T H (U1 H q.T (.lst (as.map V.ref++[.ref a]))):=bw.put _ _;have f:Fx H (U1 H q.T (.lst (as.map V.ref++[.ref a]))):=Fx.put h.t rfl;have kl:∀p xs,p∉Sy wp q->H p=some (.lst xs)->U1 H q.T (.lst (as.map V.ref++[.ref a])) p=some (.lst xs):=fun p xs hp e=>b _ _ (fun y=>hp (y▸Sy.T)) e;have kd:∀d UM,H d=some (.dK UM)->U1 H q.T (.lst (as.map V.ref++[.ref a])) d=H d:=fun d UM e=>aD (cv e h.t);have w':=h.w.lst (o:=.lst (as.map V.ref++[.ref a])) h.t (U8 h.sT.1) (U8 h.sT.2.1) (U8 h.sT.2.2);have NA:=@eX.dict K c H wp q ps os rs as ms h;obtain⟨h1,h2,h3,h4,h5,h6,⟨vs,h7,h8⟩,h9,Lx,NO,LL,MC,MB,LK⟩:=h;refine⟨w',by rw[ae,Jg];rfl,by rw[Iu,Iu,h3];rfl,fun i a' r' e1 e2=>?_,fun i j r1 r2 e1 e2 e3=>?_,fun i r' e=>?_,⟨vs,b _ _ (U8 LL) h7,aE.fx f _ _ h8⟩,h9,Lx,NO,LL,MC,MB,let ⟨ns,e⟩:=LK;⟨ns,b _ _ (U8 MC) e⟩⟩
 ·rcases getElem?_snoc e1 with e1 | ⟨rfl,rfl⟩
  ·have hi:i < rs.length:=by rw[<-h3];exact aq e1
   rw[Jo hi] at e2;obtain⟨UM,hk⟩:=NA e2;exact(h4 i a' r' e1 e2).keep f kl (kd _ _ hk)
  ·rw[h3,bP] at e2;cases e2;obtain⟨UM,hk⟩:=hr.d.dict;exact hr.keep f kl (kd _ _ hk)
 ·rcases getElem?_snoc e1 with u1 | ⟨u1,v1⟩<;>rcases getElem?_snoc e2 with u2 | ⟨u2,v2⟩
  ·exact h5 i j r1 r2 u1 u2 e3
  ·subst v2;exact Vi e3 (hd i r1 u1)
  ·subst v1;exact Vi e3.symm (hd j r2 u2)
  ·rw[u1,u2]
 ·rcases getElem?_snoc e with u | ⟨u,v⟩
  ·exact h6 i r' u
  ·subst v;exact hw
theorem eX.F2 (h:eX K c H wp q ps os rs as ms) {vs v d}(hm:H q.M=some (.lst vs)) (hA:aE K H ms vs) (hv:At K H d v):eX K c (U1 H q.M (.lst (vs++[v]))) wp q ps os rs as (ms++[d]):=by
 have b:bw q.M H (U1 H q.M (.lst (vs++[v]))):=bw.put _ _;have f:Fx H (U1 H q.M (.lst (vs++[v]))):=Fx.put hm rfl;have w':=h.w.lst (o:=.lst (vs++[v])) hm (U8 h.sM.1) (U8 h.sM.2.1) (U8 h.sM.2.2);have NA:=@eX.dict K c H wp q ps os rs as ms h;obtain⟨h1,h2,h3,h4,h5,h6,_,h9,Lx,NO,LL,MC,MB,LK⟩:=h;refine⟨w',b _ _ LL h2,h3,fun i a' r' e1 e2=>?_,h5,h6,⟨_,ae,aE.append (aE.fx f _ _ hA) (aE.mj (At.fx f _ _ hv))⟩,h9,Lx,NO,LL,MC,MB,let ⟨ns,e⟩:=LK;⟨ns,b _ _ (U8 MB) e⟩⟩;obtain⟨UM,hk⟩:=NA e2;exact(h4 i a' r' e1 e2).keep f (fun p xs hp e=>b _ _ (fun y=>hp (y▸Sy.M)) e) (aD (cv hk hm))
theorem eX.dput (h:eX K c H wp q ps os rs as ms){i:Nat} {r n d v}(e:rs[i]?=some r) (hv:At K H d v):∃UM,H r.dl=some (.dK UM)/\UM.length<=r.fs.length/\eX K c (U1 H r.dl (.dK (U3 UM (.inr n:Key) v))) wp q ps os (rs.set i { r with fs:=(n,d)::r.fs }) as ms:=by
 have hi:i < as.length:=by rw[h.n];exact aq e
 have hR:=h.r i _ r (Iy hi) e;obtain⟨UM,hk,hl,hf⟩:=hR.d.put (n:=n) hv;refine⟨UM,hk,hl,?_⟩;have b:bw r.dl H (U1 H r.dl (.dK (U3 UM (.inr n:Key) v))):=bw.put _ _;have f:Fx H (U1 H r.dl (.dK (U3 UM (.inr n:Key) v))):=Fx.put hk rfl;have w':=h.w.dict (o:=.dK (U3 UM (.inr n:Key) v)) hk (U8 (h.dw i r e).2) (h.dw i r e).1;generalize hH:U1 H r.dl (.dK (U3 UM (.inr n:Key) v))=H2 at *;have kl:∀p xs,H p=some (.lst xs)->H2 p=some (.lst xs):=fun p xs e1=>b _ _ (cv e1 hk) e1;have ir:=aq e;obtain⟨h1,h2,h3,h4,h5,h6,⟨vs,h7,h8⟩,h9,Lx,NO,LL,MC,MB,LK⟩:=h;have old:∀{j:Nat} {r'},(rs.set i { r with fs:=(n,d)::r.fs })[j]?=some r'->∃r0,rs[j]?=some r0/\r0.dl=r'.dl:=fun {j r'} e1=>by
  by_cases hj:j=i
  ·subst hj;rw[IB ir] at e1;cases e1;exact⟨r,e,rfl⟩
  ·rw[IA (U8 hj)] at e1;exact⟨r',e1,rfl⟩
 refine⟨w',kl _ _ h2,by rw[IY];exact h3,fun j a' r' e1 e2=>?_,fun j1 j2 r1 r2 e1 e2 e3=>?_,fun j r' e1=>?_,⟨vs,kl _ _ h7,aE.fx f _ _ h8⟩,h9,Lx,NO,LL,MC,MB,let ⟨ns,e⟩:=LK;⟨ns,kl _ _ e⟩⟩
 ·by_cases hj:j=i
  ·subst hj;rw[IB ir] at e2;cases e2;obtain⟨⟨v1,v2,g1,g2,g3⟩,g4,g5,g6,g7⟩:=h4 j a' r e1 e;exact⟨⟨v1,v2,kl _ _ g1,At.fx f _ _ g2,At.fx f _ _ g3⟩,kl _ _ g4,g5,g6,hf⟩
  ·rw[IA (U8 hj)] at e2;have J8:=h4 j a' r' e1 e2;obtain⟨kv',Tn⟩:=J8.d.dict;exact J8.keep f (fun p xs _ e1=>kl p xs e1) (by rw[Tn];exact b _ _ (fun y=>hj (h5 j i r' r e2 e y)) Tn)
 ·obtain⟨q1,g1,g2⟩:=old e1;obtain⟨q2,g3,g4⟩:=old e2;exact h5 j1 j2 q1 q2 g1 g3 (g2.trans (e3.trans g4.symm))
 ·obtain⟨q1,g1,g2⟩:=old e1;rw[<-g2];exact h6 j q1 g1
theorem eX.new (h:eX K c H wp q ps os rs as ms) {p}(e:H p=none):p∉Sy wp q:=fun m=>by
 obtain⟨vs,hm,_⟩:=h.m;obtain⟨ns,hb⟩:=h.sp;unfold Sy at m;simp only[List.mem_cons,List.not_mem_nil,or_false] at m;rcases m with rfl | rfl | rfl | rfl
 ·rw[h.w.t] at e;cases e
 ·rw[h.t] at e;cases e
 ·rw[hm] at e;cases e
 ·rw[hb] at e;cases e
theorem eX.row (h:eX K c H wp q ps os rs as ms) {H1 a r}(s:ak H H1) (ha:H a=none) (ho:r.ol∉Sy wp q) (hd:H r.dl=none) (hl:∃v1 v2,H1 a=some (.lst (Fi r v1 v2))/\At K H1 r.val v1/\At K H1 r.two v2) (J5:H1 r.ol=some (.lst (r.js.map fun j=>V.int (j:Nat)))) (Ku:fz K H1 r.dl r.fs):eX K c (U1 H1 q.T (.lst (as.map V.ref++[.ref a]))) wp q ps os (rs++[r]) (as++[a]) ms:=by
 refine(h.same s).push ⟨hl,J5,h.new ha,ho,Ku⟩ (fun i r' e y=>?_) ⟨h.w.freshD hd,fun y=>?_⟩
 ·obtain⟨UM,hk⟩:=h.dict e;rw[y,hd] at hk;cases hk
 ·obtain⟨UM,hk,_⟩:=h.w.v;rw[<-y,hd] at hk;cases hk
theorem eX.Bh (h:eX K c H wp q ps os rs as ms) {d UM}(hd:H d=some (.dK UM)) (h1:∀(i:Nat) r,rs[i]?=some r->r.dl≠d) (h2:¬oK os d) (h3:wp.g≠d) {o}:eX K c (U1 H d o) wp q ps os rs as ms:=by
 have b:bw d H (U1 H d o):=bw.put _ _;obtain⟨vs,hm,_⟩:=h.m;refine h.chg (h.w.dict hd h3 h2) ?_ ?_ (let ⟨ns,e⟩:=h.sp;⟨ns,b _ _ (cv e hd) e⟩) (b.fx hd rfl) (fun p xs _ e=>b _ _ (cv e hd) e) fun j r e=>?_
 ·rw[h.t];exact b _ _ (cv h.t hd) h.t
 ·rw[hm];exact b _ _ (cv hm hd) hm
 ·obtain⟨kv,hk⟩:=h.dict e;exact⟨by rw[hk];exact b _ _ (h1 j r e) hk,(h.dw j r e).1⟩
end
theorem gZ (a b:Str) (h:decide (a=b)=false:=by decide +kernel):¬a=b:=U7 h
def wK (r:Rw):Str×D:=(r.tag,r.val)
inductive ff (rs:List Rw):List Nat->List Nat->Prop
 | nil:ff rs [] []
 | cons {j n:Nat}{js ns:List Nat}:(rs[j]?).map wK=some (("class":Str),aU n)->ff rs js ns->ff rs (j::js) (n::ns)
inductive gg (os:List Th) (rs:List Rw):Rw->Prop
 | cl (k:Nat) nm ns d fs js ol dl:os[k]?=some (.kd nm ns d fs)->ff rs js ns->gg os rs ⟨"class",aU k,.str nm,js,ol,dl,fs,yW ns⟩
 | ob (k q:Nat) d fs nm ns d' Js js ol dl:os[k]?=some (.ob q d fs)->os[q]?=some (.kd nm ns d' Js)->ff rs js ns->gg os rs ⟨"object",aU k,.str nm,js,ol,dl,fs,false⟩
 | vw (k q o j:Nat) d fs nm ns d' Js js ol dl:os[k]?=some (.vw q o)->os[o]?=some (.ob j d fs)->os[j]?=some (.kd nm ns d' Js)->ff rs js (Bt q ns)->gg os rs ⟨"view",aU k,aU o,js,ol,dl,[],false⟩
 | fn (k:Nat) g ol dl:os[k]?=some (.fn g)->gg os rs ⟨"function",aU k,.str g.nm,[],ol,dl,[],false⟩
 | mt (k t o:Nat) g ol dl:os[k]?=some (.mt t o)->os[t]?=some (.fn g)->gg os rs ⟨"method",aU k,.str g.nm,[],ol,dl,[],false⟩
 | gr (k:Nat) nm fr ol dl:os[k]?=some (.gr nm fr)->gg os rs ⟨"giver",aU k,.str nm,[],ol,dl,[],false⟩
 | gn (k:Nat) nm ol dl:os[k]?=some (.pD nm)->gg os rs ⟨"given",aU k,.str nm,[],ol,dl,[],false⟩
 | pl d ol dl:vm d->gg os rs ⟨"plain",d,.str "",[],ol,dl,[],false⟩
def gb (rs JP:List Rw):Prop:=∀(j:Nat) r,rs[j]?=some r->∃r',JP[j]?=some r'/\wK r'=wK r
theorem gb.refl (rs):gb rs rs:=fun _ r e=>⟨r,e,rfl⟩
theorem gb.snoc {rs r}:gb rs (rs++[r]):=fun _ r' e=>⟨r',g0 e,rfl⟩
theorem gb.set {rs:List Rw}{i:Nat} {r fs}(e:rs[i]?=some r):gb rs (rs.set i { r with fs:=fs }):=fun j r' e'=>by
 by_cases hj:j=i
 ·subst hj;rw[e] at e';cases e';exact⟨_,IB (aq e),rfl⟩
 ·exact⟨r',by rw[IA (U8 hj)];exact e',rfl⟩
theorem ff.mono {rs JP}(h:gb rs JP):∀{js ns},ff rs js ns->ff JP js ns
 | _,_,.nil=>.nil
 | _,_,.cons (j:=j) e r=>by
  refine .cons ?_ (ff.mono h r);cases hj:rs[j]? with
  | none=>rw[hj] at e;cases e
  | some r0=>
   obtain⟨r1,e1,e2⟩:=h j r0 hj;rw[hj] at e;rw[e1,<-e];exact Vj some e2
theorem ff.len {rs}:∀{js ns},ff rs js ns->js.length=ns.length
 | _,_,.nil=>rfl
 | _,_,.cons _ r=>Vj (·+1) (ff.len r)
theorem gg.mono {os Jw rs JP r}(ho:∀(k:Nat) o,os[k]?=some o->Jw[k]?=some o) (hr:gb rs JP) (h:gg os rs r):gg Jw JP r:=by
 cases h with
 | cl k nm ns d fs js ol dl h1 h2=>exact .cl k nm ns d fs js ol dl (ho _ _ h1) (h2.mono hr)
 | ob k q d fs nm ns d' Js js ol dl h1 h2 h3=>exact .ob k q d fs nm ns d' Js js ol dl (ho _ _ h1) (ho _ _ h2) (h3.mono hr)
 | vw k q o j d fs nm ns d' Js js ol dl h1 h2 h3 h4=>exact .vw k q o j d fs nm ns d' Js js ol dl (ho _ _ h1) (ho _ _ h2) (ho _ _ h3) (h4.mono hr)
 | fn k g ol dl h1=>exact .fn k g ol dl (ho _ _ h1)
 | mt k t o g ol dl h1 h2=>exact .mt k t o g ol dl (ho _ _ h1) (ho _ _ h2)
 | gr k nm fr ol dl h1=>exact .gr k nm fr ol dl (ho _ _ h1)
 | gn k nm ol dl h1=>exact .gn k nm ol dl (ho _ _ h1)
 | pl d ol dl h1=>exact .pl d ol dl h1
theorem gg.cls {os rs r}(h:gg os rs r) (e:r.tag="class"):∃(k:Nat) (nm:Str) (ns:List Nat) (d:Addr),r.val=aU k/\r.two=.str nm/\os[k]?=some (.kd nm ns d r.fs)/\ff rs r.js ns/\r.gv=yW ns:=by
 cases h with
 | cl k nm ns d fs js ol dl h1 h2=>exact⟨k,nm,ns,d,rfl,rfl,h1,h2,rfl⟩
 | _=>dsimp only at e;exact Vi e (by decide +kernel)
theorem gg.obj {os rs r}(h:gg os rs r) (e:r.tag="object"):∃(k q:Nat) (d:Addr) (nm:Str) (ns:List Nat) (d':Addr) (Js:List (Str×D)),r.val=aU k/\r.two=.str nm/\os[k]?=some (.ob q d r.fs)/\os[q]?=some (.kd nm ns d' Js)/\ff rs r.js ns:=by
 cases h with
 | ob k q d fs nm ns d' Js js ol dl h1 h2 h3=>exact⟨k,q,d,nm,ns,d',Js,rfl,rfl,h1,h2,h3⟩
 | _=>dsimp only at e;exact Vi e (by decide +kernel)
theorem ff.row {rs}:∀{js ns},ff rs js ns->∀{x},x∈js->∃r n,rs[x]?=some r/\wK r=(("class":Str),aU n)/\n∈ns
 | _,_,.cons (j:=j) (n:=n) e r,x,hx=>by
  rcases Ji.mp hx with rfl | hx
  ·cases hj:rs[x]? with
   | none=>rw[hj] at e;cases e
   | some r0=>rw[hj] at e;injection e with e;exact⟨r0,n,rfl,e,Ir⟩
  ·obtain⟨r0,n0,h1,h2,h3⟩:=ff.row r hx;exact⟨r0,n0,h1,h2,Iq _ h3⟩
theorem gg.js {os rs r}(h:gg os rs r):∃ns,ff rs r.js ns:=by
 cases h with
 | cl k nm ns d fs js ol dl h1 h2=>exact⟨_,h2⟩
 | ob k q d fs nm ns d' Js js ol dl h1 h2 h3=>exact⟨_,h3⟩
 | vw k q o j d fs nm ns d' Js js ol dl h1 h2 h3 h4=>exact⟨_,h4⟩
 | _=>exact⟨[],.nil⟩
structure eV (B:Nat) (os:List Th) (rs:List Rw) (ms:List D):Prop where
 wf:ou os
 nb:Ii os
 kb:Ij os
 st:∀(i:Nat) nm ns d fs,os[i]?=some (.kd nm ns d fs)->fs.lookup ("start":Str)=none/\0 < ns.length
 el:os[3]?=some (.pD "elder")
 yy:20<=os.length
 rw:∀(i:Nat) r,rs[i]?=some r->gg os rs r/\r.fs.length<=B
 cu:∀(i j:Nat) r r',rs[i]?=some r->rs[j]?=some r'->r.val=r'.val->i=j
 g:∀j,j < 12->∃r,rs[j]?=some r/\wK r=(("class":Str),aU (8+j))
 fn:∀(k:Nat) g,os[k]?=some (.fn g)->g.np=1/\g.df=[]/\∃(i:Nat) (r:Rw),rs[i]?=some r/\wK r=(("function":Str),aU k)
 m:∀d∈ms,∃i,d=aU i/\i < os.length
theorem gg.vd {os rs r}(h:gg os rs r):Vd os r.val:=by
 cases h with
 | pl d ol dl h=>exact(h.vd os).1
 | cl k nm ns d fs js ol dl h1 h2=>exact Vd.th (aq h1)
 | ob k q d fs nm ns d' Js js ol dl h1 h2 h3=>exact Vd.th (aq h1)
 | vw k q o j d fs nm ns d' Js js ol dl h1 h2 h3 h4=>exact Vd.th (aq h1)
 | fn k g ol dl h1=>exact Vd.th (aq h1)
 | mt k t o g ol dl h1 h2=>exact Vd.th (aq h1)
 | gr k nm fr ol dl h1=>exact Vd.th (aq h1)
 | gn k nm ol dl h1=>exact Vd.th (aq h1)
def Er:Option Rw->List (Str×D)
 | some r=>r.fs
 | none=>[]
def lN (rs:List Rw) (n:Str):List Nat->Option D
 | []=>none
 | j::js=>match (Er rs[j]?).lookup n with
  | some d=>some d
  | none=>lN rs n js
theorem qr {B os rs ms n}(h:eV B os rs ms):∀{js ns},ff rs js ns->lN rs n js=fe os n ns
 | _,_,.nil=>rfl
 | _,_,.cons (j:=j) (n:=m) e r=>by
  have hx:Er rs[j]?=rp os[m]?:=by
   cases hj:rs[j]? with
   | none=>rw[hj] at e;cases e
   | some r0=>
    rw[hj] at e;injection e with e;obtain⟨k,nm,ns,d,e1,_,e3,_⟩:=(h.rw j r0 hj).1.cls (Vj Prod.fst e);have e2:r0.val=aU m:=Vj Prod.snd e;rw[e1] at e2;rw[<-cn e2,e3];rfl
  unfold lN;rw[gy,hx,qr h r]
  try (cases (rp os[m]?).lookup n<;>rfl)
def jP (r:Rw):Option D:=if r.tag="object" then some r.val else if r.tag="view" then some r.two else none
def lQ (rs:List Rw) (r:Rw) (n:Str):Option (D×Option D):=match (if r.tag="object" then r.fs.lookup n else none) with
 | some d=>some (d,none)
 | none=>(lN rs n r.js).map fun d=>(d,jP r)
def wI (os:List Th) (x:FR×Nat):Option (D×Option D)->Prop
 | none=>x.1=.no
 | some (d,none)=>x.1=.val d
 | some (d,some w)=>x.1=tD os (some d)/\w=aU x.2
theorem AH {B os rs ms}(h:eV B os rs ms){i:Nat} {r}(e:rs[i]?=some r) (n:Str):wI os (fZ os r.val n) (lQ rs r n):=by
 have hr:=(h.rw i r e).1;have key:∀{js ns ow k},ff rs js ns->jP r=some (aU ow)->k=ow->wI os (tD os (fe os n ns),k) ((lN rs n js).map fun d=>(d,jP r)):=fun {js ns ow k} hj ho hk=>by
  rw[qr h hj,ho,hk];cases fe os n ns with
  | none=>rfl
  | some d=>exact⟨rfl,rfl⟩
 have none_:∀{x:FR×Nat},x.1=.no->r.tag≠"object"->r.js=[]->wI os x (lQ rs r n):=fun {x} hx ht hj=>by
  unfold lQ;rw[IH ht,hj];exact hx
 cases hr with
 | cl k nm ns d fs js ol dl h1 h2=>
  unfold lQ fZ;rw[IH (gZ "class" "object"),bI,h1];show wI os (match fe os n ns with | some e=>.val e | none=>.no,0) ((lN rs n js).map fun d=>(d,jP ⟨"class",aU k,.str nm,js,ol,dl,fs,yW ns⟩));rw[qr h h2,show jP ⟨"class",aU k,.str nm,js,ol,dl,fs,yW ns⟩=none by unfold jP;rw[IH (gZ "class" "object"),IH (gZ "class" "view")]];cases fe os n ns with
  | none=>rfl
  | some d=>rfl
 | ob k q d fs nm ns d' Js js ol dl h1 h2 h3=>
  unfold lQ fZ;rw[II rfl,bI,h1];show wI os (zd os fs (r8 os[q]?) n,zR (aU k)) (match fs.lookup n with | some d=>some (d,none) | none=>(lN rs n js).map fun d=>(d,jP _));rw[h2];unfold zd;cases fs.lookup n with
  | some d=>rfl
  | none=>exact key (ow:=k) h3 (by unfold jP;rw[II rfl]) (BE k)
 | vw k q o j d fs nm ns d' Js js ol dl h1 h2 h3 h4=>
  unfold lQ fZ;rw[IH (gZ "view" "object"),bI,h1];have eo:sO os o=ns:=by unfold sO;rw[h2];show r8 os[j]?=_;rw[h3];rfl
  show wI os (tD os (fe os n (Bt q (sO os o))),o) _;rw[eo];exact key (ow:=o) h4 (by unfold jP;rw[IH (gZ "view" "object"),II rfl]) rfl
 | pl d ol dl hp=>
  refine none_ ?_ (gZ "plain" "object") rfl;unfold fZ;rw[(hp.vd os).2]
 | fn k g ol dl h1=>exact none_ (by unfold fZ;rw[bI,h1]) (gZ "function" "object") rfl
 | mt k t o g ol dl h1 h2=>exact none_ (by unfold fZ;rw[bI,h1]) (gZ "method" "object") rfl
 | gr k nm fr ol dl h1=>exact none_ (by unfold fZ;rw[bI,h1]) (gZ "giver" "object") rfl
 | gn k nm ol dl h1=>exact none_ (by unfold fZ;rw[bI,h1]) (gZ "given" "object") rfl
theorem gg.lt {os rs r k}(h:gg os rs r) (e:r.val=aU k):k < os.length:=by
 rcases h.vd.cases with ⟨i,e1,hi⟩ | ⟨x,y,e1,hx,_⟩
 ·rw[e1] at e;rw[<-cn e];exact hi
 ·rw[e1] at e;injection e with e;injection e with e _;injection e with e;exact Vi e hx
section
variable {B:Nat}{os:List Th}{rs:List Rw}{ms:List D}
theorem eV.fresh (h:eV B os rs ms){i:Nat} {r}(e:rs[i]?=some r):r.val≠aU os.length:=fun y=>Vf _ ((h.rw i r e).1.lt y)
theorem eV.add (h:eV B os rs ms) {o}(ho:OkT os o) (hn:(Aq (some o)).length<=1000) (hk:∀nm ns d fs,o=.kd nm ns d fs->ns.Nodup/\ns.length<=40/\fs.lookup ("start":Str)=none/\0 < ns.length) (hg:∀g,o≠.fn g):eV B (os++[o]) rs ms:=by
 refine⟨h.wf.add ho,fun i o' e=>?_,fun i nm ns d fs e=>?_,fun i nm ns d fs e=>?_,bN h.el,by rw[Iu];have:=h.yy;omega,fun i r e=>⟨(h.rw i r e).1.mono (fun k o e=>bN e) (gb.refl _),(h.rw i r e).2⟩,h.cu,h.g,fun k g e=>?_,fun d hd=>?_⟩
 ·rcases getElem?_snoc e with e | ⟨_,e⟩
  ·exact h.nb i o' e
  ·subst e;exact hn
 ·rcases getElem?_snoc e with e | ⟨_,e⟩
  ·exact h.kb i nm ns d fs e
  ·obtain⟨a,b,_⟩:=hk nm ns d fs e.symm;exact⟨a,b⟩
 ·rcases getElem?_snoc e with e | ⟨_,e⟩
  ·exact h.st i nm ns d fs e
  ·exact(hk nm ns d fs e.symm).2.2
 ·rcases getElem?_snoc e with e | ⟨_,e⟩
  ·exact h.fn k g e
  ·exact Vi e.symm (hg g)
 ·obtain⟨i,e,hi⟩:=h.m d hd;exact⟨i,e,by rw[Iu];omega⟩
theorem eV.Fj (h:eV B os rs ms) {r}(hr:gg os (rs++[r]) r) (hf:r.fs.length<=B) (hv:∀(i:Nat) r',rs[i]?=some r'->r'.val≠r.val):eV B os (rs++[r]) ms:=by
 refine⟨h.wf,h.nb,h.kb,h.st,h.el,h.yy,fun i r' e=>?_,fun i j r1 r2 e1 e2 e3=>?_,fun j hj=>let ⟨r',e,z⟩:=h.g j hj;⟨r',g0 e,z⟩,fun k g e=>let ⟨a,b,i,r',e',z⟩:=h.fn k g e;⟨a,b,i,r',g0 e',z⟩,h.m⟩
 ·rcases getElem?_snoc e with e | ⟨_,e⟩
  ·exact⟨(h.rw i r' e).1.mono (fun _ _ e=>e) gb.snoc,(h.rw i r' e).2⟩
  ·subst e;exact⟨hr,hf⟩
 ·rcases getElem?_snoc e1 with u1 | ⟨u1,v1⟩<;>rcases getElem?_snoc e2 with u2 | ⟨u2,v2⟩
  ·exact h.cu i j r1 r2 u1 u2 e3
  ·subst v2;exact Vi e3 (hv i r1 u1)
  ·subst v1;exact Vi e3.symm (hv j r2 u2)
  ·rw[u1,u2]
theorem eV.row (h:eV B os rs ms) {r}(hr:gg os rs r) (hf:r.fs.length<=B) (hv:∀(i:Nat) r',rs[i]?=some r'->r'.val≠r.val):eV B os (rs++[r]) ms:=h.Fj (hr.mono (fun _ _ e=>e) gb.snoc) hf hv
theorem eV.addFn (h:eV B os rs ms) {g ol dl}(hn:g.nm.length<=1000) (h1:g.np=1) (h2:g.df=[]):eV B (os++[.fn g]) (rs++[⟨"function",aU os.length,.str g.nm,[],ol,dl,[],false⟩]) ms:=by
 have l:∀{i:Nat} {r},rs[i]?=some r->(rs++[⟨"function",aU os.length,.str g.nm,[],ol,dl,[],false⟩])[i]?=some r:=fun e=>g0 e;refine⟨h.wf.add True.intro,fun i o' e=>?_,fun i nm ns d fs e=>?_,fun i nm ns d fs e=>?_,bN h.el,by rw[Iu];have:=h.yy;omega,fun i r e=>?_,fun i j r1 r2 e1 e2 e3=>?_,fun j hj=>let ⟨r',e,z⟩:=h.g j hj;⟨r',l e,z⟩,fun k g' e=>?_,fun d hd=>?_⟩
 ·rcases getElem?_snoc e with e | ⟨_,e⟩
  ·exact h.nb i o' e
  ·subst e;exact hn
 ·rcases getElem?_snoc e with e | ⟨_,e⟩
  ·exact h.kb i nm ns d fs e
  ·cases e
 ·rcases getElem?_snoc e with e | ⟨_,e⟩
  ·exact h.st i nm ns d fs e
  ·cases e
 ·rcases getElem?_snoc e with e | ⟨_,e⟩
  ·exact⟨(h.rw i r e).1.mono (fun k o e=>bN e) gb.snoc,(h.rw i r e).2⟩
  ·subst e;exact⟨.fn _ g ol dl bP,Je _⟩
 ·rcases getElem?_snoc e1 with u1 | ⟨u1,v1⟩<;>rcases getElem?_snoc e2 with u2 | ⟨u2,v2⟩
  ·exact h.cu i j r1 r2 u1 u2 e3
  ·subst v2;exact Vi e3 (h.fresh u1)
  ·subst v1;exact Vi e3.symm (h.fresh u2)
  ·rw[u1,u2]
 ·rcases getElem?_snoc e with e | ⟨e1,e⟩
  ·obtain⟨a,b,i,r',e',z⟩:=h.fn k g' e;exact⟨a,b,i,r',l e',z⟩
  ·cases e;exact⟨h1,h2,rs.length,_,bP,by rw[e1];rfl⟩
 ·obtain⟨i,e,hi⟩:=h.m d hd;exact⟨i,e,by rw[Iu];omega⟩
theorem eV.put (h:eV B os rs ms){i k:Nat} {r o}{n:Str} {d}(e:rs[i]?=some r) (ev:r.val=aU k) (eo:os[k]?=some o) (hc:tJ (some o)=true) (ef:DU (some o)=r.fs) (hn:n≠"start") (hd:Vd os d):eV (B+1) (os.set k (qL ((n,d)::r.fs) o)) (rs.set i { r with fs:=(n,d)::r.fs }) ms:=by
 have hk:=aq eo;have hi:=aq e;have hl:(os.set k (qL ((n,d)::r.fs) o)).length=os.length:=IY;have kdO:∀{j:Nat} {nm ns dd fs},(os.set k (qL ((n,d)::r.fs) o))[j]?=some (.kd nm ns dd fs)->∃iZ,os[j]?=some (.kd nm ns dd iZ)/\(fs=iZ\/fs=(n,d)::r.fs):=fun {j nm ns dd fs} ej=>by
  by_cases hj:j=k
  ·subst hj;rw[IB hk] at ej;cases o<;>cases ej;exact⟨_,eo,.inr rfl⟩
  ·rw[IA (U8 hj)] at ej;exact⟨fs,ej,.inl rfl⟩
 have othO:∀{j:Nat} {o'},j≠k->os[j]?=some o'->(os.set k (qL ((n,d)::r.fs) o))[j]?=some o':=fun hj ej=>by rw[IA (U8 hj)];exact ej
 have kdN:∀{j:Nat} {nm ns dd fs},os[j]?=some (.kd nm ns dd fs)->∃Js,(os.set k (qL ((n,d)::r.fs) o))[j]?=some (.kd nm ns dd Js):=fun {j nm ns dd fs} ej=>by
  by_cases hj:j=k
  ·subst hj;rw[eo] at ej;cases ej;exact⟨_,IB hk⟩
  ·exact⟨fs,othO hj ej⟩
 have obN:∀{j q:Nat} {dd fs},os[j]?=some (.ob q dd fs)->∃Js,(os.set k (qL ((n,d)::r.fs) o))[j]?=some (.ob q dd Js):=fun {j q dd fs} ej=>by
  by_cases hj:j=k
  ·subst hj;rw[eo] at ej;cases ej;exact⟨_,IB hk⟩
  ·exact⟨fs,othO hj ej⟩
 have oth:∀{j:Nat} {o'},os[j]?=some o'->pH o'=none->(os.set k (qL ((n,d)::r.fs) o))[j]?=some o':=fun {j o'} ej hb=>by
  by_cases hj:j=k
  ·subst hj;rw[eo] at ej;cases ej;cases o<;>first | (cases hc;done) | (cases hb;done)
  ·exact othO hj ej
 have RL:gb rs (rs.set i { r with fs:=(n,d)::r.fs }):=gb.set e;refine⟨h.wf.set eo fun m dd em=>?_,fun j o' ej=>?_,fun j nm ns dd fs ej=>?_,fun j nm ns dd fs ej=>?_,oth h.el rfl,by rw[hl];exact h.yy,fun j r' ej=>?_,fun j1 j2 r1 r2 e1 e2 e3=>?_,fun j hj=>let ⟨r',e',z⟩:=h.g j hj;let ⟨r1,e1,z1⟩:=RL j r' e';⟨r1,e1,z1.trans z⟩,fun j g ej=>?_,fun dd Mx=>by rw[hl];exact h.m dd Mx⟩
 ·rw[dk] at em;split at em
  ·cases em;exact hd
  ·rw[<-ef] at em;cases o with
   | kd nm ns d1 fs=>exact(h.wf.k k nm ns d1 fs eo).2 m dd em
   | ob q d1 fs=>exact(h.wf.o k q d1 fs eo).2 m dd em
   | _=>cases hc
 ·by_cases hj:j=k
  ·subst hj;rw[IB hk] at ej;cases ej;have:=h.nb j o eo;cases o<;>exact this
  ·rw[IA (U8 hj)] at ej;exact h.nb j o' ej
 ·obtain⟨iZ,e0,_⟩:=kdO ej;exact h.kb j nm ns dd iZ e0
 ·obtain⟨iZ,e0,z⟩:=kdO ej;rcases z with rfl | rfl
  ·exact h.st j nm ns dd fs e0
  ·refine⟨?_,(h.st j nm ns dd iZ e0).2⟩;rw[dk,IH hn];by_cases hj:j=k
   ·subst hj;rw[eo] at e0;cases e0;rw[<-ef];exact(h.st j nm ns dd iZ eo).1
   ·rw[IA (U8 hj)] at ej;have:=(h.st j nm ns dd _ ej).1;rw[dk,IH hn] at this;exact this
 ·by_cases hj:j=i
  ·subst hj;rw[IB hi] at ej;cases ej;refine⟨?_,by show((n,d)::r.fs).length<=_;rw[IT];have:=(h.rw j r e).2;omega⟩;have hR:=(h.rw j r e).1;cases hR with
   | cl k1 nm ns d1 fs js ol dl h1 h2=>
    have:=cn ev;subst this;rw[eo] at h1;cases h1;exact .cl k1 nm ns d1 _ js ol dl (IB hk) (h2.mono RL)
   | ob k1 q d1 fs nm ns d' Js js ol dl h1 h2 h3=>
    have:=cn ev;subst this;rw[eo] at h1;cases h1;obtain⟨MD,e2⟩:=kdN h2;exact .ob k1 q d1 _ nm ns d' MD js ol dl (IB hk) e2 (h3.mono RL)
   | vw k1 q o1 j1 d1 fs nm ns d' Js js ol dl h1 h2 h3 h4=>have:=cn ev;subst this;rw[eo] at h1;cases h1;cases hc
   | fn k1 g ol dl h1=>have:=cn ev;subst this;rw[eo] at h1;cases h1;cases hc
   | mt k1 t o1 g ol dl h1 h2=>have:=cn ev;subst this;rw[eo] at h1;cases h1;cases hc
   | gr k1 nm fr ol dl h1=>have:=cn ev;subst this;rw[eo] at h1;cases h1;cases hc
   | gn k1 nm ol dl h1=>have:=cn ev;subst this;rw[eo] at h1;cases h1;cases hc
   | pl d1 ol dl h1=>exact Vi ev (fun y=>by have hz:=(h1.vd os).2;rw[show d1=aU k from y,bI,eo] at hz;cases hz)
  ·rw[IA (U8 hj)] at ej;have JK:r'.val≠aU k:=fun y=>hj (h.cu j i r' r ej e (y.trans ev.symm));obtain⟨hR,hB⟩:=h.rw j r' ej;refine⟨?_,by omega⟩;cases hR with
   | cl k1 nm ns d1 fs js ol dl h1 h2=>exact .cl k1 nm ns d1 fs js ol dl (othO (fun y=>JK (by rw[y])) h1) (h2.mono RL)
   | ob k1 q d1 fs nm ns d' Js js ol dl h1 h2 h3=>
    obtain⟨MD,e2⟩:=kdN h2;exact .ob k1 q d1 fs nm ns d' MD js ol dl (othO (fun y=>JK (by rw[y])) h1) e2 (h3.mono RL)
   | vw k1 q o1 j1 d1 fs nm ns d' Js js ol dl h1 h2 h3 h4=>
    obtain⟨Mc,e1⟩:=obN h2;obtain⟨MD,e2⟩:=kdN h3;exact .vw k1 q o1 j1 d1 Mc nm ns d' MD js ol dl (oth h1 rfl) e1 e2 (h4.mono RL)
   | fn k1 g ol dl h1=>exact .fn k1 g ol dl (oth h1 rfl)
   | mt k1 t o1 g ol dl h1 h2=>exact .mt k1 t o1 g ol dl (oth h1 rfl) (oth h2 rfl)
   | gr k1 nm fr ol dl h1=>exact .gr k1 nm fr ol dl (oth h1 rfl)
   | gn k1 nm ol dl h1=>exact .gn k1 nm ol dl (oth h1 rfl)
   | pl d1 ol dl h1=>exact .pl d1 ol dl h1
 ·have old:∀{j:Nat} {r'},(rs.set i { r with fs:=(n,d)::r.fs })[j]?=some r'->∃r0,rs[j]?=some r0/\r0.val=r'.val:=fun {j r'} ej=>by
   by_cases hj:j=i
   ·subst hj;rw[IB hi] at ej;cases ej;exact⟨r,e,rfl⟩
   ·rw[IA (U8 hj)] at ej;exact⟨r',ej,rfl⟩
  obtain⟨q1,g1,g2⟩:=old e1;obtain⟨q2,g3,g4⟩:=old e2;exact h.cu j1 j2 q1 q2 g1 g3 (g2.trans (e3.trans g4.symm))
 ·have Ud:os[j]?=some (.fn g):=by
   by_cases hj:j=k
   ·subst hj;rw[IB hk] at ej;cases o<;>cases ej;exact eo
   ·rw[IA (U8 hj)] at ej;exact ej
  obtain⟨a,b,i',r',e',z⟩:=h.fn j g Ud;obtain⟨r1,e1,z1⟩:=RL i' r' e';exact⟨a,b,i',r1,e1,z1.trans z⟩
theorem eV.more (h:eV B os rs ms) {B'}(l:B<=B'):eV B' os rs ms:=⟨h.wf,h.nb,h.kb,h.st,h.el,h.yy,fun i r e=>⟨(h.rw i r e).1,ID (h.rw i r e).2 l⟩,h.cu,h.g,h.fn,h.m⟩
theorem eV.mth (h:eV B os rs ms) {d i}(e:d=aU i) (hi:i < os.length):eV B os rs (ms++[d]):=⟨h.wf,h.nb,h.kb,h.st,h.el,h.yy,h.rw,h.cu,h.g,h.fn,fun d' hd=>by
 rcases I0.mp hd with hd | hd
 ·exact h.m d' hd
 ·rw[Vc.mp hd];exact⟨i,e,hi⟩⟩
end
abbrev B1:Stmt:=cB 80
def GF (K:Fg06) (H:Hp):Option (D×Option D)->List V->V->Prop
 | none,vs,ow=>vs=[]/\ow=.bb
 | some (d,o),vs,ow=>(∃v,vs=[v]/\At K H d v)/\match o with
  | none=>ow=.bb
  | some w=>At K H w ow
theorem lM (rs n):∀js i,(∀j,j < i->∀m,js[j]?=some m->(Er rs[m]?).lookup n=none)->lN rs n js=lN rs n (js.drop i)
 | [],i,_=>by rw[List.drop_nil]
 | m::js,0,_=>rfl
 | m::js,i+1,h=>by
  have h0:=h 0 (Nat.succ_pos _) m rfl;show(match (Er rs[m]?).lookup n with | some d=>some d | none=>lN rs n js)=_;rw[h0];exact lM rs n js i fun j hj m hm=>h (j+1) (Nat.succ_lt_succ hj) m hm
theorem rQ {a b:Str}:decide (V.str a=V.str b)=decide (a=b):=decide_eq_decide.mpr ⟨V.str.inj,Vj V.str⟩
section
variable {P:Program}{w:World}{K:Fg06}{mg:Str->Option Value}{base:Heap}{f:Addr}{fd:FuncData}{c:fo}
theorem jB.ix {H S a r}(h:jB K H S a r):∃v1 v2,aS K H a (Fi r v1 v2)/\At K H r.val v1/\At K H r.two v2:=by
 obtain⟨⟨v1,v2,h1,h2,h3⟩,_⟩:=h;exact⟨v1,v2,aS.of h1,h2,h3⟩
theorem eX.at {H wp q ps os rs as ms}(h:eX K c H wp q ps os rs as ms){i:Nat} {r}(e:rs[i]?=some r):∃a,as[i]?=some a/\(as.map V.ref)[i]?=some (.ref a)/\jB K H (Sy wp q) a r:=by
 have hi:i < as.length:=by rw[h.n];exact aq e
 have ea:=Iy hi;exact⟨_,ea,by rw[IJ,ea];rfl,h.r i _ r ea e⟩
abbrev sg (σ:L2.St) (i:Nat) (v:V):Prop:=σ[i]?=some (some v)
inductive Fg (K:Fg06) (D0:U4) (σ:L2.St) (H:Hp):Prop
 | mk S a r n:sg σ 1 (.ref a)->sg σ 2 (.str n)->jB K H S a r->(∀d v t L H',r.tag="object"->r.fs.lookup n=some d->ak H H'->H L=none->H' t=some (.tup [.ref L,.bb])->H' L=some (.lst [v])->At K H' d v->D0.rt (.ref t) H')->((r.tag="object"->r.fs.lookup n=none)->D0.nx σ H)->Fg K D0 σ H
inductive tOh (K:Fg06) (σ:L2.St) (H:Hp) (Q:VK):Prop
 | mk S a r:sg σ 1 (.ref a)->jB K H S a r->(∀l H',ak H H'->H' l=some (.lst ((if r.tag="object"\/r.tag="class"\/r.tag="view" then r.js else []).map fun j=>V.int (j:Nat)))->Q (.ref l) H')->tOh K σ H Q
inductive tOw (K:Fg06) (σ:L2.St) (H:Hp) (Q:VK):Prop
 | mk S a r:sg σ 1 (.ref a)->jB K H S a r->(r.tag="object"\/r.tag="class"\/r.tag="view")->(∀v H',ak H H'->(match jP r with | none=>v=.bb | some w=>At K H' w v)->Q v H')->tOw K σ H Q
inductive xJ (K:Fg06) (c:fo) (vs:List V) (H:Hp) (Q:VK) (E:XK):Prop
 | mk wp q ps os rs as ms B (i:Nat) a r n:vs=[.ref q.T,.ref a,.str n]->eX K c H wp q ps os rs as ms->eV B os rs ms->rs[i]?=some r->as[i]?=some a->(∀t L us ow H',ak H H'->H L=none->H' t=some (.tup [.ref L,ow])->H' L=some (.lst us)->GF K H' (lQ rs r n) us ow->Q (.ref t) H')->xJ K c vs H Q E
theorem ux:aQ ["_law_there","_law_one","_law_name","_law_order_here","_law_k","_law_owner"] ["_law_there","_law_one","_law_name"] (aC B1):=gp
theorem Ds (F:fm K "_law_due" "_law_due" B1 f fd):bK P w K mg base fq 1 f fd ["_law_there","_law_one","_law_name"] (xJ K c):=by
 refine F.gB ux fun UO A outer s H vs Q E hr h=>?_;obtain⟨wp,q,ps,os,rs,as,ms,B,i,a,r,n,rfl,hS,hM,e,ea,k⟩:=h;refine⟨_,(aa (gs (t':=Fg K) (bo (LW.pt (fE (fR cP (cV K (pv 1) ag) aj) (d6 (L3.sI (fI hr) (pv 2) (cV K (pv 1) ag))))) (ah (aJ (ba (cq (aY (cy (L3.gQ (fI hr) (cV K (pv 1) ag) (pv 2)))) cE)))) aP) ?d0)
   (aa (eG 3 ux.nd (cS (t':=tOh K) (bC (cp (sQ hr) (cV K (pv 1) ag) (ba (kN aj aj aj)) rfl) (cV K (pv 1) ag) (aY bc)) ?oh))
   (aa (cL IW rfl (bL (pv 3)) (ip 4 ux.nd) (ah (bo (L3.sI (fI hr) (pv 2) (cV K (cV K (pv 0) (pv 4)) ag))
     (aa (eG 5 ux.nd (cS (t':=tOw K) (L3.gQ (fI hr) (L3.jo (L3.eU aj (cV K (pv 1) ag) (L3.eU aj (cV K (pv 1) ag) (L3.eU aj cE L3.jm)))) (cV K (pv 1) ag)) ?ow))
     (ah (aJ (ba (cq (aY (cy (L3.gQ (fI hr) (cV K (cV K (pv 0) (pv 4)) ag) (pv 2)))) (pv 5)))))) aP)))
   (ah (aJ (ba (cq (aY bc) cE))))))),?main⟩
 case d0=>
  rintro D0 σ H ⟨S,a,r,n,e1,e2,hR,k1,k2⟩;obtain⟨v1,v2,sq,JE,JT⟩:=hR.ix;obtain⟨UM,hk,_,JU⟩:=hR.d;refine⟨_,e1,a,_,_,.str r.tag,rfl,rfl,sq,aw (j:=0) rfl,rfl,_,rfl,bJ (fun e0=>?_) (fun e0=>bu (k2 fun ht=>Vi (Vj V.str ht) (U7 e0)))⟩;have ht:r.tag="object":=V.str.inj (IZ e0);refine⟨_,e2,_,e1,a,_,_,.ref r.dl,rfl,rfl,sq,aw (j:=4) rfl,r.dl,_,rfl,gM.k (k:=.inr n) hk,_,rfl,?_⟩;rcases JU n with ⟨g1,g2⟩ | ⟨d,v,g1,g2,hA⟩
  ·rw[g2];exact bu (k2 fun _=>g1)
  ·rw[g2];refine cC ⟨_,e1,a,_,_,.ref r.dl,rfl,rfl,sq,aw (j:=4) rfl,_,e2,r.dl,v,rfl,by rw[<-g2];exact gM.k (k:=.inr n) hk,pY,fun L hL=>⟨jC,fun t ht'=>?_⟩⟩;have s1:=ab hL (.lst [v]);have s2:=ab ht' (.tup [.ref L,.bb]);exact k1 d v t L _ ht g1 (s1.trans s2) hL ae (s2 _ _ ae) (At.same (s1.trans s2) _ _ hA)
 case oh=>
  rintro σ H Q ⟨S,a,r,e1,hR,k⟩;obtain⟨v1,v2,sq,JE,JT⟩:=hR.ix;refine⟨_,e1,a,_,_,.str r.tag,rfl,rfl,sq,aw (j:=0) rfl,En,fun t ht=>?_⟩;have s1:=ab ht (.tup [.str "object",.str "class",.str "view"]);have a1:At K (U1 H t (.tup [.str "object",.str "class",.str "view"])) (.tup [.str "object",.str "class",.str "view"]) (.ref t):=At.new ht (tY (aH.mpr rfl) (aH.mpr rfl) (aH.mpr rfl));refine⟨.str r.tag,_,aH.mpr rfl,a1,fun e he=>?_,?_⟩
  ·simp only[List.mem_cons,List.not_mem_nil,or_false] at he;rcases he with rfl | rfl | rfl<;>(rw[cK];decide)
  rw[IH IP];have ha:([D.str "object",.str "class",.str "view"].any fun e=>cm e (.str r.tag))=decide (r.tag="object"\/r.tag="class"\/r.tag="view"):=by
   rw[Bool.eq_iff_iff,decide_eq_true_eq];simp only[List.any_cons,List.any_nil,Bool.or_false,Bool.or_eq_true,cm,beq_iff_eq];exact⟨fun h=>h.imp Eq.symm (Or.imp Eq.symm Eq.symm),fun h=>h.imp Eq.symm (Or.imp Eq.symm Eq.symm)⟩
  rw[ha];refine⟨_,rfl,bJ (fun e0=>?_) (fun e0=>?_)⟩
  ·have e0:=IZ e0;rw[II e0] at k;exact⟨_,e1,a,_,_,.ref r.ol,rfl,rfl,s1.seq sq,aw (j:=3) rfl,k r.ol _ s1 (s1 _ _ hR.o)⟩
  ·have e0:=U7 e0;rw[IH e0] at k;exact⟨Je _,fun l hl=>k l _ (s1.trans (ab hl _)) ae⟩
 case ow=>
  rintro σ H Q ⟨S,a,r,e1,hR,ht,k⟩;obtain⟨v1,v2,sq,JE,JT⟩:=hR.ix;intro p hp;have s1:=ab hp (.dK []);refine⟨_,e1,a,_,_,v1,rfl,rfl,s1.seq sq,aw (j:=1) rfl,_,e1,a,_,_,v2,rfl,rfl,s1.seq sq,aw (j:=2) rfl,ae,[(.inr "object",v1),(.inr "view",v2),(.inr "class",.bb)],rfl,by show 3<=15;decide,?_⟩;have s2:ak H (U1 (U1 H p (.dK [])) p (.dK (dJ [] [(.inr "object",v1),(.inr "view",v2),(.inr "class",.bb)]))):=by rw[ub];exact ab hp _
  have e2:U1 (U1 H p (.dK [])) p (.dK (dJ [] [(.inr "object",v1),(.inr "view",v2),(.inr "class",.bb)])) p=some (.dK [(.inr "object",v1),(.inr "view",v2),(.inr "class",.bb)]):=ae;generalize U1 (U1 H p (.dK [])) p (.dK (dJ [] [(.inr "object",v1),(.inr "view",v2),(.inr "class",.bb)]))=H2 at s2 e2 ⊢;refine⟨_,e1,a,_,_,.str r.tag,rfl,rfl,s2.seq sq,aw (j:=0) rfl,p,?_⟩;have g:=gM.k (k:=.inr r.tag) e2;rw[fU,fU,fU] at g;unfold jP at k;rcases ht with ht | ht | ht
  ·rw[ht] at g k;rw[II rfl] at g k;exact⟨v1,rfl,by rw[ht];exact g,k v1 _ s2 (At.same s2 _ _ JE)⟩
  ·rw[ht] at g k;rw[IH (gZ "object" "class"),IH (gZ "view" "class"),II rfl] at g;rw[IH (gZ "class" "object"),IH (gZ "class" "view")] at k;exact⟨.bb,rfl,by rw[ht];exact g,k .bb _ s2 rfl⟩
  ·rw[ht] at g k;rw[IH (gZ "object" "view"),II rfl] at g;rw[IH (gZ "view" "object"),II rfl] at k;exact⟨v2,rfl,by rw[ht];exact g,k v2 _ s2 (At.same s2 _ _ JT)⟩
 case main=>
  have hR:=hS.r i a r ea e;refine⟨_,a,r,n,rfl,rfl,hR,fun d v t L H1 ht hf s1 h0 h1 h2 h3=>?_,fun RB=>?_⟩
  ·refine k t L _ _ H1 s1 h0 h1 h2 ?_;unfold lQ;rw[II ht,hf];exact⟨⟨v,rfl,h3⟩,rfl⟩
  have e0:(if r.tag="object" then r.fs.lookup n else none)=none:=by
   split
   ·rename_i ht;exact RB ht
   ·rfl
  have ed:lQ rs r n=(lN rs n r.js).map fun d=>(d,jP r):=by unfold lQ;rw[e0]
  rw[ed] at k;refine⟨_,a,r,rfl,hR,fun l H1 s1 hl=>?_⟩;have hj:(if r.tag="object"\/r.tag="class"\/r.tag="view" then r.js else [])=r.js:=by
   split
   ·rfl
   ·rename_i ht;cases (hM.rw i r e).1 with
    | cl=>exact Vi (.inr (.inl rfl)) ht
    | ob=>exact Vi (.inl rfl) ht
    | vw=>exact Vi (.inr (.inr rfl)) ht
    | _=>rfl
  have M8:r.js≠[]->(r.tag="object"\/r.tag="class"\/r.tag="view"):=fun JK=>by
   cases (hM.rw i r e).1 with
   | cl=>exact .inr (.inl rfl)
   | ob=>exact .inl rfl
   | vw=>exact .inr (.inr rfl)
   | _=>exact Vi rfl JK
  rw[hj] at hl;have JN:=hS.same s1;have hR1:=JN.r i a r ea e;refine⟨_,rfl,l,rfl,⟨_,aS.of hl⟩,hZ (K:=K) (a:=l) (xs:=r.js.map fun j=>V.int (j:Nat)) (fun m σ H'=>(∃o4,σ=[some (.ref q.T),some (.ref a),some (.str n),some (.ref l),o4,none])/\H'=H1/\∀j,j < m->∀x,r.js[j]?=some x->(Er rs[x]?).lookup n=none) ⟨⟨_,rfl⟩,rfl,fun j hj=>Vi hj (Nat.not_lt_zero _)⟩ (fun _ σ H' _ h=>h.2.1▸aS.of hl) ?t ?s⟩
  case s=>
   rintro σ H' ⟨⟨o4,rfl⟩,rfl,OZ⟩;rw[IC] at OZ;rw[lM rs n r.js _ OZ,List.drop_eq_nil_of_le (IE _)] at k;refine⟨Je _,fun L hL=>⟨jC,fun t ht=>?_⟩⟩;have s3:=ab ht (.tup [.ref L,.bb]);exact k t L [] .bb _ ((s1.trans (ab hL _)).trans s3) (none_of s1 hL) ae (s3 _ _ ae) ⟨rfl,rfl⟩
  case t=>
   rintro m u σ H' hu ⟨⟨o4,rfl⟩,rfl,OZ⟩;rw[IJ] at hu;cases hx:r.js[m]? with
   | none=>rw[hx] at hu;cases hu
   | some x=>
    rw[hx] at hu;cases hu;have JK:r.js≠[]:=fun y=>by rw[y] at hx;cases hx
    obtain⟨ns,Kk⟩:=(hM.rw i r e).1.js;obtain⟨r',_,e',_⟩:=Kk.row (IG hx);obtain⟨a',Kx,Kf,J8⟩:=JN.at e';obtain⟨w1,w2,Ky,_,_⟩:=J8.ix;obtain⟨UM,hk,_,JU⟩:=J8.d;refine⟨_,rfl,_,rfl,_,rfl,q.T,_,_,.ref a',rfl,rfl,aS.of JN.t,aw Kf,a',_,_,.ref r'.dl,rfl,rfl,Ky,aw (j:=4) rfl,r'.dl,_,rfl,gM.k (k:=.inr n) hk,_,rfl,?_⟩;rcases JU n with ⟨g1,g2⟩ | ⟨d,v,g1,g2,hA⟩
    ·rw[g2];refine bu ⟨⟨_,rfl⟩,rfl,fun j hj y hy=>?_⟩;by_cases ej:j=m
     ·subst ej;rw[hx] at hy;cases hy;rw[e'];exact g1
     ·exact OZ j (by omega) y hy
    ·rw[g2];have hm:m < r.js.length:=aq hx;have ef:lN rs n r.js=some d:=by
      rw[lM rs n r.js m OZ,List.drop_eq_getElem_cons hm];have:r.js[m]=x:=by rw[Iy hm] at hx;cases hx;rfl
      rw[this];show(match (Er rs[x]?).lookup n with | some d=>some d | none=>_)=_;rw[e'];show(match r'.fs.lookup n with | some d=>some d | none=>_)=_;rw[g1]
     rw[ef] at k;refine cC ⟨_,a,r,rfl,hR1,M8 JK,fun ow H2 s2 how=>?_⟩;have JD:=JN.same s2;obtain⟨a2,Ue,er2,hR2⟩:=JD.at e';rw[Kx] at Ue;cases Ue;obtain⟨z1,z2,sq2,_,_⟩:=hR2.ix;refine⟨_,rfl,_,rfl,q.T,_,_,.ref a',rfl,rfl,aS.of JD.t,aw Kf,a',_,_,.ref r'.dl,rfl,rfl,sq2,aw (j:=4) rfl,_,rfl,r'.dl,v,rfl,by rw[<-g2];exact gM.k (k:=.inr n) (s2 _ _ hk),pY,fun L hL=>⟨_,rfl,jC,fun t ht=>?_⟩⟩;have s3:=ab hL (.lst [v]);have s4:=ab ht (.tup [.ref L,ow]);refine k t L [v] ow _ (((s1.trans s2).trans s3).trans s4) (none_of (s1.trans s2) hL) ae (s4 _ _ ae) ⟨⟨v,rfl,At.same ((s2.trans s3).trans s4) _ _ hA⟩,?_⟩;cases ho:jP r with
     | none=>rw[ho] at how;exact how
     | some w=>rw[ho] at how;exact At.same (s3.trans s4) _ _ how
end
section
variable {X:Cx}
def Fq (X:Cx):R2:=fun x y H Q=>∃p xs d ds,y=.ref p/\aS X.K H p xs/\aE X.K H ds xs/\At X.K H d x/\(∀e∈ds,dep e<=40)/\Q (.bl (ds.any fun e=>cm e d)) H
theorem Ak {k}(hr:cZ k X.A):ie X (compareOp .In) (Fq X):=by
 intro UL s σ H x y v u Q I rx ry h;obtain⟨p,xs,d,ds,rfl,hp,ha,hx,hd,q⟩:=h;cases ry;obtain⟨UN,r,pl,hz⟩:=I.list hp;obtain⟨f,f1,f2⟩:=yH I rx hx ha r X.A.in1 (fun e he=>by have:=hr.units;have:=hd e he;show X.A.units+1+_ < _;omega);refine SeqAt.in_listAt f pl.isList (fun w hw=>f1 w (by simpa using hw)) ⟨.bl _,H,I,rfl,?_⟩;rw[show UN.toArray.any f=UN.any f by simp,f2];exact q
def nz (K:Fg06):R2:=fun x y H Q=>∃d e,At K H d x/\At K H e y/\dep d<=60/\Q (.bl (cm d e)) H
theorem gW {k}(hr:cZ k X.A):ie X (compareOp .Eq) (nz X.K):=yu hr
def xZ (K:Fg06):R2:=fun x y H Q=>∃p xs d ds,y=.ref p/\aS K H p xs/\aE K H ds xs/\At K H d x/\(∀e∈ds,dep e<=40)/\Q (.bl (ds.any fun e=>cm e d)) H
theorem uF {k}(hr:cZ k X.A):ie X (compareOp .In) (xZ X.K):=Ak hr
end
def fb:Rw:=⟨"",.bb,.bb,[],0,0,[],false⟩
theorem cg {α}{xs:List α}{i:Nat} {x d}(h:xs[i]?=some x):xs.getD i d=x:=by rw[Iz,h];rfl
theorem some_of {α}{xs:List α}{i:Nat} (d) (h:i < xs.length):xs[i]?=some (xs.getD i d):=by rw[Iz,Iy h];rfl
abbrev B4:Stmt:=cB 81
def Sz (wp:Wp) (q:Lp):List Addr:=[wp.l,q.T,q.M]
theorem Sz.l {wp q}:wp.l∈Sz wp q:=Ir
theorem Sz.T {wp q}:q.T∈Sz wp q:=Iq _ Ir
theorem Sz.M {wp q}:q.M∈Sz wp q:=Iq _ (Iq _ Ir)
theorem mv.wk {wp q H H'}(h:mv (Sz wp q) H H'):mv (Sy wp q) H H':=fun p o e h1 h2=>h p o e (fun y=>h1 (by
 unfold Sz at y;simp only[List.mem_cons,List.not_mem_nil,or_false] at y;rcases y with rfl | rfl | rfl
 ·exact Sy.l
 ·exact Sy.T
 ·exact Sy.M)) h2
theorem eX.nb {K c H wp q ps os rs as ms}(h:eX K c H wp q ps os rs as ms):q.b∉Sz wp q:=fun y=>by
 unfold Sz at y;simp only[List.mem_cons,List.not_mem_nil,or_false] at y;rcases y with y | y | y
 ·exact h.sb.1 y
 ·exact h.yC y.symm
 ·exact h.nMb y.symm
theorem Gm {a:Str} {d n}(h:dep d<=n):dep (.tup [.str a,d])<=n+1:=by
 rw[GS.dep,cJ,cJ,cJ,cK];omega
theorem DX {B os rs ms}(h:eV B os rs ms){i:Nat} {r}(e:rs[i]?=some r) {n d o}(hd:lQ rs r n=some (d,o)):Vd os d/\∀w,o=some w->∃x,w=aU x/\x < os.length:=by
 have hr:=(h.rw i r e).1;have own:∀w,jP r=some w->∃x,w=aU x/\x < os.length:=fun w hw=>by
  unfold jP at hw;cases hr with
  | ob k q d fs nm ns d' Js js ol dl h1 h2 h3=>rw[II rfl] at hw;cases hw;exact⟨k,rfl,aq h1⟩
  | vw k q o j d fs nm ns d' Js js ol dl h1 h2 h3 h4=>rw[IH (gZ "view" "object"),II rfl] at hw;cases hw;exact⟨o,rfl,aq h2⟩
  | cl=>rw[IH (gZ "class" "object"),IH (gZ "class" "view")] at hw;cases hw
  | fn=>rw[IH (gZ "function" "object"),IH (gZ "function" "view")] at hw;cases hw
  | mt=>rw[IH (gZ "method" "object"),IH (gZ "method" "view")] at hw;cases hw
  | gr=>rw[IH (gZ "giver" "object"),IH (gZ "giver" "view")] at hw;cases hw
  | gn=>rw[IH (gZ "given" "object"),IH (gZ "given" "view")] at hw;cases hw
  | pl=>rw[IH (gZ "plain" "object"),IH (gZ "plain" "view")] at hw;cases hw
 unfold lQ at hd;split at hd
 ·rename_i d0 Lr;cases hd;split at Lr
  ·rename_i ht;obtain⟨k,q,dd,nm,ns,d',Js,_,_,h1,_⟩:=hr.obj ht;exact⟨(h.wf.o k q dd r.fs h1).2 n d Lr,fun w hw=>nomatch hw⟩
  ·cases Lr
 ·cases hf:lN rs n r.js with
  | none=>rw[hf] at hd;cases hd
  | some d0=>
   rw[hf] at hd;cases hd;obtain⟨ns,hj⟩:=hr.js;rw[qr h hj] at hf;exact⟨jw h.wf hf,own⟩
theorem ud {os u i}(h:Vd os u) (hi:os.length<=i):cm u (aU i)=false:=by
 rcases h.cases with ⟨j,rfl,hj⟩ | ⟨x,r,rfl,hx,_⟩
 ·rw[qu];exact Iv (by omega)
 ·unfold aU;cases e:cm (.tup (.str x::r)) (.tup [.str "thing",.int (i:Nat)]) with
  | false=>rfl
  | true=>
   simp only[cm,fX,Bool.and_eq_true] at e;exact Vi (eq_of_beq e.1) hx
def oI (rs:List Rw) (d:D) (i:Nat):Bool:=decide ((rs.getD i fb).tag="function")&&cm (rs.getD i fb).val d
theorem eV.dep {B os rs ms}(h:eV B os rs ms){i:Nat} {r}(e:rs[i]?=some r):GS.dep r.val<=1:=(h.rw i r e).1.vd.2
theorem zm {B os rs ms}(h:eV B os rs ms) {d i}(hd:Vd os d) (hi:i < rs.length) (hb:oI rs d i=true):∃r k g,rs[i]?=some r/\d=aU k/\os[k]?=some (.fn g)/\r.two=.str g.nm:=by
 have e:=some_of fb hi;unfold oI at hb;rw[Vh,decide_eq_true_eq] at hb;generalize rs.getD i fb=r at hb e;obtain⟨ht,hv⟩:=hb;have hr:=(h.rw i r e).1;cases hr with
 | fn k g ol dl h1=>exact⟨_,k,g,e,uV hd hv,h1,rfl⟩
 | _=>dsimp only at ht;exact Vi ht (by decide +kernel)
theorem AL {B os rs ms}(h:eV B os rs ms) {k g}(hk:os[k]?=some (.fn g)):∃i,i∈(List.range rs.length).filter (oI rs (aU k)):=by
 obtain⟨_,_,i,r,e,z⟩:=h.fn k g hk;refine⟨i,Jp.mpr ⟨List.mem_range.mpr (aq e),?_⟩⟩;unfold oI;rw[cg e,show r.tag="function" from Vj Prod.fst z,show r.val=aU k from Vj Prod.snd z,cI];decide +kernel
theorem uW {B os rs ms}(h:eV B os rs ms) {d}(hd:Vd os d) (hn:∀k g,d=aU k->os[k]?≠some (.fn g)):(List.range rs.length).filter (oI rs d)=[]:=by
 refine List.filter_eq_nil_iff.mpr fun i hi hb=>?_;obtain⟨r,k,g,_,h1,h2,_⟩:=zm h hd (List.mem_range.mp hi) hb;exact hn k g h1 h2
theorem Av (x:Str):jn "method" x=("method ":Str)++x:=by
 unfold jn;rw[show Str.empty++("method":Str)++(" ":Str)=("method ":Str) by decide +kernel]
section
variable {P:Program}{w:World}{K:Fg06}{mg:Str->Option Value}{base:Heap}{f:Addr}{fd:FuncData}{c:fo}
inductive sDf (K:Fg06) (c:fo) (D0:U4) (σ:L2.St) (H:Hp):Prop
 | mk wp q ps os rs as ms B L v d:sg σ 1 (.ref q.T)->sg σ 5 (.ref L)->eX K c H wp q ps os rs as ms->eV B os rs ms->H L=some (.lst [v])->At K H d v->rs.length<=300->(∀D H',ak H H'->H D=none->H' D=some (.lst (((List.range rs.length).filter (oI rs d)).map fun i=>V.ref (as.getD i 0)))->D0.nx (σ.set 8 (some (.ref D))) H')->sDf K c D0 σ H
inductive sMr (K:Fg06) (c:fo) (D0:U4) (σ:L2.St) (H:Hp):Prop
 | mk wp q ps os rs as ms B D (kk kf x i0:Nat) g a0 r0 rf dl:sg σ 1 (.ref q.T)->sg σ 4 (.ref q.M)->sg σ 7 rf->sg σ 8 (.ref D)->eX K c H wp q ps os rs as ms->eV B os rs ms->At K H (AY (aU kk)) rf->os[kk]?=some (.mt kf x)->os[kf]?=some (.fn g)->H D=some (.lst (.ref a0::dl))->rs[i0]?=some r0->as[i0]?=some a0->r0.two=.str g.nm->(∀(i:Nat) r',rs[i]?=some r'->r'.val≠aU kk)->rs.length<=300->(∀H' rx ax,bw q.T H H'->eX K c H' wp q ps os (rs++rx) (as++ax) ms->eV B os (rs++rx) ms->rx.length<=1->(40<=rs.length->rx=[])->D0.nx σ H')->sMr K c D0 σ H
inductive uw (K:Fg06) (c:fo) (vs:List V) (H:Hp) (Q:VK) (E:XK):Prop
 | mk wp q ps os rs as ms B (i:Nat) a r n:vs=[.ref wp.W,.ref q.T,.ref a,.str n,.ref q.M]->eX K c H wp q ps os rs as ms->eV B os rs ms->rs[i]?=some r->as[i]?=some a->os.length<=850->rs.length<=300->ms.length<=850->(∀H' JJ Jw rx ax JZ,mv (Sz wp q) H H'->eX K c H' wp q JJ Jw (rs++rx) (as++ax) JZ->eV B Jw (rs++rx) JZ->Jw.length<=os.length+1->JZ.length<=ms.length+1->rx.length<=1->(40<=rs.length->rx=[])->Q (.bl true) H')->uw K c vs H Q E
theorem oZ:aQ ["_law_world","_law_there","_law_one","_law_name","_law_methods","_law_value","_law_owner","_law_found","_law_defs","_law_begins"] ["_law_world","_law_there","_law_one","_law_name","_law_methods"] (aC B4):=gp
theorem Dx (g:Glb9 mg) (F:fm K "_law_asked" "_law_asked" B4 f fd) (dD:Def P w K mg base "_law_due" ["_law_there","_law_one","_law_name"] 1 (xJ K c)) (dF:Def P w K mg base "field_of" ["world","a","name"] 6 (ur K c)) (dC:Def P w K mg base "called" ["world","a","values"] 8 (iP K c)) (dX:Def P w K mg base "text_of" ["world","a"] 3 (mZ K c)):bK P w K mg base fq 9 f fd ["_law_world","_law_there","_law_one","_law_name","_law_methods"] (uw K c):=by
 refine F.gB oZ fun UO A outer s H vs Q E hr h=>?_;obtain⟨wp,q,ps,os,rs,as,ms,B,i,a,r,n,rfl,hS,hM,e,ea,lo,lr,lm,k⟩:=h;refine⟨_,(aa (gu (cM dD (kN (pv 1) (pv 2) (pv 3))) (fT rfl (cb (ip 5 oZ.nd) (cb (ip 6 oZ.nd) eJ))))
   (aa (eG 7 oZ.nd (cM dF (kN (pv 0) (cV K (pv 2) ag) (pv 3))))
   (aa (bo (fR (kq hr) (pv 5) (aY bc)) (ah (aJ (qM (r:=nz K) (gW hr) (pv 7) (ba (cq aj aj))))) aP)
   (aa (gs (t':=sDf K c) (.mk (L2.dq (iy:=8) (cl:=[("_law_value",s.heap.objs.size+1)]) (Xs:=["_law_other"]) (Nf:=["_law_value"]) (js:=[5]) ?k1 rfl (LI.out (bL (pv 1))) (fun C s0 H0 fp=>LG.out (ip 0 (show(["_law_other","_law_value"]:List Str).Nodup by decide +kernel))) (fun C s0 H0 fp=>fJ (LT.out (LW.pt (fE (fR cP (cV K (pv 0) ag) aj) (d6 (fR (r:=nz K) (gW hr) (cV K (pv 0) ag) (cV K (pv 1) ag))))))) (fun C s0 H0 fp=>LE.out (pv 0)) oZ.nd rfl (Or.inl rfl))) ?df)
   (aa (bo (LW.pt (gk (fR nF (pv 6) cE) (fg (fR (kq hr) (pv 8) (aY bc))))) (ah (aJ (qM (r:=nz K) (gW hr) (pv 7) (ba (cq aj (cV K (pv 5) ag)))))) aP)
   (aa (bo (LW.pt (gk (fR pe (cF (pv 7)) aj) (gk (cp (r:=xZ K) (uF hr) (cF (pv 7)) (.mk (L2.cG (cl:=[]) (Xs:=["_law_other"]) (Nf:=[]) (js:=[]) ?k2 rfl (LI.out (bL (pv 1))) (fun C s0 H0 fp=>LG.out (ip 0 (show(["_law_other"]:List Str).Nodup by decide +kernel))) (fun C s0 H0 fp=>eY) (fun C s0 H0 fp=>LE.out (cV K (pv 0) ag)))) rfl) (fg (cp (r:=xZ K) (uF hr) (cF (pv 7)) (pv 4) rfl))))) (ah cQ) aP)
   (aa (bT (dQ Jb Jc Jd cf (pv 4) (cy (cF (pv 7)))))
   (aa (eG 9 oZ.nd (cM dC (kN (pv 0) (cF (pv 7)) (ba bc))))
   (aa (gs (t':=sMr K c) (bo (LW.pt (fE (fR ph (au az rfl g.dH bW (cy (pv 1))) ag) (d6 (fR cP (aB br (au az rfl g.dH bW (cy (pv 4))) ag) ag)))) (ah (bT (dQ Jb Jc Jd cf (pv 1) (cy (aY (aI aj (mi (cF (pv 7)) (cV K (cV K (pv 8) ag) ag) (aY bc) bV))))))) aP) ?mr)
   (ah (aJ (fh (qM cP (cM dX (cq (pv 0) (cF (pv 7)))) (aB cY aj (cV K (cV K (pv 8) ag) ag))) (d9 (qM (r:=nz K) (gW hr) (pv 9) (ba (kN aj (cV K (pv 5) ag) (ba (cy (pv 6))))))))))))))))))),?main⟩
 case k1=>exact qB
 case k2=>exact Gq
 case df=>
  rintro D0 σ H ⟨wp,q,ps,os,rs,as,ms,B,L,v,d,e1,e5,hS,hM,hL,hv,lr,k⟩;have hn:=hS.n;have lm:(as.map V.ref).length=rs.length:=by rw[IC];exact hn
  refine⟨_,e1,q.T,rfl,⟨_,aS.of hS.t⟩,[.ref L],⟨rfl,fun j i h=>?_⟩,bM (vs:=[.ref L]) (as.map V.ref).length (fun i=>(as.map V.ref).getD i .bb) (oI rs d) (fun i v _=>v=.ref (as.getD i 0)) (fun _ _ _ _ _ z=>z) (by omega) (ee (aS.of hS.t)) (gx (aS.of hS.t)) (fw (aS.of hS.t)) (fun i H2 Q' hi s2 k2=>?_) (fun i H2 D l' Q' hi _ s2 _ _ k2=>?_) fun D H2 ys hD s2 JF hP=>?_⟩
  ·match j,h with
   | 0,h=>cases h;exact⟨_,rfl,e5⟩
   | j+1,h=>simp at h
  ·have e:=some_of fb (show i < rs.length by omega);obtain⟨a,ea,er,hR⟩:=(hS.same s2).at e;obtain⟨v1,v2,sq,JE,JT⟩:=hR.ix;rw[cg er];have hdp:=hM.dep e;refine⟨_,rfl,a,_,_,.str (rs.getD i fb).tag,rfl,rfl,sq,aw (j:=0) rfl,rfl,_,rfl,?_⟩;have k2:∀H3,ak H2 H3->Q' (decide ((rs.getD i fb).tag="function")&&cm (rs.getD i fb).val d) H3:=k2;rw[rQ];refine bJ (fun e0=>?_) (fun e0=>?_)
   ·rw[e0] at k2;exact⟨_,rfl,a,_,_,v1,rfl,rfl,sq,aw (j:=1) rfl,_,rfl,L,_,_,v,rfl,rfl,aS.of (s2 _ _ hL),aw (j:=0) rfl,_,d,JE,At.same s2 _ _ hv,by omega,_,rfl,k2 _ (ak.refl _)⟩
   ·rw[e0] at k2;exact k2 _ (ak.refl _)
  ·have ei:(as.map V.ref).getD i .bb=.ref (as.getD i 0):=by
    have KN:i < as.length:=by rw[IC] at hi;exact hi
    rw[Iz,IJ,Iz,Iy KN];rfl
   exact⟨_,rfl,k2 _ _ (ak.refl _) ei⟩
  ·refine k D H2 s2 hD ?_;rw[JF,hP.eq,lm]
 case main=>
  have J9:∀H',ak H H'->Q (.bl true) H':=fun H' s'=>k H' ps os [] [] ms (ak.iD s') (by rw[Jf,Jf];exact hS.same s') (by rw[Jf];exact hM) (Nat.le_succ _) (Nat.le_succ _) (Je _) (fun _=>rfl);refine⟨_,rfl,_,rfl,_,rfl,wp,q,ps,os,rs,as,ms,B,i,a,r,n,rfl,hS,hM,e,ea,fun t L us ow H1 s1 Oi ht hL hD=>?_⟩;have JN:=hS.same s1;obtain⟨v1,v2,sq,JE,JT⟩:=(JN.r i a r ea e).ix;refine⟨t,_,rfl,gq.of ht,rfl,_,_,rfl,_,_,rfl,rfl,?_⟩;refine⟨_,rfl,_,rfl,a,_,_,v1,rfl,rfl,sq,aw (j:=1) rfl,_,rfl,wp,ps,os,gS,[],[],v1,r.val,n,rfl,JN.w,hM.wf,by omega,JE,(hM.rw i r e).1.vd,?_⟩;have hF:=AH hM e n;cases Ny:lQ rs r n with
  | none=>
   rw[Ny] at hF hD;obtain⟨rfl,rfl⟩:=hD;have hF:(fZ os r.val n).1=.no:=hF;rw[hF];intro rf H2 s2 hf;refine⟨_,rfl,Je _,fun l3 J1=>⟨L,l3,[],rfl,rfl,aS.of ((s2.trans (ab J1 _)) _ _ hL),aS.of ae,_,rfl,cC ⟨_,rfl,jC,fun t4 S1=>?_⟩⟩⟩;have s3:=ab J1 (.lst []);have s4:=ab S1 (.tup [.str "fault",.str "FieldFault"]);refine⟨_,_,At.same (s3.trans s4) _ _ hf,At.new S1 (ck (aH.mpr rfl) (aH.mpr rfl)),by decide +kernel,?_⟩;rw[cI];exact J9 _ (((s1.trans s2).trans s3).trans s4)
  | some x=>
   obtain⟨d,o⟩:=x;obtain⟨Kg,Qr⟩:=DX hM e Ny;have Mx:=Kg.2;rw[Ny] at hF hD;obtain⟨⟨v,rfl,hv⟩,how⟩:=hD;have key:((fZ os r.val n).1=.val d/\(ow=.bb\/(ow≠.bb/\(List.range rs.length).filter (oI rs d)=[])))\/∃x kf g,At K H1 (aU x) ow/\x < os.length/\d=aU kf/\os[kf]?=some (.fn g)/\(fZ os r.val n).1=.ml kf/\(fZ os r.val n).2=x:=by
    cases o with
    | none=>exact .inl ⟨hF,.inl how⟩
    | some w=>
     obtain⟨x,rfl,hx⟩:=Qr w rfl;obtain⟨hF,hF2⟩:=(show(fZ os r.val n).1=tD os (some d)/\aU x=aU (fZ os r.val n).2 from hF);have how:At K H1 (aU x) ow:=how;have hF:(fZ os r.val n).1=(match iB os d with | some (.fn _)=>.ml (zR d) | _=>.val d):=hF;cases ho:iB os d with
     | none=>
      rw[ho] at hF;exact .inl ⟨hF,.inr ⟨how.mP,uW hM Kg fun k g h1 h2=>by rw[h1,bI,h2] at ho;cases ho⟩⟩
     | some o'=>
      obtain⟨kf,rfl,hk⟩:=iJ Kg ho;rw[ho] at hF;cases o' with
      | fn g1=>exact .inr ⟨x,kf,g1,how,hx,rfl,hk,hF,(cn hF2).symm⟩
      | _=>exact .inl ⟨hF,.inr ⟨how.mP,uW hM Kg fun k g h1 h2=>by rw[<-cn h1,hk] at h2;cases h2⟩⟩
   rcases key with ⟨hval,hc⟩ | ⟨x,kf,g1,how,hx,rfl,hk,Te,hm2⟩
   ·rw[hval];intro rf H2 s2 hf;refine⟨_,rfl,Je _,fun l3 J1=>⟨L,l3,[v],rfl,rfl,aS.of ((s2.trans (ab J1 _)) _ _ hL),aS.of ae,_,rfl,bu ?_⟩⟩;have s3:=s2.trans (ab J1 (.lst []));have Tz:=At.same (ab J1 (.lst [])) _ _ hf;generalize U1 H2 l3 (.lst [])=H3 at s3 Tz ⊢;refine⟨wp,q,ps,os,rs,as,ms,B,L,v,d,rfl,rfl,JN.same s3,hM,s3 _ _ hL,At.same s3 _ _ hv,lr,fun D H4 s4 P2 NN=>?_⟩;have Ka:=s3.trans s4;have Tx:=At.same s4 _ _ Tz;rcases hc with rfl | ⟨JK,Np⟩
    ·refine⟨_,rfl,rfl,true,rfl,cC (cC ⟨_,rfl,_,rfl,L,_,_,v,rfl,rfl,aS.of (Ka _ _ hL),aw (j:=0) rfl,jC,fun t6 OT=>?_⟩)⟩;have s6:=ab OT (.tup [.str "value",v]);refine⟨_,_,At.same s6 _ _ Tx,At.new OT (ck (aH.mpr rfl) (At.same Ka _ _ hv)),ID (Gm Mx) (by decide),?_⟩;show Q (.bl (cm (AY d) (AY d))) _;rw[cI];exact J9 _ ((s1.trans Ka).trans s6)
    ·rw[Np] at NN;refine⟨_,rfl,rfl,false,Vj V.bl (Iv JK),bu ⟨_,rfl,Je _,fun l5 Ms=>⟨D,l5,[],rfl,rfl,aS.of (ab Ms _ _ _ NN),aS.of ae,_,rfl,cC ?_⟩⟩⟩;have s5:=ab Ms (.lst []);refine⟨_,rfl,_,rfl,L,_,_,v,rfl,rfl,aS.of ((Ka.trans s5) _ _ hL),aw (j:=0) rfl,jC,fun t6 OT=>?_⟩;have s6:=ab OT (.tup [.str "value",v]);refine⟨_,_,At.same (s5.trans s6) _ _ Tx,At.new OT (ck (aH.mpr rfl) (At.same (Ka.trans s5) _ _ hv)),ID (Gm Mx) (by decide),?_⟩;show Q (.bl (cm (AY d) (AY d))) _;rw[cI];exact J9 _ (((s1.trans Ka).trans s5).trans s6)
   ·rw[Te,hm2];intro rf H2 p b2 w2 hf;have ln:=JN.w.n;have yy:=hM.yy;have JD:=JN.grow b2 w2 (fun d e=>nomatch e);have TX:eV B (os++[.mt kf x]) rs ms:=hM.add ⟨⟨g1,hk⟩,hx⟩ (Je _) (fun _ _ _ _ e=>nomatch e) (fun _ e=>nomatch e);have f2:Fx H1 H2:=b2.fx JN.w.t rfl;have nLl:L≠wp.l:=(cv hS.w.t Oi).symm;have RU:=b2 _ _ nLl hL;have JT:=At.fx f2 _ _ hv;have O7:=At.fx f2 _ _ how;have c2:mv (Sz wp q) H H2:=(ak.iD s1).trans (b2.iD Sz.l);have nLM:L≠q.M:=by obtain⟨_,hm,_⟩:=hS.m;exact(cv hm Oi).symm
    have nLT:L≠q.T:=(cv hS.t Oi).symm;clear b2 w2 f2 hL hv how sq;refine⟨_,rfl,Je _,fun l3 J1=>⟨L,l3,[v],rfl,rfl,aS.of (ab J1 _ _ _ RU),aS.of ae,_,rfl,bu ?_⟩⟩;have s3:=ab J1 (.lst []);generalize U1 H2 l3 (.lst [])=H3 at s3 ⊢;refine⟨wp,q,_,_,rs,as,ms,B,L,v,aU kf,rfl,rfl,JD.same s3,TX,s3 _ _ RU,At.same s3 _ _ JT,lr,fun D H4 s4 P2 NN=>?_⟩;have hMs:=(JD.same s3).m;have nDM:D≠q.M:=by obtain⟨_,hm,_⟩:=hMs;exact(cv hm P2).symm
    have nDT:D≠q.T:=(cv (JD.same s3).t P2).symm;cases Pr:(List.range rs.length).filter (oI rs (aU kf)) with
    | nil=>
     obtain⟨i',KN⟩:=AL hM hk;rw[Pr] at KN;cases KN
    | cons i0 rest=>
    have mem0:i0∈(List.range rs.length).filter (oI rs (aU kf)):=by rw[Pr];exact Ir
    obtain⟨hi0,hb0⟩:=Jp.mp mem0;obtain⟨r0,k',g',NT,Mu,Qx,M9⟩:=zm hM Kg (List.mem_range.mp hi0) hb0;have:=cn Mu;subst this;rw[hk] at Qx;cases Qx;obtain⟨a0,MH,_,_⟩:=hS.at NT;rw[Pr,Va,cg MH] at NN;have N2:=s3.trans s4;refine⟨_,rfl,rfl,false,Vj V.bl (Iv O7.mP),bu ⟨_,rfl,Je _,fun l5 Ms=>⟨D,l5,_,rfl,rfl,aS.of (ab Ms _ _ _ NN),aS.of ae,_,rfl,bu ?_⟩⟩⟩;have s5:=ab Ms (.lst []);generalize U1 H4 l5 (.lst [])=H5 at s5 ⊢;have MY:=N2.trans s5;have RI:=At.same MY _ _ hf;have J3:=JD.same MY;have lm:(as.map V.ref).length=rs.length:=by rw[IC];exact hS.n
    have l2:(os++[Th.mt kf x]).length=os.length+1:=by rw[Iu];rfl
    refine⟨_,rfl,0,_,_,rfl,RI,rfl,fun y0 h0=>?_⟩;rw[aH.mp h0];refine⟨rfl,false,by rw[Iw rfl];rfl,bu ⟨_,rfl,1,_,_,rfl,RI,rfl,fun y1 h1=>⟨_,rfl,q.T,rfl,⟨_,aS.of J3.t⟩,[],⟨rfl,fun j i h=>by simp at h⟩,bM (vs:=[]) (tc:=gN) (as.map V.ref).length (fun i=>(as.map V.ref).getD i .bb) (fun _=>true) (fun i v H'=>At K H' (rs.getD i fb).val v) (fun _ _ _ _ s z=>At.same s _ _ z) (by omega) (ee (aS.of J3.t)) (gx (aS.of J3.t)) (fw (aS.of J3.t)) (fun i H6 Q' hi s6 k6=>k6 H6 (ak.refl _)) (fun i H6 D' l' Q' hi _ s6 Lw KL k6=>?_) fun D6 H6 ys hD6 s6 Nt hP=>?_⟩⟩⟩
    ·obtain⟨a',Kx,Kf,J8⟩:=(J3.same s6).at (some_of fb (show i < rs.length by omega));obtain⟨u1,u2,Ky,Ks,_⟩:=J8.ix;rw[cg Kf];exact⟨_,rfl,a',_,_,u1,rfl,rfl,Ky,aw (j:=1) rfl,k6 _ _ (ak.refl _) (At.wo KL _ _ Ks)⟩
    have T7:=(hP.mono (fun i v z=>At.same (eB H6 D6) _ _ z)).at
    rw[U5.mpr (fun _ _=>rfl),lm,di rs fb (fun r=>r.val)] at T7;have an:((rs.map fun r=>r.val).any fun e=>cm e (aU os.length))=false:=List.any_eq_false.mpr fun e he=>by
     obtain⟨r',O0,rfl⟩:=Jq.mp he;obtain⟨j,hj⟩:=List.mem_iff_getElem?.mp O0;rw[ud (hM.rw j r' hj).1.vd (IE _)];exact IP
    have am:(ms.any fun e=>cm e (aU os.length))=false:=List.any_eq_false.mpr fun e he=>by
     obtain⟨j,rfl,hj⟩:=hM.m e he;rw[ud (Vd.th hj) (IE _)];exact IP
    have JI:=J3.same s6;have Oc:=At.same s6 _ _ RI;obtain⟨vsM,Pe,RZ⟩:=JI.m;have lvs:=RZ.len;refine⟨D6,ys,aU os.length,_,rfl,aS.of Nt,T7,At.same s6 _ _ h1,fun e he=>?_,_,rfl,?_⟩
    ·obtain⟨r',O0,rfl⟩:=Jq.mp he;obtain⟨j,hj⟩:=List.mem_iff_getElem?.mp O0;exact ID (hM.dep hj) (by decide)
    rw[an];refine bu ⟨_,rfl,1,_,_,rfl,Oc,rfl,fun y2 h2=>⟨_,rfl,q.M,vsM,aU os.length,ms,rfl,aS.of Pe,RZ,h2,fun e he=>?_,_,rfl,?_⟩⟩
    ·obtain⟨j,rfl,_⟩:=hM.m e he;rw[jg];decide
    rw[am];refine bu ⟨_,rfl,.inl ⟨rfl,_,aS.of Pe⟩,_,rfl,1,_,_,rfl,Oc,rfl,fun y3 h3=>⟨q.M,vsM,y3,rfl,rfl,Pe,bZ (by omega),?_⟩⟩;have PU:=JI.F2 Pe RZ h3;have b7:bw q.M H6 (U1 H6 q.M (.lst (vsM++[y3]))):=bw.put _ _;have Qk:=MY.trans s6;have f7:Fx H6 (U1 H6 q.M (.lst (vsM++[y3]))):=b7.fx Pe rfl;have TY:=b7 _ _ nLM (Qk _ _ RU);have L9:=b7 _ _ nDM ((s5.trans s6) _ _ NN);have c7:mv (Sz wp q) H (U1 H6 q.M (.lst (vsM++[y3]))):=(c2.trans (ak.iD Qk)).trans (b7.iD Sz.M);have Ob:=At.fx f7 _ _ Oc;have Qt:=At.fx f7 _ _ (At.same Qk _ _ JT);have S7:=At.fx f7 _ _ (At.same Qk _ _ O7);generalize U1 H6 q.M (.lst (vsM++[y3]))=H7 at PU TY L9 c7 Ob Qt S7 ⊢;refine⟨_,rfl,_,rfl,1,_,_,rfl,Ob,rfl,fun y4 h4=>⟨Je _,fun t8 OQ=>?_⟩⟩;have s8:=ab OQ (.tup []);refine iP.mt wp _ _ gS [] [] y4 (.ref t8) os.length kf x g1 rfl (PU.same s8).w (At.same s8 _ _ h4) bP (bN hk) (hM.fn kf g1 hk).1 (hM.fn kf g1 hk).2.1 (At.new OQ (aZ.mpr rfl)) fun rb H9 s9 hb=>?_;have LQ:=s8.trans s9;have PR:=PU.same LQ;have PZ:eV B (os++[.mt kf x]) rs (ms++[aU os.length]):=TX.mth rfl (by omega);refine⟨wp,q,_,_,rs,as,_,B,D,os.length,kf,x,i0,g1,a0,r0,rf,_,rfl,rfl,rfl,rfl,PR,PZ,At.same LQ _ _ Ob,bP,bN hk,LQ _ _ L9,NT,MH,M9,fun i r' e'=>hM.fresh e',lr,fun JL rx ax NW Kq NM lx Rb=>?_⟩;have ME:Fx H9 JL:=NW.fx PR.t rfl;have Kp:=At.fx ME _ _ (At.same LQ _ _ Ob);have P1:=NW _ _ nDT (LQ _ _ L9);have hL10:=NW _ _ nLT (LQ _ _ TY);obtain⟨z1,z2,sqz,hz1,LV⟩:=(Kq.r i0 a0 r0 (bN MH) (bN NT)).ix;rw[M9] at LV;obtain rfl:z2=.str g1.nm:=aH.mp LV;have Mr:g1.nm.length<=1000:=hM.nb kf _ hk;have l7:("method ":Str).length=7:=by decide +kernel
    have etx:wJ (os++[.mt kf x]) (aU os.length)=("method ":Str)++g1.nm:=by
     rw[gU bP];show jn "method" (Aq (os++[Th.mt kf x])[kf]?)=_;rw[bN hk];exact Av g1.nm
    refine⟨_,rfl,_,rfl,1,_,_,rfl,Kp,rfl,fun y5 h5=>⟨wp,_,_,gS,[],[],y5,aU os.length,rfl,Kq.w,NM.wf,NM.nb,h5,.th _ (by omega),⟨_,rfl,D,_,_,.ref a0,rfl,rfl,aS.of P1,aw (j:=0) rfl,a0,_,_,_,rfl,rfl,sqz,aw (j:=2) rfl,_,_,rfl,rfl,small (n:=("method ":Str).length+g1.nm.length) (by omega),rfl,true,Vj V.bl (Iw (Vj V.str etx)),cC ⟨_,rfl,_,rfl,L,_,_,v,rfl,rfl,aS.of hL10,aw (j:=0) rfl,_,rfl,pY,fun Ou OW=>⟨En,fun t12 OV=>?_⟩⟩⟩⟩⟩;have JY:=ab OW (.tup [ow]);have Jv:=JY.trans (ab OV (.tup [.str "enter",v,.ref Ou]));refine⟨_,_,At.same Jv _ _ (At.fx ME _ _ hb),At.new OV (tY (aH.mpr rfl) (At.same JY _ _ (At.fx ME _ _ (At.same LQ _ _ Qt))) (At.new OW (aE.mj (At.fx ME _ _ (At.same LQ _ _ S7))))),?_,?_⟩
    ·rw[GS.dep,cJ,cJ,cJ,cJ,cK,jg,GS.dep,cJ,cJ,jg];decide
    rw[cI];exact k _ _ _ rx ax _ (((c7.trans (ak.iD LQ)).trans (NW.iD Sz.T)).trans (ak.iD Jv)) (Kq.same Jv) NM (by omega) (by rw[Iu];exact IE _) lx Rb
 case mr=>
  rintro D0 σ H ⟨wp,q,ps,os,rs,as,ms,B,D,kk,kf,x,i0,g1,a0,r0,rf,dl,e1,e4,e7,e8,hS,hM,hf,hkk,hkf,hD,NT,MH,M9,RH,lr,k⟩;obtain⟨vsM,hm,hA⟩:=hS.m;have no:D0.nx σ H:=k H [] [] (fun p o _ e=>e) (by rw[Jf,Jf];exact hS) (by rw[Jf];exact hM) (Je _) (fun _=>rfl);have hn:=hS.n;refine⟨_,e1,q.T,_,rfl,.inl (aS.of hS.t),_,_,rfl,rfl,_,rfl,bJ (fun c1=>⟨_,e4,q.M,_,rfl,.inl (aS.of hm),_,_,rfl,rfl,cH,rfl,_,rfl,bJ (fun _=>?_) (fun _=>no)⟩) (fun _=>bu no)⟩;have c1:=IZ c1;rw[IC] at c1;have RR:=hS.r i0 a0 r0 MH NT;obtain⟨v1,v2,QV,JE,JT⟩:=RR.ix;rw[M9] at JT;refine⟨_,e1,.inl ⟨rfl,_,aS.of hS.t⟩,_,e7,1,_,_,rfl,hf,rfl,fun y hy=>⟨_,e8,D,_,_,.ref a0,rfl,rfl,aS.of hD,aw (j:=0) rfl,a0,_,_,v2,rfl,rfl,QV,aw (j:=2) rfl,Je _,fun ol J5 P7 Ku=>⟨Em,fun ar Kc=>?_⟩⟩⟩;have s1:=ab J5 (.lst []);have s2:=ab Ku (.dK []);have s3:=ab Kc (.lst [.str "method",y,v2,.ref ol,.ref P7]);have Jv:=s1.trans s2;have JG:=Jv.trans s3;have Jx:=hS.row (r:=⟨"method",aU kk,.str g1.nm,[],ol,P7,[],false⟩) JG (none_of Jv Kc) (hS.new J5) (none_of s1 Ku) ⟨y,v2,ae,At.same JG _ _ hy,At.same JG _ _ JT⟩ ((s2.trans s3) _ _ ae) (fz.nil (s3 _ _ ae));refine⟨q.T,_,.ref ar,rfl,rfl,JG _ _ hS.t,bZ (by rw[IC];omega),k _ [_] [ar] ((ak.but q.T JG).trans (bw.put _ _)) Jx (hM.row (.mt kk kf x g1 ol P7 hkk hkf) (Je _) RH) (IE 1) fun h40=>Vi c1 (by omega)⟩
def rn (rs:List Rw) (tag:Str):List Nat:=(List.range rs.length).filter fun i=>decide ((rs.getD i fb).tag=tag)
theorem ky {rs tag j}(h:j∈rn rs tag):∃r,rs[j]?=some r/\r.tag=tag:=by
 obtain⟨h1,h2⟩:=Jp.mp h;exact⟨_,some_of fb (List.mem_range.mp h1),IZ h2⟩
theorem yO {rs tag j r}(e:rs[j]?=some r) (h:r.tag=tag):j∈rn rs tag:=Jp.mpr ⟨List.mem_range.mpr (aq e),by rw[cg e];exact Iw h⟩
theorem Ay {rs tag}:(rn rs tag).length<=rs.length:=by
 have:=List.length_filter_le (fun i=>decide ((rs.getD i fb).tag=tag)) (List.range rs.length);rw[List.length_range] at this;exact this
theorem eV.yM {B os rs ms}(h:eV B os rs ms):0 < (rn rs "class").length:=by
 obtain⟨r,e,z⟩:=h.g 0 (by decide);exact List.length_pos_of_mem (yO e (Vj Prod.fst z))
theorem rS {xs:List V}{k:Nat}(hk:0 < k):de xs (some (-((k:Nat):Int))) none=xs.drop (xs.length - k):=by
 unfold de;rw[HT.iQ];have e:HT.fF xs.length 0 (some (-((k:Nat):Int)))=xs.length - k:=by
  show(if -((k:Nat):Int) < 0 then(-((k:Nat):Int)+(xs.length:Int)).toNat else _)=_;rw[II (by omega)];omega
 rw[e,List.take_of_length_le (by rw[List.length_drop];exact IE _)]
theorem ff.ix {B os rs ms}(h:eV B os rs ms){k n:Nat} {rk}(ek:rs[k]?=some rk) (zk:wK rk=(("class":Str),aU n)):∀{js ns},ff rs js ns->(k∈js↔n∈ns)/\js.idxOf k=ns.idxOf n
 | _,_,.nil=>⟨by simp,rfl⟩
 | _,_,.cons (j:=j) (n:=m) (js:=js) (ns:=ns) e r=>by
  obtain⟨ih1,ih2⟩:=ff.ix h ek zk r;have key:j=k↔m=n:=by
   cases hj:rs[j]? with
   | none=>rw[hj] at e;cases e
   | some r0=>
    rw[hj] at e;injection e with e;constructor
    ·rintro rfl;rw[ek] at hj;cases hj;rw[zk] at e;exact(cn (Vj Prod.snd e)).symm
    ·rintro rfl;exact h.cu j k r0 rk hj ek ((Vj Prod.snd e).trans (Vj Prod.snd zk).symm)
  refine⟨?_,?_⟩
  ·rw[Ji,Ji,ih1];exact or_congr ⟨fun y=>(key.mp y.symm).symm,fun y=>(key.mpr y.symm).symm⟩ Iff.rfl
  ·rw[List.idxOf_cons,List.idxOf_cons,ih2];by_cases y:j=k
   ·rw[beq_iff_eq.mpr y,beq_iff_eq.mpr (key.mp y)]
   ·rw[beq_false_of_ne y,beq_false_of_ne (fun z=>y (key.mpr z))]
theorem ff.drop {rs}:∀{js ns}(i:Nat),ff rs js ns->ff rs (js.drop i) (ns.drop i)
 | _,_,0,h=>h
 | _,_,i+1,.nil=>.nil
 | _,_,i+1,.cons _ r=>ff.drop i r
theorem yP {B os rs ms}(h:eV B os rs ms) {js ns}(hj:ff rs js ns):1∈js↔9∈ns:=by
 obtain⟨r1,e1,z1⟩:=h.g 1 (by decide);exact(hj.ix h e1 z1).1
theorem uR {k:Nat}:∀{js:List Nat},k∈js->wG (.int (k:Nat)) (js.map fun j=>D.int (j:Nat)) (js.idxOf k)
 | [],h=>by cases h
 | n::ns,h=>by
  have hq:cm (.int (n:Nat)) (.int (k:Nat))=decide (n=k):=by
   rw[Bool.eq_iff_iff,decide_eq_true_eq];simp only[cm,beq_iff_eq];omega
  by_cases e:n=k
  ·subst e;rw[List.idxOf_cons_self];exact⟨⟨_,rfl,cI _⟩,fun m _ hm=>Vi hm (Nat.not_lt_zero _)⟩
  ·obtain⟨⟨d,h1,h2⟩,h3⟩:=uR (List.mem_of_ne_of_mem (U8 e) h);rw[List.idxOf_cons,beq_false_of_ne e];simp only[cond_false];refine⟨⟨d,h1,h2⟩,fun m d' hm he=>?_⟩;cases m with
   | zero=>cases he;rw[hq,Iv e]
   | succ m=>exact h3 m d' (Nat.lt_of_succ_lt_succ hm) he
theorem rD {K H}:∀js:List Nat,aE K H (js.map fun j=>D.int (j:Nat)) (js.map fun j=>V.int (j:Nat))
 | []=>aZ.mpr rfl
 | j::js=>aX.mpr ⟨_,_,rfl,bG.mpr rfl,rD js⟩
abbrev GG (J:It) (tc:TT) (te:TE) (H:Hp) (R:Addr->Hp->Prop) (vs:List V):Prop:=
 ∀D,H D=none->∃W:Nat->Nat->List V->Hp->Prop,(∃m,W 0 m [] (U1 H D (.lst [])))/\∀i m ys H,W i m ys H->
  (J.stop i H/\R D H)\/(J.go i H/\∀x H' (ox:List (Option V)),ox.length=1->J.rZ i H x H'->iz 0 x (ox++vs.map some) H' fun σ2 H2=>∃Kl,Kl.length=1/\σ2=Kl++vs.map some/\tc σ2 H2 fun b H3=>
   if b=true then te σ2 H3 fun y H4=>H4 D=some (.lst ys)/\ys.length < sizeLine/\∃m',m' < m/\W (i+1) m' (ys++[y]) (U1 H4 D (.lst (ys++[y]))) else ∃m',m' < m/\W (i+1) m' ys H3)
theorem mH {K c H wp q ps os rs as ms R}{n:Nat}(tag:Str) (hn:n=rs.length) (hS:eX K c H wp q ps os rs as ms) (lr:rs.length<=300) (k:∀D H',H D=none->ak H H'->H' D=some (.lst ((rn rs tag).map fun j=>V.int (j:Nat)))->R D H'):
  GG (zJ 0 n) (uf (su rEq (su (km K) (su (km K) (vA 1) (vA 0)) (tC (.int 0))) (tC (.str tag)))) (vA 0) H R [.ref q.T]:=by
 subst hn;refine bM (vs:=[.ref q.T]) rs.length (fun i=>V.int (0+(i:Int))) (fun i=>decide ((rs.getD i fb).tag=tag)) (fun i v _=>v=V.int (0+(i:Int))) (fun _ _ _ _ _ z=>z) (by omega) rB yT uP (fun i H2 Q' hi s2 k2=>?_) (fun i H2 D l' Q' hi _ s2 _ _ k2=>?_) fun D H2 ys hD s2 JF hP=>?_
 ·have JD:=hS.same s2;obtain⟨a,ea,er,hR⟩:=JD.at (some_of fb hi);obtain⟨v1,v2,sq,_,_⟩:=hR.ix;refine⟨_,rfl,_,rfl,q.T,_,_,.ref a,rfl,rfl,aS.of JD.t,by rw[Int.zero_add];exact aw er,a,_,_,.str (rs.getD i fb).tag,rfl,rfl,sq,aw (j:=0) rfl,rfl,_,rfl,?_⟩;rw[rQ];exact k2 _ (ak.refl _)
 ·exact⟨_,rfl,k2 _ _ (ak.refl _) rfl⟩
 ·refine k D H2 hD s2 ?_;rw[JF,hP.eq];congr 2;simp only[Int.zero_add];rfl
abbrev BW:Stmt:=cB 78
theorem mod_lt {n:Int}{m:Nat}(h:0 < m):∃j:Nat,n % ((m:Nat):Int)=(j:Nat)/\j < m:=⟨(n % (m:Int)).toNat,by have:=Int.emod_nonneg n (show((m:Nat):Int)≠0 by omega);omega,by have:=Int.emod_lt_of_pos n (show(0:Int) < ((m:Nat):Int) by omega);have:=Int.emod_nonneg n (show((m:Nat):Int)≠0 by omega);omega⟩
theorem kA (m:Nat):∀js:List Nat,DT (.int ((m:Nat):Int)) (js.map fun j=>V.int (j:Nat))=decide (m∈js)
 | []=>rfl
 | j::js=>by
  have ih:=kA m js;unfold DT at ih ⊢;rw[Va,List.any_cons,ih,Bool.eq_iff_iff];simp only[Bool.or_eq_true,decide_eq_true_eq,List.mem_cons];show((((j:Nat):Int) == ((m:Nat):Int))=true\/_)↔_;rw[beq_iff_eq];exact⟨fun h=>h.imp (fun h=>by omega) id,fun h=>h.imp (fun h=>by omega) id⟩
theorem jv:∀js:List Nat,(js.map fun j=>V.int (j:Nat)).all i3=true
 | []=>rfl
 | j::js=>by rw[Va,List.all_cons,jv js];rfl
theorem eV.start {B os rs ms}(h:eV B os rs ms):∀ns,fe os "start" ns=none
 | []=>rfl
 | m::ns=>by
  have e:(rp os[m]?).lookup ("start":Str)=none:=by
   cases ho:os[m]? with
   | none=>rfl
   | some o=>
    cases o with
    | kd nm ns d fs=>exact(h.st m nm ns d fs ho).1
    | _=>rfl
  rw[gy,e];exact eV.start h ns
inductive sPk (K:Fg06) (D0:U4) (σ:L2.St) (H:Hp):Prop
 | mk x0 x1 n j D x5 x6 (ks:List Nat):σ=[x0,x1,some (.int n),some (.int (j:Nat)),some (.ref D),x5,x6]->H D=some (.lst (ks.map fun j=>V.int (j:Nat)))->j∈ks->(∀i H',ak H H'->i∈ks->D0.nx [x0,x1,some (.int n),some (.int (i:Nat)),some (.ref D),x5,x6] H')->sPk K D0 σ H
inductive sOw (K:Fg06) (D0:U4) (σ:L2.St) (H:Hp):Prop
 | mk x0 T x2 j x4 x5 d0 S (as:List Addr) a r:σ=[x0,some (.ref T),x2,some (.int (j:Nat)),x4,x5,some (.ref d0)]->H T=some (.lst (as.map V.ref))->as[j]?=some a->jB K H S a r->H d0=some (.dK [])->(∀d H',ak H H'->(H d=none\/d=d0)->fz K H' d (iZ (decide (1∈r.js)))->D0.nx [x0,some (.ref T),x2,some (.int (j:Nat)),x4,x5,some (.ref d)] H')->sOw K D0 σ H
inductive xy (K:Fg06) (c:fo) (vs:List V) (H:Hp) (Q:VK) (E:XK):Prop
 | mk wp q ps os rs as ms B n:vs=[.ref wp.W,.ref q.T,.int n]->eX K c H wp q ps os rs as ms->eV B os rs ms->3<=B->os.length<=850->rs.length<=290->(∀H' JJ Jw r a,mv (Sz wp q) H H'->eX K c H' wp q JJ Jw (rs++[r]) (as++[a]) ms->eV B Jw (rs++[r]) ms->Jw.length=os.length+1->Q (.bl true) H')->xy K c vs H Q E
theorem nr:aQ ["_law_world","_law_there","_law_n","_law_k","_law_kinds","_law_found","_law_own"] ["_law_world","_law_there","_law_n"] (aC BW):=gp
theorem C9 (g:Glb9 mg) (F:fm K "_law_object" "_law_object" BW f fd) (dC:Def P w K mg base "called" ["world","a","values"] 8 (iP K c)):bK P w K mg base fq 9 f fd ["_law_world","_law_there","_law_n"] (xy K c):=by
 refine F.gB nr fun UO A outer s H vs Q E hr h=>?_;obtain⟨wp,q,ps,os,rs,as,ms,B,n,rfl,hS,hM,hB,lo,lr,k⟩:=h;refine⟨_,(aa (.mk (L2.dq (iy:=4) (cl:=[("_law_there",s.heap.objs.size+1)]) (Xs:=["_law_k"]) (Nf:=["_law_there"]) (js:=[1]) ?k1 rfl (LI.out (bQ rfl g.gX (cy (au az rfl g.dH bW (cy (pv 1)))))) (fun C s0 H0 fp=>LG.out (ip 0 (show(["_law_k","_law_there"]:List Str).Nodup by decide +kernel))) (fun C s0 H0 fp=>fJ (LT.out (fR cP (cV K (cV K (pv 1) (pv 0)) ag) aj))) (fun C s0 H0 fp=>LE.out (pv 0)) nr.nd rfl (Or.inl rfl)))
   (aa (eG 3 nr.nd (cV K (pv 4) (aB br (pv 2) (au az rfl g.dH bW (cy (pv 4))))))
   (aa (gs (t':=sPk K) (bo (fR gm (aB br (aB bF (pv 2) ag) ag) ag) (ah (eG 3 nr.nd (cV K (bg eE (pv 4) (bz (iw wW ag)) bD) (aB br (aB bF (pv 2) ag) (au (pM rfl) rfl g.F0 Bu (cq ag (au az rfl g.dH bW (cy (pv 4))))))))) aP) ?pk)
   (aa (eG 5 nr.nd (cM dC (kN (pv 0) (cV K (cV K (pv 1) (pv 3)) ag) (ba bc))))
   (aa (eG 6 nr.nd bV)
   (aa (gs (t':=sOw K) (bo (cp (r:=Ft K false) vL ag (cV K (cV K (pv 1) (pv 3)) ag) rfl) (ah (eG 6 nr.nd (L3.jo (L3.eU aj (ba (cy aj)) (L3.eU aj (ba (cy aj)) (L3.eU aj (ba (cy aj)) L3.jm)))))) aP) ?ow)
   (aa (bT (dQ Jb Jc Jd cf (pv 1) (cy (aY (aI aj (mi (cF (pv 5)) (cV K (cV K (pv 1) (pv 3)) ag) (cV K (cV K (pv 1) (pv 3)) ag) (pv 6)))))))
   (ah (aJ (qM cP (cF (pv 5)) aj)))))))))),?main⟩
 case k1=>exact qB
 case pk=>
  rintro D0 σ H ⟨x0,x1,n,j,D,x5,x6,ks,rfl,hD,hj,k⟩;refine⟨_,rfl,_,_,rfl,rfl,⟨by decide,by decide⟩,_,_,rfl,rfl,cH,_,_,rfl,rfl,_,rfl,bJ (fun _=>?_) (fun _=>k j H (ak.refl _) hj)⟩;have KG:0 < ks.length:=List.length_pos_of_mem hj;refine⟨_,rfl,_,rfl,_,rfl,D,_,rfl,aS.of hD,fun l hl=>?_⟩;have e4:de (ks.map fun j=>V.int (j:Nat)) (some (-(4:Int))) none=(ks.drop (ks.length - 4)).map fun j=>V.int (j:Nat):=by
   have:=rS (xs:=ks.map fun j=>V.int (j:Nat)) (k:=4) (by decide);rw[IC] at this;rw[List.map_drop];exact this
  have s1:=ab hl (.lst (de (ks.map fun j=>V.int (j:Nat)) (some (-(4:Int))) none));obtain⟨i,hi,Ju⟩:=mod_lt (n:=n / 21) (m:=min 4 ks.length) (by omega);obtain⟨x,hx⟩:∃x,(ks.drop (ks.length - 4))[i]?=some x:=⟨_,Iy (by rw[List.length_drop];omega)⟩;refine⟨_,rfl,_,_,rfl,rfl,⟨by decide,by decide⟩,_,rfl,D,_,rfl,.inl (aS.of (s1 _ _ hD)),_,_,rfl,_,_,rfl,rfl,?_,l,_,_,.int (x:Nat),rfl,rfl,aS.of ae,?_,k x _ s1 (List.mem_of_mem_drop (IG hx))⟩
  ·rw[IC];split<;>omega
  ·show jZ (de (ks.map fun j=>V.int (j:Nat)) (some (-(4:Int))) none) (n / 21 % (if(((ks.map fun j=>V.int (j:Nat)).length:Nat):Int) < 4 then(((ks.map fun j=>V.int (j:Nat)).length:Nat):Int) else 4))=_;rw[show(if(((ks.map fun j=>V.int (j:Nat)).length:Nat):Int) < 4 then(((ks.map fun j=>V.int (j:Nat)).length:Nat):Int) else 4)=((min 4 ks.length:Nat):Int) by rw[IC];split<;>omega,hi,e4];exact aw (by rw[IJ,hx];rfl)
 case ow=>
  rintro D0 σ H ⟨x0,T,x2,j,x4,x5,d0,S,as,a,r,rfl,hT,ea,hR,Lr,k⟩;obtain⟨v1,v2,sq,_,_⟩:=hR.ix;refine⟨_,rfl,_,rfl,T,_,_,.ref a,rfl,rfl,aS.of hT,aw (by rw[IJ,ea];rfl),a,_,_,.ref r.ol,rfl,rfl,sq,aw (j:=3) rfl,r.ol,_,rfl,.inl (aS.of hR.o),rfl,jv _,_,rfl,?_⟩;rw[IH IP];show if DT (.int ((1:Nat):Int)) _=true then _ else _
  rw[kA];refine bJ (fun e=>?_) (fun e=>?_)
  ·rw[e] at k;intro p hp;have s1:=ab hp (.dK []);refine⟨pY,fun t1 N6=>⟨pY,fun t2 S2=>⟨pY,fun t3 M8=>⟨?_,[(.inr "word",.ref t1),(.inr "cause",.ref t2),(.inr "context",.ref t3)],rfl,by show 3<=15;decide,?_⟩⟩⟩⟩
   all_goals
    have s2:=ab N6 (.tup [.str "none"]);have s3:=ab S2 (.tup [.str "none"]);have s4:=ab M8 (.tup [.str "none"]);have Ka:=(s2.trans s3).trans s4
   ·exact Ka _ _ ae
   have b5:bw p _ (U1 (U1 (U1 (U1 (U1 H p (.dK [])) t1 (.tup [.str "none"])) t2 (.tup [.str "none"])) t3 (.tup [.str "none"])) p (.dK (dJ [] [(.inr "word",.ref t1),(.inr "cause",.ref t2),(.inr "context",.ref t3)]))):=bw.put _ _;have f5:=b5.fx (Ka _ _ ae) rfl;have a1:=At.fx f5 _ _ (At.same (s3.trans s4) _ _ (At.new (K:=K) N6 (aE.mj (aH.mpr rfl))));have a2:=At.fx f5 _ _ (At.same s4 _ _ (At.new (K:=K) S2 (aE.mj (aH.mpr rfl))));have a3:=At.fx f5 _ _ (At.new (K:=K) M8 (aE.mj (aH.mpr rfl)));refine k p _ (fun y o ey=>b5 _ _ (cv ey hp) ((s1.trans Ka) _ _ ey)) (.inl hp) (fz.three (a:=.ref t1) (b:=.ref t2) (e:=.ref t3) ?_ a1 a2 a3);exact ae
  ·rw[e] at k;exact k d0 H (ak.refl _) (.inr rfl) (fz.nil Lr)
 case main=>
  have ln:=hS.n;refine⟨_,rfl,q.T,_,rfl,.inl (aS.of hS.t),_,rfl,by omega,by rw[IC];omega,[.ref q.T],⟨rfl,fun j i h=>?_⟩,mH "class" (by rw[Int.toNat_natCast,IC];exact ln) hS (by omega) fun D H1 P2 s1 hD=>?_⟩
  ·match j,h with
   | 0,h=>cases h;exact⟨_,rfl,rfl⟩
   | j+1,h=>simp at h
  have KG:=hM.yM;obtain⟨i,hi,Ju⟩:=mod_lt (n:=n) KG;obtain⟨j0,Tq⟩:∃x,(rn rs "class")[i]?=some x:=⟨_,Iy Ju⟩;refine⟨_,rfl,_,rfl,_,rfl,D,_,rfl,.inl (aS.of hD),_,_,rfl,rfl,by rw[IC];omega,D,_,_,.int (j0:Nat),rfl,rfl,aS.of hD,?_,?_⟩
  ·rw[IC,hi];exact aw (by rw[IJ,Tq];rfl)
  refine⟨_,_,n,j0,D,_,_,_,rfl,hD,IG Tq,fun j H2 s2 hj=>?_⟩;have Jv:=s1.trans s2;have JD:=hS.same Jv;obtain⟨r,er,ht⟩:=ky hj;obtain⟨kk,nm,ns,d,ev,etw,ho,Kk,_⟩:=(hM.rw j r er).1.cls ht;obtain⟨a,ea,em,hR⟩:=JD.at er;obtain⟨v1,v2,sq,JE,JT⟩:=hR.ix;rw[ev] at JE;have Km:fe os "start" ns=none:=hM.start ns;refine⟨_,rfl,_,rfl,_,rfl,q.T,_,_,.ref a,rfl,rfl,aS.of JD.t,aw em,a,_,_,v1,rfl,rfl,sq,aw (j:=1) rfl,Je _,fun t3 M8=>?_⟩;have s3:=ab M8 (.tup []);refine iP.kd wp ps os gS [] [] v1 (.ref t3) kk nm ns d r.fs rfl (JD.same s3).w hM.wf (At.same s3 _ _ JE) ho (At.new M8 (aZ.mpr rfl)) (by decide +kernel) (by omega) Km fun d' rf H4 p4 JS b4 w4 hf=>?_;have JM:=(JD.same s3).grow b4 w4 (fun d e=>by cases e;exact JS);have hM4:eV B (os++[.ob kk d' (iZ (decide (9∈ns)))]) rs ms:=hM.add ⟨⟨_,_,_,_,ho⟩,fun n dd e=>y8 e⟩ (Je _) (fun _ _ _ _ e=>nomatch e) (fun _ e=>nomatch e);have c4:mv (Sz wp q) H H4:=(ak.iD (Jv.trans s3)).trans (b4.iD Sz.l);have eb:decide (1∈r.js)=decide (9∈ns):=decide_eq_decide.mpr (yP hM Kk);intro d0 Lr;have s5:=ab Lr (.dK []);have J3:=JM.same s5;refine⟨_,q.T,_,j,_,_,d0,Sy wp q,as,a,r,rfl,J3.t,ea,J3.r j a r ea er,ae,fun dd H6 s6 Mx JU=>?_⟩;have hdd4:H4 dd=none:=Mx.elim (none_of s5) fun y=>y▸Lr;have Mh:=s5.trans s6;have JI:=JM.same Mh;have Oc:=At.same Mh _ _ hf;have Kw:=JI.r j a r ea er;obtain⟨u1,u2,Lc,Ks,Rr⟩:=Kw.ix;have ln4:=JI.n;refine⟨_,rfl,.inl ⟨rfl,_,aS.of JI.t⟩,_,rfl,1,_,_,rfl,Oc,rfl,fun y hy=>⟨_,rfl,_,rfl,q.T,_,_,.ref a,rfl,rfl,aS.of JI.t,aw em,a,_,_,u2,rfl,rfl,Lc,aw (j:=2) rfl,_,rfl,_,rfl,q.T,_,_,.ref a,rfl,rfl,aS.of JI.t,aw em,a,_,_,.ref r.ol,rfl,rfl,Lc,aw (j:=3) rfl,_,rfl,Em,fun ar Kc=>?_⟩⟩;have s7:=ab Kc (.lst [.str "object",y,u2,.ref r.ol,.ref dd]);have Qi:=Mh.trans s7;obtain⟨UM,Ti⟩:=JU.dict;have Jx:=JM.row (r:=⟨"object",aU os.length,r.two,r.js,r.ol,dd,iZ (decide (1∈r.js)),false⟩) Qi (none_of Mh Kc) Kw.no hdd4 ⟨y,u2,ae,At.same s7 _ _ hy,At.same s7 _ _ Rr⟩ (s7 _ _ Kw.o) (JU.keep (by rw[Ti];exact s7 _ _ Ti) (ak.fx s7));have hM8:eV B (os++[.ob kk d' (iZ (decide (9∈ns)))]) (rs++[⟨"object",aU os.length,r.two,r.js,r.ol,dd,iZ (decide (1∈r.js)),false⟩]) ms:=by
   rw[eb,etw];exact hM4.row (.ob os.length kk d' _ nm ns d r.fs r.js r.ol dd bP (bN ho) Kk) (ID (AD _) hB) fun i r' e'=>hM.fresh e'
  refine⟨q.T,_,.ref ar,rfl,rfl,Qi _ _ JM.t,bZ (by rw[IC];omega),?_⟩;have b8:bw q.T _ (U1 (U1 H6 ar (.lst [.str "object",y,u2,.ref r.ol,.ref dd])) q.T (.lst (as.map V.ref++[.ref ar]))):=bw.put _ _;have hf8:=At.fx (b8.fx (Qi _ _ JM.t) rfl) _ _ (At.same s7 _ _ Oc);refine⟨_,rfl,0,_,_,rfl,hf8,rfl,fun y0 h0=>?_⟩;rw[aH.mp h0];refine⟨rfl,?_⟩;rw[Iw rfl];exact k _ _ _ _ ar ((c4.trans (ak.iD Qi)).trans (b8.iD Sz.T)) Jx hM8 (by rw[Iu];rfl)
abbrev BV:Stmt:=cB 79
def vP (rs:List Rw):List Nat:=(List.range rs.length).filter fun i=>!decide ((rs.getD i fb).tag="object")
theorem eV.HM {B os rs ms}(h:eV B os rs ms):12<=(vP rs).length:=by
 have l:12<=rs.length:=by obtain⟨r,e,_⟩:=h.g 11 (by decide);exact aq e
 unfold vP;rw[show rs.length=12+(rs.length - 12) by omega,List.range_add,List.filter_append,Iu];have e:((List.range 12).filter fun i=>!decide ((rs.getD i fb).tag="object"))=List.range 12:=U5.mpr fun i hi=>by
  obtain⟨r,e,z⟩:=h.g i (List.mem_range.mp hi);rw[cg e,show r.tag="class" from Vj Prod.fst z];decide +kernel
 rw[e,List.length_range];omega
theorem Ap {B os rs ms}(h:eV B os rs ms) {i}(hi:i∈vP rs) (k:D):pW os (rs.getD i fb).val k=false:=by
 obtain⟨h1,h2⟩:=Jp.mp hi;have e:=some_of fb (List.mem_range.mp h1);have ht:¬(rs.getD i fb).tag="object":=by simpa using h2
 generalize rs.getD i fb=r at e ht;have hr:=(h.rw i r e).1;unfold pW;cases hr with
 | ob=>exact Vi rfl ht
 | pl d ol dl hp=>rw[(hp.vd os).2]
 | cl k nm ns d fs js ol dl h1 h2=>rw[bI,h1]
 | vw k q o j d fs nm ns d' Js js ol dl h1 h2 h3 h4=>rw[bI,h1]
 | fn k g ol dl h1=>rw[bI,h1]
 | mt k t o g ol dl h1 h2=>rw[bI,h1]
 | gr k nm fr ol dl h1=>rw[bI,h1]
 | gn k nm ol dl h1=>rw[bI,h1]
inductive tWr (K:Fg06) (c:fo) (σ:L2.St) (H:Hp) (Q:VK):Prop
 | mk wp q ps os rs as ms B n:sg σ 1 (.ref q.T)->sg σ 2 (.int n)->eX K c H wp q ps os rs as ms->eV B os rs ms->rs.length<=300->(∀i v H',ak H H'->i∈vP rs->At K H' (rs.getD i fb).val v->Q v H')->tWr K c σ H Q
inductive tVk (K:Fg06) (σ:L2.St) (H:Hp) (Q:VK):Prop
 | mk n D a S r (ks:List Nat):sg σ 2 (.int n)->sg σ 5 (.ref D)->sg σ 6 (.ref a)->H D=some (.lst (ks.map fun j=>V.int (j:Nat)))->jB K H S a r->0 < ks.length->0 < r.js.length->(∀j,j∈ks\/j∈r.js->Q (.int (j:Nat)) H)->tVk K σ H Q
inductive xx (K:Fg06) (c:fo) (vs:List V) (H:Hp) (Q:VK) (E:XK):Prop
 | mk wp q ps os rs as ms B n:vs=[.ref wp.W,.ref q.T,.int n]->eX K c H wp q ps os rs as ms->eV B os rs ms->os.length<=850->rs.length<=290->(∀H' JJ Jw rx ax,mv (Sz wp q) H H'->eX K c H' wp q JJ Jw (rs++rx) (as++ax) ms->eV B Jw (rs++rx) ms->Jw.length<=os.length+1->rx.length<=1->Q (.bl true) H')->xx K c vs H Q E
theorem ni:aQ ["_law_world","_law_there","_law_n","_law_k","_law_things","_law_kinds","_law_one","_law_wrong","_law_found"] ["_law_world","_law_there","_law_n"] (aC BV):=gp
theorem C8 (g:Glb9 mg) (F:fm K "_law_view" "_law_view" BV f fd) (dC:Def P w K mg base "called" ["world","a","values"] 8 (iP K c)) (dK:Def P w K mg base "known" ["world","name"] 1 (vC K c)) (dX:Def P w K mg base "text_of" ["world","a"] 3 (mZ K c)):bK P w K mg base fq 9 f fd ["_law_world","_law_there","_law_n"] (xx K c):=by
 refine F.gB ni fun UO A outer s H vs Q E hr h=>?_;obtain⟨wp,q,ps,os,rs,as,ms,B,n,rfl,hS,hM,lo,lr,k⟩:=h;refine⟨_,(aa (.mk (L2.dq (iy:=4) (cl:=[("_law_there",s.heap.objs.size+1)]) (Xs:=["_law_k"]) (Nf:=["_law_there"]) (js:=[1]) ?k1 rfl (LI.out (bQ rfl g.gX (cy (au az rfl g.dH bW (cy (pv 1)))))) (fun C s0 H0 fp=>LG.out (ip 0 (show(["_law_k","_law_there"]:List Str).Nodup by decide +kernel))) (fun C s0 H0 fp=>fJ (LT.out (fR cP (cV K (cV K (pv 1) (pv 0)) ag) aj))) (fun C s0 H0 fp=>LE.out (pv 0)) ni.nd rfl (Or.inl rfl)))
   (aa (.mk (L2.dq (iy:=5) (cl:=[("_law_there",s.heap.objs.size+1)]) (Xs:=["_law_k"]) (Nf:=["_law_there"]) (js:=[1]) ?k2 rfl (LI.out (bQ rfl g.gX (cy (au az rfl g.dH bW (cy (pv 1)))))) (fun C s0 H0 fp=>LG.out (ip 0 (show(["_law_k","_law_there"]:List Str).Nodup by decide +kernel))) (fun C s0 H0 fp=>fJ (LT.out (fR cP (cV K (cV K (pv 1) (pv 0)) ag) aj))) (fun C s0 H0 fp=>LE.out (pv 0)) ni.nd rfl (Or.inl rfl)))
   (aa (bo (fR (kq hr) (pv 4) (aY bc)) (ah (aJ gA)) aP)
   (aa (eG 6 ni.nd (cV K (pv 1) (cV K (pv 4) (aB br (pv 2) (au az rfl g.dH bW (cy (pv 4)))))))
   (aa (bo (fR cP (aB br (aB bF (pv 2) ag) ag) ag)
     (aa (eG 7 ni.nd (cS (t':=tWr K c) (cV K (bg eE (.mk (L2.cG (cl:=[]) (Xs:=["_law_other"]) (Nf:=[]) (js:=[]) ?k3 rfl (LI.out (bL (pv 1))) (fun C s0 H0 fp=>LG.out (ip 0 (show(["_law_other"]:List Str).Nodup by decide +kernel))) (fun C s0 H0 fp=>fJ (LT.out (fR pe (cV K (pv 0) ag) aj))) (fun C s0 H0 fp=>LE.out (cV K (pv 0) ag)))) (bz (iw wW ag)) bD) (aB br (pv 2) ag)) ?wr))
     (ah (aJ (qM (r:=nz K) (gW hr) (cM dC (kN (pv 0) (cM dK (cq (pv 0) aj)) (ba (cq (cV K (cV K (pv 1) ag) ag) (pv 7))))) (ba (cq aj aj)))))) aP)
   (aa (eG 3 ni.nd (cS (t':=tVk K) (bC (fR gm (aB br (aB bF (pv 2) ag) ag) ag) (cV K (cV K (pv 6) ag) (aB br (aB bF (pv 2) ag) (au az rfl g.dH bW (cy (cV K (pv 6) ag))))) (cV K (pv 5) (aB br (aB bF (pv 2) ag) (au az rfl g.dH bW (cy (pv 5)))))) ?vk))
   (aa (eG 8 ni.nd (cM dC (kN (pv 0) (cM dK (cq (pv 0) aj)) (ba (cq (cV K (cV K (pv 1) (pv 3)) ag) (cV K (pv 6) ag))))))
   (aa (bo (cp (r:=Ft K true) ko (pv 3) (cV K (pv 6) ag) rfl) (ah (aJ (qM (r:=nz K) (gW hr) (pv 8) (ba (cq aj aj))))) aP)
   (aa (bT (dQ Jb Jc Jd cf (pv 1) (cy (aY (aI aj (mi (cF (pv 8)) (cV K (pv 6) ag) (bg eE (cV K (pv 6) ag) (bz (aB fi (L3.o9 K hr (cV K (pv 6) ag) (cy (pv 3))) ag)) bD) bV))))))
   (ah (aJ (fh (qM cP (cF (pv 8)) aj) (d9 (qM cP (cM dX (cq (pv 0) (cF (pv 8)))) aj)))))))))))))),?main⟩
 case k1=>exact qB
 case k2=>exact qB
 case k3=>exact Gq
 case wr=>
  rintro σ H Q ⟨wp,q,ps,os,rs,as,ms,B,n,e1,e2,hS,hM,lr,k⟩;have lm:(as.map V.ref).length=rs.length:=by rw[IC];exact hS.n
  refine⟨_,e1,q.T,rfl,⟨_,aS.of hS.t⟩,[],⟨rfl,fun j i h=>by simp at h⟩,bM (vs:=[]) (as.map V.ref).length (fun i=>(as.map V.ref).getD i .bb) (fun i=>!decide ((rs.getD i fb).tag="object")) (fun i v H'=>At K H' (rs.getD i fb).val v) (fun _ _ _ _ s z=>At.same s _ _ z) (by omega) (ee (aS.of hS.t)) (gx (aS.of hS.t)) (fw (aS.of hS.t)) (fun i H2 Q' hi s2 k2=>?_) (fun i H2 D l' Q' hi _ s2 hD KL k2=>?_) fun D H2 ys hD s2 JF hP=>?_⟩
  ·obtain⟨a',Kx,Kf,J8⟩:=(hS.same s2).at (some_of fb (show i < rs.length by omega));obtain⟨u1,u2,Ky,Ks,_⟩:=J8.ix;rw[cg Kf];refine⟨_,rfl,a',_,_,.str (rs.getD i fb).tag,rfl,rfl,Ky,aw (j:=0) rfl,rfl,_,rfl,?_⟩;rw[rQ];exact k2 _ (ak.refl _)
  ·obtain⟨a',Kx,Kf,J8⟩:=(hS.same s2).at (some_of fb (show i < rs.length by omega));obtain⟨u1,u2,Ky,Ks,_⟩:=J8.ix;rw[cg Kf];exact⟨_,rfl,a',_,_,u1,rfl,rfl,Ky,aw (j:=1) rfl,k2 _ _ (ak.refl _) (At.wo KL _ _ Ks)⟩
  have hA:=(hP.mono (fun i v z=>At.same (eB H2 D) _ _ z)).at
  rw[lm] at hA;have hA:aE K H2 ((vP rs).map fun i=>(rs.getD i fb).val) ys:=hA;have ly:=hA.len;rw[IC] at ly;have LL:=hM.HM;refine⟨_,rfl,_,rfl,D,_,rfl,aS.of JF,fun l hl=>?_⟩;have e9:de ys (some (-(9:Int))) none=ys.drop (ys.length - 9):=rS (k:=9) (by decide);obtain⟨x,hx,Ju⟩:=mod_lt (n:=n) (m:=9) (by decide);obtain⟨i,hi⟩:∃i,(vP rs)[ys.length - 9+x]?=some i:=⟨_,Iy (by omega)⟩;obtain⟨v,hv,hAv⟩:=aE.get (i:=ys.length - 9+x) hA (d:=(rs.getD i fb).val) (by rw[IJ,hi];rfl);have s3:=ab hl (.lst (de ys (some (-(9:Int))) none));refine⟨_,e2,_,_,rfl,rfl,cH,l,_,_,v,rfl,rfl,aS.of ae,?_,k i v _ (s2.trans s3) (IG hi) (At.same s3 _ _ hAv)⟩;show jZ (de ys (some (-(9:Int))) none) (n % ((9:Nat):Int))=_;rw[hx,e9];exact aw (by rw[List.getElem?_drop];exact hv)
 case vk=>
  rintro σ H Q ⟨n,D,a,S,r,ks,e2,e5,e6,hD,hR,hk,hj,k⟩;obtain⟨v1,v2,sq,_,_⟩:=hR.ix;refine⟨_,e2,_,_,rfl,rfl,⟨by decide,by decide⟩,_,_,rfl,rfl,cH,_,_,rfl,rfl,_,rfl,bJ (fun _=>?_) (fun _=>?_)⟩
  ·obtain⟨x,hx,Ju⟩:=mod_lt (n:=n / 7) hj;obtain⟨y,hy⟩:∃y,r.js[x]?=some y:=⟨_,Iy Ju⟩;refine⟨_,e6,a,_,_,.ref r.ol,rfl,rfl,sq,aw (j:=3) rfl,_,e2,_,_,rfl,rfl,⟨by decide,by decide⟩,_,e6,a,_,_,.ref r.ol,rfl,rfl,sq,aw (j:=3) rfl,r.ol,_,rfl,.inl (aS.of hR.o),_,_,rfl,rfl,by rw[IC];omega,r.ol,_,_,.int (y:Nat),rfl,rfl,aS.of hR.o,?_,k y (.inr (IG hy))⟩;rw[IC,show n / 7 % ((r.js.length:Nat):Int)=(x:Nat) from hx];exact aw (by rw[IJ,hy];rfl)
  ·obtain⟨x,hx,Ju⟩:=mod_lt (n:=n / 7) hk;obtain⟨y,hy⟩:∃y,ks[x]?=some y:=⟨_,Iy Ju⟩;refine⟨_,e5,_,e2,_,_,rfl,rfl,⟨by decide,by decide⟩,_,e5,D,_,rfl,.inl (aS.of hD),_,_,rfl,rfl,by rw[IC];omega,D,_,_,.int (y:Nat),rfl,rfl,aS.of hD,?_,k y (.inl (IG hy))⟩;rw[IC,show n / 7 % ((ks.length:Nat):Int)=(x:Nat) from hx];exact aw (by rw[IJ,hy];rfl)
 case main=>
  have ln:=hS.n;have clo:∀(j i:Nat),([1]:List Nat)[j]?=some i->∃v,([V.ref q.T]:List V)[j]?=some v/\i=1/\v=V.ref q.T:=fun j i h=>by
   match j,h with
   | 0,h=>cases h;exact⟨_,rfl,rfl,rfl⟩
   | j+1,h=>simp at h
  have J9:∀H',ak H H'->Q (.bl true) H':=fun H' s'=>k H' ps os [] [] (ak.iD s') (by rw[Jf,Jf];exact hS.same s') (by rw[Jf];exact hM) (Nat.le_succ _) (Je _);refine⟨_,rfl,q.T,_,rfl,.inl (aS.of hS.t),_,rfl,by omega,by rw[IC];omega,[.ref q.T],⟨rfl,fun j i h=>?_⟩,mH "object" (by rw[Int.toNat_natCast,IC];exact ln) hS (by omega) fun D1 H1 P1 s1 hD1=>?_⟩
  ·obtain⟨v,hv,rfl,rfl⟩:=clo j i h;exact⟨_,hv,rfl⟩
  have JN:=hS.same s1;refine⟨_,rfl,q.T,_,rfl,.inl (aS.of JN.t),_,rfl,by omega,by rw[IC];omega,[.ref q.T],⟨rfl,fun j i h=>?_⟩,mH "class" (by rw[Int.toNat_natCast,IC];exact ln) JN (by omega) fun D2 H2 hD20 s2 Ma=>?_⟩
  ·obtain⟨v,hv,rfl,rfl⟩:=clo j i h;exact⟨_,hv,rfl⟩
  refine⟨_,rfl,Je _,fun l3 J1=>?_⟩;have s3:=(s1.trans s2).trans (ab J1 (.lst []));have Mb:=(s2.trans (ab J1 (.lst []))) _ _ hD1;have P0:=ab J1 (.lst []) _ _ Ma;refine⟨D1,l3,_,rfl,rfl,aS.of Mb,aS.of ae,_,rfl,bJ (fun _=>J9 _ s3) (fun e0=>?_)⟩;generalize U1 H2 l3 (.lst [])=H3 at s3 Mb P0 ⊢;have KG:0 < (rn rs "object").length:=by
   cases hk:rn rs "object" with
   | nil=>rw[hk] at e0;cases e0
   | cons=>exact Nat.succ_pos _
  have Kv:=hS.same s3;obtain⟨x,hx,Ju⟩:=mod_lt (n:=n) KG;obtain⟨j,hj⟩:∃y,(rn rs "object")[x]?=some y:=⟨_,Iy Ju⟩;obtain⟨r,er,ht⟩:=ky (IG hj);obtain⟨kk,q0,d,nm,ns,d',Js,ev,etw,ho,Nw,Kk⟩:=(hM.rw j r er).1.obj ht;obtain⟨a,ea,em,hR⟩:=Kv.at er;refine⟨_,rfl,_,rfl,_,rfl,_,rfl,D1,_,rfl,.inl (aS.of Mb),_,_,rfl,rfl,by rw[IC];omega,D1,_,_,.int (j:Nat),rfl,rfl,aS.of Mb,?_,q.T,_,_,.ref a,rfl,rfl,aS.of Kv.t,aw em,?_⟩
  ·rw[IC,hx];exact aw (by rw[IJ,hj];rfl)
  obtain⟨r0,Ui,z0⟩:=hM.g 0 (by decide);have eld:((("elder":Str),3):Str×Nat)∈gS:=by decide +kernel
  refine⟨_,rfl,_,_,rfl,rfl,⟨by decide,by decide⟩,_,_,rfl,rfl,cH,rfl,_,rfl,bJ (fun _=>?_) (fun _=>?_)⟩
  ·refine⟨wp,q,ps,os,rs,as,ms,B,n,rfl,rfl,Kv,hM,by omega,fun i v H4 s4 hi hv=>?_⟩;have LR:=s3.trans s4;have JM:=hS.same LR;obtain⟨a0,MH,em0,RR⟩:=JM.at Ui;obtain⟨w1,w2,QV,Qs,_⟩:=RR.ix;have hil:i < rs.length:=List.mem_range.mp (Jp.mp hi).1;have hvi:Vd os (rs.getD i fb).val:=(hM.rw i _ (some_of fb hil)).1.vd;refine⟨_,rfl,_,rfl,wp,ps,os,gS,[],[],"elder",rfl,JM.w,.inl ⟨3,eld,fun ve Rq=>⟨_,rfl,q.T,_,_,.ref a0,rfl,rfl,aS.of JM.t,aw em0,a0,_,_,w1,rfl,rfl,QV,aw (j:=1) rfl,_,rfl,jC,fun t5 KC=>?_⟩⟩⟩;have s5:=ab KC (.tup [w1,v]);refine iP.gv wp ps os gS [] [] ve (.ref t5) 3 r0.val (rs.getD i fb).val rfl (JM.same s5).w hM.wf (At.same s5 _ _ Rq) hM.el (At.new KC (ck Qs hv)) (hM.rw 0 r0 Ui).1.vd hvi (by omega) ⟨fun _ rf H6 s6 hf=>⟨jC,fun t7 OS=>?_⟩,fun _ _ _ _ _ _ hu=>?_⟩
   ·have s7:=ab OS (.tup [.str "fault",.str "KindFault"]);refine⟨kF,kF,At.same s7 _ _ hf,At.new OS (ck (aH.mpr rfl) (aH.mpr rfl)),by decide +kernel,?_⟩;rw[cI];exact J9 _ (((LR.trans s5).trans s6).trans s7)
   ·rw[Ap hM hi] at hu;cases hu
  have KI:0 < r.js.length:=by rw[Kk.len];exact(hM.st q0 nm ns d' Js Nw).2
  refine⟨n,D2,a,Sy wp q,r,rn rs "class",rfl,rfl,rfl,P0,hR,hM.yM,KI,fun j3 hj3=>?_⟩;obtain⟨r3,n3,e3,z3⟩:∃r3 n3,rs[j3]?=some r3/\wK r3=(("class":Str),aU n3):=by
   rcases hj3 with h | h
   ·obtain⟨r3,e3,t3⟩:=ky h;obtain⟨k3,_,_,_,v3,_⟩:=(hM.rw j3 r3 e3).1.cls t3;exact⟨r3,k3,e3,by unfold wK;rw[t3,v3]⟩
   ·obtain⟨r3,n3,e3,z3,_⟩:=Kk.row h;exact⟨r3,n3,e3,z3⟩
  have Uc:r3.val=aU n3:=Vj Prod.snd z3;obtain⟨Td,RD⟩:=Kk.ix hM e3 z3;have eu:pW os (aU kk) (aU n3)=decide (n3∈ns):=by
   unfold pW;rw[bI,ho];show((r8 os[q0]?).map aU).any _=_;rw[Nw];exact sk n3 ns
  obtain⟨a3,ea3,em3,hR3⟩:=Kv.at e3;obtain⟨w1,w2,sq3,Qs,_⟩:=hR3.ix;obtain⟨u1,u2,sq,Ks,_⟩:=hR.ix;rw[Uc] at Qs;rw[ev] at Ks;refine⟨_,rfl,_,rfl,wp,ps,os,gS,[],[],"elder",rfl,Kv.w,.inl ⟨3,eld,fun ve Rq=>⟨_,rfl,_,rfl,q.T,_,_,.ref a3,rfl,rfl,aS.of Kv.t,aw em3,a3,_,_,w1,rfl,rfl,sq3,aw (j:=1) rfl,_,rfl,a,_,_,u1,rfl,rfl,sq,aw (j:=1) rfl,jC,fun t5 KC=>?_⟩⟩⟩;have s5:=ab KC (.tup [w1,u1]);have vd3:Vd os (aU n3):=Uc▸(hM.rw j3 r3 e3).1.vd;refine iP.gv wp ps os gS [] [] ve (.ref t5) 3 (aU n3) (aU kk) rfl (Kv.same s5).w hM.wf (At.same s5 _ _ Rq) hM.el (At.new KC (ck Qs Ks)) vd3 (Vd.th (aq ho)) (by omega) ⟨fun hu rf H6 s6 hf=>?_,fun o' j' n' rf H6 p hu eo' Ud en' Tc b6 w6 hf=>?_⟩
  ·have Sw:=s5.trans s6;have JI:=Kv.same Sw;have Kw:=JI.r j a r ea er;obtain⟨x1,x2,Lc,_,_⟩:=Kw.ix;have nj:j3∉r.js:=fun y=>by rw[eu,Iw (Td.mp y)] at hu;cases hu
   refine⟨_,rfl,_,rfl,a,_,_,.ref r.ol,rfl,rfl,Lc,aw (j:=3) rfl,r.ol,_,rfl,.inl (aS.of Kw.o),rfl,jv _,_,rfl,?_⟩;rw[II rfl,kA,Iv nj];refine cC ⟨_,rfl,jC,fun t7 OS=>?_⟩;have s7:=ab OS (.tup [.str "fault",.str "KindFault"]);refine⟨kF,kF,At.same s7 _ _ hf,At.new OS (ck (aH.mpr rfl) (aH.mpr rfl)),by decide +kernel,?_⟩;rw[cI];exact J9 _ ((s3.trans Sw).trans s7)
  ·have:=cn eo';subst this;have:=cn en';subst this;have Tb:n3∈ns:=by rw[eu] at hu;exact IZ hu
   have Pl:=Td.mpr Tb;have JI:=(Kv.same s5).grow b6 w6 (fun d e=>nomatch e);have NL:eV B (os++[.vw n3 kk]) rs ms:=hM.add ⟨q0,d,r.fs,nm,ns,d',Js,ho,Nw,Tb⟩ (Je _) (fun _ _ _ _ e=>nomatch e) (fun _ e=>nomatch e);have Kw:=JI.r j a r ea er;obtain⟨x1,x2,Lc,N4,_⟩:=Kw.ix;rw[ev] at N4;refine⟨_,rfl,_,rfl,a,_,_,.ref r.ol,rfl,rfl,Lc,aw (j:=3) rfl,r.ol,_,rfl,.inl (aS.of Kw.o),rfl,jv _,_,rfl,?_⟩;rw[II rfl,kA,Iw Pl];have Tp:r.js.length<=40:=by rw[Kk.len];exact(hM.kb q0 nm ns d' Js Nw).2
   refine bu ⟨_,rfl,.inl ⟨rfl,_,aS.of JI.t⟩,_,rfl,1,_,_,rfl,hf,rfl,fun y hy=>⟨_,rfl,a,_,_,x1,rfl,rfl,Lc,aw (j:=1) rfl,_,rfl,a,_,_,.ref r.ol,rfl,rfl,Lc,aw (j:=3) rfl,_,rfl,a,_,_,.ref r.ol,rfl,rfl,Lc,aw (j:=3) rfl,.inl ⟨rfl,_,aS.of Kw.o⟩,_,rfl,r.ol,_,.int (j3:Nat),.int (j3:Nat),_,r.js.idxOf j3,rfl,rfl,aS.of Kw.o,rD r.js,bG.mpr rfl,fun e he=>?_,uR Pl,by rw[IC];omega,_,_,rfl,rfl,_,rfl,r.ol,_,rfl,aS.of Kw.o,fun ol J5 dl Ku=>⟨Em,fun ar Kc=>?_⟩⟩⟩
   ·obtain⟨m,_,rfl⟩:=Jq.mp he;rw[gG];decide
   have ec:de (r.js.map fun j=>V.int (j:Nat)) (some (((r.js.idxOf j3:Nat):Int)+1)) none=(r.js.drop (r.js.idxOf j3+1)).map fun j=>V.int (j:Nat):=by
    have:=jh (xs:=r.js.map fun j=>V.int (j:Nat)) (r.js.idxOf j3+1);rw[List.map_drop];exact this
   have s7:=ab J5 (.lst (de (r.js.map fun j=>V.int (j:Nat)) (some (((r.js.idxOf j3:Nat):Int)+1)) none));have s8:=ab Ku (.dK []);have s9:=ab Kc (.lst [.str "view",y,x1,.ref ol,.ref dl]);have MX:=(s7.trans s8).trans s9;have Jx:=JI.row (r:=⟨"view",aU os.length,aU kk,r.js.drop (r.js.idxOf j3+1),ol,dl,[],false⟩) MX (none_of (s7.trans s8) Kc) (JI.new J5) (none_of s7 Ku) ⟨y,x1,ae,At.same MX _ _ hy,At.same MX _ _ N4⟩ ((s8.trans s9) _ _ (by rw[<-ec];exact ae)) (fz.nil (s9 _ _ ae));have PZ:=NL.row (.vw os.length n3 kk q0 d r.fs nm ns d' Js (r.js.drop (r.js.idxOf j3+1)) ol dl bP (bN ho) (bN Nw) (by unfold Bt;rw[<-RD];exact Kk.drop _)) (Je _) fun i r' e'=>hM.fresh e';have ln6:=JI.n;refine⟨q.T,_,.ref ar,rfl,rfl,MX _ _ JI.t,bZ (by rw[IC];omega),?_⟩;have NW:bw q.T _ (U1 (U1 (U1 (U1 H6 ol (.lst (de (r.js.map fun j=>V.int (j:Nat)) (some (((r.js.idxOf j3:Nat):Int)+1)) none))) dl (.dK [])) ar (.lst [.str "view",y,x1,.ref ol,.ref dl])) q.T (.lst (as.map V.ref++[.ref ar]))):=bw.put _ _;have Kp:=At.fx (NW.fx (MX _ _ JI.t) rfl) _ _ (At.same MX _ _ hf);have P8:=(((ak.iD (S:=Sz wp q) (s3.trans s5)).trans (b6.iD Sz.l)).trans (ak.iD MX)).trans (NW.iD Sz.T);generalize U1 (U1 (U1 (U1 H6 ol (.lst (de (r.js.map fun j=>V.int (j:Nat)) (some (((r.js.idxOf j3:Nat):Int)+1)) none))) dl (.dK [])) ar (.lst [.str "view",y,x1,.ref ol,.ref dl])) q.T (.lst (as.map V.ref++[.ref ar]))=JL at Jx Kp P8 ⊢;refine⟨_,rfl,0,_,_,rfl,Kp,rfl,fun y0 h0=>?_⟩;rw[aH.mp h0];have l1:(os++[Th.vw n3 kk]).length=os.length+1:=by rw[Iu];rfl
   refine⟨rfl,true,by rw[Iw rfl],cC ⟨_,rfl,_,rfl,1,_,_,rfl,Kp,rfl,fun y1 h1=>⟨wp,_,_,gS,[],[],y1,aU os.length,rfl,Jx.w,PZ.wf,PZ.nb,h1,.th _ (by omega),rfl,?_⟩⟩⟩;rw[gU bP];show Q (.bl (decide (V.str "view"=V.str "view"))) _;rw[Iw rfl];exact k _ _ _ [_] [ar] P8 Jx PZ (by omega) (IE 1)
def G7 (K:Fg06) (ta tb:TE):TE:=fun σ H Q=>ta σ H fun x H1=>∃p xs,x=.ref p/\aS K H1 p xs/\if xs.isEmpty=true then tb σ H1 Q else Q (.ref p) H1
theorem ye (K:Fg06){X:Cx} {a b ta tb pos}{rest:List Expr}(ha:LE X a ta) (hb:LE X (.BoolOp .Or (b::rest) pos) tb) (hK:X.K=K:=by rfl):LE X (.BoolOp .Or (a::b::rest) pos) (G7 K ta tb):=by
 subst hK;refine .mk fun UL s σ H Q I h=>?_;refine BoolOp_or (da (ha.out UL s σ H _ I h) fun v s1 ⟨x,H1,I1,r1,q1⟩=>?_);obtain⟨p,xs,rfl,hq,q1⟩:=q1;cases r1;obtain⟨UN,r,pl,hz⟩:=I1.list hq;have hl:=r.length;have hs:=sizeLine_eq;refine wpAny_truthy_list pl.isList (by simp only[List.size_toArray];omega) ?_;cases r with
 | nil=>exact hb.out UL _ σ H1 Q (I1.tok _) q1
 | cons _ _=>exact⟨.ref p,H1,I1.tok _,rfl,q1⟩
def ig (rs:List Rw) (j:Nat):Nat:=zR (rs.getD j fb).val
def gJ (rs:List Rw) (j:Nat):Prop:=∃r n,rs[j]?=some r/\wK r=(("class":Str),aU n)
theorem gJ.th {rs j}(h:gJ rs j):(rs[j]?).map wK=some (("class":Str),aU (ig rs j))/\(rs.getD j fb).val=aU (ig rs j):=by
 obtain⟨r,n,e,z⟩:=h;have ev:r.val=aU n:=Vj Prod.snd z;have et:ig rs j=n:=by unfold ig;rw[cg e,ev];rfl
 refine⟨by rw[e,et];exact Vj some z,by rw[cg e,et,ev]⟩
theorem Bn {rs}:∀{js:List Nat},(∀j∈js,gJ rs j)->ff rs js (js.map (ig rs))
 | [],_=>.nil
 | j::js,h=>.cons (h j Ir).th.1 (Bn fun i hi=>h i (Iq _ hi))
theorem ff.th {rs}:∀{js ns},ff rs js ns->ns=js.map (ig rs)/\∀j∈js,gJ rs j
 | _,_,.nil=>⟨rfl,fun _ h=>by cases h⟩
 | _,_,.cons (j:=j) (n:=n) e r=>by
  obtain⟨h1,h2⟩:=ff.th r;have hj:gJ rs j:=by
   cases hr:rs[j]? with
   | none=>rw[hr] at e;cases e
   | some r0=>rw[hr] at e;injection e with e;exact⟨r0,n,hr,e⟩
  refine⟨?_,fun i hi=>(Ji.mp hi).elim (fun y=>y▸hj) (h2 i)⟩;have:=hj.th.1;rw[e] at this;injection this with this;rw[Va,<-h1,<-cn (Vj Prod.snd this)]
theorem gJ.inj {B os rs ms}(h:eV B os rs ms) {i j}(hi:gJ rs i) (hj:gJ rs j) (e:ig rs i=ig rs j):i=j:=by
 obtain⟨r1,n1,e1,z1⟩:=id hi;obtain⟨r2,n2,e2,z2⟩:=id hj;refine h.cu i j r1 r2 e1 e2 ?_;have a:=hi.th.2;have b:=hj.th.2;rw[cg e1] at a;rw[cg e2] at b;rw[a,b,e]
theorem As {B os rs ms}(h:eV B os rs ms){own:List Nat}(ho:∀j∈own,gJ rs j) (hj:∀j∈own,ff rs (rs.getD j fb).js (r8 os[ig rs j]?)):
  GS.mg ((own.map (ig rs)).map (fH os)++[own.map (ig rs)])=(GS.mg (own.map (fun j=>(rs.getD j fb).js)++[own])).map (List.map (ig rs))/\∀l,GS.mg (own.map (fun j=>(rs.getD j fb).js)++[own])=some l->∀j∈l,gJ rs j:=by
 have all:∀r∈own.map (fun j=>(rs.getD j fb).js)++[own],∀x∈r,gJ rs x:=fun r hr x hx=>by
  rcases I0.mp hr with hr | hr
  ·obtain⟨j,J2,rfl⟩:=Jq.mp hr;exact(hj j J2).th.2 x hx
  ·rw[Vc.mp hr] at hx;exact ho x hx
 refine⟨?_,fun l hl j hm=>?_⟩
 ·rw[<-sR (S:=gJ rs) (fun i j hi hj e=>gJ.inj h hi hj e) all];congr 1;rw[Jg,List.map_map,List.map_map];congr 1;refine List.map_congr_left fun j hm=>?_;exact(hj j hm).th.1
 ·obtain⟨r,hr,hx⟩:=(DF hl).mp hm;exact all r hr j hx
theorem zr {B os rs ms}(h:eV B os rs ms) {j}(hj:gJ rs j):Eu os (ig rs j)/\ff rs (rs.getD j fb).js (r8 os[ig rs j]?):=by
 obtain⟨r,n,e,z⟩:=id hj;obtain⟨k,nm,ns,d,ev,_,ho,Kk,_⟩:=(h.rw j r e).1.cls (Vj Prod.fst z);have ek:ig rs j=k:=by unfold ig;rw[cg e,ev];rfl
 rw[ek,ho,cg e];exact⟨⟨_,_,_,_,ho⟩,Kk⟩
theorem gJ.lt {rs j}(h:gJ rs j):j < rs.length:=let ⟨_,_,e,_⟩:=h;aq e
theorem vg {rs}{js:List Nat}(h:∀j∈js,gJ rs j):js.map (fun j=>(rs.getD j fb).val)=(js.map (ig rs)).map aU:=by
 rw[List.map_map];exact List.map_congr_left fun j hj=>(h j hj).th.2
theorem F6 {B os rs ms}(h:eV B os rs ms) {j}(hj:j∈rn rs "class"):gJ rs j:=by
 obtain⟨r,e,t⟩:=ky hj;obtain⟨k,_,_,_,v,_⟩:=(h.rw j r e).1.cls t;exact⟨r,k,e,by unfold wK;rw[t,v]⟩
theorem eV.Es {B os rs ms}(h:eV B os rs ms):gJ rs 0/\ig rs 0=8:=by
 obtain⟨r,e,z⟩:=h.g 0 (by decide);refine⟨⟨r,8,e,z⟩,?_⟩;unfold ig;rw[cg e,show r.val=aU 8 from Vj Prod.snd z];rfl
theorem DG (rs:List (List Nat)):GS.mg (rs.map (List.map fun i=>D.int (i:Nat)))=(GS.mg rs).map (List.map fun i=>D.int (i:Nat)):=sR (S:=fun _=>True) (fun x y _ _ z=>by injection z with z;omega) (fun _ _ _ _=>trivial)
theorem yr {B os rs ms}(h:eV B os rs ms){es:List Nat}(he:∀j∈es,gJ rs j):(∃x,qY os (es.map (ig rs))=AG x)\/∃lj,qY os (es.map (ig rs))=.tup [.str "value",.tup ((lj.map (ig rs)).map aU)]/\GS.mg ((if es=[] then [0] else es).map (fun j=>(rs.getD j fb).js)++[if es=[] then [0] else es])=some lj/\(∀j∈lj,gJ rs j)/\lj.length<=39/\(lj.map (ig rs)).Nodup:=by
 have ho:∀j∈(if es=[] then [0] else es),gJ rs j:=fun j hj=>by
  split at hj
  ·rw[Vc.mp hj];exact h.Es.1
  ·exact he j hj
 have eo:(if es.map (ig rs)=[] then [8] else es.map (ig rs))=(if es=[] then [0] else es).map (ig rs):=by
  cases es with
  | nil=>show [8]=[ig rs 0];rw[h.Es.2]
  | cons a b=>rfl
 obtain⟨m1,m2⟩:=As h ho fun j hj=>(zr h (ho j hj)).2;unfold qY;split
 ·exact .inl ⟨_,rfl⟩
 ·rw[eo];unfold gD;rw[m1];cases hg:GS.mg ((if es=[] then [0] else es).map (fun j=>(rs.getD j fb).js)++[if es=[] then [0] else es]) with
  | none=>exact .inl ⟨_,rfl⟩
  | some lj=>
   rw[Option.map_some,Option.bind_some];by_cases hle:(lj.map (ig rs)).length<=39
   ·rw[II hle];refine .inr ⟨lj,rfl,rfl,m2 lj hg,by rw[IC] at hle;exact hle,?_⟩;rw[hg,Option.map_some] at m1;exact yE m1
   ·rw[IH hle];exact .inl ⟨_,rfl⟩
abbrev BX:Stmt:=cB 77
theorem Gw:bootBuiltins "max"=some (.builtin "max"):=by decide +kernel
structure Et (H:Hp) (pn:Addr) (xs:List Str):Prop where
 l:H pn=some (.lst (xs.map V.str))
 n:xs.length=12
 x:∀x∈xs,x.length<=100/\x≠"start"
theorem pG {n}:∀{ds:List D},(∀d∈ds,GS.dep d<=n)->cJ ds<=n
 | [],_=>by rw[cJ];exact Je _
 | d::ds,h=>by
  have h1:=h d Ir;have h2:=pG fun e he=>h e (Iq _ he);rw[cJ];omega
theorem set_same {α:Type}{l:List α}{i:Nat} {x}(h:l[i]?=some x):l.set i x=l:=by
 refine List.ext_getElem? fun j=>?_;by_cases e:j=i
 ·subst e;rw[IB (aq h),h]
 ·rw[IA (U8 e)]
inductive tEl (K:Fg06) (σ:L2.St) (H:Hp) (Q:VK):Prop
 | mk n D (ks:List Nat):sg σ 5 (.int n)->sg σ 7 (.ref D)->H D=some (.lst (ks.map fun j=>V.int (j:Nat)))->0 < ks.length->(∀l (es:List Nat) H',ak H H'->H' l=some (.lst (es.map fun j=>V.int (j:Nat)))->(∀j∈es,j∈ks)->es.length<=1->Q (.ref l) H')->tEl K σ H Q
inductive sEl (K:Fg06) (D0:U4) (σ:L2.St) (H:Hp):Prop
 | mk n D l (ks es:List Nat):sg σ 5 (.int n)->sg σ 7 (.ref D)->sg σ 8 (.ref l)->H D=some (.lst (ks.map fun j=>V.int (j:Nat)))->0 < ks.length->H l=some (.lst (es.map fun j=>V.int (j:Nat)))->(∀j∈es,j∈ks)->es.length<=1->(∀l' (NS:List Nat) H',ak H H'->H' l'=some (.lst (NS.map fun j=>V.int (j:Nat)))->(∀j∈NS,j∈ks)->NS.length<=2->D0.nx (σ.set 8 (some (.ref l'))) H')->sEl K D0 σ H
inductive G5 (K:Fg06) (c:fo) (iL:Nat) (σ:L2.St) (H:Hp) (Q:VK):Prop
 | mk wp q ps os rs as ms l (js:List Nat):sg σ 1 (.ref q.T)->sg σ iL (.ref l)->eX K c H wp q ps os rs as ms->H l=some (.lst (js.map fun j=>V.int (j:Nat)))->(∀j∈js,j < rs.length)->js.length<=1000->(∀v H',ak H H'->At K H' (.tup (js.map fun j=>(rs.getD j fb).val)) v->tW H' v->Q v H')->G5 K c iL σ H Q
inductive G6 (K:Fg06) (σ:L2.St) (H:Hp) (Q:VK):Prop
 | mk l (es:List Nat):sg σ 8 (.ref l)->H l=some (.lst (es.map fun j=>V.int (j:Nat)))->(∀p H',ak H H'->H' p=some (.lst ((if es=[] then [0] else es).map fun j=>V.int (j:Nat)))->Q (.ref p) H')->G6 K σ H Q
inductive tMg (K:Fg06) (c:fo) (σ:L2.St) (H:Hp) (Q:VK):Prop
 | mk wp q ps os rs as ms l (es:List Nat):sg σ 1 (.ref q.T)->sg σ 8 (.ref l)->eX K c H wp q ps os rs as ms->H l=some (.lst (es.map fun j=>V.int (j:Nat)))->(∀j∈es,j < rs.length)->es.length<=2->0 < rs.length->(∀p UT H',ak H H'->H' p=some (.lst UT)->Bv K H' (((if es=[] then [0] else es).map fun j=>((rs.getD j fb).js.map fun i=>D.int (i:Nat)))++[(if es=[] then [0] else es).map fun i=>D.int (i:Nat)]) UT->Q (.ref p) H')->tMg K c σ H Q
inductive tSm (K:Fg06) (c:fo) (σ:L2.St) (H:Hp) (Q:VK):Prop
 | mk wp q ps os rs as ms n:sg σ 1 (.ref q.T)->sg σ 12 (.int n)->eX K c H wp q ps os rs as ms->rs.length<=300->0 < (rn rs "function").length->(∀l (js:List Nat) H',ak H H'->H' l=some (.lst (js.map fun j=>V.ref (as.getD j 0)))->(∀j∈js,j < rs.length)->0 < js.length->Q (.ref l) H')->tSm K c σ H Q
inductive tVv (K:Fg06) (σ:L2.St) (H:Hp) (Q:VK):Prop
 | mk n u d os:sg σ 12 (.int n)->sg σ 13 u->At K H d u->Vd os d->(∀v dv H',ak H H'->At K H' dv v->Vd os dv->Q v H')->tVv K σ H Q
inductive xA (K:Fg06) (c:fo) (vs:List V) (H:Hp) (Q:VK) (E:XK):Prop
 | mk wp q ps os rs as ms B ca pn m xs:vs=[.ref wp.W,.ref q.T,.ref ca,.ref q.b,.ref pn]->eX K c H wp q ps os rs as ms->eV B os rs ms->jH K H ca q.b m->Et H pn xs->pn∉Sy wp q->ca∉Sy wp q->3<=B->m<=100000->0 < (rn rs "function").length->os.length<=850->rs.length<=290->(∀H' JJ Jw rx ax m',mv (Sy wp q) H H'->eX K c H' wp q JJ Jw (rs++rx) (as++ax) ms->eV B Jw (rs++rx) ms->Jw.length<=os.length+1->rx.length<=1->H' q.b=some (.lst [.int ((m':Nat):Int)])->m'<=m+3->Q (.bl true) H')->xA K c vs H Q E
theorem hE:aQ ["_law_world","_law_there","_law_cells","_law_spot","_law_names_here","_law_n","_law_k","_law_kinds","_law_elders","_law_found","_law_order_here","_law_handed","_law_more","_law_one","_law_some","_law_value"] ["_law_world","_law_there","_law_cells","_law_spot","_law_names_here"] (aC BX):=gp
theorem Dc (g:Glb9 mg) (F:fm K "_law_class" "_law_class" BX f fd) (dCe:Def P w K mg base "_law_cell" ["_law_cells","_law_spot"] 1 (kg K)) (dP:Def P w K mg base "_law_plain" ["_law_n"] 1 (xo K)) (dO:Def P w K mg base "order_of" ["world","elders"] 5 (xp K c)) (dM:Def P w K mg base "_law_merged" ["_law_rows"] 1 (EJ K)) (dK:Def P w K mg base "class_of" ["world","name","order","fields"] 4 (BQ K c)):bK P w K mg base fq 6 f fd ["_law_world","_law_there","_law_cells","_law_spot","_law_names_here"] (xA K c):=by
 refine F.gB hE fun UO A outer s H vs Q E hr h=>?_;obtain⟨wp,q,ps,os,rs,as,ms,B,ca,pn,m,xs,rfl,hS,hM,Ki,hN,npn,nca,hB,hm,Pp,lo,lr,k⟩:=h;refine⟨_,(aa (eG 5 hE.nd (cM dCe (cq (pv 2) (pv 3))))
   (aa (.mk (L2.dq (iy:=7) (cl:=[("_law_there",s.heap.objs.size+1)]) (Xs:=["_law_k"]) (Nf:=["_law_there"]) (js:=[1]) ?k1 rfl (LI.out (bQ rfl g.gX (cy (au az rfl g.dH bW (cy (pv 1)))))) (fun C s0 H0 fp=>LG.out (ip 0 (show(["_law_k","_law_there"]:List Str).Nodup by decide +kernel))) (fun C s0 H0 fp=>fJ (LT.out (fR cP (cV K (cV K (pv 1) (pv 0)) ag) aj))) (fun C s0 H0 fp=>LE.out (pv 0)) hE.nd rfl (Or.inl rfl)))
   (aa (eG 8 hE.nd (cS (t':=tEl K) (bg eE (aY (cy (cV K (pv 7) (aB fi (au (wB rfl) rfl g.HN Gw (cq ag (aB jS (au az rfl g.dH bW (cy (pv 7))) ag))) (aB br (aB bF (pv 5) ag) (au (pM rfl) rfl g.F0 Bu (cq ag (au az rfl g.dH bW (cy (pv 7)))))))))) bD (bz (aB br (pv 5) ag))) ?el))
   (aa (gs (t':=sEl K) (bo (fR cP (aB br (aB bF (pv 5) ag) ag) ag) (ah (eG 8 hE.nd (aB jU (pv 8) (aY (cy (cV K (pv 7) (aB br (aB bF (pv 5) ag) (au az rfl g.dH bW (cy (pv 7)))))))))) aP) ?el2)
   (aa (eG 9 hE.nd (cM dO (cq (pv 0) (cS (t':=G5 K c 8) (bE me rfl g.qh mI (cy (.mk (L2.cG (cl:=[("_law_there",s.heap.objs.size+1)]) (Xs:=["_law_k"]) (Nf:=["_law_there"]) (js:=[1]) ?k2 rfl (LI.out (bL (pv 8))) (fun C s0 H0 fp=>LG.out (ip 0 (show(["_law_k","_law_there"]:List Str).Nodup by decide +kernel))) (fun C s0 H0 fp=>eY) (fun C s0 H0 fp=>LE.out (cV K (cV K (pv 1) (pv 0)) ag)))))) ?tp8))))
   (aa (bo (fR cP (cF (pv 9)) aj) (ah (aJ gA)) aP)
   (aa (eG 10 hE.nd (cM dM (cy (cS (t':=tMg K c) (aB jU (.mk (L2.cG (cl:=[("_law_there",s.heap.objs.size+1)]) (Xs:=["_law_k"]) (Nf:=["_law_there"]) (js:=[1]) ?k3 rfl (LI.out (bL (cS (t':=G6 K) (ye K (pv 8) (d9 (aY (cy ag)))) ?oz1))) (fun C s0 H0 fp=>LG.out (ip 0 (show(["_law_k","_law_there"]:List Str).Nodup by decide +kernel))) (fun C s0 H0 fp=>eY) (fun C s0 H0 fp=>LE.out (cV K (cV K (pv 1) (pv 0)) ag)))) (aY (cy (cS (t':=G6 K) (ye K (pv 8) (d9 (aY (cy ag)))) ?oz2)))) ?mg))))
   (aa (eG 11 hE.nd bV)
   (aa (cL IW rfl (bQ rfl g.gX (cy (aB br (aB bF (pv 5) ag) ag))) (ip 6 hE.nd) (aa (eG 12 hE.nd (cM dCe (cq (pv 2) (pv 3))))
    (aa (eG 14 hE.nd (cS (t':=tSm K c) (bC (fR gm (aB br (pv 12) ag) ag) (pv 1) (.mk (L2.cG (cl:=[]) (Xs:=["_law_one"]) (Nf:=[]) (js:=[]) ?k4 rfl (LI.out (bL (pv 1))) (fun C s0 H0 fp=>LG.out (ip 0 (show(["_law_one"]:List Str).Nodup by decide +kernel))) (fun C s0 H0 fp=>fJ (LT.out (fR cP (cV K (pv 0) ag) aj))) (fun C s0 H0 fp=>LE.out (pv 0))))) ?sm))
    (aa (eG 13 hE.nd (cV K (cV K (pv 14) (aB br (aB bF (pv 12) ag) (au az rfl g.dH bW (cy (pv 14))))) ag))
    (ah (.mk (L2.il (fI hr) (LE.out (pv 11)) (LE.out (cV K (pv 4) (aB br (pv 12) ag))) (LE.out (cS (t':=tVv K) (bC (fR gm (aB br (pv 12) ag) ag) (pv 13) (cM dP (cy (aB bF (pv 12) ag)))) ?vv)) rfl)))))))
   (aa (eG 15 hE.nd (cM dK (mi (pv 0) (cV K (pv 4) (aB br (aB bF (pv 5) ag) ag)) (cF (pv 9)) (pv 11))))
   (aa (bT (dQ Jb Jc Jd cf (pv 1) (cy (aY (aI aj (mi (pv 15) (cV K (pv 4) (aB br (aB bF (pv 5) ag) ag)) (aB jU (aY (cy (au az rfl g.dH bW (cy (pv 1))))) (pv 10)) (bE oi rfl g.yD tS (cy (pv 11)))))))))
   (aa (bT (L3.nD (pv 11)))
   (ah (aJ (qM (r:=nz K) (gW hr) (cF (pv 9)) (cS (t':=G5 K c 10) (bE me rfl g.qh mI (cy (.mk (L2.cG (cl:=[("_law_there",s.heap.objs.size+1)]) (Xs:=["_law_k"]) (Nf:=["_law_there"]) (js:=[1]) ?k5 rfl (LI.out (bL (pv 10))) (fun C s0 H0 fp=>LG.out (ip 0 (show(["_law_k","_law_there"]:List Str).Nodup by decide +kernel))) (fun C s0 H0 fp=>eY) (fun C s0 H0 fp=>LE.out (cV K (cV K (pv 1) (pv 0)) ag)))))) ?tp10)))))))))))))))),?main⟩
 case k1=>exact qB
 case k2=>exact qB
 case k3=>exact qB
 case k4=>exact Gq
 case k5=>exact qB
 case el=>
  rintro σ H Q ⟨n,D,ks,e5,e7,hD,hk,k⟩;obtain⟨y,hy,Ju⟩:=mod_lt (n:=n / 5) (m:=min 5 ks.length) (by omega);obtain⟨x,hx⟩:∃x,ks[ks.length - 5+y]?=some x:=⟨_,Iy (by omega)⟩;obtain⟨z,hz,Rk⟩:=mod_lt (n:=n) (m:=3) (by decide);have lk:(ks.map fun j=>V.int (j:Nat)).length=ks.length:=IC _;refine⟨_,e7,_,e7,D,_,rfl,.inl (aS.of hD),_,_,rfl,rfl,_,_,rfl,_,e5,_,_,rfl,rfl,⟨by decide,by decide⟩,_,e7,D,_,rfl,.inl (aS.of hD),_,_,rfl,_,_,rfl,rfl,by rw[lk];split<;>omega,_,_,rfl,rfl,D,_,_,.int (x:Nat),rfl,rfl,aS.of hD,?_,pY,fun l1 Kj=>⟨_,e5,_,_,rfl,rfl,cH,_,rfl,l1,_,rfl,aS.of ae,fun l2 JF=>?_⟩⟩
  ·rw[lk,show(if((ks.length:Nat):Int) < 5 then((ks.length:Nat):Int) else 5)=((min 5 ks.length:Nat):Int) by split<;>omega,hy,show(if((ks.length:Nat):Int) - 5 > 0 then((ks.length:Nat):Int) - 5 else 0)+((y:Nat):Int)=((ks.length - 5+y:Nat):Int) by split<;>omega];exact aw (by rw[IJ,hx];rfl)
  ·refine k l2 ([x].take z) _ ((ab Kj _).trans (ab JF _)) ?_ (fun j hj=>?_) (by rw[Vb];show min z 1<=1;omega)
   ·rw[ae];show some (HO.lst (de [V.int ((x:Nat):Int)] none (some (n % ((3:Nat):Int)))))=_;rw[hz,kC,List.map_take];rfl
   ·rw[Vc.mp (List.mem_of_mem_take hj)];exact IG hx
 case el2=>
  rintro D0 σ H ⟨n,D,l,ks,es,e5,e7,e8,hD,hk,hl,he,h1,k⟩;refine⟨_,e5,_,_,rfl,rfl,⟨by decide,by decide⟩,_,_,rfl,rfl,cH,rfl,_,rfl,bJ (fun _=>?_) (fun _=>?_)⟩
  ·obtain⟨y,hy,Ju⟩:=mod_lt (n:=n / 100) hk;obtain⟨x,hx⟩:∃x,ks[y]?=some x:=⟨_,Iy Ju⟩;have lk:(ks.map fun j=>V.int (j:Nat)).length=ks.length:=IC _;refine⟨_,e8,_,e7,_,e5,_,_,rfl,rfl,⟨by decide,by decide⟩,_,e7,D,_,rfl,.inl (aS.of hD),_,_,rfl,rfl,by rw[lk];omega,D,_,_,.int (x:Nat),rfl,rfl,aS.of hD,?_,pY,fun l1 Kj=>⟨l,l1,_,_,rfl,rfl,ab Kj _ _ _ hl,ae,small (by rw[IC];show es.length+1<=_;omega),fun l2 JF=>?_⟩⟩
   ·rw[lk,hy];exact aw (by rw[IJ,hx];rfl)
   ·refine k l2 (es++[x]) _ ((ab Kj _).trans (ab JF _)) (by rw[ae,Jg];rfl) (fun j hj=>?_) (by rw[Iu];show es.length+1<=2;omega);rcases I0.mp hj with hj | hj
    ·exact he j hj
    ·rw[Vc.mp hj];exact IG hx
  ·have:=k l es H (ak.refl _) hl he (by omega);rw[set_same e8] at this;exact this
 case tp8 | tp10=>
  rintro σ H Q ⟨wp,q,ps,os,rs,as,ms,l,js,e1,eL,hS,hl,hj,lj,k⟩;refine⟨_,eL,l,rfl,⟨_,aS.of hl⟩,[.ref q.T],⟨rfl,fun j i h=>?_⟩,bM (vs:=[.ref q.T]) (tc:=gN) (js.map fun j=>V.int (j:Nat)).length (fun i=>(js.map fun j=>V.int (j:Nat)).getD i .bb) (fun _=>true) (fun i v H'=>At K H' (rs.getD (js.getD i 0) fb).val v) (fun _ _ _ _ s z=>At.same s _ _ z) (by rw[IC];omega) (ee (aS.of hl)) (gx (aS.of hl)) (fw (aS.of hl)) (fun i H2 Q' hi s2 k2=>k2 H2 (ak.refl _)) (fun i H2 D l' Q' hi _ s2 hD KL k2=>?_) fun D H2 ys hD s2 JF hP=>?_⟩
  ·match j,h with
   | 0,h=>cases h;exact⟨_,rfl,e1⟩
   | j+1,h=>simp at h
  ·rw[IC] at hi;have ej:js[i]?=some (js.getD i 0):=some_of 0 hi;have JD:=hS.same s2;obtain⟨a',Kx,Kf,J8⟩:=JD.at (some_of fb (hj _ (IG ej)));obtain⟨u1,u2,Ky,Ks,_⟩:=J8.ix;have ei:(js.map fun j=>V.int (j:Nat)).getD i .bb=V.int ((js.getD i 0:Nat):Int):=cg (by rw[IJ,ej];rfl);rw[ei];exact⟨_,rfl,_,rfl,q.T,_,_,.ref a',rfl,rfl,aS.of JD.t,aw Kf,a',_,_,u1,rfl,rfl,Ky,aw (j:=1) rfl,k2 _ _ (ak.refl _) (At.wo KL _ _ Ks)⟩
  ·have hA:=(hP.mono (fun i v z=>At.same (eB H2 D) _ _ z)).at
   rw[U5.mpr (fun _ _=>rfl),IC,di js 0 (fun j=>(rs.getD j fb).val)] at hA;exact⟨D,ys,rfl,aS.of JF,fun t o ht ho=>k (.ref t) _ (s2.trans (ab ht _)) (At.DB ht hA) ⟨t,o,_,rfl,ae,ho⟩⟩
 case oz1 | oz2=>
  rintro σ H Q ⟨l,es,e8,hl,k⟩;refine⟨_,e8,l,_,rfl,aS.of hl,?_⟩;cases es with
  | nil=>exact cC ⟨pY,fun p hp=>k p _ (ab hp _) ae⟩
  | cons a b=>exact bu (k l H (ak.refl _) hl)
 case mg=>
  rintro σ H Q ⟨wp,q,ps,os,rs,as,ms,l,es,e1,e8,hS,hl,hj,le2,hr0,k⟩;refine⟨l,es,e8,hl,fun p1 H1 s1 J0=>?_⟩;have ho:∀j∈(if es=[] then [0] else es),j < rs.length:=fun j hm=>by
   split at hm
   ·rw[Vc.mp hm];exact hr0
   ·exact hj j hm
  have lw:(if es=[] then [0] else es).length<=2:=by
   split
   ·show 1<=2;decide
   ·exact le2
  generalize hw:(if es=[] then [0] else es)=own at J0 ho lw k;refine⟨p1,rfl,⟨_,aS.of J0⟩,[.ref q.T],⟨rfl,fun j i h=>?_⟩,bM (vs:=[.ref q.T]) (tc:=gN) (own.map fun j=>V.int (j:Nat)).length (fun i=>(own.map fun j=>V.int (j:Nat)).getD i .bb) (fun _=>true) (fun i v _=>v=.ref (rs.getD (own.getD i 0) fb).ol) (fun _ _ _ _ s z=>z) (by rw[IC];omega) (ee (aS.of J0)) (gx (aS.of J0)) (fw (aS.of J0)) (fun i H2 Q' hi s2 k2=>k2 H2 (ak.refl _)) (fun i H2 D l' Q' hi _ s2 hD KL k2=>?_) fun D H2 ys hD s2 JF hP=>?_⟩
  ·match j,h with
   | 0,h=>cases h;exact⟨_,rfl,e1⟩
   | j+1,h=>simp at h
  ·rw[IC] at hi;have ej:own[i]?=some (own.getD i 0):=some_of 0 hi;have JD:=hS.same (s1.trans s2);obtain⟨a',Kx,Kf,J8⟩:=JD.at (some_of fb (ho _ (IG ej)));obtain⟨u1,u2,Ky,Ks,_⟩:=J8.ix;have ei:(own.map fun j=>V.int (j:Nat)).getD i .bb=V.int ((own.getD i 0:Nat):Int):=cg (by rw[IJ,ej];rfl);rw[ei];exact⟨_,rfl,_,rfl,q.T,_,_,.ref a',rfl,rfl,aS.of JD.t,aw Kf,a',_,_,.ref _,rfl,rfl,Ky,aw (j:=3) rfl,k2 _ _ (ak.refl _) rfl⟩
  have ey:=hP.eq;rw[U5.mpr (fun _ _=>rfl),IC,di own 0 (fun j=>V.ref (rs.getD j fb).ol)] at ey;have Jv:=s1.trans s2;refine⟨l,es,e8,Jv _ _ hl,fun p3 H3 s3 Mq=>⟨pY,fun l4 K5=>⟨D,l4,ys,[.ref p3],rfl,rfl,(s3.trans (ab K5 _)) _ _ JF,ae,small (by rw[ey,IC];show own.length+1<=_;omega),fun p5 RA=>?_⟩⟩⟩;have JG:=Jv.trans s3;have s4:=ab K5 (.lst [.ref p3]);have s5:=ab RA (.lst (ys++[.ref p3]));have KR:=(JG.trans s4).trans s5;rw[hw] at Mq;refine k p5 _ _ KR ae ⟨by rw[ey];simp,fun i hi=>?_⟩;have J3:=hS.same KR;rw[Iu,IC,Jl] at hi;by_cases RE:i < own.length
  ·have ej:own[i]?=some (own.getD i 0):=some_of 0 RE;obtain⟨a',Kx,Kf,J8⟩:=J3.at (some_of fb (ho _ (IG ej)));refine⟨(rs.getD (own.getD i 0) fb).ol,by rw[ey,Jo (by rw[IC];exact RE),IJ,ej];rfl,?_⟩;rw[cg (x:=(rs.getD (own.getD i 0) fb).js.map fun i=>GS.D.int (i:Nat)) (by rw[Jo (by rw[IC];exact RE),IJ,ej];rfl),List.map_map];exact aS.of J8.o
  ·have ei:i=own.length:=by omega
   subst ei;refine⟨p3,by rw[ey,IX (by rw[IC];exact IE _),IC,Nat.sub_self];rfl,?_⟩;rw[cg (x:=own.map fun i=>GS.D.int (i:Nat)) (by rw[IX (by rw[IC];exact IE _),IC,Nat.sub_self];rfl),List.map_map];exact aS.of ((s4.trans s5) _ _ Mq)
 case sm=>
  rintro σ H Q ⟨wp,q,ps,os,rs,as,ms,n,e1,QK,hS,lr,hf,k⟩;have lm:(as.map V.ref).length=rs.length:=by rw[IC];exact hS.n
  have eall:as.map V.ref=(List.range rs.length).map fun j=>V.ref (as.getD j 0):=by
   rw[<-hS.n,di as 0 V.ref]
  refine⟨_,QK,_,_,rfl,rfl,cH,_,_,rfl,rfl,_,rfl,bJ (fun _=>⟨_,e1,k q.T (List.range rs.length) H (ak.refl _) (by rw[hS.t,eall]) (fun j hj=>List.mem_range.mp hj) ?_⟩) (fun _=>?_)⟩
  ·have:=Ay (rs:=rs) (tag:="function");rw[List.length_range];omega
  refine⟨_,e1,q.T,rfl,⟨_,aS.of hS.t⟩,[],⟨rfl,fun j i h=>by simp at h⟩,bM (vs:=[]) (as.map V.ref).length (fun i=>(as.map V.ref).getD i .bb) (fun i=>decide ((rs.getD i fb).tag="function")) (fun i v _=>v=.ref (as.getD i 0)) (fun _ _ _ _ _ z=>z) (by omega) (ee (aS.of hS.t)) (gx (aS.of hS.t)) (fw (aS.of hS.t)) (fun i H2 Q' hi s2 k2=>?_) (fun i H2 D l' Q' hi _ s2 _ _ k2=>?_) fun D H2 ys hD s2 JF hP=>?_⟩
  ·obtain⟨a',Kx,Kf,J8⟩:=(hS.same s2).at (some_of fb (show i < rs.length by omega));obtain⟨u1,u2,Ky,Ks,_⟩:=J8.ix;rw[cg Kf];refine⟨_,rfl,a',_,_,.str (rs.getD i fb).tag,rfl,rfl,Ky,aw (j:=0) rfl,rfl,_,rfl,?_⟩;rw[rQ];exact k2 _ (ak.refl _)
  ·have ei:(as.map V.ref).getD i .bb=.ref (as.getD i 0):=by
    have KN:i < as.length:=by rw[IC] at hi;exact hi
    exact cg (by rw[IJ,some_of 0 KN];rfl)
   exact⟨_,rfl,k2 _ _ (ak.refl _) ei⟩
  ·refine k D (rn rs "function") H2 s2 ?_ (fun j hj=>?_) hf
   ·rw[JF,hP.eq,lm];rfl
   ·obtain⟨r,e,_⟩:=ky hj;exact aq e
 case vv=>
  rintro σ H Q ⟨n,u,d,os,QK,QJ,hu,hd,k⟩;refine⟨_,QK,_,_,rfl,rfl,cH,_,_,rfl,rfl,_,rfl,bJ (fun _=>⟨_,QJ,k u d H (ak.refl _) hu hd⟩) (fun _=>⟨_,QK,_,_,rfl,rfl,⟨by decide,by decide⟩,_,rfl,fun d' v H' hp s' hv=>k v d' H' s' hv (hp.vd os).1⟩)⟩
 case main=>
  have hb:H q.b=some (.lst [.int ((m:Nat):Int)]):=Ki.mh;have ln:=hS.n;refine⟨_,rfl,_,rfl,ca,q.b,m,rfl,Ki,by omega,fun n H1 hn0 Nq b1 K7=>?_⟩;have JN:=hS.mh hb b1 K7;have hsp1:=Ki.go b1 K7;have kp:∀{p xs H'},p∉Sy wp q->H p=some (.lst xs)->mv (Sy wp q) H H'->H' p=some (.lst xs):=fun hp e c=>c _ _ e hp (fun _ z=>nomatch z);have c1:mv (Sy wp q) H H1:=b1.iD Sy.b;refine⟨_,rfl,q.T,_,rfl,.inl (aS.of JN.t),_,rfl,by omega,by rw[IC];omega,[.ref q.T],⟨rfl,fun j i h=>?_⟩,mH "class" (by rw[Int.toNat_natCast,IC];exact ln) JN (by omega) fun D H2 P2 s2 hD=>?_⟩
  ·match j,h with
   | 0,h=>cases h;exact⟨_,rfl,rfl⟩
   | j+1,h=>simp at h
  refine⟨n,D,rn rs "class",rfl,rfl,hD,hM.yM,fun l0 es0 H3 s3 Ph he0 Lx=>⟨n,D,l0,rn rs "class",es0,rfl,rfl,rfl,s3 _ _ hD,hM.yM,Ph,he0,Lx,fun l es H4 s4 hl he h2=>?_⟩⟩;have Ka:=(s2.trans s3).trans s4;have My:∀j∈es,gJ rs j:=fun j hj=>F6 hM (he j hj);have JM:=JN.same Ka;refine⟨_,rfl,wp,q,ps,os,rs,as,ms,l,es,rfl,rfl,JM,hl,fun j hj=>(My j hj).lt,by omega,fun v H5 s5 hv JC=>?_⟩;have KR:=Ka.trans s5;have J3:=JN.same KR;rw[vg My] at hv;refine⟨wp,ps,os,gS,[],[],v,es.map (ig rs),rfl,J3.w,hM.kb,by decide +kernel,(hM.Es.2▸(zr hM hM.Es.1).1),hv,JC,by rw[IC];omega,fun e hee=>?_,fun rf H6 s6 hf=>?_⟩
  ·obtain⟨j,hj,rfl⟩:=Jq.mp hee;exact(zr hM (My j hj)).1
  have Mi:=KR.trans s6;have JI:=JN.same Mi;rcases yr hM My with ⟨x,hx⟩ | ⟨lj,hx,hmg,Pf,l39,Lk⟩
  ·rw[hx] at hf;refine⟨_,rfl,0,_,_,rfl,hf,rfl,fun y0 h0=>?_⟩;rw[aH.mp h0];refine⟨rfl,_,rfl,?_⟩;rw[Iw rfl];exact cC (k H6 ps os [] [] (m+1) (c1.trans (ak.iD Mi)) (by rw[Jf,Jf];exact JI) (by rw[Jf];exact hM) (Nat.le_succ _) (Je _) (Mi _ _ K7) (by omega))
  rw[hx] at hf;refine⟨_,rfl,0,_,_,rfl,hf,rfl,fun y0 h0=>?_⟩;rw[aH.mp h0];refine⟨rfl,_,rfl,?_⟩;rw[qA (by decide +kernel)];have Nt:=(s5.trans s6) _ _ hl;have O6:∀j∈(if es=[] then [0] else es),gJ rs j:=fun j hj=>by
   split at hj
   ·rw[Vc.mp hj];exact hM.Es.1
   ·exact My j hj
  have lown:(if es=[] then [0] else es).length<=2:=by
   split
   ·show 1<=2;decide
   ·exact h2
  refine bu ⟨wp,q,ps,os,rs,as,ms,l,es,rfl,rfl,JI,Nt,fun j hj=>(My j hj).lt,h2,hM.Es.1.lt,fun p UT H7 s7 hp Qu=>?_⟩;generalize (if es=[] then [0] else es)=own at hmg O6 lown Qu;have edss:own.map (fun j=>((rs.getD j fb).js.map fun i=>GS.D.int (i:Nat)))++[own.map fun i=>GS.D.int (i:Nat)]=(own.map (fun j=>(rs.getD j fb).js)++[own]).map (List.map fun i=>GS.D.int (i:Nat)):=by
   rw[Jg,List.map_map];rfl
  have emg:=DG (own.map (fun j=>(rs.getD j fb).js)++[own]);rw[<-edss,hmg] at emg;have rowJ:∀ds∈own.map (fun j=>((rs.getD j fb).js.map fun i=>GS.D.int (i:Nat)))++[own.map fun i=>GS.D.int (i:Nat)],∃js:List Nat,ds=(js.map fun i=>GS.D.int (i:Nat))/\js.length<=100:=fun ds JH=>by
   rcases I0.mp JH with h | h
   ·obtain⟨j,hj,rfl⟩:=Jq.mp h;obtain⟨⟨_,_,_,_,hK⟩,Kk⟩:=zr hM (O6 j hj);refine⟨_,rfl,?_⟩;rw[Kk.len];exact ID (CM hM.kb (ig rs j)).2 (by decide)
   ·rw[Vc.mp h];exact⟨own,rfl,by omega⟩
  refine⟨p,UT,_,rfl,aS.of hp,Qu,fun ds JH d hd=>?_,by rw[Iu,IC];show own.length+1<=1000;omega,fun ds JH=>?_,fun H8 s8 hm=>?_,fun q8 H8 lq s8 hm hq0 Qv=>?_⟩
  ·obtain⟨js,rfl,_⟩:=rowJ ds JH;obtain⟨i,_,rfl⟩:=Jq.mp hd;exact .inl ⟨_,rfl⟩
  ·obtain⟨js,rfl,h⟩:=rowJ ds JH;rw[IC];exact h
  ·rw[emg] at hm;cases hm
  rw[emg] at hm;cases hm;rw[List.map_map] at Qv;have Qv:H8 q8=some (.lst (lj.map fun j=>V.int (j:Nat))):=Qv;have Oz:=(Mi.trans s7).trans s8;intro hd Oa;have s9:=ab Oa (.dK []);have Kz:=Oz.trans s9;have PR:=JN.same Kz;have Ry:=s9 _ _ Qv;have Tw:=At.same ((s7.trans s8).trans s9) _ _ hf;have Oh:U1 H8 hd (.dK []) hd=some (.dK []):=ae;have QD:=Kz _ _ K7;have c9:=c1.trans (ak.iD Kz);have OI:∀(i:Nat) r,rs[i]?=some r->r.dl≠hd:=fun i r e y=>by
   obtain⟨kv,hk⟩:=(JN.same Oz).dict e;rw[y,Oa] at hk;cases hk
  have OH:¬oK os hd:=(JN.same Oz).w.freshD Oa;have OG:wp.g≠hd:=fun y=>by
   obtain⟨kv,hk,_⟩:=(JN.same Oz).w.v;rw[y,Oa] at hk;cases hk
  have nqS:q8∉Sy wp q:=(JN.same (Mi.trans s7)).new (none_of (ak.refl _) (by exact hq0));generalize U1 H8 hd (.dK [])=H9 at s9 Kz PR Ry Tw Oh QD c9 ⊢;have nh:∀p o,H p=some o->p≠q.b->p≠hd:=fun p o e hp y=>by
   have:=Oz _ _ (b1 _ _ hp e);rw[y,Oa] at this;cases this
  have bq9:bw q.b H H9:=fun p o hp e=>Kz _ _ (b1 p o hp e);have nhb:hd≠q.b:=cv Oh QD;clear Oa s9;obtain⟨z,hz,Rk⟩:=mod_lt (n:=n / 700) (m:=3) (by decide);refine⟨_,rfl,_,_,rfl,rfl,⟨by decide,by decide⟩,_,_,rfl,rfl,cH,((z:Nat):Int),Vj (fun t=>[V.int t]) hz,by omega,by omega,ju (lo:=0) (n:=z) (fun i σ H'=>(∃o6 Q5 Q4 Q3,σ=[some (.ref wp.W),some (.ref q.T),some (.ref ca),some (.ref q.b),some (.ref pn),some (.int n),o6,some (.ref D),some (.ref l),some rf,some (.ref q8),some (.ref hd),Q5,Q4,Q3,none])/\eX K c H' wp q ps os rs as ms/\(∀p o,H9 p=some o->p≠q.b->p≠hd->H' p=some o)/\H' q.b=some (.lst [.int ((m+1+i:Nat):Int)])/\∃fs,fz K H' hd fs/\fs.length<=i/\fs.lookup ("start":Str)=none/\∀x dd,fs.lookup x=some dd->Vd os dd) ⟨⟨_,_,_,_,rfl⟩,PR,fun p o e _ _=>e,QD,[],fz.nil Oh,Je _,rfl,fun _ _ e=>nomatch e⟩ ?t ?s⟩
  case t=>
   rintro i σ H1' hi ⟨⟨o6,Q5,Q4,Q3,rfl⟩,Ke,bt,KO,fs,JU,lfs,Km,Kg⟩;have Sa:bw q.b H H1':=fun p o hp e=>bt p o (bq9 p o hp e) hp (nh p o e hp);refine⟨_,rfl,_,rfl,ca,q.b,m+1+i,rfl,Ki.go Sa KO,by omega,fun n' H2' _ _ b2 L8=>?_⟩;have JD:=Ke.mh KO b2 L8;have bq2:=Sa.trans b2;obtain⟨kv,Mt⟩:=JU.dict;have Po:=JU.keep (by rw[Mt];exact b2 _ _ nhb Mt) (b2.fx KO rfl);refine⟨wp,q,ps,os,rs,as,ms,n',rfl,rfl,JD,by omega,Pp,fun l2 js H3' N1 JF Kk KG=>?_⟩;have Kv:=JD.same N1;have hb3:=N1 _ _ L8;have Pn:=Po.keep (by obtain⟨wL,Lo⟩:=Po.dict;rw[Lo];exact N1 _ _ Lo) (ak.fx N1);obtain⟨y,hy,Ju⟩:=mod_lt (n:=n' / 8) KG;have ejs:js[y]?=some (js.getD y 0):=some_of 0 Ju;have Tp:=Kk _ (IG ejs);have erj:=some_of fb Tp;obtain⟨a',Kx,Kf,J8⟩:=Kv.at erj;obtain⟨u1,u2,Ky,Ks,_⟩:=J8.ix;have SO:(js.map fun j=>V.ref (as.getD j 0)).length=js.length:=IC _;refine⟨_,rfl,_,rfl,_,_,rfl,rfl,⟨by decide,by decide⟩,_,rfl,l2,_,rfl,.inl (aS.of JF),_,_,rfl,rfl,by rw[SO];omega,l2,_,_,.ref a',rfl,rfl,aS.of JF,?_,a',_,_,u1,rfl,rfl,Ky,aw (j:=1) rfl,?_⟩
   ·rw[SO,hy];exact aw (by rw[IJ,ejs,Option.map_some,cg Kx])
   obtain⟨x8,hx8,hx8l⟩:=mod_lt (n:=n') (m:=8) (by decide);have nbpn:pn≠q.b:=fun y=>npn (y▸Sy.b);have hN3:=N1 _ _ (b2 _ _ nbpn (Sa _ _ nbpn hN.l));have hn12:=hN.n;obtain⟨OD,Pa⟩:∃nm,xs[x8]?=some nm:=⟨_,Iy (by omega)⟩;obtain⟨_,nst8⟩:=hN.x OD (IG Pa);refine⟨n',u1,_,os,rfl,rfl,Ks,(hM.rw _ _ erj).1.vd,fun v dv H4' N0 hv hvv=>?_⟩;have hfs4:=Pn.keep (by obtain⟨wL,Lo⟩:=Pn.dict;rw[Lo];exact N0 _ _ Lo) (ak.fx N0);obtain⟨UM,Tj,lk4,L0⟩:=hfs4.put (n:=OD) hv;have hS4':=Kv.same N0;refine⟨_,rfl,_,rfl,_,rfl,_,_,rfl,rfl,cH,pn,_,_,.str OD,rfl,rfl,aS.of (N0 _ _ hN3),?_,hd,_,rfl,mq.k (k:=.inr OD) Tj (bZ (by omega)),⟨_,_,_,_,rfl⟩,hS4'.Bh Tj OI OH OG,fun p o e J0 Kb=>?_,?_,(OD,dv)::fs,L0,by rw[IT];omega,?_,fun x dd ex=>?_⟩
   ·show jZ (xs.map V.str) (n' % ((8:Nat):Int))=_;rw[hx8];exact aw (by rw[IJ,Pa];rfl)
   ·rw[aD Kb];exact N0 _ _ (N1 _ _ (b2 _ _ J0 (bt p o e J0 Kb)))
   ·rw[aD (U8 nhb)];exact N0 _ _ hb3
   ·rw[dk,IH nst8];exact Km
   ·rw[dk] at ex;split at ex
    ·cases ex;exact hvv
    ·exact Kg x dd ex
  case s=>
   rintro σ JL ⟨⟨o6,Q5,Q4,Q3,rfl⟩,Kq,bt,hb10,fs,JU,lfs,Km,Kg⟩;have f9:Fx H9 JL:=fun p o e z=>bt p o e (fun y=>by rw[y,QD] at e;cases e;cases z) (fun y=>by rw[y,Oh] at e;cases e;cases z);have P8:mv (Sy wp q) H JL:=c9.trans fun p o e hp Lk=>bt p o e (fun y=>hp (y▸Sy.b)) (fun y=>by rw[y,Oh] at e;cases e;exact Lk _ rfl);have Kp:=At.fx f9 _ _ Tw;have PY:=P8 _ _ hN.l npn (fun _ z=>nomatch z);have hq10:=bt _ _ Ry (fun y=>nqS (y▸Sy.b)) (cv Ry Oh);have hn12:=hN.n;have yy:=hM.yy;obtain⟨QU,M6,hl12⟩:=mod_lt (n:=n / 2100) (m:=12) (by decide);obtain⟨nm,Mr⟩:∃nm,xs[QU]?=some nm:=⟨_,Iy (by omega)⟩;obtain⟨lnm,_⟩:=hN.x nm (IG Mr);have atN:jZ (xs.map V.str) (n / 2100 % ((12:Nat):Int))=some (.str nm):=by
    rw[M6];exact aw (by rw[IJ,Mr];rfl)
   refine⟨_,rfl,_,rfl,_,rfl,_,_,rfl,rfl,⟨by decide,by decide⟩,_,_,rfl,rfl,cH,pn,_,_,.str nm,rfl,rfl,aS.of PY,atN,_,rfl,1,_,_,rfl,Kp,rfl,fun v2 JT=>⟨_,rfl,wp,ps,os,gS,[],[],nm,v2,hd,lj.map (ig rs),fs,rfl,Kq.w,yy,by omega,JT,by rw[IC];omega,JU,fun rv Lb Qm QM NC LB w11 av=>?_⟩⟩;have K8:=Kq.grow LB w11 (fun d e=>by cases e;exact NC);have lts:∀n∈lj.map (ig rs),n < os.length/\Eu os n:=fun n hn=>by
    obtain⟨j,hj,rfl⟩:=Jq.mp hn;have hk:=(zr hM (Pf j hj)).1;exact⟨by obtain⟨_,_,_,_,e⟩:=hk;exact aq e,hk⟩
   have hM11:eV B (os++[.kd nm (os.length::lj.map (ig rs)) QM fs]) rs ms:=by
    refine hM.add ⟨fun n hn=>?_,Kg⟩ (ID lnm (by decide)) (fun Qo Ld d' Js e=>?_) (fun _ e=>nomatch e)
    ·rcases Ji.mp hn with rfl | hn
     ·exact .inl rfl
     ·exact .inr (lts n hn).2
    ·cases e;exact⟨List.nodup_cons.mpr ⟨fun y=>Vf _ (lts _ y).1,Lk⟩,by rw[IT,IC];omega,Km,Nat.succ_pos _⟩
   have hN11:=LB pn _ (fun y=>npn (y▸Sy.l)) PY;have O2:=LB q8 _ (fun y=>nqS (y▸Sy.l)) hq10;have NR:Fx JL Lb:=LB.fx Kq.w.t rfl;obtain⟨UM,Nv,Pj,J7⟩:=JU;have L5:=LB _ _ (cv Nv Kq.w.t) Nv;have la:(as.map V.ref).length=rs.length:=by rw[IC];exact ln
   refine⟨_,rfl,.inl ⟨rfl,_,aS.of K8.t⟩,_,rfl,_,rfl,_,rfl,_,_,rfl,rfl,⟨by decide,by decide⟩,_,_,rfl,rfl,cH,pn,_,_,.str nm,rfl,rfl,aS.of hN11,atN,_,rfl,q.T,_,rfl,.inl (aS.of K8.t),pY,fun Rc Ln=>⟨_,rfl,Rc,q8,_,_,rfl,rfl,ae,ab Ln _ _ _ O2,small (by show 1+(lj.map _).length<=_;rw[IC];omega),fun Lg Nu=>⟨_,rfl,hd,UM,rfl,((ab Ln _).trans (ab Nu _)) _ _ L5,fun Ly NB=>⟨Em,fun ar Kc=>?_⟩⟩⟩⟩;have Jv:=ab Ln (.lst [.int (((as.map V.ref).length:Nat):Int)]);have JG:=ab Nu (.lst ([.int (((as.map V.ref).length:Nat):Int)]++lj.map fun j=>V.int (j:Nat)));have OB:=ab NB (.dK UM);have MZ:=ab Kc (.lst [.str "class",rv,.str nm,.ref Lg,.ref Ly]);have sA:=Jv.trans JG;have sB:=sA.trans OB;have sC:=sB.trans MZ;have eg:yW (os.length::lj.map (ig rs))=false:=Iv (show ¬os.length < 20 by omega);have Jx:=K8.row (r:=⟨"class",aU os.length,.str nm,rs.length::lj,Lg,Ly,fs,false⟩) sC (none_of sB Kc) (K8.new (none_of Jv Nu)) (none_of sA NB) ⟨rv,.str nm,ae,At.same sC _ _ av,aH.mpr rfl⟩ ((OB.trans MZ) _ _ (by rw[ae,la];rfl)) ⟨UM,MZ _ _ ae,Pj,fun x=>(J7 x).imp id fun⟨dd,v,a,b,e⟩=>⟨dd,v,a,b,At.same sC _ _ (At.fx NR _ _ e)⟩⟩;have hM15:eV B (os++[.kd nm (os.length::lj.map (ig rs)) QM fs]) (rs++[⟨"class",aU os.length,.str nm,rs.length::lj,Lg,Ly,fs,false⟩]) ms:=by
    refine hM11.Fj ?_ (show fs.length<=B by omega) fun i r' e'=>hM.fresh e';have:=gg.cl (os:=os++[.kd nm (os.length::lj.map (ig rs)) QM fs]) (rs:=rs++[⟨"class",aU os.length,.str nm,rs.length::lj,Lg,Ly,fs,false⟩]) os.length nm (os.length::lj.map (ig rs)) QM fs (rs.length::lj) Lg Ly bP (.cons (by rw[bP];rfl) ((Bn Pf).mono gb.snoc));rw[eg] at this;exact this
   refine⟨q.T,_,.ref ar,rfl,rfl,sC _ _ K8.t,bZ (by rw[la];omega),?_⟩;have Ol:bw q.T _ (U1 (U1 (U1 (U1 (U1 Lb Rc (.lst [.int (((as.map V.ref).length:Nat):Int)])) Lg (.lst ([.int (((as.map V.ref).length:Nat):Int)]++lj.map fun j=>V.int (j:Nat)))) Ly (.dK UM)) ar (.lst [.str "class",rv,.str nm,.ref Lg,.ref Ly])) q.T (.lst (as.map V.ref++[.ref ar]))):=bw.put _ _;have PQ:=sC _ _ K8.t;have QG:=Ol.fx PQ rfl;have K6:=Ol _ _ (cv (sC _ _ L5) PQ) (sC _ _ L5);have Nd:=Ol q8 _ (fun y=>nqS (y▸Sy.T)) (sC _ _ O2);have Pu:=At.fx QG _ _ (At.same sC _ _ (At.fx NR _ _ Kp));have PL:=Ol _ _ (U8 hS.yC) (sC _ _ (LB _ _ hS.sb.1 hb10));have Ul:=((P8.trans (LB.iD Sy.l)).trans (ak.iD sC)).trans (Ol.iD Sy.T);generalize U1 (U1 (U1 (U1 (U1 Lb Rc (.lst [.int (((as.map V.ref).length:Nat):Int)])) Lg (.lst ([.int (((as.map V.ref).length:Nat):Int)]++lj.map fun j=>V.int (j:Nat)))) Ly (.dK UM)) ar (.lst [.str "class",rv,.str nm,.ref Lg,.ref Ly])) q.T (.lst (as.map V.ref++[.ref ar]))=Sh at Jx Ol QG K6 Nd Pu PL Ul ⊢;refine⟨_,rfl,hd,UM,rfl,K6,?_⟩;have NK:=Jx.Bh (o:=.dK []) K6 (fun i r' e' y=>?_) (fun zz=>?_) OG
   rotate_left
   ·rcases getElem?_snoc e' with e' | ⟨_,e'⟩
    ·exact OI i r' e' y
    ·subst e';have y:Ly=hd:=y;have:=sA _ _ L5;rw[<-y,NB] at this;cases this
   ·rcases zz.snoc with zz | zz
    ·exact OH zz
    ·cases zz;rw[Nv] at NC;cases NC
   have Lz:bw hd Sh (U1 Sh hd (.dK [])):=bw.put _ _;have Pt:=At.fx (Lz.fx K6 rfl) _ _ Pu;have O1:=Lz _ _ (cv Nd K6) Nd;have Lu:=Lz _ _ (U8 nhb) PL;have Uk:=Ul.trans (Lz.Ic (S:=Sy wp q) K6);generalize U1 Sh hd (.dK [])=H17 at NK Lz Pt O1 Lu Uk ⊢;refine⟨_,rfl,1,_,_,rfl,Pt,rfl,fun y hy=>⟨wp,q,_,_,_,_,ms,q8,lj,rfl,rfl,NK,O1,fun j hj=>by rw[Iu];have:=(Pf j hj).lt;omega,by omega,fun v18 UA LU OO _=>?_⟩⟩;have ev:lj.map (fun j=>((rs++[(⟨"class",aU os.length,.str nm,rs.length::lj,Lg,Ly,fs,false⟩:Rw)]).getD j fb).val)=(lj.map (ig rs)).map aU:=by
    rw[<-vg Pf];refine List.map_congr_left fun j hj=>?_;have e:=some_of fb (Pf j hj).lt;rw[cg (g0 e)]
   rw[ev] at OO;refine⟨_,_,At.same LU _ _ hy,OO,?_,?_⟩
   ·rw[GS.dep];have:cJ ((lj.map (ig rs)).map aU)<=1:=pG fun d hd=>by
     obtain⟨n,_,rfl⟩:=Jq.mp hd;rw[jg];exact IE _
    omega
   rw[cI];exact k UA _ _ [_] [ar] (m+1+z) (Uk.trans (ak.iD LU)) (NK.same LU) hM15 (by rw[Iu];exact IE _) (IE 1) (LU _ _ Lu) (by omega)
abbrev BU:Stmt:=cB 83
def qw (t:Str):Str:=if t="object" then "a " else if t="given" then "function " else t++(" ":Str)
theorem nN (t a x:Str) (h:Str.empty++a++(" ":Str)=qw t:=by decide +kernel):jn a x=qw t++x:=by
 unfold jn;rw[h]
theorem B5 {B os rs ms}(h:eV B os rs ms){i:Nat} {r}(e:rs[i]?=some r) (hv:r.tag≠"view") (hp:r.tag≠"plain"):∃nm k,r.val=aU k/\k < os.length/\r.two=.str nm/\nm.length<=1000/\wJ os r.val=qw r.tag++nm:=by
 have hr:=(h.rw i r e).1;cases hr with
 | cl k nm ns d fs js ol dl h1 h2=>exact⟨nm,k,rfl,aq h1,rfl,h.nb k _ h1,(gU h1).trans (nN "class" "class" nm)⟩
 | ob k q d fs nm ns d' Js js ol dl h1 h2 h3=>
  refine⟨nm,k,rfl,aq h1,rfl,h.nb q _ h2,(gU h1).trans ?_⟩;show jn "a" (Aq os[q]?)=_;rw[h2];exact nN "object" "a" nm
 | vw=>exact Vi rfl hv
 | pl=>exact Vi rfl hp
 | fn k g ol dl h1=>exact⟨g.nm,k,rfl,aq h1,rfl,h.nb k _ h1,(gU h1).trans (nN "function" "function" g.nm)⟩
 | mt k t o g ol dl h1 h2=>
  refine⟨g.nm,k,rfl,aq h1,rfl,h.nb t _ h2,(gU h1).trans ?_⟩;show jn "method" (Aq os[t]?)=_;rw[h2];exact nN "method" "method" g.nm
 | gr k nm fr ol dl h1=>exact⟨nm,k,rfl,aq h1,rfl,h.nb k _ h1,(gU h1).trans (nN "giver" "giver" nm)⟩
 | gn k nm ol dl h1=>exact⟨nm,k,rfl,aq h1,rfl,h.nb k _ h1,(gU h1).trans (nN "given" "function" nm)⟩
theorem gg.tag {os rs r}(h:gg os rs r):r.tag.length<=20/\(qw r.tag).length<=20:=by
 cases h<;>(dsimp only;decide +kernel)
inductive tDh (K:Fg06) (σ:L2.St) (H:Hp) (Q:VK):Prop
 | mk S a r:sg σ 2 (.ref a)->jB K H S a r->r.tag.length<=20->(∀H',ak H H'->Q (.str (qw r.tag)) H')->tDh K σ H Q
inductive xk (K:Fg06) (c:fo) (vs:List V) (H:Hp) (Q:VK) (E:XK):Prop
 | mk wp q ps os rs as ms B:vs=[.ref wp.W,.ref q.T]->eX K c H wp q ps os rs as ms->eV B os rs ms->rs.length<=300->(∀H',ak H H'->Q (.bl true) H')->xk K c vs H Q E
theorem xP:aQ ["_law_world","_law_there","_law_one","_law_due_here"] ["_law_world","_law_there"] (aC BU):=gp
theorem CV (F:fm K "_law_texts_right" "_law_texts_right" BU f fd) (dX:Def P w K mg base "text_of" ["world","a"] 3 (mZ K c)):bK P w K mg base fq 4 f fd ["_law_world","_law_there"] (xk K c):=by
 refine F.gB xP fun UO A outer s H vs Q E hr h=>?_;obtain⟨wp,q,ps,os,rs,as,ms,B,rfl,hS,hM,lr,k⟩:=h;refine⟨_,(aa (cL IW rfl (bL (pv 1)) (ip 2 xP.nd)
    (aa (eG 3 xP.nd (cS (t':=tDh K) (L3.nB (fI hr) (L3.jo (L3.eU aj aj (L3.eU aj aj L3.jm))) (cV K (pv 2) ag) (aB cY (cV K (pv 2) ag) aj)) ?dh))
    (ah (bo (LW.pt (fE (cp (vJ hr) (cV K (pv 2) ag) (ba (cq aj aj)) rfl) (d6 (fR pe (cM dX (cq (pv 0) (cV K (pv 2) ag))) (aB cY (pv 3) (cV K (pv 2) ag)))))) (ah cQ) aP))))
   (ah (aJ gA))),?main⟩
 case dh=>
  rintro σ H Q ⟨S,a,r,e1,hR,lt,k⟩;obtain⟨v1,v2,sq,JE,JT⟩:=hR.ix;intro p hp;have s1:=ab hp (.dK []);refine⟨ae,[(.inr "object",.str "a "),(.inr "given",.str "function ")],rfl,by show 2<=15;decide,?_⟩;have s2:ak H (U1 (U1 H p (.dK [])) p (.dK (dJ [] [(.inr "object",.str "a "),(.inr "given",.str "function ")]))):=by rw[ub];exact ab hp _
  have e2:U1 (U1 H p (.dK [])) p (.dK (dJ [] [(.inr "object",.str "a "),(.inr "given",.str "function ")])) p=some (.dK [(.inr "object",.str "a "),(.inr "given",.str "function ")]):=ae;generalize U1 (U1 H p (.dK [])) p (.dK (dJ [] [(.inr "object",.str "a "),(.inr "given",.str "function ")]))=H2 at s2 e2 ⊢;have g:=gM.k (k:=.inr r.tag) e2;rw[fU,fU] at g;have l1:(" ":Str).length=1:=by decide +kernel
  refine⟨p,rfl,.inl ⟨_,.inl e2⟩,_,e1,a,_,_,.str r.tag,rfl,rfl,s2.seq sq,aw (j:=0) rfl,_,e1,a,_,_,.str r.tag,rfl,rfl,s2.seq sq,aw (j:=0) rfl,_,_,rfl,rfl,small (n:=r.tag.length+(" ":Str).length) (by omega),_,g,?_⟩;have k2:=k H2 s2;unfold qw at k2;by_cases h1:r.tag="object"
  ·rw[II h1] at k2;rw[II (by rw[h1])];exact k2
  ·rw[IH h1] at k2;rw[IH (fun y=>h1 y.symm)];by_cases h2:r.tag="given"
   ·rw[II h2] at k2;rw[II (by rw[h2])];exact k2
   ·rw[IH h2] at k2;rw[IH (fun y=>h2 y.symm)];exact k2
 case main=>
  have ln:=hS.n;refine⟨_,rfl,q.T,rfl,⟨_,aS.of hS.t⟩,hZ (K:=K) (a:=q.T) (xs:=as.map V.ref) (fun m σ H'=>(∃o2 o3,σ=[some (.ref wp.W),some (.ref q.T),o2,o3])/\ak H H') ⟨⟨_,_,rfl⟩,ak.refl _⟩ (fun _ σ H' _ h=>h.2.seq (aS.of hS.t)) ?t ?s⟩
  case s=>
   rintro σ H' ⟨⟨o2,o3,rfl⟩,s1⟩;exact k H' s1
  case t=>
   rintro m u σ H1 hu ⟨⟨o2,o3,rfl⟩,s1⟩;rw[IJ] at hu;have hm:m < as.length:=by
    rcases Nat.lt_or_ge m as.length with h | h
    ·exact h
    ·rw[List.getElem?_eq_none h] at hu;cases hu
   have e:=some_of fb (show m < rs.length by omega);have JN:=hS.same s1;obtain⟨a,ea,er,hR⟩:=JN.at e;rw[ea] at hu;cases hu;generalize rs.getD m fb=r at e hR;have hT:=(hM.rw m r e).1.tag;refine⟨Sy wp q,a,r,rfl,hR,hT.1,fun H2 s2=>?_⟩;have Jv:=s1.trans s2;have JD:=hS.same Jv;obtain⟨v1,v2,sq,JE,JT⟩:=(JD.r m a r ea e).ix;refine⟨_,rfl,a,_,_,.str r.tag,rfl,rfl,sq,aw (j:=0) rfl,jC,fun t ht=>?_⟩;have s3:=ab ht (.tup [.str "view",.str "plain"]);refine⟨.str r.tag,[.str "view",.str "plain"],aH.mpr rfl,At.new ht (ck (aH.mpr rfl) (aH.mpr rfl)),fun e he=>?_,_,rfl,?_⟩
   ·simp only[List.mem_cons,List.not_mem_nil,or_false] at he;rcases he with rfl | rfl<;>(rw[cK];decide)
   have inv:(∃o2 o3,([some (.ref wp.W),some (.ref q.T),some (.ref a),some (.str (qw r.tag))]:L2.St)=[some (.ref wp.W),some (.ref q.T),o2,o3])/\ak H (U1 H2 t (.tup [.str "view",.str "plain"])):=⟨⟨_,_,rfl⟩,Jv.trans s3⟩;rw[II rfl];refine bJ (fun e0=>?_) (fun _=>bu inv);have e0:(![D.str "view",.str "plain"].any fun e=>cm e (.str r.tag))=true:=e0;have nv:r.tag≠"view":=fun y=>by rw[y] at e0;exact Vi e0 (by decide +kernel)
   have np:r.tag≠"plain":=fun y=>by rw[y] at e0;exact Vi e0 (by decide +kernel)
   obtain⟨nm,kk,ev,hk,e2,ln2,etx⟩:=B5 hM e nv np;rw[e2] at JT;obtain rfl:v2=.str nm:=aH.mp JT;refine⟨_,rfl,_,rfl,a,_,_,v1,rfl,rfl,s3.seq sq,aw (j:=1) rfl,wp,ps,os,gS,[],[],v1,r.val,rfl,(JD.same s3).w,hM.wf,hM.nb,At.same s3 _ _ JE,by rw[ev];exact .th _ hk,⟨_,rfl,_,rfl,a,_,_,.str nm,rfl,rfl,s3.seq sq,aw (j:=2) rfl,_,_,rfl,rfl,small (n:=(qw r.tag).length+nm.length) (by omega),rfl,false,?_,bu inv⟩⟩;rw[etx,Iw rfl];rfl
abbrev xU:Stmt:=cB 82
def GI:List Str:=["word","cause",("start":Str)++("s":Str)]
theorem jH.same {K H H' a b n}(h:jH K H a b n) (s:ak H H'):jH K H' a b n:=by
 obtain⟨⟨ns,h1,h2⟩,h3,h4⟩:=h;exact⟨⟨ns,s.seq h1,h2⟩,h3,s _ _ h4⟩
theorem gb.app {rs rx}:gb rs (rs++rx):=fun _ r' e=>⟨r',bN e,rfl⟩
theorem z6 {B os rs ms}(h:eV B os rs ms){i:Nat} {r}(e:rs[i]?=some r):(DU (iB os r.val)).length<=B/\((tJ (iB os r.val)=false/\r.tag≠"object"/\(r.tag="class"->r.gv=true))\/∃k o,r.val=aU k/\os[k]?=some o/\tJ (some o)=true/\DU (some o)=r.fs/\(r.tag="object"\/(r.tag="class"/\r.gv=false))):=by
 obtain⟨hr,hb⟩:=h.rw i r e;cases hr with
 | cl k nm ns d fs js ol dl h1 h2=>
  rw[bI,h1];refine⟨hb,?_⟩;show(!yW ns)=false/\_\/_;cases hg:yW ns with
  | true=>exact .inl ⟨rfl,gZ "class" "object",fun _=>rfl⟩
  | false=>exact .inr ⟨k,_,rfl,h1,by show(!yW ns)=true;rw[hg];rfl,rfl,.inr ⟨rfl,rfl⟩⟩
 | ob k q d fs nm ns d' Js js ol dl h1 h2 h3=>
  rw[bI,h1];exact⟨hb,.inr ⟨k,_,rfl,h1,rfl,rfl,.inl rfl⟩⟩
 | pl d ol dl hp=>rw[(hp.vd os).2];exact⟨Je _,.inl ⟨rfl,gZ "plain" "object",fun y=>Vi y (gZ "plain" "class")⟩⟩
 | vw k q o j d fs nm ns d' Js js ol dl h1 h2 h3 h4=>rw[bI,h1];exact⟨Je _,.inl ⟨rfl,gZ "view" "object",fun y=>Vi y (gZ "view" "class")⟩⟩
 | fn k g ol dl h1=>rw[bI,h1];exact⟨Je _,.inl ⟨rfl,gZ "function" "object",fun y=>Vi y (gZ "function" "class")⟩⟩
 | mt k t o g ol dl h1 h2=>rw[bI,h1];exact⟨Je _,.inl ⟨rfl,gZ "method" "object",fun y=>Vi y (gZ "method" "class")⟩⟩
 | gr k nm fr ol dl h1=>rw[bI,h1];exact⟨Je _,.inl ⟨rfl,gZ "giver" "object",fun y=>Vi y (gZ "giver" "class")⟩⟩
 | gn k nm ol dl h1=>rw[bI,h1];exact⟨Je _,.inl ⟨rfl,gZ "given" "object",fun y=>Vi y (gZ "given" "class")⟩⟩
inductive sO2 (K:Fg06) (c:fo) (D0:U4) (σ:L2.St) (H:Hp):Prop
 | mk wp q ps os rs as ms n n2 (i:Nat) a:sg σ 1 (.ref q.T)->sg σ 6 (.int n)->sg σ 7 (.int n2)->sg σ 8 (.ref a)->eX K c H wp q ps os rs as ms->as[i]?=some a->12 < rs.length->(∀(i:Nat) a H',ak H H'->as[i]?=some a->D0.nx (σ.set 8 (some (.ref a))) H')->sO2 K c D0 σ H
inductive tNm (K:Fg06) (σ:L2.St) (H:Hp) (Q:VK):Prop
 | mk n pn xs:sg σ 6 (.int n)->sg σ 4 (.ref pn)->Et H pn xs->(∀(x:Str) H',ak H H'->x.length<=100->x≠"start"->Q (.str x) H')->tNm K σ H Q
inductive tVa (K:Fg06) (c:fo) (σ:L2.St) (H:Hp) (Q:VK):Prop
 | mk wp q ps os rs as ms B n:sg σ 1 (.ref q.T)->sg σ 7 (.int n)->eX K c H wp q ps os rs as ms->eV B os rs ms->(∀v d H',ak H H'->At K H' d v->Vd os d->Q v H')->tVa K c σ H Q
inductive Hl (K:Fg06) (D0:U4) (σ:L2.St) (H:Hp):Prop
 | no S a r rf:sg σ 8 (.ref a)->sg σ 11 rf->jB K H S a r->r.tag≠"object"->(r.tag="class"->r.gv=true)->At K H (.tup [.str "fault",.str "FieldFault"]) rf->(∀H',ak H H'->D0.rt (.bl true) H')->Hl K D0 σ H
 | yes S a r:sg σ 8 (.ref a)->jB K H S a r->(r.tag="object"\/(r.tag="class"/\r.gv=false))->D0.nx σ H->Hl K D0 σ H
inductive sE (K:Fg06) (c:fo) (vs:List V) (H:Hp) (Q:VK) (E:XK):Prop
 | mk wp q ps os rs as ms B ca pn m xs:vs=[.ref wp.W,.ref q.T,.ref ca,.ref q.b,.ref pn,.ref q.M]->eX K c H wp q ps os rs as ms->eV B os rs ms->jH K H ca q.b m->Et H pn xs->pn∉Sy wp q->ca∉Sy wp q->3<=B->B<=90->m<=90000->(∃r:Rw,rs[13]?=some r/\r.tag=("function":Str))->os.length<=800->rs.length<=280->ms.length<=800->(∀H' JJ Jw JP J4 JZ m',mv (Sy wp q) H H'->eX K c H' wp q JJ Jw JP J4 JZ->eV (B+1) Jw JP JZ->gb rs JP->Jw.length<=os.length+1->JP.length<=rs.length+1->JZ.length<=ms.length+1->H' q.b=some (.lst [.int ((m':Nat):Int)])->m'<=m+5->Q (.bl true) H')->sE K c vs H Q E
theorem ij:aQ ["_law_world","_law_there","_law_cells","_law_spot","_law_names_here","_law_methods","_law_n","_law_more","_law_one","_law_name","_law_value","_law_found"] ["_law_world","_law_there","_law_cells","_law_spot","_law_names_here","_law_methods"] (aC xU):=gp
theorem An (g:Glb9 mg) (F:fm K "_law_deed" "_law_deed" xU f fd) (dCe:Def P w K mg base "_law_cell" ["_law_cells","_law_spot"] 1 (kg K)) (dP:Def P w K mg base "_law_plain" ["_law_n"] 1 (xo K)) (dCl:Def P w K mg base "_law_class" ["_law_world","_law_there","_law_cells","_law_spot","_law_names_here"] 6 (xA K c)) (dOb:Def P w K mg base "_law_object" ["_law_world","_law_there","_law_n"] 9 (xy K c)) (dFn:Def P w K mg base "function" ["world","name","params","defaults","code","around","gives"] 3 (uq K c)) (dX:Def P w K mg base "text_of" ["world","a"] 3 (mZ K c)) (dVw:Def P w K mg base "_law_view" ["_law_world","_law_there","_law_n"] 9 (xx K c)) (dAk:Def P w K mg base "_law_asked" ["_law_world","_law_there","_law_one","_law_name","_law_methods"] 9 (uw K c)) (dPt:Def P w K mg base "put_field" ["world","a","name","v"] 2 (xn K c)):bK P w K mg base fq 10 f fd ["_law_world","_law_there","_law_cells","_law_spot","_law_names_here","_law_methods"] (sE K c):=by
 refine F.gB ij fun UO A outer s H vs Q E hr h=>?_;obtain⟨wp,q,ps,os,rs,as,ms,B,ca,pn,m,xs,rfl,hS,hM,Ki,hN,npn,nca,hB,hB2,hm,⟨SE,QJ,t13⟩,lo,lr,lm,k⟩:=h;refine⟨_,(aa (eG 6 ij.nd (cM dCe (cq (pv 2) (pv 3))))
   (aa (eG 7 ij.nd (cM dCe (cq (pv 2) (pv 3))))
   (aa (eG 8 ij.nd (cV K (pv 1) (aB br (pv 7) (au az rfl g.dH bW (cy (pv 1))))))
   (aa (gs (t':=sO2 K c) (bo (fR gm (aB br (aB bF (pv 6) ag) ag) ag) (ah (eG 8 ij.nd (cV K (bg eE (pv 1) (bz ag) bD) (aB br (pv 7) (aB jS (au az rfl g.dH bW (cy (pv 1))) ag))))) aP) ?o2)
   (aa (eG 9 ij.nd (cS (t':=tNm K) (cV K (aB jU (bg eE (pv 4) bD (bz ag)) (aY (kN aj aj (aB cY aj aj)))) (aB br (aB bF (pv 6) ag) ag)) ?nm))
   (aa (bo (fR cP (aB br (pv 6) ag) ag) (ah (aJ (cM dCl (aI (pv 0) (mi (pv 1) (pv 2) (pv 3) (pv 4)))))) aP)
   (aa (bo (fR cP (aB br (pv 6) ag) ag) (ah (aJ (cM dOb (kN (pv 0) (pv 1) (pv 7))))) aP)
   (aa (bo (fR cP (aB br (pv 6) ag) ag) (aa (eG 10 ij.nd (cM dFn (aI (pv 0) (aI (pv 9) (aI ag (mi (ba bc) ag cE gA))))))
     (aa (bT (dQ Jb Jc Jd cf (pv 1) (cy (aY (aI aj (mi (pv 10) (pv 9) (aY bc) bV))))))
     (ah (aJ (qM cP (cM dX (cq (pv 0) (pv 10))) (aB cY aj (pv 9))))))) aP)
   (aa (bo (fR cP (aB br (pv 6) ag) ag) (ah (aJ (cM dVw (kN (pv 0) (pv 1) (pv 7))))) aP)
   (aa (bo (fR gm (aB br (pv 6) ag) ag) (ah (aJ (cM dAk (aI (pv 0) (mi (pv 1) (pv 8) (pv 9) (pv 5)))))) aP)
   (aa (eG 10 ij.nd (cS (t':=tVa K c) (bC (fR cP (aB br (pv 7) ag) ag) (cV K (cV K (pv 1) (aB br (aB bF (pv 7) ag) (au az rfl g.dH bW (cy (pv 1))))) ag) (cM dP (cy (aB bF (pv 7) ag)))) ?va))
   (aa (eG 11 ij.nd (cM dPt (mi (pv 0) (cV K (pv 8) ag) (pv 9) (pv 10))))
   (aa (gs (t':=Hl K) (bo (LW.pt (fE (fR pe (cV K (pv 8) ag) aj) (d6 (LW.pt (gk (fR pe (cV K (pv 8) ag) aj) (fg (fR gm (au az rfl g.dH bW (cy (pv 8))) ag))))))) (ah (aJ (qM (r:=nz K) (gW hr) (pv 11) (ba (cq aj aj))))) aP) ?pw)
   (aa (.mk (L2.il (fI hr) (LE.out (cV K (pv 8) ag)) (LE.out (pv 9)) (LE.out (pv 10)) rfl))
   (ah (aJ (qM (r:=nz K) (gW hr) (pv 11) (ba (cq aj (ba (cy aj))))))))))))))))))))),?main⟩
 case o2=>
  rintro D0 σ H ⟨wp,q,ps,os,rs,as,ms,n,n2,i,a,e1,e6,e7,e8,hS,ea,lr,k⟩;have la:(as.map V.ref).length=rs.length:=by rw[IC];exact hS.n
  refine⟨_,e6,_,_,rfl,rfl,⟨by decide,by decide⟩,_,_,rfl,rfl,cH,_,_,rfl,rfl,_,rfl,bJ (fun _=>?_) (fun _=>?_)⟩
  ·refine⟨_,e1,_,rfl,q.T,_,rfl,aS.of hS.t,fun l hl=>?_⟩;have s1:=ab hl (.lst (de (as.map V.ref) (some ((12:Nat):Int)) none));obtain⟨x,hx,Ju⟩:=mod_lt (n:=n2) (m:=rs.length - 12) (by omega);obtain⟨a',Kx,Kf,_⟩:=hS.at (some_of fb (show 12+x < rs.length by omega));refine⟨_,e7,_,e1,q.T,_,rfl,.inl (aS.of (s1 _ _ hS.t)),_,_,rfl,rfl,_,_,rfl,rfl,by rw[la];omega,l,_,_,.ref a',rfl,rfl,aS.of ae,?_,k _ a' _ s1 Kx⟩;show jZ (de (as.map V.ref) (some ((12:Nat):Int)) none) (n2 % (((as.map V.ref).length:Nat) - (12:Int)))=_;rw[la,show((rs.length:Nat):Int) - 12=((rs.length - 12:Nat):Int) by omega,hx,jh];exact aw (by rw[List.getElem?_drop];exact Kf)
  ·have:=k i a H (ak.refl _) ea;rw[set_same e8] at this;exact this
 case nm=>
  rintro σ H Q ⟨n,pn,xs,e6,e4,hN,k⟩;refine⟨_,e4,_,rfl,pn,_,rfl,aS.of hN.l,fun l1 Kj=>⟨_,_,rfl,rfl,small (n:=("start":Str).length+("s":Str).length) (by decide +kernel),En,fun l2 JF=>?_⟩⟩;have s1:=ab Kj (.lst (de (xs.map V.str) none (some ((8:Nat):Int))));have s2:=ab JF (.lst [.str "word",.str "cause",.str (("start":Str)++("s":Str))]);have Q9:=hN.n;have ct:de (xs.map V.str) none (some ((8:Nat):Int))=(xs.take 8).map V.str:=by rw[kC,List.map_take]
  have h1:=s2 _ _ (ae (H:=H) (a:=l1) (o:=.lst (de (xs.map V.str) none (some ((8:Nat):Int)))));refine⟨l1,l2,_,_,rfl,rfl,h1,ae,small (by rw[ct,IC,Vb];show _+3<=_;omega),fun l3 J1=>?_⟩;obtain⟨x,hx,Ju⟩:=mod_lt (n:=n / 27) (m:=11) (by decide);have s3:=ab J1 (.lst (de (xs.map V.str) none (some ((8:Nat):Int))++[.str "word",.str "cause",.str (("start":Str)++("s":Str))]));have el:de (xs.map V.str) none (some ((8:Nat):Int))++[V.str "word",.str "cause",.str (("start":Str)++("s":Str))]=(xs.take 8++GI).map V.str:=by rw[ct,Jg];rfl
  have ll:(xs.take 8++GI).length=11:=by rw[Iu,Vb];show _+3=_;omega
  obtain⟨y,hy⟩:∃y,(xs.take 8++GI)[x]?=some y:=⟨_,Iy (by omega)⟩;have SU:y.length<=100/\y≠"start":=by
   rcases I0.mp (IG hy) with h | h
   ·exact hN.x y (List.mem_of_mem_take h)
   ·unfold GI at h;simp only[List.mem_cons,List.not_mem_nil,or_false] at h;rcases h with rfl | rfl | rfl<;>decide +kernel
  refine⟨_,e6,_,_,rfl,rfl,⟨by decide,by decide⟩,_,_,rfl,rfl,cH,l3,_,_,.str y,rfl,rfl,aS.of ae,?_,k y _ ((s1.trans s2).trans s3) SU.1 SU.2⟩;show jZ (de (xs.map V.str) none (some ((8:Nat):Int))++_) (n / 27 % ((11:Nat):Int))=_;rw[el,hx];exact aw (by rw[IJ,hy];rfl)
 case pw=>
  intro D0 σ H h;cases h with
  | no S a r rf e8 Uh hR h1 h2 hf k=>
   obtain⟨v1,v2,sq,_,_⟩:=hR.ix;have J9:∀t,H t=none->∃d e,At K (U1 H t (.tup [.str "fault",.str "FieldFault"])) d rf/\At K (U1 H t (.tup [.str "fault",.str "FieldFault"])) e (.ref t)/\dep d<=60/\D0.rt (.bl (cm d e)) (U1 H t (.tup [.str "fault",.str "FieldFault"])):=fun t ht=>by
    refine⟨_,_,At.same (ab ht _) _ _ hf,At.new ht (ck (aH.mpr rfl) (aH.mpr rfl)),by decide +kernel,?_⟩;rw[cI];exact k _ (ab ht _)
   refine⟨_,e8,a,_,_,.str r.tag,rfl,rfl,sq,aw (j:=0) rfl,rfl,true,by rw[qA h1];rfl,cC ⟨_,e8,a,_,_,.str r.tag,rfl,rfl,sq,aw (j:=0) rfl,rfl,_,rfl,bJ (fun _=>cC ⟨_,Uh,jC,J9⟩) (fun c2=>⟨_,e8,a,_,rfl,.inl sq,_,_,rfl,rfl,true,?_,cC ⟨_,Uh,jC,J9⟩⟩)⟩⟩;have ht:r.tag="class":=by
    rw[rQ] at c2;exact IZ (by simpa using c2)
   unfold Fi;rw[h2 ht];rfl
  | yes S a r e8 hR ht k=>
   obtain⟨v1,v2,sq,_,_⟩:=hR.ix;rcases ht with ht | ⟨ht,hg⟩
   ·refine⟨_,e8,a,_,_,.str r.tag,rfl,rfl,sq,aw (j:=0) rfl,rfl,false,by rw[ht,Iw rfl];rfl,bu k⟩
   ·refine⟨_,e8,a,_,_,.str r.tag,rfl,rfl,sq,aw (j:=0) rfl,rfl,true,by rw[ht];decide +kernel,cC ⟨_,e8,a,_,_,.str r.tag,rfl,rfl,sq,aw (j:=0) rfl,rfl,false,by rw[ht,Iw rfl];rfl,bu ⟨_,e8,a,_,rfl,.inl sq,_,_,rfl,rfl,false,?_,bu k⟩⟩⟩;unfold Fi;rw[hg];rfl
 case va=>
  rintro σ H Q ⟨wp,q,ps,os,rs,as,ms,B,n,e1,e7,hS,hM,k⟩;have la:(as.map V.ref).length=rs.length:=by rw[IC];exact hS.n
  have l0:0 < rs.length:=by obtain⟨r,e,_⟩:=hM.g 0 (by decide);have:=aq e;omega
  refine⟨_,e7,_,_,rfl,rfl,cH,rfl,_,rfl,bJ (fun _=>?_) (fun _=>?_)⟩
  ·obtain⟨x,hx,Ju⟩:=mod_lt (n:=n / 50) (m:=rs.length) l0;have e:=some_of fb Ju;obtain⟨a',Kx,Kf,hR⟩:=hS.at e;obtain⟨v1,v2,sq,JE,_⟩:=hR.ix;refine⟨_,e1,_,e7,_,_,rfl,rfl,⟨by decide,by decide⟩,_,e1,q.T,_,rfl,.inl (aS.of hS.t),_,_,rfl,rfl,by rw[la];omega,q.T,_,_,.ref a',rfl,rfl,aS.of hS.t,?_,a',_,_,v1,rfl,rfl,sq,aw (j:=1) rfl,k v1 _ H (ak.refl _) JE (hM.rw x _ e).1.vd⟩;show jZ (as.map V.ref) (n / 50 % (((as.map V.ref).length:Nat):Int))=_;rw[la,hx];exact aw Kf
  ·exact⟨_,e7,_,_,rfl,rfl,⟨by decide,by decide⟩,_,rfl,fun d v H' hp s hv=>k v d H' s hv (hp.vd os).1⟩
 case main=>
  have hb:=Ki.mh;have ln:=hS.n;have Lg:=aq QJ;have kf:0 < (rn rs "function").length:=List.length_pos_of_mem (yO QJ t13);refine⟨_,rfl,_,rfl,ca,q.b,m,rfl,Ki,by omega,fun n H1 _ _ b1 K7=>⟨_,rfl,_,rfl,ca,q.b,m+1,rfl,Ki.go b1 K7,by omega,fun n2 H2 _ _ b2 L8=>?_⟩⟩;have OX:=(Ki.go b1 K7).go b2 L8;have JD:=(hS.mh hb b1 K7).mh K7 b2 L8;have c2:mv (Sy wp q) H H2:=(b1.iD Sy.b).trans (b2.iD Sy.b);have RT:Et H2 pn xs:=⟨c2 _ _ hN.l npn (fun _ z=>nomatch z),hN.n,hN.x⟩;have la:(as.map V.ref).length=rs.length:=by rw[IC];exact ln
  obtain⟨x0,Rn,hlt0⟩:=mod_lt (n:=n2) (m:=rs.length) (by omega);obtain⟨a0,MH,NT,_⟩:=JD.at (some_of fb hlt0);refine⟨_,rfl,_,rfl,_,rfl,q.T,_,rfl,.inl (aS.of JD.t),_,_,rfl,rfl,by rw[la];omega,q.T,_,_,.ref a0,rfl,rfl,aS.of JD.t,by rw[la,Rn];exact aw NT,?_⟩;refine⟨wp,q,ps,os,rs,as,ms,n,n2,x0,a0,rfl,rfl,rfl,rfl,JD,MH,by omega,fun i a H3 s3 ea=>⟨n,pn,xs,rfl,rfl,⟨s3 _ _ RT.l,hN.n,hN.x⟩,fun nm H4 LR lnm nst=>?_⟩⟩;have s4:=s3.trans LR;have JM:=JD.same s4;have c4:=c2.trans (ak.iD s4);have PD:=s4 _ _ L8;have hsp4:=OX.same s4;have hN4:Et H4 pn xs:=⟨s4 _ _ RT.l,hN.n,hN.x⟩;clear JD OX RT s3 LR b1 b2 K7 L8;have hi:i < rs.length:=by rw[<-ln];exact aq ea
  have e:=some_of fb hi;generalize rs.getD i fb=r at e;have kb:∀{H'},mv (Sz wp q) H4 H'->H' q.b=some (.lst [.int ((m+1+1:Nat):Int)]):=fun c'=>c' _ _ PD JM.nb (fun _ z=>nomatch z);refine⟨_,rfl,_,_,rfl,rfl,cH,rfl,_,rfl,bJ (fun _=>?_) (fun _=>⟨_,rfl,_,_,rfl,rfl,cH,rfl,_,rfl,bJ (fun _=>?_) (fun _=>⟨_,rfl,_,_,rfl,rfl,cH,rfl,_,rfl,bJ (fun _=>?_) (fun _=>⟨_,rfl,_,_,rfl,rfl,cH,rfl,_,rfl,bJ (fun _=>?_) (fun _=>⟨_,rfl,_,_,rfl,rfl,cH,_,_,rfl,rfl,_,rfl,bJ (fun _=>?_) (fun _=>?_)⟩)⟩)⟩)⟩)⟩
  ·exact⟨_,rfl,_,rfl,_,rfl,_,rfl,_,rfl,wp,q,ps,os,rs,as,ms,B,ca,pn,m+1+1,xs,rfl,JM,hM,hsp4,hN4,npn,nca,hB,by omega,kf,by omega,by omega,fun H' JJ Jw rx ax m' c' Ke Lv Mm lx KO Qp=>k H' JJ Jw _ _ ms m' (c4.trans c') Ke (Lv.more (Nat.le_succ _)) gb.app Mm (by rw[Iu];omega) (Nat.le_succ _) KO (by omega)⟩
  ·exact⟨_,rfl,_,rfl,_,rfl,wp,q,ps,os,rs,as,ms,B,n2,rfl,JM,hM,hB,by omega,by omega,fun H' JJ Jw r' a' c' Ke Lv Mm=>k H' JJ Jw _ _ ms (m+1+1) (c4.trans c'.wk) Ke (Lv.more (Nat.le_succ _)) gb.app (by omega) (by rw[Iu];exact IE _) (Nat.le_succ _) (kb c') (by omega)⟩
  ·
   refine⟨_,rfl,_,rfl,Je _,fun t5 KC=>⟨wp,ps,os,gS,[],[],nm,1,[],.ref t5,.int 0,.bb,.bl false,rfl,(JM.same (ab KC (.tup []))).w,by omega,At.new KC (aZ.mpr rfl),fun rv H6 p b6 w6 hv=>?_⟩⟩;have J3:=JM.same (ab KC (.tup []));have TL:=ab KC (.tup []) _ _ PD;have c5:=c4.trans (ak.iD (ab KC (.tup [])));have JI:=J3.grow b6 w6 (fun d e=>nomatch e);have PB:=b6 _ _ JM.sb.1 TL;have c6:=c5.trans (b6.iD Sy.l);refine⟨_,rfl,.inl ⟨rfl,_,aS.of JI.t⟩,_,rfl,_,rfl,Je _,fun ol J5 dl Ku=>⟨Em,fun ar Kc=>?_⟩⟩;have s1:=ab J5 (.lst []);have s2:=ab Ku (.dK []);have s3:=ab Kc (.lst [.str "function",rv,.str nm,.ref ol,.ref dl]);have Jv:=s1.trans s2;have JG:=Jv.trans s3;have Jx:=JI.row (r:=⟨"function",aU os.length,.str nm,[],ol,dl,[],false⟩) JG (none_of Jv Kc) (JI.new J5) (none_of s1 Ku) ⟨rv,.str nm,ae,At.same JG _ _ hv,aH.mpr rfl⟩ ((s2.trans s3) _ _ ae) (fz.nil (s3 _ _ ae));have NL:=hM.addFn (g:=⟨nm,1,[],.int 0,.bb,.bl false⟩) (ol:=ol) (dl:=dl) (ID lnm (by decide)) rfl rfl;have b7:bw q.T H6 (U1 (U1 (U1 (U1 H6 ol (.lst [])) dl (.dK [])) ar (.lst [.str "function",rv,.str nm,.ref ol,.ref dl])) q.T (.lst (as.map V.ref++[.ref ar]))):=(ak.but q.T JG).trans (bw.put _ _);refine⟨q.T,_,.ref ar,rfl,rfl,JG _ _ JI.t,bZ (by rw[la];omega),?_⟩;have Qt:=At.fx (b7.fx JI.t rfl) _ _ hv;have c7:=c6.trans (b7.iD Sy.T);have RN:=b7 _ _ (U8 JM.yC) PB;clear JI b6 w6 TL PB c6 s1 s2 s3 Jv JG b7;generalize U1 (U1 (U1 (U1 H6 ol (.lst [])) dl (.dK [])) ar (.lst [.str "function",rv,.str nm,.ref ol,.ref dl])) q.T (.lst (as.map V.ref++[.ref ar]))=H7 at *;have l9:("function ":Str).length=9:=by decide +kernel
   refine⟨_,rfl,_,rfl,wp,_,_,gS,[],[],rv,aU os.length,rfl,Jx.w,NL.wf,NL.nb,Qt,.th _ (by rw[Iu];exact Jm _),⟨_,rfl,_,_,rfl,rfl,small (n:=("function ":Str).length+nm.length) (by omega),rfl,?_⟩⟩;have etx:wJ (os++[.fn ⟨nm,1,[],.int 0,.bb,.bl false⟩]) (aU os.length)=("function ":Str)++nm:=(gU bP).trans ((nN "function" "function" nm).trans (by rw[show qw "function"=("function ":Str) by decide +kernel]));rw[etx,Iw rfl];exact k H7 _ _ _ _ ms (m+1+1) c7 Jx (NL.more (Nat.le_succ _)) gb.app (by rw[Iu];exact IE _) (by rw[Iu];exact IE _) (Nat.le_succ _) RN (by omega)
  ·exact⟨_,rfl,_,rfl,_,rfl,wp,q,ps,os,rs,as,ms,B,n2,rfl,JM,hM,by omega,by omega,fun H' JJ Jw rx ax c' Ke Lv Mm lx=>k H' JJ Jw _ _ ms (m+1+1) (c4.trans c'.wk) Ke (Lv.more (Nat.le_succ _)) gb.app Mm (by rw[Iu];omega) (Nat.le_succ _) (kb c') (by omega)⟩
  ·exact⟨_,rfl,_,rfl,_,rfl,_,rfl,_,rfl,wp,q,ps,os,rs,as,ms,B,i,a,r,nm,rfl,JM,hM,e,ea,by omega,by omega,by omega,fun H' JJ Jw rx ax JZ c' Ke Lv Mm Qp lx _=>k H' JJ Jw _ _ JZ (m+1+1) (c4.trans c'.wk) Ke (Lv.more (Nat.le_succ _)) gb.app Mm (by rw[Iu];omega) Qp (kb c') (by omega)⟩
  refine⟨wp,q,ps,os,rs,as,ms,B,n2,rfl,rfl,JM,hM,fun v dv H5 s5 hv Kg=>?_⟩;have J3:=JM.same s5;obtain⟨v1,v2,sq,JE,_⟩:=(J3.r i a r ea e).ix;obtain⟨lf,L0⟩:=z6 hM e;have hvr:=(hM.rw i r e).1.vd;refine⟨_,rfl,_,rfl,a,_,_,v1,rfl,rfl,sq,aw (j:=1) rfl,_,rfl,_,rfl,wp,ps,os,gS,[],[],v1,v,r.val,nm,dv,rfl,J3.w,JE,hvr,by omega,hv,fun Ls rf H6 s6 hf=>?_,fun k0 o dd rf H6 ev eo Ls TC b6 w6 hf=>?_⟩
  ·rcases L0 with ⟨_,nob,My⟩ | ⟨k1,o1,R5,QH,MA,_⟩
   ·exact .no _ a r rf rfl rfl ((J3.same s6).r i a r ea e) nob My hf fun H7 s7=>k H7 ps os rs as ms (m+1+1) (c4.trans (ak.iD ((s5.trans s6).trans s7))) (J3.same (s6.trans s7)) (hM.more (Nat.le_succ _)) (gb.refl _) (Nat.le_succ _) (Nat.le_succ _) (Nat.le_succ _) (((s5.trans s6).trans s7) _ _ PD) (by omega)
   ·rw[R5,bI,QH,MA] at Ls;cases Ls
  ·rcases L0 with ⟨hc,_⟩ | ⟨k1,o1,R5,QH,MA,ef,htg⟩
   ·rw[ev,bI,eo,Ls] at hc;cases hc
   have:=cn (R5.symm.trans ev);subst this;rw[eo] at QH;cases QH;rw[ef] at w6;have NL:=hM.put (n:=nm) e ev eo Ls ef nst Kg;have JI:=J3.G2 eo TC b6 w6;obtain⟨kv0,RJ⟩:=J3.w.wd ⟨k1,o,eo,TC⟩;have f6:=b6.fx RJ rfl;obtain⟨u1,u2,Lc,_,_⟩:=(JI.r i a r ea e).ix;have hv6:=At.fx f6 _ _ hv;obtain⟨UM,hk,hl,PU⟩:=JI.dput (n:=nm) e hv6;have lB:=(hM.rw i r e).2;have PB:=b6 _ _ (cv (s5 _ _ PD) RJ) (s5 _ _ PD);refine .yes _ a r rfl (JI.r i a r ea e) htg ⟨_,rfl,_,rfl,a,_,_,.ref r.dl,rfl,rfl,Lc,aw (j:=4) rfl,_,rfl,r.dl,_,rfl,mq.k (k:=.inr nm) hk (bZ (by omega)),?_⟩;have b7:bw r.dl H6 (U1 H6 r.dl (.dK (U3 UM (.inr nm:Key) v))):=bw.put _ _;have Ob:=At.fx (b7.fx hk rfl) _ _ hf;have RN:=b7 _ _ (cv PB hk) PB;have c7:=((c4.trans (ak.iD s5)).trans (b6.Ic RJ)).trans (b7.Ic hk);generalize U1 H6 r.dl (.dK (U3 UM (.inr nm:Key) v))=H7 at *;refine⟨_,rfl,pY,fun t8 OQ=>⟨jC,fun t9 S0=>?_⟩⟩;have s8:=ab OQ (.tup [.str "none"]);have KQ:=s8.trans (ab S0 (.tup [.str "value",.ref t8]));refine⟨_,_,At.same KQ _ _ Ob,At.new S0 (ck (aH.mpr rfl) (At.new OQ (aE.mj (aH.mpr rfl)))),by decide +kernel,?_⟩;rw[show cm (.tup [.str "value",jA]) (.tup [.str "value",.tup [.str "none"]])=true from cI _];exact k _ ps _ _ as ms (m+1+1) (c7.trans (ak.iD KQ)) (PU.same KQ) NL (gb.set e) (by rw[IY];exact Nat.le_succ _) (by rw[IY];exact Nat.le_succ _) (Nat.le_succ _) (KQ _ _ RN) (by omega)
end
def oG (j:Nat):List Nat:=((ic.getD j ("",[])).1::(ic.getD j ("",[])).2).map hU
def vQ (j:Nat):Str:=(ic.getD j ("",[])).1
def DR (j:Nat):List Nat:=(oG j).map (· - 8)
def qm:List Str:=jQ.map (·.1)
def r6 (j:Nat):List Str:=(ic.getD j ("",[])).1::(ic.getD j ("",[])).2
theorem sN {ds}(h:ds.length=12) {j}(hj:j < 12):∃d,(ib ds)[8+j]?=some (.kd (vQ j) (oG j) d []):=by
 unfold ib;rw[IX (by show 8<=8+j;omega)];show ∃d,(List.map (fun x:(Str×List Str)×Addr=>Th.kd x.1.1 ((x.1.1::x.1.2).map hU) x.2 []) (ic.zip ds))[8+j - 8]?=_;rw[show 8+j - 8=j by omega,IJ,List.zip_eq_zipWith,List.getElem?_zipWith,tu j hj,Iy (show j < ds.length by omega)];exact⟨_,rfl⟩
theorem yq {ds j}(hj:j < 8):(ib ds)[j]?=some (.pD (gfN.getD j "")):=by
 unfold ib;rw[Jo (by show j < 8;exact hj),IJ,tm j hj];rfl
theorem iU {ds}(h:ds.length=12){i:Nat} {o}(e:(ib ds)[i]?=some o):(i < 8/\o=.pD (gfN.getD i ""))\/∃j d,j < 12/\i=8+j/\o=.kd (vQ j) (oG j) d []:=by
 have hl:=aq e;rw[my (by omega),h] at hl;by_cases hi:i < 8
 ·rw[yq hi] at e;cases e;exact .inl ⟨hi,rfl⟩
 ·obtain⟨d,e'⟩:=sN h (j:=i - 8) (by omega);rw[show 8+(i - 8)=i by omega,e] at e';cases e';exact .inr ⟨i - 8,d,by omega,by omega,rfl⟩
theorem vR:∀j,j < 12->yW (oG j)=true/\(oG j).Nodup/\(oG j).length<=40/\0 < (oG j).length/\(∀n∈oG j,8<=n/\n < 20)/\(vQ j).length<=1000:=by decide +kernel
theorem Bk:∀j,j < 12->(vQ j,8+j)∈gS/\(r6 j).map (fun x=>qm.idxOf x)=DR j/\(DR j).map (8+·)=oG j/\(∀i∈DR j,i < 12):=by decide +kernel
theorem Bj:∀j,j < 12->(vQ j,r6 j)∈jQ/\qm[j]?=some (vQ j)/\(∀x∈r6 j,x∈qm)/\(r6 j).length<=40:=by decide +kernel
theorem HZ:∀j,j < 8->(gfN.getD j "").length<=1000:=by decide +kernel
def Gb (j:Nat) (ol dl:Addr):Rw:=⟨"class",aU (8+j),.str (vQ j),DR j,ol,dl,[],true⟩
theorem F8 {rs:List Rw}(h:∀j,j < 12->∃ol dl,rs[j]?=some (Gb j ol dl)):∀js:List Nat,(∀i∈js,i < 12)->ff rs js (js.map (8+·))
 | [],_=>.nil
 | j::js,hj=>by
  obtain⟨ol,dl,e⟩:=h j (hj j Ir);exact .cons (by rw[e];rfl) (F8 h js fun i hi=>hj i (Iq _ hi))
theorem Hd {ds rs}(hd:ds.length=12) (hl:rs.length=12) (h:∀j,j < 12->∃ol dl,rs[j]?=some (Gb j ol dl)):eV 3 (ib ds) rs []:=by
 have l0:(ib ds).length=20:=by rw[my (by omega),hd]
 refine⟨⟨fun i nm ns d fs e=>?_,fun i k d fs e=>?_,fun i t o e=>?_,fun i k o e=>?_⟩,fun i o e=>?_,fun i nm ns d fs e=>?_,fun i nm ns d fs e=>?_,yq (by decide),by omega,fun i r e=>?_,fun i j r r' e e' y=>?_,fun j hj=>let ⟨ol,dl,e⟩:=h j hj;⟨_,e,rfl⟩,fun k g e=>?_,fun d hd=>nomatch hd⟩
 ·rcases iU hd e with ⟨_,y⟩ | ⟨j,d',hj,rfl,y⟩
  ·cases y
  ·cases y;refine⟨fun n hn=>?_,fun _ _ y=>nomatch y⟩;obtain⟨a,b⟩:=(vR j hj).2.2.2.2.1 n hn;obtain⟨d2,e2⟩:=sN hd (j:=n - 8) (by omega);rw[show 8+(n - 8)=n by omega] at e2;exact⟨_,_,_,_,e2⟩
 ·rcases iU hd e with ⟨_,y⟩ | ⟨j,d',hj,rfl,y⟩<;>cases y
 ·rcases iU hd e with ⟨_,y⟩ | ⟨j,d',hj,rfl,y⟩<;>cases y
 ·rcases iU hd e with ⟨_,y⟩ | ⟨j,d',hj,rfl,y⟩<;>cases y
 ·rcases iU hd e with ⟨hi,rfl⟩ | ⟨j,d',hj,rfl,rfl⟩
  ·exact HZ i hi
  ·exact(vR j hj).2.2.2.2.2
 ·rcases iU hd e with ⟨_,y⟩ | ⟨j,d',hj,rfl,y⟩
  ·cases y
  ·cases y;exact⟨(vR j hj).2.1,(vR j hj).2.2.1⟩
 ·rcases iU hd e with ⟨_,y⟩ | ⟨j,d',hj,rfl,y⟩
  ·cases y
  ·cases y;exact⟨rfl,(vR j hj).2.2.2.1⟩
 ·have hi:i < 12:=by rw[<-hl];exact aq e
  obtain⟨ol,dl,e'⟩:=h i hi;rw[e] at e';cases e';obtain⟨d,eo⟩:=sN hd hi;have g1:=(vR i hi).1;obtain⟨_,_,g9,NP⟩:=Bk i hi;have:=F8 h (DR i) NP;rw[g9] at this;have:=gg.cl (8+i) (vQ i) (oG i) d [] (DR i) ol dl eo this;rw[g1] at this;exact⟨this,Je _⟩
 ·have hi:i < 12:=by rw[<-hl];exact aq e
  have hj:j < 12:=by rw[<-hl];exact aq e'
  obtain⟨_,_,e1⟩:=h i hi;obtain⟨_,_,e2⟩:=h j hj;rw[e] at e1;rw[e'] at e2;cases e1;cases e2;have:=cn (show aU (8+i)=aU (8+j) from y);omega
 ·rcases iU hd e with ⟨_,y⟩ | ⟨j,d',hj,rfl,y⟩<;>cases y
theorem uQ {k:Str}:∀{js:List Str},k∈js->wG (.str k) (js.map D.str) (js.idxOf k)
 | [],h=>by cases h
 | n::ns,h=>by
  have hq:cm (.str n) (.str k)=decide (n=k):=by
   rw[Bool.eq_iff_iff,decide_eq_true_eq];simp only[cm,beq_iff_eq]
  by_cases e:n=k
  ·subst e;rw[List.idxOf_cons_self];exact⟨⟨_,rfl,cI _⟩,fun m _ hm=>Vi hm (Nat.not_lt_zero _)⟩
  ·obtain⟨⟨d,h1,h2⟩,h3⟩:=uQ (List.mem_of_ne_of_mem (U8 e) h);rw[List.idxOf_cons,beq_false_of_ne e];simp only[cond_false];refine⟨⟨d,h1,h2⟩,fun m d' hm he=>?_⟩;cases m with
   | zero=>cases he;rw[hq,Iv e]
   | succ m=>exact h3 m d' (Nat.lt_of_succ_lt_succ hm) he
theorem pZ {K H}:∀xs:List Str,aE K H (xs.map D.str) (xs.map V.str)
 | []=>aZ.mpr rfl
 | x::xs=>aX.mpr ⟨_,_,rfl,aH.mpr rfl,pZ xs⟩
theorem zp (ns:List Int) (lo hi):∃ms:List Int,de (ns.map V.int) lo hi=ms.map V.int/\ms.length<=ns.length:=by
 unfold de;refine⟨(ns.drop (HT.fF (ns.map V.int).length 0 lo)).take (HT.fF (ns.map V.int).length (ns.map V.int).length hi - HT.fF (ns.map V.int).length 0 lo),?_,?_⟩
 ·rw[List.map_take,List.map_drop]
 ·rw[Vb,List.length_drop];omega
theorem eX.EI {K c H wp q ps os rs as ms M}(h:eX K c H wp q ps os rs as ms) (hM:H M=none):eX K c (U1 H M (.lst [])) wp ⟨q.T,M,q.b⟩ ps os rs as []:=by
 have s:=ab hM (.lst []);have h':=h.same s;have n1:∀{p o},H p=some o->M≠p:=fun e y=>by rw[<-y,hM] at e;cases e
 have ns:∀{p},p∉Sy wp q->M≠p->p∉Sy wp ⟨q.T,M,q.b⟩:=fun {p} hp hm y=>by
  unfold Sy at y hp;simp only[List.mem_cons,List.not_mem_nil,or_false] at y hp;rcases y with y | y | y | y
  ·exact hp (.inl y)
  ·exact hp (.inr (.inl y))
  ·exact hm y.symm
  ·exact hp (.inr (.inr (.inr y)))
 obtain⟨nb,hb⟩:=h.sp;refine⟨h'.w,h'.t,h'.n,fun i a r e1 e2=>?_,h'.dn,h'.dw,⟨[],ae,aZ.mpr rfl⟩,h.sT,⟨n1 h.w.t,n1 h.w.hn,n1 h.w.hf⟩,h.sb,U8 (n1 h.t),h.yC,n1 hb,h'.sp⟩;have hR:=h.r i a r e1 e2;obtain⟨g1,g2,g3,g4,g5⟩:=h'.r i a r e1 e2;obtain⟨_,_,hl,_,_⟩:=hR.l;exact⟨g1,g2,ns g3 (n1 hl),ns g4 (n1 hR.o),g5⟩
theorem eX.app {K c H wp q ps os rs as ms}(hS:eX K c H wp q ps os rs as ms) {tag val two v1 v2}(h1:At K H val v1) (h2:At K H two v2) (la:as.length<=900){Q:Hp->Prop}(k:∀ol dl ar H',bw q.T H H'->eX K c H' wp q ps os (rs++[⟨tag,val,two,[],ol,dl,[],false⟩]) (as++[ar]) ms->Q H'):
  0<=sizeLine/\∀ol,H ol=none->∀dl,U1 H ol (.lst []) dl=none->5<=sizeLine/\∀ar,U1 (U1 H ol (.lst [])) dl (.dK []) ar=none->∃l xs x,V.ref q.T=.ref l/\[V.ref ar]=[x]/\U1 (U1 (U1 H ol (.lst [])) dl (.dK [])) ar (.lst [.str tag,v1,v2,.ref ol,.ref dl]) l=some (.lst xs)/\xs.length < sizeLine/\Q (U1 (U1 (U1 (U1 H ol (.lst [])) dl (.dK [])) ar (.lst [.str tag,v1,v2,.ref ol,.ref dl])) l (.lst (xs++[x]))):=by
 refine⟨Je _,fun ol J5 dl Ku=>⟨Em,fun ar Kc=>?_⟩⟩;have s1:=ab J5 (.lst []);have s2:=ab Ku (.dK []);have s3:=ab Kc (.lst [.str tag,v1,v2,.ref ol,.ref dl]);have Jv:=s1.trans s2;have JG:=Jv.trans s3;have Jx:=hS.row (r:=⟨tag,val,two,[],ol,dl,[],false⟩) JG (none_of Jv Kc) (hS.new J5) (none_of s1 Ku) ⟨v1,v2,ae,At.same JG _ _ h1,At.same JG _ _ h2⟩ ((s2.trans s3) _ _ ae) (fz.nil (s3 _ _ ae));exact⟨q.T,_,.ref ar,rfl,rfl,JG _ _ hS.t,bZ (by rw[IC];omega),k ol dl ar _ ((ak.but q.T JG).trans (bw.put _ _)) Jx⟩
end GS
namespace L2
open PySem PySem.Spec PyProof.Rows PySem.Builtin PySem.Builtin.List GS
section
variable {X:Cx}{UL:List (Addr×Obj)}{σ:St}{H:Hp}{s:Shared}
theorem DQ {P:Program}{w:World}{k:Key}{u:Value}(h:(bB P w).is k u=true):RelV (kV k) u:=by
 rcases cW (show nK k u=true from h) with ⟨i,t,rfl,rfl⟩ | ⟨x,t,rfl,rfl⟩
 ·exact⟨t,rfl⟩
 ·exact⟨t,rfl⟩
theorem wx {P:Program}{w:World}{A:Around}{E:Value->Shared->Prop}{s:Shared}{d:Addr}{Q:Bool->Shared->Prop}(ht:s.TypeIs (.ref d) "dict") (q:Q false s):wpAny (model P w) A (listLengthHint (.ref d)) Q E s:=by
 unfold listLengthHint;have k1:typeLookup (.type "dict") "__len__"=pure (some (.builtin "dict.__len__")):=by rw[typeLookup_type,builtinLookup_eq_fast];kernel_rfl
 have k3:isSubtype (.type "dict") (.type "dict")=pure true:=by rw[isSubtype_type];kernel_rfl
 refine IK (wpAny_specialOf ht k1 ?_);show wpAny _ _ (isInstance (.ref d) (.type "dict") >>= _) _ _ _;refine IK (wpAny_isInstance (T:="dict") (b:=true) ht k3 ?_);show wpAny _ _ (typeOf (.ref d) >>= _) _ _ _;refine IK (wpAny_typeOf ht ?_);exact IL q
theorem qF {P:Program}{w:World}{B:Around}{E:Value->Shared->Prop}{s:Shared}{Q:Value->Shared->Prop}{d:Addr}{vs:List (Key×Value)}{ep:Nat}(hh:B.in1.in1.handled=none) (hs:(d == sysModules)=false) (hD:s.heap.DictAt (bB P w) d vs ep) (hn:vs.length<=sizeLine)
  (q:∀h tk acc c,(∀b o,s.heap.get? b=some o->h.get? b=some o)->h.get? s.heap.objs.size=some { cls:=.type "list",dict:=none,data:=.seq acc c,slots:=#[] }->ItemsOf (fun i v=>∃k x,vs[i]?=some (k,x)/\(bB P w).is k v=true) acc vs.length->Q (.ref s.heap.objs.size) { s with heap:=h,toks:=tk }):
  wpAny (model P w) B (call (.type "list") [.ref d]) Q E s:=by
 refine callType_codes (Q₁:=fun u s'=>u=.ref s.heap.objs.size/\s'={ s with heap:=s.heap.push { cls:=.type "list",data:=.seq #[] } }) F.called_list (F.typeCall_list_1 _) F.entry_list_init (code_list_new _ ⟨rfl,rfl⟩) fun u s' h=>?_;obtain⟨rfl,rfl⟩:=h;have hS:(s.heap.push { cls:=.type "list",data:=.seq #[] }).get? s.heap.objs.size=some { cls:=.type "list",data:=.seq #[] }:=Jn _ rfl;refine⟨⟨_,hS,rfl⟩,F.args_list_init_2 _ _,?_⟩;have Rf:∀b o,s.heap.get? b=some o->(s.heap.push { cls:=.type "list",data:=.seq #[] }).get? b=some o:=fun b o e=>IM _ e;have Ju:d < s.heap.objs.size:=hD.lt_size;revert hS Rf;generalize s.heap.push { cls:=.type "list",data:=.seq #[] }=h1;intro hS Rf;show wpAny _ _ (do let old <-listItems (.ref s.heap.objs.size);listUpdate (.ref s.heap.objs.size) (fun _=>#[]);letGo old.toList.reverse;listExtendWith (.ref s.heap.objs.size) (.ref d) .none) _ _ _;refine IK ?_;unfold listItems;refine IK (wpAny_seqItems hS rfl (IL ?_));show wpAny _ _ (updateSeq s.heap.objs.size (fun _=>#[]) >>= fun _=>letGo (#[]:Array Value).toList.reverse >>= fun _=>listExtendWith (.ref s.heap.objs.size) (.ref d) .none) _ _ _;refine IK (wpAny_updateSeq hS rfl (IK (wpAny_letGo ?_)));have JD:=Heap.get?_update_self (Obj.mapSeq (fun _=>(#[]:Array Value))) hS rfl;have oth:∀b o,b≠s.heap.objs.size->h1.get? b=some o->(h1.update s.heap.objs.size (Obj.mapSeq (fun _=>(#[]:Array Value)))).get? b=some o:=fun b o hb e=>(Heap.get?_update_other _ _ (U8 hb)).trans e;have Qq:∀b o,s.heap.get? b=some o->(h1.update s.heap.objs.size (Obj.mapSeq (fun _=>(#[]:Array Value)))).get? b=some o:=fun b o e=>oth b o (Jk (Jj e)) (Rf b o e);revert JD Qq;generalize h1.update s.heap.objs.size (Obj.mapSeq (fun _=>(#[]:Array Value)))=h2;intro JD Qq;have Ma:h2.DictAt (bB P w) d vs ep:=hD.keep Qq;have hT:∀h:Heap,h.DictAt (bB P w) d vs ep->∀(g:Array GenState) (dr:Drawn) tk os,(⟨h,g,dr,tk,os⟩:Shared).TypeIs (.ref d) "dict":=fun h hd g dr tk os=>hd.dictOf.typeIs (s:=⟨h,g,dr,tk,os⟩);have Pd:s.heap.objs.size≠d:=Nat.ne_of_gt Ju;unfold listExtendWith;refine IK (wpAny_typeOf (hT _ Ma _ _ _ _) ?_);have e1:listSameRef (.ref s.heap.objs.size) (.ref d)=false:=by simp[listSameRef,Pd]
 have e2:(Value.type "dict" == Value.type "list")=false:=by decide
 have e3:(Value.type "dict" == Value.type "tuple")=false:=by decide
 simp only[e1,e2,e3,Bool.or_false,Bool.false_eq_true,if_false];refine IK (wpAny_pyIter_dict hs Ma (IK (wpAny_holding ?_)));have OK:∀b o,h2.get? b=some o->(h2.push { cls:=.type "dict_keyiterator",data:=.fields #[.ref d,.int 0 0,.int (vs.length:Nat) 0,.int (ep:Nat) 0] }).get? b=some o:=fun b o e=>IM _ e;have RV:(h2.push { cls:=.type "dict_keyiterator",data:=.fields #[.ref d,.int 0 0,.int (vs.length:Nat) 0,.int (ep:Nat) 0] }).IsKeyIter h2.objs.size d 0 vs.length ep:=⟨_,Jn _ rfl,rfl,rfl⟩;have hsz:s.heap.objs.size < h2.objs.size:=Jj JD;revert OK RV;generalize h2.push { cls:=.type "dict_keyiterator",data:=.fields #[.ref d,.int 0 0,.int (vs.length:Nat) 0,.int (ep:Nat) 0] }=h3;intro OK RV;have QE:h3.DictAt (bB P w) d vs ep:=Ma.keep OK;refine wx (hT _ QE _ _ _ _) ?_;have W:=Walks.dictKeys (knd:=bB P w) (A:=B.in1.in1) hh h2.objs.size d (Jk (Nat.lt_trans Ju hsz)) vs ep;have TQ:s.heap.objs.size∉[h2.objs.size,d]:=fun m=>by
  simp only[List.mem_cons,List.not_mem_nil,or_false] at m;rcases m with m | m
  ·exact Jk hsz m
  ·exact Pd m
 have V:=W.toS;have key:∀(h:Heap) (c1:Nat) tk,(∀b o,b≠s.heap.objs.size->h3.get? b=some o->h.get? b=some o)->h.get? s.heap.objs.size=some { cls:=.type "list",data:=.seq #[] c1 }->codeAny (model P w) B.in1 (.builtin "list.extend.loop" ⟨[.ref s.heap.objs.size,.ref h2.objs.size,.none],[]⟩) (wants (fun r s₂=>r=Value.none/\Q (.ref s.heap.objs.size) s₂) E) ⟨h,s.gens,s.drawn,tk,s.os⟩:=fun h c1 tk hk hs=>by
  refine codeAny_extend_loopS V hn s.heap.objs.size TQ .none vs.length 0 _ #[] c1 rfl (Je _) (W.frame 0 h3 h ⟨RV,QE⟩ fun b hb o e=>hk b o (fun z=>TQ (z▸hb)) e) hs (ItemsOf.nil _) fun s' acc c' hm Ke NJ=>?_;refine⟨rfl,?_⟩;have:=q s'.heap s'.toks acc c' (fun b o e=>hm.heap b o (fun JV=>?_) (hk b o (Jk (Jj e)) (OK b o (Qq b o e)))) Ke NJ
  ·rw[Moved.eq_with hm];exact this
  ·have hb:=Jj e;rcases Ji.mp JV with z | z
   ·exact Jk hb z
   ·exact Jk (Nat.lt_trans hb hsz) (Vc.mp z)
 have Kv:=OK _ _ JD;refine wpAny_ite_split (fun _=>?_) (fun _=>IL ⟨plainId_quiet F.plain_extend_loop _,key _ _ _ (fun _ _ _ e=>e) Kv⟩);refine IK (wpAny_rule (IK ?_));show wpAny _ _ (updateSeq s.heap.objs.size (·.push .none) >>= fun _=>updateSeq s.heap.objs.size (·.pop)) _ _ _;refine IK (wpAny_updateSeq Kv rfl ?_);have JM:=Heap.get?_update_self (Obj.mapSeq (·.push Value.none)) Kv rfl;refine wpAny_updateSeq (hz:=by seq_fits) JM rfl ?_;exact IL ⟨plainId_quiet F.plain_extend_loop _,key _ _ _ (fun b o hb e=>(Heap.get?_update_other _ _ (U8 hb)).trans ((Heap.get?_update_other _ _ (U8 hb)).trans e)) (Heap.get?_update_self (Obj.mapSeq (·.pop)) JM rfl)⟩
def Ca:List V->Hp->VK->Prop:=fun xs H Q=>∃(d:Addr) (UM:List (Key×V)),xs=[.ref d]/\H d=some (.dK UM)/\∀l,H l=none->Q (.ref l) (U1 H l (.lst (UM.map fun x=>kV x.1)))
theorem tL (hc:X.calm=true):gf X (.type "list") Ca:=by
 intro UL s σ H xs us Q I r h;obtain⟨d,UM,rfl,hd,q⟩:=h;obtain⟨u,rfl,ru⟩:=vals1 r;cases ru;obtain⟨hz,hs,vs,Mt,o,es,ep,ho,h1,h2,h3⟩:=(show dY X.prog X.w H s.heap d (.dK UM) from I.cA d _ hd);have UQ:=Mt.length;refine qF (vs:=vs) (ep:=ep) (I.ok.hd hc) hs ⟨o,es,ho,h1,h2,h3⟩ (by omega) fun h tk acc c kp hS NJ=>?_;refine⟨.ref s.heap.objs.size,_,I.laid (t':=tk) kp (IE _) (show dY X.prog X.w _ h _ (.lst (UM.map fun x=>kV x.1)) from⟨by rw[IC];exact hz,acc.toList,c,?_,hS⟩),rfl,q _ (I.cA.fresh (IE _))⟩;obtain⟨ha,hb⟩:=NJ;have:∀(ks:List Key) (as:List Value),as.length=ks.length->(∀(i:Nat) (v:Value),as[i]?=some v->∃k:Key,ks[i]?=some k/\(bB X.prog X.w).is k v=true)->U2 (ks.map kV) as:=fun ks=>by
  induction ks with
  | nil=>intro as e _;rw[Ve.mp e];exact .nil
  | cons k ks ih=>
   intro as e hh;cases as with
   | nil=>cases e
   | cons a as=>
    obtain⟨k',e1,e2⟩:=hh 0 a rfl;have R8:k=k':=by simpa using e1
    subst R8;exact .cons (DQ e2) (ih as (by simpa using e) fun i v hv=>hh (i+1) v (by simpa using hv))
 have key:=this (UM.map (·.1)) acc.toList (by rw[IC,Array.length_toList,ha,UQ]) fun i v hv=>by
  obtain⟨k,x,e1,e2⟩:=hb i v (by simpa using hv);refine⟨k,?_,e2⟩;rw[Mt.keys,IJ,e1];rfl
 rw[List.map_map] at key;exact key
end
end L2
namespace GS
open PySem PyProof.Rows
open L2 hiding ag gA cE aj pv bA fN aB iw fu d9 fh iT bC dz bD bz bg bc aI aY ba bV au bE dQ cp bS fP d6 fg fE gk cR eJ cb fT bL eI bQ aJ bT fQ gu bo eS cL aP aa ah
open L3
abbrev BZ:Stmt:=cB 84
structure qI (K:Fg06) (c:fo) (H:Hp) (wp:Wp) (q:Lp) (ps:List Addr) (os:List Th) (rs:List Rw) (as:List Addr) (ms:List D) (B:Nat) (ca pn:Addr) (m:Nat) (xs:List Str):Prop where
 s:eX K c H wp q ps os rs as ms
 w:eV B os rs ms
 c:∃ns:List Int,H ca=some (.lst (ns.map V.int))/\ns.length<=63
 b:H q.b=some (.lst [.int ((m:Nat):Int)])
 n:Et H pn xs
 np:pn∉Sy wp q
 nc:ca∉Sy wp q
 f:∃r:Rw,rs[13]?=some r/\r.tag=("function":Str)
section
variable {K:Fg06}{c:fo}{H H':Hp}{wp:Wp}{q:Lp}{ps JJ:List Addr}{os Jw:List Th}{rs JP:List Rw}{as J4:List Addr}{ms JZ:List D}{B B' m m':Nat}{ca pn:Addr}{xs:List Str}
theorem qI.sp (h:qI K c H wp q ps os rs as ms B ca pn m xs):jH K H ca q.b m:=let ⟨ns,a,b⟩:=h.c;⟨⟨ns,aS.of a,b⟩,fun y=>h.nc (y▸Sy.b),h.b⟩
theorem qI.go (h:qI K c H wp q ps os rs as ms B ca pn m xs) (ch:mv (Sy wp q) H H') (s':eX K c H' wp q JJ Jw JP J4 JZ) (w':eV B' Jw JP JZ) (r:gb rs JP) (b:H' q.b=some (.lst [.int ((m':Nat):Int)])):qI K c H' wp q JJ Jw JP J4 JZ B' ca pn m' xs:=by
 obtain⟨ns,a1,a2⟩:=h.c;obtain⟨SE,e,t⟩:=h.f;obtain⟨r',e',t'⟩:=r 13 SE e;exact⟨s',w',⟨ns,ch _ _ a1 h.nc (fun _ z=>nomatch z),a2⟩,b,⟨ch _ _ h.n.l h.np (fun _ z=>nomatch z),h.n.n,h.n.x⟩,h.np,h.nc,r',e',(Vj Prod.fst t').trans t⟩
theorem qI.same (h:qI K c H wp q ps os rs as ms B ca pn m xs) (s:ak H H'):qI K c H' wp q ps os rs as ms B ca pn m xs:=h.go (ak.iD s) (h.s.same s) h.w (gb.refl _) (s _ _ h.b)
theorem qI.mh (h:qI K c H wp q ps os rs as ms B ca pn m xs) (b:bw q.b H H') (hb:H' q.b=some (.lst [.int ((m':Nat):Int)])):qI K c H' wp q ps os rs as ms B ca pn m' xs:=h.go (b.iD Sy.b) (h.s.mh h.b b hb) h.w (gb.refl _) hb
end
def GU:List Str:=["say","isa","go","take"]
theorem Gd:∀x∈GU,(x,hU x)∈gS/\hU x < 8/\gfN.getD (hU x) ""=x:=by decide +kernel
def wQ (xs:List Str):List Str:=xs.take 8++([("word":Str),"context","starts"]:List Str)
theorem vm.tx {d} (os) (h:vm d):wJ os d=wJ [] d:=by
 rcases h with ⟨i,rfl,_⟩ | ⟨t,rfl⟩ | ⟨b,rfl⟩ | rfl
 ·exact(pX os i).trans (pX [] i).symm
 ·rfl
 ·rfl
 ·rfl
section
variable {P:Program}{w:World}{K:Fg06}{mg:Str->Option Value}{base:Heap}{f:Addr}{fd:FuncData}{c:fo}
inductive sGr (K:Fg06) (c:fo) (D0:U4) (σ:L2.St) (H:Hp):Prop
 | mk wp q ps os rs as ms od lb UM (j:Nat) N:sg σ 4 (.ref wp.W)->sg σ 5 (.ref od)->sg σ 6 (.ref lb)->sg σ 7 (.ref q.T)->sg σ 8 (.str (vQ j))->eX K c H wp q ps os rs as ms->H od=some (.dK UM)->ia H jQ UM N->H lb=some (.lst (qm.map V.str))->j < 12->as.length<=900->(∀H' ol dl ar,bw q.T H H'->eX K c H' wp q ps os (rs++[Gb j ol dl]) (as++[ar]) ms->D0.nx σ H')->sGr K c D0 σ H
inductive sL1 (K:Fg06) (c:fo) (D0:U4) (σ:L2.St) (H:Hp):Prop
 | mk wp q ps os rs as ms ca pn m xs v0 v5 v6 v8 v9 v10:σ=[v0,some (.ref ca),some (.ref q.b),some (.ref pn),some (.ref wp.W),v5,v6,some (.ref q.T),v8,v9,v10,some (.ref q.M),none,none,none,none,none]->qI K c H wp q ps os rs as ms 3 ca pn m xs->m<=10->os.length<=30->rs.length<=16->ms.length<=0->(∀H' JJ Jw JP J4 JZ m' KP,qI K c H' wp q JJ Jw JP J4 JZ 27 ca pn m' xs->m'<=200->Jw.length<=60->JP.length<=40->JZ.length<=30->D0.nx [v0,some (.ref ca),some (.ref q.b),some (.ref pn),some (.ref wp.W),v5,v6,some (.ref q.T),v8,v9,v10,some (.ref q.M),KP,none,none,none,none] H')->sL1 K c D0 σ H
inductive sL2 (K:Fg06) (c:fo) (D0:U4) (σ:L2.St) (H:Hp):Prop
 | mk wp q ps os rs as ms ca pn m xs v0 v5 v6 v8 v9 v10 KP:σ=[v0,some (.ref ca),some (.ref q.b),some (.ref pn),some (.ref wp.W),v5,v6,some (.ref q.T),v8,v9,v10,some (.ref q.M),KP,none,none,none,none]->qI K c H wp q ps os rs as ms 27 ca pn m xs->os.length<=60->rs.length<=40->ms.length<=30->(∀H' JJ Jw JP J4 JZ v8 MP,qI K c H' wp q JJ Jw JP J4 JZ 27 ca pn m xs->JP.length<=40->D0.nx [v0,some (.ref ca),some (.ref q.b),some (.ref pn),some (.ref wp.W),v5,v6,some (.ref q.T),v8,v9,v10,some (.ref q.M),KP,MP,none,none,none] H')->sL2 K c D0 σ H
inductive tDu (K:Fg06) (σ:L2.St) (H:Hp) (Q:VK):Prop
 | mk d v:sg σ 14 v->At K H d v->vm d->(∀H',ak H H'->Q (.str (wJ [] d)) H')->tDu K σ H Q
inductive qU (K:Fg06) (vs:List V) (H:Hp) (Q:VK) (E:XK):Prop
 | mk a (ns:List Int):vs=[.ref a]->aS K H a (ns.map V.int)->ns.length<=63->(∀H',Q (.bl true) H')->qU K vs H Q E
theorem gi:aQ ["_law_script","_law_cells","_law_spot","_law_names_here","_law_world","_law_orders","_law_labels","_law_there","_law_name","_law_n","_law_given_name","_law_methods","_law_turn","_law_one","_law_plain_here","_law_due_here","_law_long"] ["_law_script"] (aC BZ):=gp
theorem Dd (g:Glb9 mg) (F:fm K "law" "law" BZ f fd) (dAt:Def P w K mg base "_law_cell_at" ["_law_script","_law_k"] 1 (xN K)) (dCe:Def P w K mg base "_law_cell" ["_law_cells","_law_spot"] 1 (kg K)) (dDr:Def P w K mg base "_law_names" ["_law_n"] 1 (xK K)) (dPl:Def P w K mg base "_law_plain" ["_law_n"] 1 (xo K)) (MW:jI P w K mg base "World" c.W ["self","inputs"] 4 (BN K c)) (dGO:Def P w K mg base "_law_given_orders" [] 1 EK) (dK:Def P w K mg base "known" ["world","name"] 1 (vC K c)) (dGv:Def P w K mg base "giver" ["world","name","frame"] 3 (xF K c)) (dFn:Def P w K mg base "function" ["world","name","params","defaults","code","around","gives"] 3 (uq K c)) (dDd:Def P w K mg base "_law_deed" ["_law_world","_law_there","_law_cells","_law_spot","_law_names_here","_law_methods"] 10 (sE K c)) (dAk:Def P w K mg base "_law_asked" ["_law_world","_law_there","_law_one","_law_name","_law_methods"] 9 (uw K c)) (dX:Def P w K mg base "text_of" ["world","a"] 3 (mZ K c)) (dTr:Def P w K mg base "_law_texts_right" ["_law_world","_law_there"] 4 (xk K c)):bK P w K mg base fq 11 f fd ["_law_script"] (qU K):=by
 refine F.gB gi fun UO A outer s H vs Q E hr h=>?_;obtain⟨sc,ns,rfl,Rx,KI,k⟩:=h;refine⟨_,(aa (eG 1 gi.nd (bg eE (pv 0) (bz ag) (bz ag)))
   (aa (eG 2 gi.nd (aY (cy ag)))
   (aa (eG 3 gi.nd (cM dDr (cy (cM dAt (cq (pv 0) ag)))))
   (aa (eG 4 gi.nd (L3.lS MW hr (by decide) rfl (cy (aY bc))))
   (aa (eG 5 gi.nd (L3.qe dGO hr (by decide) rfl))
   (aa (eG 6 gi.nd (bE (tL rfl) rfl g.nList zv (cy (pv 5))))
   (aa (eG 7 gi.nd (aY bc))
   (aa (cL IW rfl (bL (pv 6)) (ip 8 gi.nd) (ah (gs (t':=sGr K c) (bT (dQ Jb Jc Jd cf (pv 7) (cy (aY (aI aj (aI (cM dK (cq (pv 4) (pv 8))) (mi (pv 8) (.mk (L2.cG (cl:=[("_law_labels",s.heap.objs.size+1)]) (Xs:=["_law_one"]) (Nf:=["_law_labels"]) (js:=[6]) ?k1 rfl (LI.out (bL (L3.gQ (fI hr) (pv 5) (pv 8)))) (fun C s0 H0 fp=>LG.out (ip 0 (show(["_law_one","_law_labels"]:List Str).Nodup by decide +kernel))) (fun C s0 H0 fp=>eY) (fun C s0 H0 fp=>LE.out (L3.o9 K hr (pv 1) (cy (pv 0)))))) bV aj))))))) ?gr)))
   (aa (eG 9 gi.nd (cM dCe (cq (pv 1) (pv 2))))
   (aa (bT (dQ Jb Jc Jd cf (pv 7) (cy (aY (aI aj (mi (cM dGv (kN (pv 4) (cV K (pv 3) (aB br (pv 9) ag)) aj)) (cV K (pv 3) (aB br (pv 9) ag)) (aY bc) bV))))))
   (aa (bT (dQ Jb Jc Jd cf (pv 7) (cy (aY (aI aj (mi (cM dFn (aI (pv 4) (aI (cV K (pv 3) ag) (aI ag (mi (ba bc) ag cE gA))))) (cV K (pv 3) ag) (aY bc) bV))))))
   (aa (bT (dQ Jb Jc Jd cf (pv 7) (cy (aY (aI aj (mi (cM dPl (cy (aB bF (pv 9) ag))) aj (aY bc) bV))))))
   (aa (eG 10 gi.nd (cV K (aY (mi aj aj aj aj)) (aB br (aB bF (pv 9) ag) ag)))
   (aa (bT (dQ Jb Jc Jd cf (pv 7) (cy (aY (aI aj (mi (cM dK (cq (pv 4) (pv 10))) (pv 10) (aY bc) bV))))))
   (aa (eG 11 gi.nd (aY bc))
   (aa (gs (t':=sL1 K c) (cL IW rfl (bQ rfl g.gX (cy ag)) (ip 12 gi.nd) (ah (bo (fP (bS (cM dDd (aI (pv 4) (aI (pv 7) (mi (pv 1) (pv 2) (pv 3) (pv 11))))))) (ah cQ) aP))) ?l1)
   (aa (gs (t':=sL2 K c) (cL IW rfl (bL (bg eE (pv 7) (bz ag) bD)) (ip 13 gi.nd) (ah (cL IW rfl (bL (aB jU (bg eE (pv 3) bD (bz ag)) (aY (kN aj aj aj)))) (ip 8 gi.nd) (ah (bo (fP (bS (cM dAk (aI (pv 4) (mi (pv 7) (pv 13) (pv 8) (pv 11)))))) (ah cQ) aP))))) ?l2)
   (aa (eG 14 gi.nd (cM dPl (cy (cM dCe (cq (pv 1) (pv 2))))))
   (aa (eG 15 gi.nd (cS (t':=tDu K) (bC (fR (r:=nz K) (gW hr) (pv 14) (ba (cy aj))) aj (bE pL rfl g.DC zu (cy (cF (pv 14))))) ?du))
   (aa (eG 16 gi.nd (bg kU (aB sP (cV K (pv 3) ag) ag) bD (bz (aB jS ag (aB br (cM dCe (cq (pv 1) (pv 2))) ag)))))
   (aa (bo (fR pe (cM dX (cq (pv 4) (ba (cq aj (pv 16))))) (pv 16)) (ah cQ) aP)
   (ah (aJ (fh (cM dTr (cq (pv 4) (pv 7))) (d9 (qM cP (cM dX (cq (pv 4) (pv 14))) (pv 15))))))))))))))))))))))))))),?main⟩
 case k1=>exact qB
 case gr=>
  rintro D0 σ H ⟨wp,q,ps,os,rs,as,ms,od,lb,UM,j,N,e4,e5,e6,e7,e8,hS,Ko,O8,N8,hj,la,k⟩;obtain⟨hgv,Kk,_,_⟩:=Bk j hj;obtain⟨hmo,_,hlbm,lo⟩:=Bj j hj;obtain⟨qj,hv,hq,_⟩:=O8.get uE hmo;have lor:((r6 j).map V.str).length=(r6 j).length:=IC _;refine⟨_,e7,.inl ⟨rfl,_,aS.of hS.t⟩,_,e4,_,e8,wp,ps,os,gS,[],[],vQ j,rfl,hS.w,.inl ⟨8+j,hgv,fun v1 JE=>⟨_,e8,_,e5,_,e8,od,.ref qj,rfl,by rw[<-hv];exact gM.k (k:=.inr (vQ j)) Ko,qj,rfl,⟨_,aS.of hq⟩,[.ref lb],⟨rfl,fun j i h=>?_⟩,bM (vs:=[.ref lb]) (tc:=gN) ((r6 j).map V.str).length (fun i=>((r6 j).map V.str).getD i .bb) (fun _=>true) (fun i v _=>v=.int ((qm.idxOf ((r6 j).getD i ""):Nat):Int)) (fun _ _ _ _ _ z=>z) (by omega) (ee (aS.of hq)) (gx (aS.of hq)) (fw (aS.of hq)) (fun i H2 Q' hi s2 k2=>k2 H2 (ak.refl _)) (fun i H2 D l' Q' hi _ s2 _ _ k2=>?_) fun ol H2 ys J5 s2 JF hP=>?_⟩⟩⟩
  ·match j,h with
   | 0,h=>cases h;exact⟨_,rfl,e6⟩
   | j+1,h=>simp at h
  ·have ex:=some_of ("":Str) (show i < (r6 j).length by omega);have ei:((r6 j).map V.str).getD i .bb=.str ((r6 j).getD i ""):=cg (by rw[IJ,ex];rfl);have hx:=hlbm _ (IG ex);rw[ei];refine⟨_,rfl,.inl ⟨rfl,_,aS.of (s2 _ _ N8)⟩,_,rfl,lb,_,.str ((r6 j).getD i ""),.str ((r6 j).getD i ""),qm.map GS.D.str,qm.idxOf ((r6 j).getD i ""),rfl,rfl,aS.of (s2 _ _ N8),pZ qm,aH.mpr rfl,fun e he=>?_,uQ hx,by decide +kernel,k2 _ _ (ak.refl _) rfl⟩;obtain⟨m,_,rfl⟩:=Jq.mp he;rw[cK];decide
  rw[hP.eq,lor,U5.mpr (fun _ _=>rfl),di (r6 j) ("":Str) (fun x=>V.int ((qm.idxOf x:Nat):Int))] at JF;have hol2:H2 ol=some (.lst ((DR j).map fun j=>V.int (j:Nat))):=by rw[JF,<-Kk,List.map_map];rfl
  intro dl Ku;refine⟨sz6,fun ar Kc=>?_⟩;have s3:=ab Ku (.dK []);have s4:=ab Kc (.lst [.str "class",v1,.str (vQ j),.ref ol,.ref dl,.str "given"]);have N2:=(s2.trans s3).trans s4;have Jx:=hS.row (r:=Gb j ol dl) N2 (none_of (s2.trans s3) Kc) (hS.new J5) (none_of s2 Ku) ⟨v1,.str (vQ j),ae,At.same N2 _ _ JE,aH.mpr rfl⟩ ((s3.trans s4) _ _ hol2) (fz.nil (s4 _ _ ae));exact⟨q.T,_,.ref ar,rfl,rfl,N2 _ _ hS.t,bZ (by rw[IC];omega),k _ ol dl ar ((ak.but q.T N2).trans (bw.put _ _)) Jx⟩
 case l1=>
  rintro D0 σ H ⟨wp,q,ps,os,rs,as,ms,ca,pn,m,xs,v0,v5,v6,v8,v9,v10,rfl,hG,hm,lo,lr,lm,k⟩;refine⟨_,rfl,by decide,by decide,ju (lo:=0) (n:=24) (fun i σ H'=>(∃KP,σ=[v0,some (.ref ca),some (.ref q.b),some (.ref pn),some (.ref wp.W),v5,v6,some (.ref q.T),v8,v9,v10,some (.ref q.M),KP,none,none,none,none])/\∃ps os rs as ms m,qI K c H' wp q ps os rs as ms (3+i) ca pn m xs/\m<=10+5*i/\os.length<=30+i/\rs.length<=16+i/\ms.length<=i) ⟨⟨_,rfl⟩,ps,os,rs,as,ms,m,hG,by omega,by omega,by omega,by omega⟩ ?t ?s⟩
  case t=>
   rintro i σ H1 hi ⟨⟨KP,rfl⟩,ps,os,rs,as,ms,m,hG,hm,lo,lr,lm⟩;refine⟨_,rfl,_,rfl,_,rfl,_,rfl,_,rfl,_,rfl,wp,q,ps,os,rs,as,ms,3+i,ca,pn,m,xs,rfl,hG.s,hG.w,hG.sp,hG.n,hG.np,hG.nc,by omega,by omega,by omega,hG.f,by omega,by omega,by omega,fun H' JJ Jw JP J4 JZ m' c' Ke Lv Kn Mm lr' Qp KO lb'=>⟨true,rfl,bu ⟨⟨_,rfl⟩,JJ,Jw,JP,J4,JZ,m',hG.go c' Ke Lv Kn KO,by omega,by omega,by omega,by omega⟩⟩⟩
  case s=>
   rintro σ H1 ⟨⟨KP,rfl⟩,ps,os,rs,as,ms,m,hG,hm,lo,lr,lm⟩;exact k H1 ps os rs as ms m KP hG (by omega) (by omega) (by omega) (by omega)
 case l2=>
  rintro D0 σ H ⟨wp,q,ps,os,rs,as,ms,ca,pn,m,xs,v0,v5,v6,v8,v9,v10,KP,rfl,hG,lo,lr,lm,k⟩;have ln:=hG.s.n;have Q9:=hG.n.n;refine⟨_,rfl,_,rfl,q.T,_,rfl,aS.of hG.s.t,fun sl S3=>⟨sl,rfl,?_⟩⟩;have ec:de (as.map V.ref) (some (10:Int)) none=(as.drop 10).map V.ref:=by rw[List.map_drop];exact jh 10
  rw[ec];have s1:=ab S3 (.lst ((as.drop 10).map V.ref));have nsl:=hG.s.new S3;have Nb:U1 H sl (.lst ((as.drop 10).map V.ref)) sl=some (.lst ((as.drop 10).map V.ref)):=ae;have T2:=hG.same s1;generalize U1 H sl (.lst ((as.drop 10).map V.ref))=H1 at s1 Nb T2 ⊢;refine⟨⟨_,aS.of Nb⟩,hZ (K:=K) (a:=sl) (xs:=(as.drop 10).map V.ref) (fun j σ H'=>(∃v8 MP,σ=[v0,some (.ref ca),some (.ref q.b),some (.ref pn),some (.ref wp.W),v5,v6,some (.ref q.T),v8,v9,v10,some (.ref q.M),KP,MP,none,none,none])/\H' sl=some (.lst ((as.drop 10).map V.ref))/\∃ps os rs J4 ms,qI K c H' wp q ps os rs J4 ms 27 ca pn m xs/\(∀(i:Nat) a,as[i]?=some a->J4[i]?=some a)/\os.length<=60+11*j/\ms.length<=30+11*j/\rs.length<=40) ⟨⟨_,_,rfl⟩,Nb,ps,os,rs,as,ms,T2,fun _ _ e=>e,by omega,by omega,by omega⟩ (fun _ σ H' _ h=>aS.of h.2.1) ?t ?s⟩
  case s=>
   rintro σ H2 ⟨⟨v8,MP,rfl⟩,_,ps,os,rs,J4,ms,hG,_,_,_,lr⟩;exact k H2 ps os rs J4 ms v8 MP hG lr
  case t=>
   rintro j u σ H2 hu ⟨⟨v8,MP,rfl⟩,hsl2,ps,os,rs,Sd,ms,RW,K3,lo2,lm2,OJ⟩;have hj:=aq hu;rw[IC,List.length_drop] at hj;obtain⟨a,ea⟩:∃a,as[10+j]?=some a:=⟨_,Iy (by omega)⟩;rw[IJ,List.getElem?_drop,ea] at hu;cases hu;refine⟨_,rfl,_,rfl,pn,_,rfl,aS.of RW.n.l,fun l3 J1=>⟨En,fun l4 K5=>?_⟩⟩;have ct:de (xs.map V.str) none (some (8:Int))=(xs.take 8).map V.str:=by rw[List.map_take];exact kC 8
   rw[ct] at K5 ⊢;have s3:=ab J1 (.lst ((xs.take 8).map V.str));have s4:=ab K5 (.lst [.str "word",.str "context",.str "starts"]);refine⟨l3,l4,_,_,rfl,rfl,s4 _ _ ae,ae,small (by rw[IC,Vb];show _+3<=_;omega),fun nl Nn=>⟨nl,rfl,?_⟩⟩;have ez:(xs.take 8).map V.str++[V.str "word",.str "context",.str "starts"]=(wQ xs).map V.str:=by unfold wQ;rw[Jg];rfl
   rw[ez];have LR:=s3.trans s4;have s5:=ab Nn (.lst ((wQ xs).map V.str));have nnl:=(RW.s.same LR).new Nn;have Nl:U1 (U1 (U1 H2 l3 (.lst ((xs.take 8).map V.str))) l4 (.lst [.str "word",.str "context",.str "starts"])) nl (.lst ((wQ xs).map V.str)) nl=some (.lst ((wQ xs).map V.str)):=ae;have MY:=LR.trans s5;have T1:=RW.same MY;have OY:=MY _ _ hsl2;have lz:((wQ xs).map V.str).length=11:=by unfold wQ;rw[IC,Iu,Vb];show _+3=_;omega
   generalize U1 (U1 (U1 H2 l3 (.lst ((xs.take 8).map V.str))) l4 (.lst [.str "word",.str "context",.str "starts"])) nl (.lst ((wQ xs).map V.str))=H5 at Nl T1 OY ⊢;clear s3 s4 LR s5 MY J1 K5 Nn;refine⟨⟨_,aS.of Nl⟩,hZ (K:=K) (a:=nl) (xs:=(wQ xs).map V.str) (fun i σ H'=>(∃v8,σ=[v0,some (.ref ca),some (.ref q.b),some (.ref pn),some (.ref wp.W),v5,v6,some (.ref q.T),v8,v9,v10,some (.ref q.M),KP,some (.ref a),none,none,none])/\H' sl=some (.lst ((as.drop 10).map V.ref))/\H' nl=some (.lst ((wQ xs).map V.str))/\∃ps os rs J4 ms,qI K c H' wp q ps os rs J4 ms 27 ca pn m xs/\(∀(i:Nat) a,as[i]?=some a->J4[i]?=some a)/\os.length<=60+11*j+i/\ms.length<=30+11*j+i/\rs.length<=40) ⟨⟨_,rfl⟩,OY,Nl,ps,os,rs,Sd,ms,T1,K3,by omega,by omega,OJ⟩ (fun _ σ H' _ h=>aS.of h.2.2.1) ?t2 ?s2⟩
   case s2=>
    rintro σ H6 ⟨⟨v8,rfl⟩,Na,_,ps,os,rs,J4,ms,hG,hp,lo,lm,lr⟩;rw[lz] at lo lm;exact⟨⟨_,_,rfl⟩,Na,ps,os,rs,J4,ms,hG,hp,by omega,by omega,lr⟩
   case t2=>
    rintro i u σ H6 hu ⟨⟨v8,rfl⟩,Na,hnl6,ps,os,rs,J4,ms,hG,hp,lo,lm,lr⟩;have hi:=aq hu;rw[lz] at hi;rw[IJ] at hu;obtain⟨nm,Mr⟩:∃nm,(wQ xs)[i]?=some nm:=⟨_,Iy (by rw[IC] at lz;omega)⟩;rw[Mr] at hu;cases hu;have Kx:=hp _ _ ea;have hir:10+j < rs.length:=by rw[<-hG.s.n];exact aq Kx
    have kp:∀{p zs H'},p∉Sy wp q->mv (Sz wp q) H6 H'->H6 p=some (.lst zs)->H' p=some (.lst zs):=fun hp c e=>c.wk _ _ e hp (fun _ z=>nomatch z);exact⟨_,rfl,_,rfl,_,rfl,_,rfl,_,rfl,wp,q,ps,os,rs,J4,ms,27,10+j,a,_,nm,rfl,hG.s,hG.w,some_of fb hir,Kx,by omega,by omega,by omega,fun H' JJ Jw rx ax JZ c' Ke Lv Mm Qp lx Rb=>⟨true,rfl,bu ⟨⟨_,rfl⟩,kp nsl c' Na,kp nnl c' hnl6,JJ,Jw,_,_,JZ,hG.go c'.wk Ke Lv gb.app (c' _ _ hG.b hG.s.nb (fun _ z=>nomatch z)),fun i a e=>bN (hp i a e),by omega,by omega,by
     rw[Iu];rcases Nat.lt_or_ge rs.length 40 with h | h
     ·omega
     ·rw[Rb h];exact lr⟩⟩⟩
 case du=>
  rintro σ H Q ⟨d,v,QI,hv,hp,k⟩;refine⟨_,QI,pY,fun t ht=>?_⟩;have s1:=ab ht (.tup [.str "none"]);have JE:=At.same s1 _ _ hv;refine⟨d,jA,JE,At.new ht (aE.mj (aH.mpr rfl)),ID hp.dep (by decide),_,rfl,bJ (fun e0=>?_) (fun e0=>?_)⟩
  ·have:=hp.none e0;subst this;exact k _ s1
  ·have k1:=k _ s1;rcases hp with ⟨i,rfl,hi⟩ | ⟨x,rfl⟩ | ⟨b,rfl⟩ | rfl
   ·refine⟨_,QI,1,_,_,rfl,JE,rfl,fun y hy=>?_⟩;rw[bG.mp hy];refine⟨_,rfl,.inl ⟨i,rfl,hi⟩,?_⟩;have k1:Q (.str (wJ [] (HJ i))) _:=k1;rw[pX] at k1;exact k1
   ·refine⟨_,QI,1,_,_,rfl,JE,rfl,fun y hy=>?_⟩;rw[aH.mp hy];exact⟨_,rfl,.inr (.inl ⟨x,rfl⟩),k1⟩
   ·refine⟨_,QI,1,_,_,rfl,JE,rfl,fun y hy=>?_⟩;rw[dZ.mp hy];exact⟨_,rfl,.inr (.inr ⟨b,rfl⟩),k1⟩
   ·rw[cI] at e0;cases e0
 case main=>
  refine⟨_,rfl,_,rfl,_,rfl,sc,_,rfl,Rx,fun ca TJ=>?_⟩;obtain⟨cs,ec,Py⟩:=zp ns (some 1) (some 40);rw[ec];have s1:=ab TJ (.lst (cs.map V.int));have a1:U1 H ca (.lst (cs.map V.int)) ca=some (.lst (cs.map V.int)):=ae;generalize U1 H ca (.lst (cs.map V.int))=H1 at s1 a1 ⊢;refine⟨pY,fun b hb=>?_⟩;have nab:ca≠b:=cv a1 hb;have s2:=s1.trans (ab hb (.lst [.int 0]));have a2:=ab hb (.lst [.int 0]) _ _ a1;have b2:U1 H1 b (.lst [.int 0]) b=some (.lst [.int ((0:Nat):Int)]):=ae;generalize U1 H1 b (.lst [.int 0])=H2 at s2 a2 b2 ⊢;refine⟨_,rfl,sc,ns,0,rfl,s2.seq Rx,fun fi0=>⟨fi0,rfl,fun pn xs H3 s3 O4 Mq M6 LH=>?_⟩⟩;have a3:=s3 _ _ a2;have b3:=s3 _ _ b2;have npb:pn≠b:=cv O4 b2;clear s1 s2 s3 a1 a2 b2 O4 TJ hb Rx;refine⟨Je _,fun l4 K5=>fun W dw hW Oe S8=>?_⟩;have s4:=ab K5 (.lst []);have e4:U1 H3 l4 (.lst []) l4=some (.lst []):=ae;generalize U1 H3 l4 (.lst [])=H4 at s4 e4 hW Oe ⊢;obtain⟨s7,c7⟩:=gR (C:=c.W) hW Oe S8;generalize U1 (U1 H4 dw (.own W)) W (.ins c.W dw [])=H7 at s7 c7 ⊢;refine⟨W,dw,l4,[],rfl,c7,aS.of (s7 _ _ e4),fun H8 pl pg pm pf ps ds JH k8 nl ng nn nf w8=>⟨rfl,?_⟩⟩;have Sv:ak H4 H8:=fun p o e=>k8 p o (cv e hW) (s7 _ _ e);have nS:∀{p:Addr}{o:HO},H4 p=some o->p≠pl/\p≠pm/\p≠pf:=fun {p o} e=>⟨fun y=>(by rw[y] at e;rw[s7 _ _ e] at nl;cases nl),fun y=>(by rw[y] at e;rw[s7 _ _ e] at nn;cases nn),fun y=>(by rw[y] at e;rw[s7 _ _ e] at nf;cases nf)⟩;obtain⟨Q8,na2,na3⟩:=nS (s4 _ _ a3);obtain⟨Q6,np2,np3⟩:=nS (s4 _ _ Mq);obtain⟨Q7,nb2,nb3⟩:=nS (s4 _ _ b3);have Qj:=s4.trans Sv;have a8:=Qj _ _ a3;have b8:=Qj _ _ b3;have p8:=Qj _ _ Mq;clear nS Sv Qj s4 s7 c7 k8 nl ng nn nf hW Oe S8 a3 b3 Mq e4 K5;refine⟨rfl,fun od H9 UM s9 hod0 Ko O8=>⟨_,rfl,od,UM,rfl,Ko,fun lb N8=>?_⟩⟩;have ek:(UM.map fun x=>kV x.1)=qm.map V.str:=by
   have:=Vj (List.map kV) O8.keys;rw[List.map_map,List.map_map] at this;unfold qm;rw[List.map_map];exact this
  rw[ek];have JO:=ab N8 (.lst (qm.map V.str));have K2:U1 H9 lb (.lst (qm.map V.str)) lb=some (.lst (qm.map V.str)):=ae;have w9:=w8.same s9;have nlb:∀{p:Addr}{o:HO},H9 p=some o->lb≠p:=fun e y=>by rw[<-y,N8] at e;cases e
  have Lj:=O8.mono (N':=fun _=>True) fun p zs _ e=>⟨JO _ _ e,trivial⟩;have nlw:lb≠pl/\lb≠pm/\lb≠pf:=⟨nlb w9.t,nlb w9.hn,nlb w9.hf⟩;have nlB:=nlb (s9 _ _ b8);have nlc:=nlb (s9 _ _ a8);have nlp:=nlb (s9 _ _ p8);generalize U1 H9 lb (.lst (qm.map V.str))=JL at JO K2 Lj ⊢;refine⟨Je _,fun T hT=>?_⟩;have JY:=ab hT (.lst []);have Ou:U1 JL T (.lst []) T=some (.lst []):=ae;have MU:=JO.trans JY;have nT:∀{p:Addr}{o:HO},JL p=some o->T≠p:=fun e y=>by rw[<-y,hT] at e;cases e
  have Ot:=w9.same JO;have KQ:=s9.trans JO;have QR:eX K c (U1 JL T (.lst [])) ⟨W,pl,pg,pm,pf⟩ ⟨T,lb,b⟩ ps (ib ds) [] [] (qm.map D.str):=⟨Ot.same JY,Ou,rfl,(fun _ _ _ e=>nomatch e),(fun _ _ _ _ e=>nomatch e),(fun _ _ e=>nomatch e),⟨_,JY _ _ K2,pZ _⟩,⟨nT Ot.t,nT Ot.hn,nT Ot.hf⟩,nlw,⟨Q7,nb2,nb3⟩,nT K2,nT (KQ _ _ b8),nlB,⟨_,JY _ _ (KQ _ _ b8)⟩⟩;have Qb:=(KQ.trans JY) _ _ a8;have LB:=(KQ.trans JY) _ _ b8;have Qm:=(KQ.trans JY) _ _ p8;have M4:=MU _ _ Ko;have Lf:=JY _ _ K2;have Li:=Lj.mono (N':=fun p=>p≠T) fun p zs _ e=>⟨JY _ _ e,fun y=>nT e y.symm⟩;have nTa:=nT (KQ _ _ a8);have nTp:=nT (KQ _ _ p8);have nTd:=nT (JO _ _ Ko);have nTl:=nT K2;have yC:=nT (KQ _ _ b8);generalize U1 JL T (.lst [])=Lb at JY Ou MU QR Qb LB Qm M4 Lf Li ⊢;clear s9 JO JY MU KQ hod0 Ko O8 Lj w8 w9 Ot K2 Ou a8 b8 p8 hT N8 nlb nT;generalize Ro:(⟨W,pl,pg,pm,pf⟩:Wp)=wp at QR;have eW:W=wp.W:=by rw[<-Ro]
  have el:pl=wp.l:=by rw[<-Ro]
  subst eW;subst el;clear Ro;have sy:∀{p M:Addr},p≠wp.l->T≠p->M≠p->p≠b->p∉Sy wp ⟨T,M,b⟩:=fun h1 h2 h3 h4 z=>by
   unfold Sy at z;simp only[List.mem_cons,List.not_mem_nil,or_false] at z;rcases z with z | z | z | z
   ·exact h1 z
   ·exact h2 z.symm
   ·exact h3 z.symm
   ·exact h4 z
  have llb:(qm.map V.str).length=12:=by decide +kernel
  refine⟨_,rfl,lb,rfl,⟨_,aS.of Lf⟩,hZ (K:=K) (a:=lb) (xs:=qm.map V.str) (fun i σ H'=>(∃v8,σ=[some (.ref sc),some (.ref ca),some (.ref b),some (.ref pn),some (.ref wp.W),some (.ref od),some (.ref lb),some (.ref T),v8,none,none,none,none,none,none,none,none])/\bw T Lb H'/\∃rs as,eX K c H' wp ⟨T,lb,b⟩ ps (ib ds) rs as (qm.map D.str)/\rs.length=i/\∀j,j < i->∃ol dl,rs[j]?=some (Gb j ol dl)) ⟨⟨_,rfl⟩,fun _ _ _ e=>e,[],[],QR,rfl,fun _ h=>Vi h (Nat.not_lt_zero _)⟩ (fun _ σ H' _ h=>aS.of (h.2.1 _ _ (U8 nTl) Lf)) ?t ?s⟩
  case t=>
   rintro i u σ UB hu ⟨⟨v8,rfl⟩,Me,rs,as,Oq,hl,JQ⟩;have hi:=aq hu;rw[llb] at hi;rw[IJ,(Bj i hi).2.1] at hu;cases hu;have ln:=Oq.n;refine⟨wp,⟨T,lb,b⟩,ps,ib ds,rs,as,_,od,lb,UM,i,fun p=>p≠T,rfl,rfl,rfl,rfl,rfl,Oq,Me _ _ (U8 nTd) M4,Li.mono fun p zs h e=>⟨Me _ _ h e,h⟩,Me _ _ (U8 nTl) Lf,hi,by omega,fun MI ol dl ar Om Oo=>⟨⟨_,rfl⟩,Me.trans Om,_,_,Oo,by rw[Iu,hl];rfl,fun j hj=>?_⟩⟩;by_cases hji:j=i
   ·subst hji;rw[<-hl];exact⟨ol,dl,by rw[bP,hl]⟩
   ·obtain⟨ol',P7,e'⟩:=JQ j (by omega);exact⟨ol',P7,g0 e'⟩
  case s=>
   rintro σ UB ⟨⟨v8,rfl⟩,Me,rs,as,Oq,hl,JQ⟩;rw[llb] at hl JQ;have Uy:=Hd JH hl JQ;have ln:=Oq.n;have l0:(ib ds).length=20:=by rw[my (by omega),JH]
   have NX:=Me _ _ (U8 nTa) Qb;have NI:=Me _ _ (U8 yC) LB;have SI:=Me _ _ (U8 nTp) Qm;clear Me Qb LB Qm QR Li M4 Lf;refine⟨_,rfl,_,rfl,ca,b,0,rfl,⟨⟨cs,aS.of NX,by omega⟩,nab,NI⟩,by omega,fun n MI _ _ Om NH=>?_⟩;have Oo:=Oq.mh NI Om NH;have LC:=Om _ _ nab NX;have Q1:=Om _ _ npb SI;clear Oq Om NX SI NI;obtain⟨QU,hx,Ju⟩:=mod_lt (n:=n) (m:=12) (by decide);obtain⟨nm,Mr⟩:∃nm,xs[QU]?=some nm:=⟨_,Iy (by omega)⟩;have atN:jZ (xs.map V.str) (n % ((12:Nat):Int))=some (.str nm):=by rw[hx];exact aw (by rw[IJ,Mr];rfl)
   have lnm:=(LH nm (IG Mr)).1;refine⟨_,rfl,.inl ⟨rfl,_,aS.of Oo.t⟩,_,rfl,_,rfl,_,rfl,_,_,rfl,rfl,cH,pn,_,_,.str nm,rfl,rfl,aS.of Q1,atN,wp,ps,ib ds,gS,[],[],nm,.str "frame",rfl,Oo.w,by omega,fun rv Qe p P9 Sq hv=>?_⟩;have Ux:=Oo.grow P9 Sq (fun d e=>nomatch e);have Q0:=P9 _ _ Q6 Q1;have Uu:=P9 _ _ Q8 LC;have PN:=P9 _ _ Q7 NH;refine⟨_,rfl,_,rfl,_,_,rfl,rfl,cH,pn,_,_,.str nm,rfl,rfl,aS.of Q0,atN,Ux.app hv (aH.mpr rfl) (by omega) fun M3 NV ar1 H15 QQ Qd=>?_⟩;have M15:=(Uy.add (o:=.gr nm (.str "frame")) trivial (ID lnm (by decide)) (fun _ _ _ _ e=>nomatch e) (fun _ e=>nomatch e)).row (r:=⟨"giver",aU (ib ds).length,.str nm,[],M3,NV,[],false⟩) (.gr _ _ _ _ _ bP) (Je _) fun i r' e'=>Uy.fresh e';have QZ:=QQ _ _ (U8 nTp) Q0;have Ut:=QQ _ _ (U8 nTa) Uu;have PM:=QQ _ _ (U8 yC) PN;clear Oo Ux P9 Sq QQ Q1 Q0 LC Uu NH PN hv;have l1:(ib ds++[Th.gr nm (.str "frame")]).length=21:=by rw[Iu,l0];rfl
   have SN:=Qd.n;rw[Iu,Iu,hl] at SN;obtain⟨KA,Pc⟩:∃nm,xs[0]?=some nm:=⟨_,Iy (by omega)⟩;have Qa:jZ (xs.map V.str) (0:Int)=some (.str KA):=aw (j:=0) (by rw[IJ,Pc];rfl);have lnm0:=(LH KA (IG Pc)).1;refine⟨_,rfl,.inl ⟨rfl,_,aS.of Qd.t⟩,_,rfl,_,rfl,pn,_,_,.str KA,rfl,rfl,aS.of QZ,Qa,Je _,fun t5 KC=>?_⟩;have s5:=ab KC (.tup []);refine⟨wp,_,_,gS,[],[],KA,1,[],.ref t5,.int 0,.bb,.bl false,rfl,(Qd.same s5).w,by omega,At.new KC (aZ.mpr rfl),fun rv H17 p Lz So hv=>?_⟩;have Uw:=(Qd.same s5).grow Lz So (fun d e=>nomatch e);have QY:=Lz _ _ Q6 (s5 _ _ QZ);have Us:=Lz _ _ Q8 (s5 _ _ Ut);have Lu:=Lz _ _ Q7 (s5 _ _ PM);refine⟨_,rfl,pn,_,_,.str KA,rfl,rfl,aS.of QY,Qa,Uw.app hv (aH.mpr rfl) (by rw[Iu];show as.length+1<=_;omega) fun M0 NU ar2 UA QP NY=>?_⟩;have Sf:=M15.addFn (g:=⟨KA,1,[],.int 0,.bb,.bl false⟩) (ol:=M0) (dl:=NU) (ID lnm0 (by decide)) rfl rfl;have SH:=QP _ _ (U8 nTp) QY;have Ur:=QP _ _ (U8 nTa) Us;have PK:=QP _ _ (U8 yC) Lu;clear Qd Uw Lz So QP QZ QY Ut Us PM Lu hv s5 KC;have MQ:∀(i:Nat) r',(rs++[⟨"giver",aU (ib ds).length,.str nm,[],M3,NV,[],false⟩]++[(⟨"function",aU (ib ds++[Th.gr nm (.str "frame")]).length,.str KA,[],M0,NU,[],false⟩:Rw)])[i]?=some r'->∃k,8<=k/\r'.val=aU k/\k < 22:=fun i r' e'=>by
    rcases getElem?_snoc e' with e' | ⟨_,e'⟩
    ·rcases getElem?_snoc e' with e' | ⟨_,e'⟩
     ·have hi:i < 12:=by rw[<-hl];exact aq e'
      obtain⟨_,_,e2⟩:=JQ i hi;rw[e'] at e2;cases e2;exact⟨8+i,by omega,rfl,by omega⟩
     ·subst e';exact⟨_,by omega,rfl,by omega⟩
    ·subst e';exact⟨_,by omega,rfl,by omega⟩
   have Md:(rs++[(⟨"giver",aU (ib ds).length,.str nm,[],M3,NV,[],false⟩:Rw)]++[(⟨"function",aU (ib ds++[Th.gr nm (.str "frame")]).length,.str KA,[],M0,NU,[],false⟩:Rw)])[13]?=some ⟨"function",aU (ib ds++[Th.gr nm (.str "frame")]).length,.str KA,[],M0,NU,[],false⟩:=by
    have:=bP (xs:=rs++[(⟨"giver",aU (ib ds).length,.str nm,[],M3,NV,[],false⟩:Rw)]) (x:=(⟨"function",aU (ib ds++[Th.gr nm (.str "frame")]).length,.str KA,[],M0,NU,[],false⟩:Rw));rw[show(rs++[(⟨"giver",aU (ib ds).length,.str nm,[],M3,NV,[],false⟩:Rw)]).length=13 by rw[Iu,hl];rfl] at this;exact this
   have l2:(ib ds++[Th.gr nm (.str "frame")]++[Th.fn ⟨KA,1,[],.int 0,.bb,.bl false⟩]).length=22:=by rw[Iu,l1];rfl
   have R1:∀i,i < 8->(ib ds++[Th.gr nm (.str "frame")]++[Th.fn ⟨KA,1,[],.int 0,.bb,.bl false⟩])[i]?=some (.pD (gfN.getD i "")):=fun i hi=>bN (bN (yq hi));have OJ:(rs++[(⟨"giver",aU (ib ds).length,.str nm,[],M3,NV,[],false⟩:Rw)]++[(⟨"function",aU (ib ds++[Th.gr nm (.str "frame")]).length,.str KA,[],M0,NU,[],false⟩:Rw)]).length=14:=by rw[Iu,Iu,hl];rfl
   have ln2:=NY.n;rw[OJ] at ln2;generalize rs++[(⟨"giver",aU (ib ds).length,.str nm,[],M3,NV,[],false⟩:Rw)]++[(⟨"function",aU (ib ds++[Th.gr nm (.str "frame")]).length,.str KA,[],M0,NU,[],false⟩:Rw)]=rs2 at NY Sf MQ Md OJ;generalize ib ds++[Th.gr nm (.str "frame")]++[Th.fn ⟨KA,1,[],.int 0,.bb,.bl false⟩]=SJ at NY Sf l2 R1;generalize as++[ar1]++[ar2]=Sd at NY ln2;refine⟨_,rfl,.inl ⟨rfl,_,aS.of NY.t⟩,_,rfl,_,_,rfl,rfl,⟨by decide,by decide⟩,_,rfl,fun d v H19 L1 Kz hv=>(NY.same Kz).app hv (aH.mpr rfl) (by omega) fun SK Uj ar3 H20 QO Uv=>?_⟩;have QB:=(L1.vd SJ).2;have M20:=Sf.row (r:=⟨"plain",d,.str "",[],SK,Uj,[],false⟩) (.pl d SK Uj L1) (Je _) fun i r' e' y=>by
    obtain⟨k,_,e1,e2⟩:=MQ i r' e';have y:r'.val=d:=y;rw[<-y,e1,bI,Iy (by omega)] at QB;cases QB
   have SG:=QO _ _ (U8 nTp) (Kz _ _ SH);have Uq:=QO _ _ (U8 nTa) (Kz _ _ Ur);have PJ:=QO _ _ (U8 yC) (Kz _ _ PK);clear NY QO Kz SH Ur PK hv;refine⟨sz4,fun SR Pg=>?_⟩;obtain⟨gn,hgn,hgm⟩:∃gn:Str,jZ [V.str "say",.str "isa",.str "go",.str "take"] (n / 84 % ((4:Nat):Int))=some (.str gn)/\gn∈GU:=by
    obtain⟨y,hy,hl⟩:=mod_lt (n:=n / 84) (m:=4) (by decide);rw[hy];obtain⟨gn,hg⟩:∃gn,GU[y]?=some gn:=⟨_,Iy hl⟩;exact⟨gn,aw (by show(GU.map V.str)[y]?=_;rw[IJ,hg];rfl),IG hg⟩
   obtain⟨Mv,Tt,hg3⟩:=Gd gn hgm;have Oy:=ab Pg (.lst [.str "say",.str "isa",.str "go",.str "take"]);refine⟨_,rfl,_,_,rfl,rfl,⟨by decide,by decide⟩,_,_,rfl,rfl,cH,SR,_,_,.str gn,rfl,rfl,aS.of ae,hgn,?_⟩;have Qc:=Uv.same Oy;have QX:=Oy _ _ SG;have Se:=Oy _ _ Uq;have NG:=Oy _ _ PJ;generalize U1 H20 SR (.lst [.str "say",.str "isa",.str "go",.str "take"])=H21 at Qc QX Se NG ⊢;clear Uv Oy SG Uq PJ Pg;refine⟨_,rfl,.inl ⟨rfl,_,aS.of Qc.t⟩,_,rfl,_,rfl,wp,_,_,gS,[],[],gn,rfl,Qc.w,.inl ⟨hU gn,Mv,fun v hv=>⟨_,rfl,Qc.app hv (aH.mpr rfl) (by rw[Iu];show Sd.length+1<=_;omega) fun ol4 dl4 ar4 Uz QN S22=>?_⟩⟩⟩;have M22:=M20.row (r:=⟨"given",aU (hU gn),.str gn,[],ol4,dl4,[],false⟩) (.gn _ gn _ _ (by rw[R1 _ Tt,hg3])) (Je _) fun i r' e' y=>by
    have y:r'.val=aU (hU gn):=y;rcases getElem?_snoc e' with e' | ⟨_,e'⟩
    ·obtain⟨k,h8,e1,_⟩:=MQ i r' e';have:=cn (e1.symm.trans y);omega
    ·subst e';rw[show d=aU (hU gn) from y,bI,R1 _ Tt] at QB;cases QB
   have SF:=QN _ _ (U8 nTp) QX;have Up:=QN _ _ (U8 nTa) Se;have hb22:=QN _ _ (U8 yC) NG;clear Qc QN QX Se NG hv;refine⟨Je _,fun M hM=>?_⟩;have Ql:=ab hM (.lst []);have nM:∀{p:Addr}{o:HO},Uz p=some o->M≠p:=fun e y=>by rw[<-y,hM] at e;cases e
   have UD:qI K c (U1 Uz M (.lst [])) wp ⟨T,M,b⟩ _ SJ _ _ [] 3 ca pn 1 xs:=⟨S22.EI hM,M22,⟨cs,Ql _ _ Up,by omega⟩,Ql _ _ hb22,⟨Ql _ _ SF,M6,LH⟩,sy Q6 nTp (nM SF) npb,sy Q8 nTa (nM Up) nab,_,bN (bN Md),rfl⟩;refine⟨wp,⟨T,M,b⟩,_,_,_,_,_,ca,pn,1,xs,_,_,_,_,_,_,rfl,UD,by decide,by omega,by rw[Iu,Iu,OJ];exact IE _,IE _,fun H24 ps os rs as ms m KP UC hm lo lr lm=>⟨wp,⟨T,M,b⟩,ps,os,rs,as,ms,ca,pn,m,xs,_,_,_,_,_,_,KP,rfl,UC,lo,lr,lm,fun H25 ps os rs as ms v8 MP Si lr=>?_⟩⟩;clear UD UC Ql nM sy;refine⟨_,rfl,_,rfl,ca,b,m,rfl,Si.sp,by omega,fun n1 H26 _ _ Um PH=>⟨n1,rfl,fun d v H27 L1 SD hv=>⟨d,v,rfl,hv,L1,fun H28 QW=>?_⟩⟩⟩;have Qf:=(Si.mh Um PH).same (SD.trans QW);have ON:=At.same QW _ _ hv;clear Si Um PH SD QW hv;obtain⟨N3,Pb⟩:∃nm,xs[3]?=some nm:=⟨_,Iy (by omega)⟩;have lnm3:=(LH N3 (IG Pb)).1;have lmul:(Txt.mul N3 200).length<=20000:=by
    have:=len_mul N3 200;rw[IH (by decide)] at this;omega
   refine⟨_,rfl,pn,_,_,.str N3,rfl,rfl,aS.of Qf.n.l,aw (j:=3) (by rw[IJ,Pb];rfl),N3,200,rfl,rfl,by decide,by decide,by omega,_,rfl,_,rfl,ca,b,m+1,rfl,Qf.sp,by omega,fun n2 H29 _ _ Sb PF=>⟨_,_,rfl,rfl,cH,_,_,rfl,rfl,_,rfl,_,rfl,small (by omega),?_⟩⟩;have G29:=Qf.mh Sb PF;have hv29:=At.fx (Sb.fx Qf.b rfl) _ _ ON;clear Qf Sb PF ON;generalize StrLaws.sliceText (Txt.mul N3 200) none _=lg;refine⟨_,rfl,_,rfl,jC,fun t30 OU=>?_⟩;have SA:=ab OU (.tup [.str "text",.str lg]);have MJ:=G29.same SA;refine⟨wp,_,_,gS,[],[],.ref t30,G4 lg,rfl,MJ.s.w,MJ.w.wf,MJ.w.nb,At.new OU (ck (aH.mpr rfl) (aH.mpr rfl)),.te lg,⟨_,rfl,rfl,false,by rw[Iw (show V.str (wJ os (G4 lg))=V.str lg from rfl)];rfl,bu ⟨_,rfl,_,rfl,wp,_,_,_,_,_,_,27,rfl,MJ.s,MJ.w,by omega,fun H31 Sx=>⟨true,rfl,cC ⟨_,rfl,_,rfl,wp,_,_,gS,[],[],v,d,rfl,(MJ.s.same Sx).w,MJ.w.wf,MJ.w.nb,At.same (SA.trans Sx) _ _ hv29,L1.vp os,⟨_,rfl,rfl,?_⟩⟩⟩⟩⟩⟩;rw[L1.tx os,Iw rfl];exact k _
end
def bq (K:Fg06) (mg:Str->Option Value) (name:Str) (st:Stmt):Prop:=∃(f:Addr) (fd:FuncData),mg name=some (.ref f)/\fm K name name st f fd
theorem fun_at9 {K:Fg06}{h:Heap}{mg:Str->Option Value}{name:Str}{st:Stmt}{f:Addr}{oc:Value}{od an:Option Addr}{osl:Array (Option Value)}{kV doc pm UO ct:Value}(X:K.In h) (G:h.Ns mainGlobals mg)
  (a:PySem.W.nsIn K mainGlobals name=some (some (.ref f))) (l:K.lookup f=some ⟨oc,od,.func (PySem.W.fnOf name name (gI st) (gH st) (aC st) .none kV doc pm an UO ct),osl⟩)
  (c:PySem.W.codeIn K UO name=true) (k:PySem.W.keepIn K (.ref f)=true):bq K mg name st:=⟨f,_,PySem.W.mg_of X G a,yZ l c k⟩
def fk (K:Fg06) (mg:Str->Option Value) (name UP:Str) (st:Stmt) (C:Addr):Prop:=∃(f:Addr) (fd:FuncData),mg name=some (.ref C)/\Mk K C f/\fm K "__init__" UP st f fd
theorem ini_at9 {K:Fg06}{h:Heap}{mg:Str->Option Value}{name UP:Str}{st:Stmt}{C f:Addr}{oc:Value}{od an:Option Addr}{osl:Array (Option Value)}{kV doc pm UO ct:Value}(X:K.In h) (G:h.Ns mainGlobals mg)
  (a:PySem.W.nsIn K mainGlobals name=some (some (.ref C))) (m:Mk K C f) (l:K.lookup f=some ⟨oc,od,.func (PySem.W.fnOf "__init__" UP (gI st) (gH st) (aC st) .none kV doc pm an UO ct),osl⟩) (cc:PySem.W.codeIn K UO UP=true) (k:PySem.W.keepIn K (.ref f)=true):fk K mg name UP st C:=
 ⟨f,_,PySem.W.mg_of X G a,m,yZ l cc k⟩
structure Cz (K:Fg06) (mg:Str->Option Value) (c:fo):Prop where
 z:j6 K c
 iF:fk K mg "Function" "Function.__init__" Ai c.F
 iG:fk K mg "Given" "Given.__init__" Ag c.G
 iM:fk K mg "Method" "Method.__init__" Ae c.M
 iK:fk K mg "Kind" "Kind.__init__" Af c.Kd
 iO:fk K mg "Object" "Object.__init__" Ad c.O
 iR:fk K mg "Giver" "Giver.__init__" Ah c.Gr
 iV:fk K mg "View" "View.__init__" Ac c.Vw
 iW:fk K mg "World" "World.__init__" GO c.W
theorem cz_at {K:Fg06}{mg:Str->Option Value}{F G M Kd O R Vw W:Addr}(jF:fk K mg "Function" "Function.__init__" Ai F) (jG:fk K mg "Given" "Given.__init__" Ag G) (jM:fk K mg "Method" "Method.__init__" Ae M) (jK:fk K mg "Kind" "Kind.__init__" Af Kd) (jO:fk K mg "Object" "Object.__init__" Ad O) (jR:fk K mg "Giver" "Giver.__init__" Ah R) (jV:fk K mg "View" "View.__init__" Ac Vw) (jW:fk K mg "World" "World.__init__" GO W) (z:j6 K ⟨F,G,M,Kd,O,R,Vw,W⟩): ∃c,Cz K mg c:=⟨⟨F,G,M,Kd,O,R,Vw,W⟩,z,jF,jG,jM,jK,jO,jR,jV,jW⟩
def mX:List Str->List Value->Bool
 | [],[]=>true
 | x::xs,.str y _::vs=>x == y&&mX xs vs
 | _,_=>false
def we (K:Fg06):Value->Option (List Value)
 | .ref a=>match K.lookup a with
  | some ⟨.type "tuple",_,.seq UN _,_⟩=>if UN.size<=sizeLine then some UN.toList else none
  | _=>none
 | _=>none
def uk (K:Fg06) (xs:List Str) (v:Value):Bool:=match we K v with
 | some vs=>mX xs vs
 | none=>false
def ym (K:Fg06) (x:Str×List Str) (v:Value):Bool:=match we K v with
 | some [.str y _,u]=>x.1 == y&&uk K x.2 u
 | _=>false
def kY (K:Fg06):List (Str×List Str)->List Value->Bool
 | [],[]=>true
 | x::xs,v::vs=>ym K x v&&kY K xs vs
 | _,_=>false
def yj (K:Fg06) (xs:List (Str×List Str)) (v:Value):Bool:=match we K v with
 | some vs=>kY K xs vs
 | none=>false
theorem mC {K:Fg06}{v:Value}{vs:List Value}(h:we K v=some vs):∃a,v=.ref a/\∀(H:Hp) (us:List V),U2 us vs->gq K H a us:=by
 unfold we at h;split at h
 ·rename_i a;refine⟨a,rfl,fun H us r=>?_⟩;split at h
  ·rename_i d UN n sl hl;split at h
   ·rename_i hz;injection h with h;exact .inr ⟨_,UN,n,hl,rfl,rfl,hz,by rw[h];exact r⟩
   ·cases h
  ·cases h
 ·cases h
theorem qQ {K:Fg06}:∀{xs:List Str}{vs:List Value},mX xs vs=true->U2 (xs.map V.str) vs
 | [],[],_=>.nil
 | [],_::_,h=>by simp[mX] at h
 | x::xs,[],h=>by simp[mX] at h
 | x::xs,v::vs,h=>by
  cases v with
  | str y t=>
   rw[mX,Vh] at h;exact .cons ⟨t,by rw[eq_of_beq h.1]⟩ (qQ (K:=K) h.2)
  | _=>simp[mX] at h
theorem mT {K:Fg06}{H:Hp}:∀(xs:List Str),aE K H (xs.map D.str) (xs.map V.str)
 | []=>aZ.mpr rfl
 | x::xs=>aX.mpr ⟨_,_,rfl,aH.mpr rfl,mT xs⟩
theorem qP {K:Fg06}{xs:List Str}{v:Value}(h:uk K xs v=true):∃a,v=.ref a/\∀H,gq K H a (xs.map V.str):=by
 unfold uk at h;split at h
 ·rename_i vs e;obtain⟨a,rfl,q⟩:=mC e;exact⟨a,rfl,fun H=>q H _ (qQ (K:=K) h)⟩
 ·cases h
theorem yl {K:Fg06}{x:Str×List Str}{v:Value}(h:ym K x v=true):∃a,v=.ref a/\∀H,At K H (.tup [.str x.1,.tup (x.2.map D.str)]) (.ref a):=by
 unfold ym at h;split at h
 ·rename_i y t u e;rw[Vh] at h;obtain⟨a,rfl,q⟩:=mC e;obtain⟨b,rfl,q2⟩:=qP h.2;refine⟨a,rfl,fun H=>bf.mpr ⟨a,[.str x.1,.ref b],rfl,q H _ (.cons ⟨t,by rw[eq_of_beq h.1]⟩ (.cons rfl .nil)),ck (aH.mpr rfl) (bf.mpr ⟨b,_,rfl,q2 H,mT x.2⟩)⟩⟩
 ·cases h
theorem pd {K:Fg06}:∀{xs:List (Str×List Str)}{vs:List Value},kY K xs vs=true->∃us:List V,U2 us vs/\∀H,aE K H (xs.map fun x=>.tup [.str x.1,.tup (x.2.map D.str)]) us
 | [],[],_=>⟨[],.nil,fun _=>aZ.mpr rfl⟩
 | [],_::_,h=>by simp[kY] at h
 | x::xs,[],h=>by simp[kY] at h
 | x::xs,v::vs,h=>by
  rw[kY,Vh] at h;obtain⟨a,rfl,q⟩:=yl h.1;obtain⟨us,r,q2⟩:=pd h.2;exact⟨.ref a::us,.cons rfl r,fun H=>aX.mpr ⟨_,_,rfl,q H,q2 H⟩⟩
theorem tree_s {K:Fg06}{h:Heap}{mg:Str->Option Value}{p:Addr}{x:Str}(xs:List Str) (X:K.In h) (G:h.Ns mainGlobals mg) (a:PySem.W.nsIn K mainGlobals x=some (some (.ref p))) (e:uk K xs (.ref p)=true):TreeG K mg x (xs.map D.str):=by
 obtain⟨q,eq,r⟩:=qP e;cases eq;exact⟨p,_,PySem.W.mg_of X G a,fun H=>⟨r H,mT xs⟩⟩
theorem tree_c {K:Fg06}{h:Heap}{mg:Str->Option Value}{p:Addr}(X:K.In h) (G:h.Ns mainGlobals mg) (a:PySem.W.nsIn K mainGlobals "GIVEN_CLASSES"=some (some (.ref p))) (e:yj K ic (.ref p)=true):TreeG K mg "GIVEN_CLASSES" gcD:=by
 unfold yj at e;split at e
 ·rename_i vs ev;obtain⟨q,eq,r⟩:=mC ev;cases eq;obtain⟨us,r1,r2⟩:=pd e;exact⟨p,us,PySem.W.mg_of X G a,fun H=>⟨r H us r1,r2 H⟩⟩
 ·cases e
theorem int_at9 {K:Fg06}{h:Heap}{mg:Str->Option Value}{name:Str}{x z:Int}{t:Tok}(X:K.In h) (G:h.Ns mainGlobals mg) (a:PySem.W.nsIn K mainGlobals name=some (some (.int x t))) (e:x=z):∃t,mg name=some (.int z t):=⟨t,by rw[<-e];exact PySem.W.mg_of X G a⟩
def keysOk (P:Params):List DictEntry->Prop
 | []=>True
 | e::r=>(∃x t,e.key=.str x t/\e.hash=PyData.keyHash P x)/\keysOk P r
theorem keysOk.all {P:Params}:∀{l:List DictEntry},keysOk P l->∀e∈l,∃x t,e.key=.str x t/\e.hash=PyData.keyHash P x
 | [],_,e,m=>by simp at m
 | a::l,h,e,m=>by
  rcases Ji.mp m with rfl | m
  ·exact h.1
  ·exact keysOk.all h.2 e m
def BD (K:Fg06) (lo hi:Nat) (v:Value):Bool:=match we K v with
 | some [.int a _,.int b _]=>decide (a=(lo:Nat))&&decide (b=(hi:Nat))
 | _=>false
def Gv (K:Fg06) (es:Array DictEntry) (p:Str×Nat×Nat):Bool:=match findBy Value.isStrOf es p.1 with
 | some v=>BD K p.2.1 p.2.2 v
 | none=>false
theorem zO {K:Fg06}{lo hi:Nat}{v:Value}(h:BD K lo hi v=true):∃a,v=.ref a/\∀H,At K H (.tup [.int (lo:Nat),.int (hi:Nat)]) (.ref a):=by
 unfold BD at h;split at h
 ·rename_i a t b u e;rw[Vh] at h;obtain⟨p,rfl,q⟩:=mC e;have h1:=IZ h.1;have h2:=IZ h.2;subst h1 h2;exact⟨p,rfl,fun H=>bf.mpr ⟨p,[.int (lo:Nat),.int (hi:Nat)],rfl,q H _ (.cons ⟨t,rfl⟩ (.cons ⟨u,rfl⟩ .nil)),ck (bG.mpr rfl) (bG.mpr rfl)⟩⟩
 ·cases h
theorem bnd_at {w:World}{K:Fg06}{h:Heap}{mg:Str->Option Value}{a:Addr}{es:Array DictEntry}{n:Nat}(X:K.In h) (G:h.Ns mainGlobals mg) (e0:PySem.W.nsIn K mainGlobals "VALUES_OF_GIVEN"=some (some (.ref a))) (l:K.lookup a=some ⟨.type "dict",none,.dict es n,#[]⟩) (hk:keysOk w.params es.toList) (hb:Ec.all (Gv K es)=true):BndG w K mg:=by
 refine⟨a,es,n,PySem.W.mg_of X G e0,l,fun e he=>hk.all e (by simpa using he),fun nm lo hi hm=>?_⟩;have:=List.all_eq_true.mp hb _ hm;unfold Gv at this;split at this
 ·rename_i v ev;obtain⟨u,rfl,q⟩:=zO this;exact⟨u,ev,q⟩
 ·cases this
theorem rG {α β:Type}{f g:α->Option β}:∀{l:List α},(∀x∈l,f x=g x)->l.filterMap f=l.filterMap g
 | [],_=>rfl
 | a::l,h=>by rw[List.filterMap_cons,List.filterMap_cons,h a (Ir ..),rG fun x m=>h x (Iq _ m)]
theorem wR:∀{ps:List Str}{us:List Value},ps.Nodup->us.length=ps.length->ps.filterMap (fun n=>((ps.zip us).lookup n).map (fun x=>(n,x)))=ps.zip us
 | [],_,_,_=>rfl
 | p::ps,[],_,h=>by cases h
 | p::ps,u::us,hn,h=>by
  have hn:=List.nodup_cons.mp hn;rw[List.zip_cons_cons,List.filterMap_cons_some (b:=(p,u)) (by simp[List.lookup])];congr 1;refine(rG (g:=fun n=>((ps.zip us).lookup n).map (fun x=>(n,x))) ?_).trans ?_
  rotate_left
  ·exact wR hn.2 (Nat.succ.inj h)
  ·intro x m;have e:(x == p)=false:=beq_eq_false_iff_ne.mpr fun e=>hn.1 (e▸m);simp[List.lookup,e]
theorem DK:∀{ps:List Str}{us:List Value},us.length=ps.length->ps.filter (fun n=>((ps.zip us).lookup n).isNone)=[]:=by
 intro ps us h;rw[List.filter_eq_nil_iff];intro x m
 induction ps generalizing us with
 | nil=>cases m
 | cons p ps ih=>
  cases us with
  | nil=>cases h
  | cons u us=>
   rw[List.zip_cons_cons,List.lookup];by_cases e:(x == p)=true
   ·rw[e];simp
   ·have e:(x == p)=false:=by simpa using e
    rw[e];refine ih (Nat.succ.inj h) ?_;rcases Ji.mp m with rfl | m
    ·simp at e
    ·exact m
def HA (p:Arguments) (ps:List Str):Prop:=p.posonlyargs=[]/\p.args.map (·.arg)=ps/\p.vararg=none/\p.kwonlyargs=[]/\p.kwarg=none/\ps.Nodup
theorem rW {K:Fg06}{x UP:Str}{st:Stmt}{f:Addr}{fd:FuncData}{ps:List Str}(F:fm K x UP st f fd) (h:HA (gI st) ps):Binds K fd ps []:=by
 refine F.binds fun kV doc pm an UO ct us hl=>?_;obtain⟨h1,h2,h3,h4,h5,h6⟩:=h;have JF:¬us.length > ps.length:=by omega
 unfold bindArgs;simp only[PySem.W.fnOf,h1,h2,h3,h4,h5,List.map_nil,List.nil_append,List.forIn_nil,pure_bind,seqItems?];simp[hl,DK hl,wR h6 hl];rfl
section
variable (P:Program) (w:World) (base:Heap){K:Fg06}{mg:Str->Option Value}{name:Str}{st:Stmt}
theorem df {ps:List Str}{lv:Nat}{sp:Sp}(f:bq K mg name st) (h:∀{f:Addr}{fd:FuncData},fm K name name st f fd->bK P w K mg base fq lv f fd ps sp) (hb:HA (gI st) ps:=by exact⟨rfl,rfl,rfl,rfl,rfl,by decide +kernel⟩):Def P w K mg base name ps lv sp:=by
 obtain⟨a,d,m,F⟩:=f;exact DY F m (rW F hb) (h F)
theorem Bm {ps:List Str}{lv:Nat}{sp:Sp}{C f:Addr}{fd:FuncData}{UP:Str}(m:mg name=some (.ref C)) (k:Mk K C f) (F:fm K "__init__" UP st f fd) (h:bK P w K mg base fq lv f fd ps sp) (hb:HA (gI st) ps:=by exact⟨rfl,rfl,rfl,rfl,rfl,by decide +kernel⟩):jI P w K mg base name C ps lv sp:=⟨_,_,m,k,rW F hb,h⟩
end
section
variable {P:Program}{w:World}{K:Fg06}{mg:Str->Option Value}
theorem law_ofC (g:Glb9 mg) (cz:∃c,Cz K mg c) (tN:TreeG K mg "NONE" [.str "none"]) (tf:TreeG K mg "GIVEN_FUNCTIONS" gfD) (tc:TreeG K mg "GIVEN_CLASSES" gcD) (tF:TreeG K mg "FAULT_FIELDS" (fldN.map D.str)) (tK:TreeG K mg "KIND_FAULT" [.str "fault",.str "KindFault"]) (hMC:∃t,mg "MOST_CLASSES"=some (.int 40 t)) (B:BndG w K mg) (f0:bq K mg "is_same" yn) (f1:bq K mg "is_behind_head" Cy) (f2:bq K mg "place_of_free" yo) (f3:bq K mg "without_head" HB) (f4:bq K mg "merged" Cu) (f5:bq K mg "added" CK) (f6:bq K mg "thing_of" HD) (f7:bq K mg "known" HF) (f8:bq K mg "is_class" Cw) (f9:bq K mg "new_class" Ct) (ME:bq K mg "function" CB) (NR:bq K mg "new_view" HC) (P4:bq K mg "new_method" HE) (Md:bq K mg "giver" CA) (f14:bq K mg "is_fault_class" Cv) (f15:bq K mg "new_object" Cr) (QG:bq K mg "found_in" CF) (f17:bq K mg "found_by_way" CG) (f18:bq K mg "order_of_owner" Cq) (f19:bq K mg "found_of_view" CC) (f20:bq K mg "field_of" CD) (f21:bq K mg "can_be_put" CJ) (f22:bq K mg "put_field" Cn) (f23:bq K mg "named" Cs) (f24:bq K mg "text_of_thing" Cm) (f25:bq K mg "text_of" Ck) (f26:bq K mg "entered" CH) (f27:bq K mg "is_under" Cj) (f28:bq K mg "viewed" Ci) (f29:bq K mg "object_of" Cp) (f30:bq K mg "called_given" HH) (f31:bq K mg "called" CI) (f32:bq K mg "order_of" Co) (f33:bq K mg "class_of" HG) (f34:bq K mg "_law_cell_at" B3) (f35:bq K mg "_law_cell" sG) (f36:bq K mg "_law_plain" Hm) (f37:bq K mg "_law_names" B2) (f38:bq K mg "_law_merged" Hn) (f39:bq K mg "_law_given_orders" Ho) (f40:bq K mg "_law_due" B1) (f41:bq K mg "_law_asked" B4) (f42:bq K mg "_law_object" BW) (f43:bq K mg "_law_view" BV) (f44:bq K mg "_law_class" BX) (f45:bq K mg "_law_texts_right" BU) (f46:bq K mg "_law_deed" xU) (fL:bq K mg "law" BZ)
  {fa:Addr}(Tv:mg "law"=some (.ref fa)):
  ∃fd:FuncData,(∀(s:Shared) (v:Value),BindsTo s fd ⟨[v],[]⟩ [("_law_script",v)])/\∀base:Heap,bK P w K mg base fq 11 fa fd ["_law_script"] (qU K):=by
 obtain⟨c,z,⟨aF,dF,mF,kF,FF⟩,⟨aG,dG,mG,kG,FG⟩,⟨aM,dM,mM,kM,FM⟩,⟨aK,dK,mK,kK,FK⟩,⟨aO,dO,mO,kO,FO⟩,⟨aR,dR,mR,kR,FR⟩,⟨aV,dV,mV,kV,FV⟩,⟨aW,dW,mW,kW,FW⟩⟩:=cz;obtain⟨aL,dL,mL,FL⟩:=fL;rw[mL] at Tv;have ea:aL=fa:=by injection Tv with e;injection e
 subst ea;refine⟨dL,fun s v=>?_,fun base=>?_⟩
 ·obtain⟨oc,od,kV,doc,pm,an,UO,ct,osl,rfl,lk,K0⟩:=FL.ex;exact .of_eq rfl
 have MF:=Bm P w base mF kF FF (Dm z FF);have MG:=Bm P w base mG kG FG (Dh z FG);have MM:=Bm P w base mM kM FM (C6 z FM);have MK:=Bm P w base mK kK FK (De z FK);have MO:=Bm P w base mO kO FO (C3 z FO);have MR:=Bm P w base mR kR FR (Di z FR);have MV:=Bm P w base mV kV FV (CS z FV);have D0:=df P w base f0 fun h=>FP g h;have D1:=df P w base f1 fun h=>Dg g h D0;have D2:=df P w base f2 fun h=>Am g h D1;have D3:=df P w base f3 fun h=>FA g h D0;have D4:=df P w base f4 fun h=>C7 g h D2 D3;have D5:=df P w base f5 fun h=>Dy (c:=c) g z h;have D6:=df P w base f6 fun h=>FE (c:=c) z h;have D7:=df P w base f7 fun h=>FN (c:=c) z h;have D8:=df P w base f8 fun h=>Df g z mK h D6;have D9:=df P w base f9 fun h=>C5 (c:=c) g z MK h D5;have UK:=df P w base ME fun h=>Dk (c:=c) MF h D5;have D11:=df P w base NR fun h=>FD (c:=c) MV h D5;have D12:=df P w base P4 fun h=>FI (c:=c) MM h D5;have D13:=df P w base Md fun h=>Dj (c:=c) MR h D5;have UJ:=df P w base f14 fun h=>FT (c:=c) z h D8 D7 D6;have D15:=df P w base f15 fun h=>C2 (c:=c) g z tN tF MO h UJ D5;have UI:=df P w base QG fun h=>Dp (c:=c) z h D6;have UH:=df P w base f17 fun h=>Dq (c:=c) g z mF h D6 UI D12;have Sm:=df P w base f18 fun h=>C1 (c:=c) z h D6;have D19:=df P w base f19 fun h=>Dl (c:=c) z h Sm UH;have UG:=df P w base f20 fun h=>Dn (c:=c) g z mO mK mV h D6 Sm UH UI D19;have D21:=df P w base f21 fun h=>Dv (c:=c) g z mO mK h;have D22:=df P w base f22 fun h=>CY (c:=c) z tN h D6 D21;have D23:=df P w base f23 fun h=>C4 h;have D24:=df P w base f24 fun h=>CW (c:=c) g z mF mG mM mK mO mR h D6 D23;have Qg:=df P w base f25 fun h=>CU (c:=c) g h D6 D24;have D26:=df P w base f26 fun h=>Dr (c:=c) g z h D6;have D27:=df P w base f27 fun h=>CT (c:=c) g z mO h D6 Sm;have D28:=df P w base f28 fun h=>CQ (c:=c) z tK h D11 D27;have D29:=df P w base f29 fun h=>C0 (c:=c) g h D15 UG UJ;have D30:=df P w base f30 fun h=>FX (c:=c) g B h D28;have Sl:=df P w base f31 fun h=>Du (c:=c) g z mF mG mM mK h D6 D26 D29 D30;have D32:=df P w base f32 fun h=>CZ (c:=c) g z hMC h D8 D6 D7 D4;have D33:=df P w base f33 fun h=>FU (c:=c) h D9;have D34:=df P w base f34 fun h=>Dw g h;have Sk:=df P w base f35 fun h=>yv g h;have Sj:=df P w base f36 fun h=>FH h;have D37:=df P w base f37 fun h=>Dt g h;have D38:=df P w base f38 fun h=>FJ g h;have D39:=df P w base f39 fun h=>FQ g h;have D40:=df P w base f40 fun h=>Ds (c:=c) h;have UE:=df P w base f41 fun h=>Dx (c:=c) g h D40 UG Sl Qg;have D42:=df P w base f42 fun h=>C9 (c:=c) g h Sl;have D43:=df P w base f43 fun h=>C8 (c:=c) g h Sl D7 Qg;have D44:=df P w base f44 fun h=>Dc (c:=c) g h Sk Sj D32 D38 D33;have D45:=df P w base f45 fun h=>CV (c:=c) h Qg;have D46:=df P w base f46 fun h=>An (c:=c) g h Sk Sj D44 D42 UK Qg D43 UE D22;have MW:=Bm P w base mW kW FW (FC g z tf tc MG FW D5 D9);exact Dd g FL D34 Sk D37 Sj MW D39 D7 D13 UK D46 UE Qg D45
end
theorem walkD {l:PySem.W.OpenLaw}{q:Program}{loose:List Str}{XP:(Str->Option Value)->Heap->Prop}{YP:World->Heap->Prop}{d:DefRec}{K:Params->Fg06}(hn:l.most=some 63) (KZ:d.params.defaults=[])
  (hY:∀(w:World) (h:Heap),YP w h->(K w.params).In h)
  (F:∀(w:World) (mg:Str->Option Value) (fa:Addr) (h:Heap),(K w.params).In h->h.Ns mainGlobals mg->mg d.name=some (.ref fa)->
   ∃fd:FuncData,(∀(s:Shared) (u:Value),BindsTo s fd ⟨[u],[]⟩ [("_law_script",u)])/\∀base:Heap,bK l.prog w (K w.params) mg base fq 11 fa fd ["_law_script"] (qU (K w.params))):
  PySem.W.WalkO q loose XP YP l.row.toRowW d [] (fun f vs=>PySem.call f vs):=
 L2.zM (n:=63) (k:=11) (x:="_law_script") (CX:=fun _=>fq) (sp:=fun w=>qU (K w.params)) hn (by decide) KZ ⟨rfl,by decide,by decide,rfl⟩ hY (fun w mg fa h a b c=>let ⟨fd,p,q⟩:=F w mg fa h a b c;⟨fd,p,fun base _ _=>q base⟩) (fun _ _ a ns hl _ hS=>⟨a,ns,rfl,hS,hl,fun _=>rfl⟩) fun _ _ _ _ _ z=>z
end GS
open PySem PySem.W
set_option maxRecDepth 100000 in
set_option maxHeartbeats 0 in
theorem PySem.Challenge.cw_grassnake_k11_fields_and_texts_holds : PySem.Challenge.rw_grassnake_k11_fields_and_texts.Holds := by
  refine holds_law GS.said9 fun said => ?_
  refine W.holds_open (q := GS.q9) (loose := GS.lo9) (Xt := fun s => xlAt GS.q9 [] s && recOk (RowW.records (OpenRow.toRowW (OpenLaw.row GS.r9))) s) (XP := XL GS.q9 []) (Yf := Hook.obs (kHook GS.K9h GS.asK9h GS.eK9h)) (Ya := Hook.val (kHook GS.K9h GS.asK9h GS.eK9h)) (YP := Hook.says (kHook GS.K9h GS.asK9h GS.eK9h)) (N := 8280) GS.left9 (Hook.of _) (Hook.keeps _) (fun s e => xl_of s (Bool.and_eq_true_iff.mp e).1) XL.keeps (by rfl) (by rfl) (by rfl) (fun s e => recFacts_of (Bool.and_eq_true_iff.mp e).2) (by rfl) said (by decide +kernel) ⟨rfl, rfl, rfl, rfl, rfl, by decide +kernel⟩ ?hw ?hc
  case hw => w_witness2
  k_fill
  refine GS.walkD (l := GS.r9) rfl rfl (fun w h Y => PySem.W.kIn_of Y) ?F
  case F =>
    intro w mg fa h KX G hmg
    have g : GS.Glb9 mg := by
      refine' ⟨?_, ?_, ?_, ?_, ?_, ?_, ?_, ?_, ?_, ?_, ?_, ?_, ?_, ?_, ?_, ?_, ?_⟩
      all_goals (refine' PySem.W.mg_none_of KX G ?a; (case a => k_is))
    have hMC : ∃ t, mg "MOST_CLASSES" = some (.int 40 t) := by
      refine' GS.int_at9 KX G ?a ?e; (case a => k_is); (case e => decide)
    have tN : GS.TreeG (L2.KOf KX) mg "NONE" [.str "none"] := by
      dsimp only [L2.KOf]
      refine' GS.tree_s ["none"] KX G ?a ?e; (case a => k_is); (case e => kernel_rfl)
    have tK : GS.TreeG (L2.KOf KX) mg "KIND_FAULT" [.str "fault", .str "KindFault"] := by
      dsimp only [L2.KOf]
      refine' GS.tree_s ["fault", "KindFault"] KX G ?a ?e; (case a => k_is); (case e => kernel_rfl)
    have tf : GS.TreeG (L2.KOf KX) mg "GIVEN_FUNCTIONS" GS.gfD := by
      dsimp only [L2.KOf]
      refine' GS.tree_s GS.gfN KX G ?a ?e; (case a => k_is); (case e => kernel_rfl)
    have tc : GS.TreeG (L2.KOf KX) mg "GIVEN_CLASSES" GS.gcD := by
      dsimp only [L2.KOf]
      refine' GS.tree_c KX G ?a ?e; (case a => k_is); (case e => kernel_rfl)
    have tF : GS.TreeG (L2.KOf KX) mg "FAULT_FIELDS" (GS.fldN.map GS.D.str) := by
      dsimp only [L2.KOf]
      refine' GS.tree_s GS.fldN KX G ?a ?e; (case a => k_is); (case e => kernel_rfl)
    have B : GS.BndG w (L2.KOf KX) mg := by
      dsimp only [L2.KOf]
      refine' GS.bnd_at KX G ?a ?l ?k ?e; (case a => k_is); (case l => k_is); (case k => exact ⟨⟨_, _, rfl, rfl⟩, ⟨_, _, rfl, rfl⟩, ⟨_, _, rfl, rfl⟩, ⟨_, _, rfl, rfl⟩, ⟨_, _, rfl, rfl⟩, ⟨_, _, rfl, rfl⟩, ⟨_, _, rfl, rfl⟩, ⟨_, _, rfl, rfl⟩, True.intro⟩); (case e => kernel_rfl)
    have cz : ∃ c, GS.Cz (L2.KOf KX) mg c := by
      dsimp only [L2.KOf]
      refine' GS.cz_at (GS.ini_at9 KX G ?_ ⟨?_, ?_, ?_, ?_⟩ ?_ ?_ ?_) (GS.ini_at9 KX G ?_ ⟨?_, ?_, ?_, ?_⟩ ?_ ?_ ?_) (GS.ini_at9 KX G ?_ ⟨?_, ?_, ?_, ?_⟩ ?_ ?_ ?_) (GS.ini_at9 KX G ?_ ⟨?_, ?_, ?_, ?_⟩ ?_ ?_ ?_) (GS.ini_at9 KX G ?_ ⟨?_, ?_, ?_, ?_⟩ ?_ ?_ ?_) (GS.ini_at9 KX G ?_ ⟨?_, ?_, ?_, ?_⟩ ?_ ?_ ?_) (GS.ini_at9 KX G ?_ ⟨?_, ?_, ?_, ?_⟩ ?_ ?_ ?_) (GS.ini_at9 KX G ?_ ⟨?_, ?_, ?_, ?_⟩ ?_ ?_ ?_) ⟨⟨?_, ?_, ?_, ?_⟩, ?_, ?_, ?_, ?_, ⟨?_, ?_, ?_, ?_⟩, ?_, ?_, ?_, ?_, ⟨?_, ?_, ?_, ?_⟩, ?_, ⟨?_, ?_, ?_, ?_⟩, ?_, ?_, ⟨?_, ?_, ?_, ?_⟩, ?_, ?_, ?_, ?_, ?_, ?_, ⟨?_, ?_, ?_, ?_⟩, ?_, ?_, ⟨?_, ?_, ?_, ?_⟩, ?_, ?_, ?_, ?_, ?_, ⟨?_, ?_, ?_, ?_⟩, ?_, ?_, ⟨?_, ?_, ?_, ?_, ?_, ?_⟩, ⟨?_, ?_, ?_, ?_, ?_, ?_⟩, ⟨?_, ?_, ?_, ?_, ?_, ?_⟩, ⟨?_, ?_, ?_, ?_, ?_, ?_⟩, ⟨?_, ?_, ?_, ?_, ?_, ?_⟩, ⟨?_, ?_, ?_, ?_, ?_, ?_⟩, ⟨?_, ?_, ?_, ?_, ?_, ?_⟩, ⟨?_, ?_, ?_, ?_, ?_, ?_, ?_, ?_⟩, ⟨?_, ?_, ?_, ?_, ?_, ?_, ?_, ?_⟩, ⟨?_, ?_, ?_, ?_, ?_, ?_, ?_, ?_⟩, ⟨?_, ?_, ?_, ?_, ?_, ?_, ?_, ?_⟩, ⟨?_, ?_, ?_, ?_, ?_, ?_, ?_, ?_⟩, ⟨?_, ?_, ?_, ?_, ?_, ?_, ?_, ?_⟩, ⟨?_, ?_, ?_, ?_, ?_, ?_, ?_, ?_⟩⟩
      repeat any_goals first | k_is | (unfold L2.NoAttr; k_is) | rfl
      all_goals decide
    refine GS.law_ofC g cz tN tf tc tF tK hMC B ?_ ?_ ?_ ?_ ?_ ?_ ?_ ?_ ?_ ?_ ?_ ?_ ?_ ?_ ?_ ?_ ?_ ?_ ?_ ?_ ?_ ?_ ?_ ?_ ?_ ?_ ?_ ?_ ?_ ?_ ?_ ?_ ?_ ?_ ?_ ?_ ?_ ?_ ?_ ?_ ?_ ?_ ?_ ?_ ?_ ?_ ?_ ?_ hmg
    all_goals ((try dsimp only [L2.KOf]); refine' GS.fun_at9 KX G ?_ ?_ ?_ ?_; repeat any_goals k_is)
