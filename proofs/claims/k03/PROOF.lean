import PyProof.Rows.All
import OpenK.AllK
import Wide.All
import Wide.FinOn
import PyProof.EqAt
import PyProof.EqKinds
import PyProof.TupleCall
import KE.KRevIter
import PyProof.ListNew
import PyProof.CompFree
import PyProof.StrWalks
import PyProof.ReprRoads
import PyProof.ReprLen
import PyProof.ToksMono
import KE.IntTextLaws
import PyProof.Draws
import PyProof.EnumMake
import PyProof.NeKinds
import PyProof.CallFns
import KE.KDictOf
import PyProof.AttrMissHeap
import PyProof.Walks
import PyProof.StationsW
import PyProof.CompUse
import PyProof.ExcInit
import PyProof.ExcClass3
import PyProof.InstStoreFacts
import OpenK.KOwn
import PyProof.ExcBaseAll.ValueError
import PyProof.FString4
import PyProof.Rows.FStr
import PyProof.Rows.RegStrFacts
import PyProof.RulesAs
import PyProof.ExcAttrAll.ValueError
import KE.KIsAll
import PyProof.MinMaxWalk
import PyProof.SumWalk
import PyProof.Rows.CallKwBuiltin
import KE.KIntText
import PySem.Challenge.RW_grassnake_k03_expressions
set_option Elab.async false
set_option compiler.extract_closed false
set_option linter.all false
set_option maxRecDepth 100000
set_option maxHeartbeats 4000000
namespace GS
open PySem
noncomputable section
abbrev p9:=PySem.Challenge.pw_grassnake_k03_expressions
abbrev r9:=PySem.Challenge.rw_grassnake_k03_expressions
noncomputable def tp9 (i:Nat):Stmt:=p9.main.body.getD i (.Pass ⟨0,0,0,0⟩)
def iC (i:Nat):Stmt→Stmt
  | .ClassDef _ _ _ body _ _ _ _ _ _ _=>body.getD i (.Pass ⟨0,0,0,0⟩)
  | _=>.Pass ⟨0,0,0,0⟩
def fA (s:Stmt):Arguments:=match s with
  | .FunctionDef _ a _ _ _ _ _ _ _ _=>a
  | _=>{ posonlyargs:=[],args:=[],vararg:=none,kwonlyargs:=[],kw_defaults:=[],kwarg:=none,defaults:=[] }
def fB (s:Stmt):List Stmt:=match s with
  | .FunctionDef _ _ b _ _ _ _ _ _ _=>b
  | _=>[]
def fS (s:Stmt):Scope:=match s with
  | .FunctionDef _ _ _ _ _ _ c _ _ _=>c
  | _=>{ kind:=.function,names:=[],isGenerator:=false,isCoroutine:=false }
def eO (P:Params) (k:Str) (t:Nat) (v:Value):DictEntry:=⟨PyData.keyHash P k,.str k t,v⟩
def eR (P:Params) (k:Str) (t a:Nat):DictEntry:=eO P k t (.ref a)
def dO (es:List DictEntry) (n:Nat):Obj:=⟨.type "dict",none,.dict es.toArray n,#[]⟩
def tO (vs:List Value):Obj:=⟨.type "tuple",none,.seq vs.toArray 0,#[]⟩
def fO (m:Str) (t:Nat) (st:Stmt) (n q:Str) (c:Nat):Obj:=⟨.type "function",none,.func (PySem.W.fnOf n q (fA st) (fB st) (fS st) .none .none .none (.str m t) none (.ref c) .none),#[]⟩
def fD (m:Str) (t:Nat) (st:Stmt) (n q:Str) (c d:Nat):Obj:=⟨.type "function",none,.func (PySem.W.fnOf n q (fA st) (fB st) (fS st) (.ref d) .none .none (.str m t) none (.ref c) .none),#[]⟩
def cO (a:Nat) (v:Bool) (n q:Str) (t l k u:Nat):Obj:=⟨.type "code",none,.fields #[.str n t,.str q (t+1),.str "/claim/cut.py" (t+2),.int l 0,.int k 0,.int 0 0,.int 0 0,.int 3 0,.ref (if v then a - 5 else a - 3),.bool true,.int 181 0,.ref (if v then a - 4 else a - 2),.none,if v then .ref (a - 3) else .none,if v then .ref (a - 2) else .none,.ref (a - 1),.int u 0,.int l 0,.str "/claim/cut.py" (u+1)],#[]⟩
def kO (n:Str) (bs mro:List Value) (ns:Nat) (sub:List Value) (sl:Array (Option Value)):Obj:=⟨.type "type",none,.cls { name:=n,bases:=bs,mro:=mro,ns:=ns,qualname:=n,subclasses:=sub },sl⟩
abbrev oT (a:Nat) (n:Str):=cO a true n n
abbrev oF (a:Nat) (n:Str):=cO a false n n
abbrev fm1:=fO "grassnake.errors" 187
abbrev fn1 (i:Nat) (n:Str):=fm1 (tp9 i) n n
abbrev fm2:=fO "grassnake.expressions" 232
abbrev fn2 (i:Nat) (n:Str):=fm2 (tp9 i) n n
abbrev fm3:=fO "grassnake.words" 542
abbrev fn3 (i:Nat) (n:Str):=fm3 (tp9 i) n n
abbrev fm4:=fO "grassnake.reading" 698
abbrev fn4 (i:Nat) (n:Str):=fm4 (tp9 i) n n
abbrev fm5:=fO "law_grassnake_k03_expressions" 1023
abbrev fn5 (i:Nat) (n:Str):=fm5 (tp9 i) n n
def rO (n q:Str) (st:Stmt):Obj:=⟨.none,none,.func { PySem.W.fnOf n q (fA st) (fB st) (fS st) .none .none .none .none none .none .none with globals:=0 },#[]⟩
abbrev rN (i:Nat) (n:Str):=rO n n (tp9 i)
def nO (vs:List Value):Obj:=⟨.none,none,.fields vs.toArray,#[]⟩
def gO (c:String) (vs:List Value):Obj:=⟨.type c,none,.fields vs.toArray,#[]⟩
def qO (sl:List (Option Value)):Obj:={ cls:=.type "frame",slots:=sl.toArray }
def nT (xs:List (Nat×Nat×Nat)):Obj:=nO (xs.flatMap λt=>[.int t.1 0,.int t.2.1 0,.ref t.2.2])
def t12:List (Nat×Nat×Nat):=[(2,0,20),(4,0,33),(27,0,82),(59,0,137),(65,0,144),(70,0,151),(79,0,158),(81,0,165),(86,0,172),(96,0,177),(99,0,184),(107,0,191),(115,0,198),(119,0,205),(124,0,212),(126,0,219),(128,0,226),(130,0,233),(133,0,240),(135,0,247),(137,0,254),(139,0,261),(141,0,266),(154,0,276),(156,0,281),(162,0,286),(166,0,291),(170,0,298),(182,0,305),(185,0,312),(190,0,319),(196,0,326),(210,0,333),(216,0,340),(239,0,360),(241,0,367),(244,0,372),(252,0,379),(257,0,386),(261,0,393),(275,0,400),(280,0,407),(290,0,414),(298,0,421),(306,0,428),(314,0,435),(325,0,440),(328,0,445),(332,0,452),(345,0,459),(361,0,494),(421,0,564),(432,0,571),(436,0,578),(443,0,583),(451,0,590),(454,0,595),(462,0,600),(481,0,607),(487,0,614),(496,0,619),(514,0,626),(519,0,633),(527,0,638),(535,0,645),(551,0,652),(561,0,659)]
def o11 (P:Params):Obj:=tO []
noncomputable def oR (P:Params):List Obj:=gO "code" [(.str "<module>" 182),(.str "<module>" 183),(.str "/claim/cut.py" 184),(.int 1 0),(.int 0 0),(.int 0 0),(.int 0 0),(.int 0 0),(.ref 11),(.bool false),(.int 181 0),(.ref 12),.none,.none,.none,.none,(.int 185 0),(.int 1 0),(.str "/claim/cut.py" 186)]::qO [some (.ref 13),some (.ref 3),some (.ref 3),none,some (.str "__main__" 164),none,some (.ref 0)]::tO [(.type "ValueError")]::gO "builtin_function_or_method" [(.builtin "type.__prepare__"),(.type "type")]::dO [eO P "__module__" 196 (.str "grassnake.errors" 187),eO P "__qualname__" 198 (.str "SnakeError" 197),eO P "__firstlineno__" 200 (.int 2 199),eR P "__static_attributes__" 201 22] 4::tO []::nO []::gO "code" [(.str "SnakeError" 191),(.str "SnakeError" 192),(.str "/claim/cut.py" 193),(.int 2 0),(.int 0 0),(.int 0 0),(.int 0 0),(.int 0 0),(.ref 18),(.bool false),(.int 181 0),(.ref 19),.none,.none,.none,.none,(.int 194 0),(.int 2 0),(.str "/claim/cut.py" 195)]::qO [some (.ref 20),some (.ref 3),some (.ref 17),none,some (.str "grassnake.errors" 187),none,some (.ref 0)]::tO []::dO [eO P "__module__" 196 (.str "grassnake.errors" 187),eO P "__firstlineno__" 200 (.int 2 199),eR P "__static_attributes__" 201 22,eR P "__weakref__" 203 25,eO P "__doc__" 204 .none] 3::kO "SnakeError" [(.type "ValueError")] [(.ref 24),(.type "ValueError"),(.type "Exception"),(.type "BaseException"),(.type "object")] 23 [(.ref 44)] #[some (.ref 15),none,some (.str "SnakeError" 189),some (.str "SnakeError" 197),some (.builtin "ValueError.__new__"),some (.bool true)]::gO "getset_descriptor" [(.str "__weakref__" 202),(.ref 24),(.builtin "ExceptionGroup.__weakref__"),.none]::gO "super" [(.ref 24),(.ref 24),(.ref 24)]::gO "builtin_function_or_method" [(.builtin "object.__init_subclass__"),(.ref 24)]::tO [(.ref 24)]::gO "builtin_function_or_method" [(.builtin "type.__prepare__"),(.type "type")]::dO [eO P "__module__" 214 (.str "grassnake.errors" 187),eO P "__qualname__" 216 (.str "BadText" 215),eO P "__firstlineno__" 218 (.int 4 217),eR P "__init__" 226 41,eR P "__static_attributes__" 228 42] 5::tO []::nO [(.int 6 0),(.int 4 0),(.ref 40)]::gO "code" [(.str "BadText" 209),(.str "BadText" 210),(.str "/claim/cut.py" 211),(.int 4 0),(.int 0 0),(.int 0 0),(.int 0 0),(.int 0 0),(.ref 31),(.bool false),(.int 181 0),(.ref 32),.none,.none,.none,.none,(.int 212 0),(.int 4 0),(.str "/claim/cut.py" 213)]::qO [some (.ref 33),some (.ref 3),some (.ref 30),none,some (.str "grassnake.errors" 187),none,some (.ref 0)]::tO []::nO []::tO [(.str "self" 222),(.str "at" 223)]::tO []::rO "__init__" "BadText.__init__" (iC 0 (tp9 2))::cO 40 true "__init__" "BadText.__init__" 219 6 2 224::fm1 (iC 0 (tp9 2)) "__init__" "BadText.__init__" 40::tO [(.str "at" 227)]::dO [eO P "__module__" 214 (.str "grassnake.errors" 187),eO P "__firstlineno__" 218 (.int 4 217),eR P "__init__" 226 41,eR P "__static_attributes__" 228 42,eO P "__doc__" 229 .none] 2::kO "BadText" [(.ref 24)] [(.ref 44),(.ref 24),(.type "ValueError"),(.type "Exception"),(.type "BaseException"),(.type "object")] 43 [] #[some (.ref 28),none,some (.str "BadText" 207),some (.str "BadText" 215),some (.builtin "ValueError.__new__"),some (.bool true)]::gO "super" [(.ref 44),(.ref 44),(.ref 44)]::gO "builtin_function_or_method" [(.builtin "object.__init_subclass__"),(.ref 44)]::tO [(.str "end" 242),(.str "" 243)]::tO [(.str "mark" 245),(.str "(" 246)]::tO [(.str "mark" 248),(.str ")" 249)]::tO [(.str "mark" 251),(.str "," 252)]::tO [(.str "mark" 254),(.str "." 255)]::tO [(.str "told" 257),(.str "not" 258)]::tO [(.str "mark" 260),(.str "-" 261)]::tO [(.str "told" 263),(.str "or" 264)]::tO [(.ref 54)]::tO [(.str "told" 266),(.str "and" 267)]::tO [(.ref 56)]::tO [(.str "mark" 269),(.str "<" 270)]::tO [(.str "mark" 271),(.str "<=" 272)]::tO [(.str "mark" 273),(.str ">" 274)]::tO [(.str "mark" 275),(.str ">=" 276)]::tO [(.str "mark" 277),(.str "==" 278)]::tO [(.str "mark" 279),(.str "!=" 280)]::tO [(.ref 58),(.ref 59),(.ref 60),(.ref 61),(.ref 62),(.ref 63)]::tO [(.str "mark" 282),(.str "+" 283)]::tO [(.str "mark" 284),(.str "-" 285)]::tO [(.ref 65),(.ref 66)]::tO [(.str "mark" 287),(.str "*" 288)]::tO [(.str "mark" 289),(.str "//" 290)]::tO [(.str "mark" 291),(.str "&" 292)]::tO [(.str "mark" 293),(.str "|" 294)]::tO [(.ref 68),(.ref 69),(.ref 70),(.ref 71)]::dO [eR P "True" 296 74,eR P "False" 298 75,eR P "None" 300 76] 3::tO [(.str "truth" 297),(.bool true)]::tO [(.str "truth" 299),(.bool false)]::tO [(.str "none" 301)]::tO []::gO "builtin_function_or_method" [(.builtin "type.__prepare__"),(.type "type")]::dO [eO P "__module__" 313 (.str "grassnake.expressions" 232),eO P "__qualname__" 315 (.str "Row" 314),eO P "__firstlineno__" 317 (.int 27 316),eR P "__init__" 326 90,eR P "seen" 336 98,eR P "taken" 344 105,eR P "skips" 352 112,eR P "wants" 360 119,eR P "wants_name" 368 126,eR P "__static_attributes__" 373 127] 10::tO []::nO [(.int 29 0),(.int 4 0),(.ref 89),(.int 35 0),(.int 4 0),(.ref 97),(.int 39 0),(.int 4 0),(.ref 104),(.int 44 0),(.int 4 0),(.ref 111),(.int 50 0),(.int 4 0),(.ref 118),(.int 54 0),(.int 4 0),(.ref 125)]::gO "code" [(.str "Row" 308),(.str "Row" 309),(.str "/claim/cut.py" 310),(.int 27 0),(.int 0 0),(.int 0 0),(.int 0 0),(.int 0 0),(.ref 80),(.bool false),(.int 181 0),(.ref 81),.none,.none,.none,.none,(.int 311 0),(.int 27 0),(.str "/claim/cut.py" 312)]::qO [some (.ref 82),some (.ref 3),some (.ref 79),none,some (.str "grassnake.expressions" 232),none,some (.ref 0)]::tO []::nO []::tO [(.str "self" 321),(.str "number" 322),(.str "words" 323)]::tO []::rO "__init__" "Row.__init__" (iC 0 (tp9 21))::cO 89 true "__init__" "Row.__init__" 318 29 3 324::fm2 (iC 0 (tp9 21)) "__init__" "Row.__init__" 89::tO [(.int 0 327)]::tO []::nO []::tO [(.str "self" 331),(.str "further" 332),(.str "place" 333)]::tO []::rO "seen" "Row.seen" (iC 1 (tp9 21))::cO 97 true "seen" "Row.seen" 328 35 2 334::fD "grassnake.expressions" 232 (iC 1 (tp9 21)) "seen" "Row.seen" 97 91::tO []::nO []::tO [(.str "self" 340),(.str "word" 341)]::tO []::rO "taken" "Row.taken" (iC 2 (tp9 21))::cO 104 true "taken" "Row.taken" 337 39 1 342::fm2 (iC 2 (tp9 21)) "taken" "Row.taken" 104::tO []::nO []::tO [(.str "self" 348),(.str "word" 349)]::tO []::rO "skips" "Row.skips" (iC 3 (tp9 21))::cO 111 true "skips" "Row.skips" 345 44 2 350::fm2 (iC 3 (tp9 21)) "skips" "Row.skips" 111::tO []::nO []::tO [(.str "self" 356),(.str "word" 357)]::tO []::rO "wants" "Row.wants" (iC 4 (tp9 21))::cO 118 true "wants" "Row.wants" 353 50 2 358::fm2 (iC 4 (tp9 21)) "wants" "Row.wants" 118::tO []::nO []::tO [(.str "self" 364),(.str "word" 365)]::tO []::rO "wants_name" "Row.wants_name" (iC 5 (tp9 21))::cO 125 true "wants_name" "Row.wants_name" 361 54 1 366::fm2 (iC 5 (tp9 21)) "wants_name" "Row.wants_name" 125::tO [(.str "brackets" 369),(.str "number" 370),(.str "place" 371),(.str "words" 372)]::dO [eO P "__module__" 313 (.str "grassnake.expressions" 232),eO P "__firstlineno__" 317 (.int 27 316),eR P "__init__" 326 90,eR P "seen" 336 98,eR P "taken" 344 105,eR P "skips" 352 112,eR P "wants" 360 119,eR P "wants_name" 368 126,eR P "__static_attributes__" 373 127,eR P "__dict__" 375 130,eR P "__weakref__" 377 131,eO P "__doc__" 378 .none] 4::kO "Row" [(.type "object")] [(.ref 129),(.type "object")] 128 [] #[none,none,some (.str "Row" 306),some (.str "Row" 314),some (.builtin "object.__new__"),some (.bool true)]::gO "getset_descriptor" [(.str "__dict__" 374),(.ref 129),(.builtin "function.__dict__"),(.builtin "function.__dict__#set")]::gO "getset_descriptor" [(.str "__weakref__" 376),(.ref 129),(.builtin "ExceptionGroup.__weakref__"),.none]::gO "super" [(.ref 129),(.ref 129),(.ref 129)]::gO "builtin_function_or_method" [(.builtin "object.__init_subclass__"),(.ref 129)]::tO []::nO []::rN 22 "sized"::oF 137 "sized" 381 59 3 384::fn2 22 "sized" 137::tO []::nO []::tO [(.str "row" 390),(.str "inner" 391),(.str "found" 392)]::tO []::rN 23 "parted"::oT 144 "parted" 387 65 2 393::fn2 23 "parted" 144::tO []::nO []::tO [(.str "row" 399),(.str "inner" 400),(.str "found" 401)]::tO []::rN 24 "in_brackets"::oT 151 "in_brackets" 396 70 2 402::fn2 24 "in_brackets" 151::tO []::nO []::tO [(.str "row" 408)]::tO []::rN 25 "perhaps_parted"::oT 158 "perhaps_parted" 405 79 1 409::fn2 25 "perhaps_parted" 158::tO []::nO []::tO [(.str "row" 415),(.str "most" 416),(.str "found" 417)]::tO []::rN 26 "values_in_brackets"::oT 165 "values_in_brackets" 412 81 2 418::fn2 26 "values_in_brackets" 165::tO []::nO []::tO [(.str "row" 424),(.str "word" 425)]::tO []::rN 27 "read_single"::oT 172 "read_single" 421 86 1 426::fn2 27 "read_single" 172::tO []::nO []::rN 28 "read_call"::oF 177 "read_call" 429 96 2 432::fn2 28 "read_call" 177::tO []::nO []::tO [(.str "row" 438),(.str "left" 439)]::tO []::rN 29 "read_reach"::oT 184 "read_reach" 435 99 1 440::fn2 29 "read_reach" 184::tO []::nO []::tO [(.str "row" 446),(.str "word" 447),(.str "kind" 448),(.str "inner" 449),(.str "many" 450),(.str "found" 451),(.str "turn" 452)]::tO []::rN 30 "read_repeated"::oT 191 "read_repeated" 443 107 4 453::fn2 30 "read_repeated" 191::tO []::nO []::tO [(.str "row" 459),(.str "kind" 460),(.str "left" 461),(.str "inner" 462),(.str "sign" 463),(.str "right" 464)]::tO []::rN 31 "read_pair"::oT 198 "read_pair" 456 115 4 465::fn2 31 "read_pair" 198::tO []::nO []::tO [(.str "row" 471),(.str "kind" 472),(.str "signs" 473),(.str "inner" 474),(.str "left" 475)]::tO []::rN 32 "read_from_left"::oT 205 "read_from_left" 468 119 4 476::fn2 32 "read_from_left" 205::tO []::nO []::tO [(.str "row" 482)]::tO []::rN 33 "read_minus"::oT 212 "read_minus" 479 124 1 483::fn2 33 "read_minus" 212::tO []::nO []::tO [(.str "row" 489)]::tO []::rN 34 "read_product"::oT 219 "read_product" 486 126 1 490::fn2 34 "read_product" 219::tO []::nO []::tO [(.str "row" 496)]::tO []::rN 35 "read_sum"::oT 226 "read_sum" 493 128 1 497::fn2 35 "read_sum" 226::tO []::nO []::tO [(.str "row" 503),(.str "left" 504)]::tO []::rN 36 "read_compare"::oT 233 "read_compare" 500 130 1 505::fn2 36 "read_compare" 233::tO []::nO []::tO [(.str "row" 511)]::tO []::rN 37 "read_not"::oT 240 "read_not" 508 133 1 512::fn2 37 "read_not" 240::tO []::nO []::tO [(.str "row" 518)]::tO []::rN 38 "read_and"::oT 247 "read_and" 515 135 1 519::fn2 38 "read_and" 247::tO []::nO []::tO [(.str "row" 525)]::tO []::rN 39 "read_or"::oT 254 "read_or" 522 137 1 526::fn2 39 "read_or" 254::tO []::nO []::tO [(.str "row" 532)]::tO []::rN 40 "read_expression"::oT 261 "read_expression" 529 139 1 533::fn2 40 "read_expression" 261::tO []::nO []::rN 41 "read_values"::oF 266 "read_values" 536 141 2 539::fn2 41 "read_values" 266::tO [(.str "and" 548),(.str "as" 549),(.str "break" 550),(.str "class" 551),(.str "continue" 552),(.str "def" 553),(.str "elif" 554),(.str "else" 555),(.str "except" 556),(.str "False" 557),(.str "finally" 558),(.str "for" 559),(.str "from" 560),(.str "global" 561),(.str "if" 562),(.str "in" 563),(.str "None" 564),(.str "nonlocal" 565),(.str "not" 566),(.str "or" 567),(.str "pass" 568),(.str "raise" 569),(.str "return" 570),(.str "True" 571),(.str "try" 572),(.str "while" 573),(.str "yield" 574)]::tO [(.str "+" 576),(.str "-" 577),(.str "*" 578),(.str "&" 579),(.str "|" 580),(.str "<" 581),(.str ">" 582),(.str "=" 583),(.str "(" 584),(.str ")" 585),(.str "," 586),(.str "." 587),(.str ":" 588)]::tO [(.str "//" 590),(.str "<=" 591),(.str ">=" 592),(.str "==" 593),(.str "!=" 594),(.str "+=" 595),(.str "-=" 596),(.str "*=" 597)]::tO []::nO []::tO [(.str "sign" 612)]::tO []::rN 53 "is_word_sign"::oT 276 "is_word_sign" 609 154 1 613::fn3 53 "is_word_sign" 276::tO []::nO []::rN 54 "is_name"::oF 281 "is_name" 616 156 1 619::fn3 54 "is_name" 281::tO []::nO []::rN 55 "is_number"::oF 286 "is_number" 622 162 1 625::fn3 55 "is_number" 286::tO []::nO []::rN 56 "is_text_literal"::oF 291 "is_text_literal" 628 166 1 631::fn3 56 "is_text_literal" 291::tO []::nO []::tO [(.str "piece" 637)]::tO []::rN 57 "word_of"::oT 298 "word_of" 634 170 1 638::fn3 57 "word_of" 298::tO []::nO []::tO [(.str "row" 644),(.str "place" 645),(.str "closing" 646)]::tO []::rN 58 "behind_literal"::oT 305 "behind_literal" 641 182 2 647::fn3 58 "behind_literal" 305::tO []::nO []::tO [(.str "row" 653),(.str "place" 654),(.str "behind" 655)]::tO []::rN 59 "behind_word_signs"::oT 312 "behind_word_signs" 650 185 2 656::fn3 59 "behind_word_signs" 312::tO []::nO []::tO [(.str "row" 662),(.str "place" 663)]::tO []::rN 60 "behind_piece"::oT 319 "behind_piece" 659 190 2 664::fn3 60 "behind_piece" 319::tO []::nO []::tO [(.str "row" 670),(.str "words" 671),(.str "place" 672),(.str "behind" 673),(.str "word" 674)]::tO []::rN 61 "words_of"::oT 326 "words_of" 667 196 1 675::fn3 61 "words_of" 326::tO []::nO []::tO [(.str "row" 681),(.str "blanks" 682),(.str "blocks" 683)]::tO []::rN 62 "indent_of"::oT 333 "indent_of" 678 210 1 684::fn3 62 "indent_of" 333::tO []::nO []::tO [(.str "text" 690),(.str "rows" 691),(.str "number" 692),(.str "row" 693),(.str "words" 694)]::tO []::rN 63 "rows_of"::oT 340 "rows_of" 687 216 1 695::fn3 63 "rows_of" 340::tO [(.str "mark" 712),(.str ":" 713)]::tO [(.str "mark" 715),(.str "=" 716)]::tO [(.str "mark" 718),(.str "=" 719)]::tO [(.str "mark" 720),(.str "+=" 721)]::tO [(.str "mark" 722),(.str "-=" 723)]::tO [(.str "mark" 724),(.str "*=" 725)]::tO [(.ref 344),(.ref 345),(.ref 346),(.ref 347)]::tO [(.str "told" 727),(.str "as" 728)]::tO [(.str "told" 730),(.str "from" 731)]::tO [(.str "told" 733),(.str "in" 734)]::tO [(.str "told" 736),(.str "yield" 737)]::tO [(.str "def" 739),(.str "class" 740),(.str "if" 741),(.str "while" 742),(.str "for" 743),(.str "try" 744)]::tO [(.str "elif" 746),(.str "else" 747),(.str "except" 748),(.str "finally" 749)]::tO []::nO []::tO [(.str "row" 754)]::tO []::rN 80 "read_name"::oT 360 "read_name" 751 239 1 755::fn4 80 "read_name" 360::tO []::nO []::tO [(.str "row" 761),(.str "name" 762)]::tO []::rN 81 "read_param"::oT 367 "read_param" 758 241 1 763::fn4 81 "read_param" 367::tO []::nO []::rN 82 "read_params"::oF 372 "read_params" 766 244 1 769::fn4 82 "read_params" 372::tO []::nO []::tO [(.str "row" 775),(.str "tree" 776)]::tO []::rN 83 "read_catch"::oT 379 "read_catch" 772 252 1 777::fn4 83 "read_catch" 379::tO []::nO []::tO [(.str "row" 783),(.str "name" 784)]::tO []::rN 84 "read_for"::oT 386 "read_for" 780 257 1 785::fn4 84 "read_for" 386::tO []::nO []::tO [(.str "row" 791),(.str "word" 792),(.str "name" 793)]::tO []::rN 85 "read_head"::oT 393 "read_head" 788 261 2 794::fn4 85 "read_head" 393::tO []::nO []::tO [(.str "row" 800),(.str "tree" 801)]::tO []::rN 86 "read_raise"::oT 400 "read_raise" 797 275 1 802::fn4 86 "read_raise" 400::tO []::nO []::tO [(.str "row" 808),(.str "word" 809)]::tO []::rN 87 "read_told"::oT 407 "read_told" 805 280 2 810::fn4 87 "read_told" 407::tO []::nO []::tO [(.str "row" 816),(.str "name" 817),(.str "mark" 818)]::tO []::rN 88 "read_binding"::oT 414 "read_binding" 813 290 1 819::fn4 88 "read_binding" 414::tO []::nO []::tO [(.str "row" 825),(.str "tree" 826),(.str "ends_with_bracket" 827)]::tO []::rN 89 "read_doing"::oT 421 "read_doing" 822 298 1 828::fn4 89 "read_doing" 421::tO []::nO []::tO [(.str "row" 834),(.str "word" 835)]::tO []::rN 90 "read_single_row"::oT 428 "read_single_row" 831 306 1 836::fn4 90 "read_single_row" 428::tO []::nO []::tO [(.str "clauses" 842),(.str "word" 843),(.str "last" 844)]::tO []::rN 91 "may_follow"::oT 435 "may_follow" 839 314 2 845::fn4 91 "may_follow" 435::tO []::nO []::rN 92 "block_of"::oF 440 "block_of" 848 325 2 851::fn4 92 "block_of" 440::tO []::nO []::rN 93 "tree_of_try"::oF 445 "tree_of_try" 854 328 1 857::fn4 93 "tree_of_try" 445::tO []::nO []::tO [(.str "clauses" 863),(.str "word" 864),(.str "second" 865),(.str "clause" 866)]::tO []::rN 94 "tree_of"::oT 452 "tree_of" 860 332 1 867::fn4 94 "tree_of" 452::tO []::gO "builtin_function_or_method" [(.builtin "type.__prepare__"),(.type "type")]::dO [eO P "__module__" 877 (.str "grassnake.reading" 698),eO P "__qualname__" 879 (.str "Level" 878),eO P "__firstlineno__" 881 (.int 345 880),eR P "__init__" 888 467,eR P "is_empty" 895 474,eR P "settle" 903 481,eR P "__static_attributes__" 906 482] 7::tO []::nO [(.int 347 0),(.int 4 0),(.ref 466),(.int 351 0),(.int 4 0),(.ref 473),(.int 354 0),(.int 4 0),(.ref 480)]::gO "code" [(.str "Level" 872),(.str "Level" 873),(.str "/claim/cut.py" 874),(.int 345 0),(.int 0 0),(.int 0 0),(.int 0 0),(.int 0 0),(.ref 457),(.bool false),(.int 181 0),(.ref 458),.none,.none,.none,.none,(.int 875 0),(.int 345 0),(.str "/claim/cut.py" 876)]::qO [some (.ref 459),some (.ref 3),some (.ref 456),none,some (.str "grassnake.reading" 698),none,some (.ref 0)]::tO []::nO []::tO [(.str "self" 885)]::tO []::rO "__init__" "Level.__init__" (iC 0 (tp9 95))::cO 466 true "__init__" "Level.__init__" 882 347 1 886::fm4 (iC 0 (tp9 95)) "__init__" "Level.__init__" 466::tO []::nO []::tO [(.str "self" 892)]::tO []::rO "is_empty" "Level.is_empty" (iC 1 (tp9 95))::cO 473 true "is_empty" "Level.is_empty" 889 351 1 893::fm4 (iC 1 (tp9 95)) "is_empty" "Level.is_empty" 473::tO []::nO []::tO [(.str "self" 899),(.str "number" 900)]::tO []::rO "settle" "Level.settle" (iC 2 (tp9 95))::cO 480 true "settle" "Level.settle" 896 354 2 901::fm4 (iC 2 (tp9 95)) "settle" "Level.settle" 480::tO [(.str "clauses" 904),(.str "statements" 905)]::dO [eO P "__module__" 877 (.str "grassnake.reading" 698),eO P "__firstlineno__" 881 (.int 345 880),eR P "__init__" 888 467,eR P "is_empty" 895 474,eR P "settle" 903 481,eR P "__static_attributes__" 906 482,eR P "__dict__" 908 485,eR P "__weakref__" 910 486,eO P "__doc__" 911 .none] 4::kO "Level" [(.type "object")] [(.ref 484),(.type "object")] 483 [] #[none,none,some (.str "Level" 870),some (.str "Level" 878),some (.builtin "object.__new__"),some (.bool true)]::gO "getset_descriptor" [(.str "__dict__" 907),(.ref 484),(.builtin "function.__dict__"),(.builtin "function.__dict__#set")]::gO "getset_descriptor" [(.str "__weakref__" 909),(.ref 484),(.builtin "ExceptionGroup.__weakref__"),.none]::gO "super" [(.ref 484),(.ref 484),(.ref 484)]::gO "builtin_function_or_method" [(.builtin "object.__init_subclass__"),(.ref 484)]::tO []::gO "builtin_function_or_method" [(.builtin "type.__prepare__"),(.type "type")]::dO [eO P "__module__" 921 (.str "grassnake.reading" 698),eO P "__qualname__" 923 (.str "Reader" 922),eO P "__firstlineno__" 925 (.int 361 924),eR P "__init__" 932 502,eR P "close" 943 509,eR P "add_statement" 951 516,eR P "begin_block" 962 523,eR P "take_clause" 971 530,eR P "take_statement" 980 537,eR P "take_row" 992 544,eR P "finished" 1000 551,eR P "__static_attributes__" 1003 552] 12::tO []::nO [(.int 363 0),(.int 4 0),(.ref 501),(.int 367 0),(.int 4 0),(.ref 508),(.int 375 0),(.int 4 0),(.ref 515),(.int 380 0),(.int 4 0),(.ref 522),(.int 388 0),(.int 4 0),(.ref 529),(.int 396 0),(.int 4 0),(.ref 536),(.int 405 0),(.int 4 0),(.ref 543),(.int 417 0),(.int 4 0),(.ref 550)]::gO "code" [(.str "Reader" 916),(.str "Reader" 917),(.str "/claim/cut.py" 918),(.int 361 0),(.int 0 0),(.int 0 0),(.int 0 0),(.int 0 0),(.ref 492),(.bool false),(.int 181 0),(.ref 493),.none,.none,.none,.none,(.int 919 0),(.int 361 0),(.str "/claim/cut.py" 920)]::qO [some (.ref 494),some (.ref 3),some (.ref 491),none,some (.str "grassnake.reading" 698),none,some (.ref 0)]::tO []::nO []::tO [(.str "self" 929)]::tO []::rO "__init__" "Reader.__init__" (iC 0 (tp9 96))::cO 501 true "__init__" "Reader.__init__" 926 363 1 930::fm4 (iC 0 (tp9 96)) "__init__" "Reader.__init__" 501::tO []::nO []::tO [(.str "self" 936),(.str "indent" 937),(.str "number" 938),(.str "deepest" 939),(.str "awaits_block" 940)]::tO []::rO "close" "Reader.close" (iC 1 (tp9 96))::cO 508 true "close" "Reader.close" 933 367 3 941::fm4 (iC 1 (tp9 96)) "close" "Reader.close" 508::tO []::nO []::tO [(.str "self" 947),(.str "number" 948)]::tO []::rO "add_statement" "Reader.add_statement" (iC 2 (tp9 96))::cO 515 true "add_statement" "Reader.add_statement" 944 375 2 949::fm4 (iC 2 (tp9 96)) "add_statement" "Reader.add_statement" 515::tO []::nO []::tO [(.str "self" 955),(.str "row" 956),(.str "word" 957),(.str "head" 958),(.str "inner" 959)]::tO []::rO "begin_block" "Reader.begin_block" (iC 3 (tp9 96))::cO 522 true "begin_block" "Reader.begin_block" 952 380 2 960::fm4 (iC 3 (tp9 96)) "begin_block" "Reader.begin_block" 522::tO []::nO []::tO [(.str "self" 966),(.str "row" 967),(.str "word" 968)]::tO []::rO "take_clause" "Reader.take_clause" (iC 4 (tp9 96))::cO 529 true "take_clause" "Reader.take_clause" 963 388 2 969::fm4 (iC 4 (tp9 96)) "take_clause" "Reader.take_clause" 529::tO []::nO []::tO [(.str "self" 975),(.str "row" 976),(.str "word" 977)]::tO []::rO "take_statement" "Reader.take_statement" (iC 5 (tp9 96))::cO 536 true "take_statement" "Reader.take_statement" 972 396 2 978::fm4 (iC 5 (tp9 96)) "take_statement" "Reader.take_statement" 536::tO []::nO []::tO [(.str "self" 984),(.str "number" 985),(.str "indent" 986),(.str "words" 987),(.str "row" 988),(.str "word" 989)]::tO []::rO "take_row" "Reader.take_row" (iC 6 (tp9 96))::cO 543 true "take_row" "Reader.take_row" 981 405 4 990::fm4 (iC 6 (tp9 96)) "take_row" "Reader.take_row" 543::tO []::nO []::tO [(.str "self" 996),(.str "number" 997)]::tO []::rO "finished" "Reader.finished" (iC 7 (tp9 96))::cO 550 true "finished" "Reader.finished" 993 417 2 998::fm4 (iC 7 (tp9 96)) "finished" "Reader.finished" 550::tO [(.str "levels" 1001),(.str "many" 1002)]::dO [eO P "__module__" 921 (.str "grassnake.reading" 698),eO P "__firstlineno__" 925 (.int 361 924),eR P "__init__" 932 502,eR P "close" 943 509,eR P "add_statement" 951 516,eR P "begin_block" 962 523,eR P "take_clause" 971 530,eR P "take_statement" 980 537,eR P "take_row" 992 544,eR P "finished" 1000 551,eR P "__static_attributes__" 1003 552,eR P "__dict__" 1005 555,eR P "__weakref__" 1007 556,eO P "__doc__" 1008 .none] 4::kO "Reader" [(.type "object")] [(.ref 554),(.type "object")] 553 [] #[none,none,some (.str "Reader" 914),some (.str "Reader" 922),some (.builtin "object.__new__"),some (.bool true)]::gO "getset_descriptor" [(.str "__dict__" 1004),(.ref 554),(.builtin "function.__dict__"),(.builtin "function.__dict__#set")]::gO "getset_descriptor" [(.str "__weakref__" 1006),(.ref 554),(.builtin "ExceptionGroup.__weakref__"),.none]::gO "super" [(.ref 554),(.ref 554),(.ref 554)]::gO "builtin_function_or_method" [(.builtin "object.__init_subclass__"),(.ref 554)]::tO []::nO []::tO [(.str "text" 1014),(.str "many_rows" 1015),(.str "reader" 1016),(.str "number" 1017),(.str "indent" 1018),(.str "words" 1019)]::tO []::rN 97 "read"::oT 564 "read" 1011 421 1 1020::fn4 97 "read" 564::tO []::nO []::tO [(.str "_law_script" 1028),(.str "_law_k" 1029)]::tO []::rN 99 "_law_cell_at"::oT 571 "_law_cell_at" 1025 432 2 1030::fn5 99 "_law_cell_at" 571::tO []::nO []::tO [(.str "_law_cells" 1036),(.str "_law_spot" 1037),(.str "_law_k" 1038),(.str "_law_base" 1039)]::tO []::rN 100 "_law_cell"::oT 578 "_law_cell" 1033 436 2 1040::fn5 100 "_law_cell" 578::tO []::nO []::rN 101 "_law_name"::oF 583 "_law_name" 1043 443 1 1046::fn5 101 "_law_name" 583::tO []::nO []::tO [(.str "_law_found" 1052)]::tO []::rN 102 "_law_told"::oT 590 "_law_told" 1049 451 0 1053::fn5 102 "_law_told" 590::tO []::nO []::rN 103 "_law_least"::oF 595 "_law_least" 1056 454 1 1059::fn5 103 "_law_least" 595::tO []::nO []::rN 104 "_law_tree"::oF 600 "_law_tree" 1062 462 3 1065::fn5 104 "_law_tree" 600::tO []::nO []::tO [(.str "_law_tree_here" 1071)]::tO []::rN 105 "_law_rank"::oT 607 "_law_rank" 1068 481 1 1072::fn5 105 "_law_rank" 607::tO []::nO []::tO [(.str "_law_tree_here" 1078),(.str "_law_least_here" 1079),(.str "_law_more" 1080),(.str "_law_text_here" 1081),(.str "_law_n" 1082),(.str "_law_gap" 1083)]::tO []::rN 106 "_law_put"::oT 614 "_law_put" 1075 487 3 1084::fn5 106 "_law_put" 614::tO []::nO []::rN 107 "_law_text"::oF 619 "_law_text" 1087 496 2 1090::fn5 107 "_law_text" 619::tO []::nO []::tO [(.str "_law_text_here" 1096),(.str "e" 1097)]::tO []::rN 108 "_law_read"::oT 626 "_law_read" 1093 514 1 1098::fn5 108 "_law_read" 626::tO []::nO []::tO [(.str "_law_text_here" 1104),(.str "_law_tree_here" 1105),(.str "_law_nest" 1106),(.str "_law_most" 1107),(.str "_law_part" 1108),(.str "_law_sign" 1109)]::tO []::rN 109 "_law_fits"::oT 633 "_law_fits" 1101 519 2 1110::fn5 109 "_law_fits" 633::tO []::nO []::rN 110 "_law_parts"::oF 638 "_law_parts" 1113 527 1 1116::fn5 110 "_law_parts" 638::tO []::nO []::tO [(.str "_law_n" 1122),(.str "_law_k" 1123),(.str "_law_parts_here" 1124)]::tO []::rN 111 "_law_bound"::oT 645 "_law_bound" 1119 535 1 1125::fn5 111 "_law_bound" 645::tO []::nO []::tO [(.str "_law_text_here" 1131),(.str "_law_tree_here" 1132),(.str "_law_n" 1133)]::tO []::rN 112 "_law_shape"::oT 652 "_law_shape" 1128 551 3 1134::fn5 112 "_law_shape" 652::tO []::nO []::tO [(.str "_law_script" 1140),(.str "_law_rows" 1141),(.str "_law_due" 1142),(.str "_law_k" 1143),(.str "_law_spot" 1144),(.str "_law_tree_here" 1145),(.str "_law_more" 1146),(.str "_law_text_here" 1147),(.str "_law_statement" 1148),(.str "_law_turn" 1149),(.str "_law_cell_here" 1150),(.str "_law_good" 1151),(.str "_law_found" 1152),(.str "_law_at" 1153),(.str "_law_bad" 1154)]::tO []::rN 113 "law"::oT 659 "law" 1137 561 1 1155::fn5 113 "law" 659::[]
noncomputable def oAll (P:Params) (g:Obj) (m:Nat):List Obj:=W.boot_o_0 P::W.boot_o_1 P::W.boot_o_2 P::g::W.boot_o_4 P::W.boot_o_5 P::W.boot_o_6 P::W.boot_o_7 P::W.boot_o_8 P::W.boot_o_9 P::W.boot_o_10 P::o11 P::nT (t12.take m)::oR P
def ev:List Obj→List Obj
  | []=>[]
  | [x]=>[x]
  | x::_::r=>x::ev r
def bt:Nat→List Obj→W.BT
  | 0,_=>.nil
  | _,[]=>.nil
  | f+1,x::r=>.node x (bt f (ev r)) (bt f (ev r.tail))
noncomputable def l0 (P:Params):List Obj:=(oAll P (W.boot_o_3 P) 0).take 15
noncomputable def l1 (P:Params):List Obj:=(oAll P (dO [eO P "__name__" 165 (.str "grassnake.expressions" 232),eO P "__doc__" 166 .none,eO P "__package__" 167 .none,eO P "__loader__" 168 (.builtin "__main__.__loader__#opaque"),eO P "__spec__" 169 .none,eR P "__annotations__" 170 6,eR P "__builtins__" 171 4,eO P "__file__" 173 (.str "/claim/cut.py" 172),eO P "__cached__" 174 .none,eR P "SnakeError" 206 24,eR P "BadText" 231 44,eO P "MOST_DEEP" 235 (.int 12 234),eO P "MOST_PARTS" 237 (.int 60 236),eO P "MOST_BRACKETS" 239 (.int 12 238),eO P "MOST_VALUES" 241 (.int 4 240),eR P "END" 244 47,eR P "OPENING" 247 48,eR P "CLOSING" 250 49,eR P "COMMA" 253 50,eR P "DOT" 256 51,eR P "NOT" 259 52,eR P "MINUS" 262 53,eR P "OR_SIGNS" 265 55] 23) 2).take 56
noncomputable def l2 (P:Params):List Obj:=(oAll P (dO [eO P "__name__" 165 (.str "grassnake.expressions" 232),eO P "__doc__" 166 .none,eO P "__package__" 167 .none,eO P "__loader__" 168 (.builtin "__main__.__loader__#opaque"),eO P "__spec__" 169 .none,eR P "__annotations__" 170 6,eR P "__builtins__" 171 4,eO P "__file__" 173 (.str "/claim/cut.py" 172),eO P "__cached__" 174 .none,eR P "SnakeError" 206 24,eR P "BadText" 231 44,eO P "MOST_DEEP" 235 (.int 12 234),eO P "MOST_PARTS" 237 (.int 60 236),eO P "MOST_BRACKETS" 239 (.int 12 238),eO P "MOST_VALUES" 241 (.int 4 240),eR P "END" 244 47,eR P "OPENING" 247 48,eR P "CLOSING" 250 49,eR P "COMMA" 253 50,eR P "DOT" 256 51,eR P "NOT" 259 52,eR P "MINUS" 262 53,eR P "OR_SIGNS" 265 55,eR P "AND_SIGNS" 268 57,eR P "COMPARE_SIGNS" 281 64,eR P "SUM_SIGNS" 286 67,eR P "PRODUCT_SIGNS" 295 72,eR P "TOLD_VALUES" 305 73] 28) 2).take 77
noncomputable def l3 (P:Params):List Obj:=(oAll P (dO [eO P "__name__" 165 (.str "grassnake.reading" 698),eO P "__doc__" 166 .none,eO P "__package__" 167 .none,eO P "__loader__" 168 (.builtin "__main__.__loader__#opaque"),eO P "__spec__" 169 .none,eR P "__annotations__" 170 6,eR P "__builtins__" 171 4,eO P "__file__" 173 (.str "/claim/cut.py" 172),eO P "__cached__" 174 .none,eR P "SnakeError" 206 24,eR P "BadText" 231 44,eO P "MOST_DEEP" 235 (.int 12 234),eO P "MOST_PARTS" 237 (.int 60 236),eO P "MOST_BRACKETS" 239 (.int 12 238),eO P "MOST_VALUES" 241 (.int 4 240),eR P "END" 244 47,eR P "OPENING" 247 48,eR P "CLOSING" 250 49,eR P "COMMA" 253 50,eR P "DOT" 256 51,eR P "NOT" 259 52,eR P "MINUS" 262 53,eR P "OR_SIGNS" 265 55,eR P "AND_SIGNS" 268 57,eR P "COMPARE_SIGNS" 281 64,eR P "SUM_SIGNS" 286 67,eR P "PRODUCT_SIGNS" 295 72,eR P "TOLD_VALUES" 305 73,eR P "Row" 380 129,eR P "sized" 386 138,eR P "parted" 395 145,eR P "in_brackets" 404 152,eR P "perhaps_parted" 411 159,eR P "values_in_brackets" 420 166,eR P "read_single" 428 173,eR P "read_call" 434 178,eR P "read_reach" 442 185,eR P "read_repeated" 455 192,eR P "read_pair" 467 199,eR P "read_from_left" 478 206,eR P "read_minus" 485 213,eR P "read_product" 492 220,eR P "read_sum" 499 227,eR P "read_compare" 507 234,eR P "read_not" 514 241,eR P "read_and" 521 248,eR P "read_or" 528 255,eR P "read_expression" 535 262,eR P "read_values" 541 267,eO P "LETTERS" 545 (.str "abcdefghijklmnopqrstuvwxyzABCDEFGHIJKLMNOPQRSTUVWXYZ" 544),eO P "FIGURES" 547 (.str "0123456789" 546),eR P "TOLD_WORDS" 575 268,eR P "SHORT_MARKS" 589 269,eR P "LONG_MARKS" 598 270,eO P "MOST_NAME_SIGNS" 600 (.int 12 599),eO P "MOST_FIGURES" 602 (.int 12 601),eO P "MOST_TEXT_SIGNS" 604 (.int 40 603),eO P "BLANKS_OF_BLOCK" 606 (.int 4 605),eO P "MOST_BLOCKS" 608 (.int 12 607),eR P "is_word_sign" 615 277,eR P "is_name" 621 282,eR P "is_number" 627 287,eR P "is_text_literal" 633 292,eR P "word_of" 640 299,eR P "behind_literal" 649 306,eR P "behind_word_signs" 658 313,eR P "behind_piece" 666 320,eR P "words_of" 677 327,eR P "indent_of" 686 334,eR P "rows_of" 697 341,eO P "MOST_SIGNS" 701 (.int 4000 700),eO P "MOST_ROWS" 703 (.int 200 702),eO P "MOST_STATEMENTS" 705 (.int 150 704),eO P "MOST_ELIFS" 707 (.int 8 706),eO P "MOST_PARAMS" 709 (.int 4 708),eO P "MOST_ELDERS" 711 (.int 3 710),eR P "COLON" 714 342,eR P "EQUALS" 717 343,eR P "SETTING_MARKS" 726 348,eR P "AS" 729 349,eR P "FROM" 732 350,eR P "IN" 735 351,eR P "YIELD" 738 352,eR P "OPENERS" 745 353,eR P "CLAUSES" 750 354,eR P "read_name" 757 361,eR P "read_param" 765 368,eR P "read_params" 771 373,eR P "read_catch" 779 380,eR P "read_for" 787 387,eR P "read_head" 796 394,eR P "read_raise" 804 401,eR P "read_told" 812 408,eR P "read_binding" 821 415] 94) 43).take 416
noncomputable def l4 (P:Params):List Obj:=(oAll P (dO [eO P "__name__" 165 (.str "law_grassnake_k03_expressions" 1023),eO P "__doc__" 166 .none,eO P "__package__" 167 .none,eO P "__loader__" 168 (.builtin "__main__.__loader__#opaque"),eO P "__spec__" 169 .none,eR P "__annotations__" 170 6,eR P "__builtins__" 171 4,eO P "__file__" 173 (.str "/claim/cut.py" 172),eO P "__cached__" 174 .none,eR P "SnakeError" 206 24,eR P "BadText" 231 44,eO P "MOST_DEEP" 235 (.int 12 234),eO P "MOST_PARTS" 237 (.int 60 236),eO P "MOST_BRACKETS" 239 (.int 12 238),eO P "MOST_VALUES" 241 (.int 4 240),eR P "END" 244 47,eR P "OPENING" 247 48,eR P "CLOSING" 250 49,eR P "COMMA" 253 50,eR P "DOT" 256 51,eR P "NOT" 259 52,eR P "MINUS" 262 53,eR P "OR_SIGNS" 265 55,eR P "AND_SIGNS" 268 57,eR P "COMPARE_SIGNS" 281 64,eR P "SUM_SIGNS" 286 67,eR P "PRODUCT_SIGNS" 295 72,eR P "TOLD_VALUES" 305 73,eR P "Row" 380 129,eR P "sized" 386 138,eR P "parted" 395 145,eR P "in_brackets" 404 152,eR P "perhaps_parted" 411 159,eR P "values_in_brackets" 420 166,eR P "read_single" 428 173,eR P "read_call" 434 178,eR P "read_reach" 442 185,eR P "read_repeated" 455 192,eR P "read_pair" 467 199,eR P "read_from_left" 478 206,eR P "read_minus" 485 213,eR P "read_product" 492 220,eR P "read_sum" 499 227,eR P "read_compare" 507 234,eR P "read_not" 514 241,eR P "read_and" 521 248,eR P "read_or" 528 255,eR P "read_expression" 535 262,eR P "read_values" 541 267,eO P "LETTERS" 545 (.str "abcdefghijklmnopqrstuvwxyzABCDEFGHIJKLMNOPQRSTUVWXYZ" 544),eO P "FIGURES" 547 (.str "0123456789" 546),eR P "TOLD_WORDS" 575 268,eR P "SHORT_MARKS" 589 269,eR P "LONG_MARKS" 598 270,eO P "MOST_NAME_SIGNS" 600 (.int 12 599),eO P "MOST_FIGURES" 602 (.int 12 601),eO P "MOST_TEXT_SIGNS" 604 (.int 40 603),eO P "BLANKS_OF_BLOCK" 606 (.int 4 605),eO P "MOST_BLOCKS" 608 (.int 12 607),eR P "is_word_sign" 615 277,eR P "is_name" 621 282,eR P "is_number" 627 287,eR P "is_text_literal" 633 292,eR P "word_of" 640 299,eR P "behind_literal" 649 306,eR P "behind_word_signs" 658 313,eR P "behind_piece" 666 320,eR P "words_of" 677 327,eR P "indent_of" 686 334,eR P "rows_of" 697 341,eO P "MOST_SIGNS" 701 (.int 4000 700),eO P "MOST_ROWS" 703 (.int 200 702),eO P "MOST_STATEMENTS" 705 (.int 150 704),eO P "MOST_ELIFS" 707 (.int 8 706),eO P "MOST_PARAMS" 709 (.int 4 708),eO P "MOST_ELDERS" 711 (.int 3 710),eR P "COLON" 714 342,eR P "EQUALS" 717 343,eR P "SETTING_MARKS" 726 348,eR P "AS" 729 349,eR P "FROM" 732 350,eR P "IN" 735 351,eR P "YIELD" 738 352,eR P "OPENERS" 745 353,eR P "CLAUSES" 750 354,eR P "read_name" 757 361,eR P "read_param" 765 368,eR P "read_params" 771 373,eR P "read_catch" 779 380,eR P "read_for" 787 387,eR P "read_head" 796 394,eR P "read_raise" 804 401,eR P "read_told" 812 408,eR P "read_binding" 821 415,eR P "read_doing" 830 422,eR P "read_single_row" 838 429,eR P "may_follow" 847 436,eR P "block_of" 853 441,eR P "tree_of_try" 859 446,eR P "tree_of" 869 453,eR P "Level" 913 484,eR P "Reader" 1010 554,eR P "read" 1022 565,eR P "_law_cell_at" 1032 572,eR P "_law_cell" 1042 579,eR P "_law_name" 1048 584,eR P "_law_told" 1055 591,eR P "_law_least" 1061 596,eR P "_law_tree" 1067 601,eR P "_law_rank" 1074 608,eR P "_law_put" 1086 615,eR P "_law_text" 1092 620,eR P "_law_read" 1100 627,eR P "_law_fits" 1112 634,eR P "_law_parts" 1118 639,eR P "_law_bound" 1127 646,eR P "_law_shape" 1136 653,eR P "law" 1157 660] 118) 67).take 661
abbrev pr9:Program:=r9.row.prog
noncomputable def env9:Env:={ scope:=pr9.main.scope,locals:=mainNs,globals:=mainNs,cells:=[],code:=.ref 13,frame:=some 14 }
abbrev b9:List Stmt:=W.behindTheImports pr9
abbrev c9:Code:=.body b9 env9
abbrev z9:Pos:=⟨0,0,0,0⟩
abbrev tf9:List Frame:=[W.topFrame z9]
noncomputable def st9 (l:List Obj) (n t:Nat) (os:OsState):W.SharedT:=⟨bt 12 l,n,{},#[],{},t,os⟩
def lA:List Stmt:=p9.main.body.take 16
def lC:List Stmt:=(p9.main.body.drop 16).take 5
def lB:List Stmt:=(p9.main.body.drop 21).take 68
def lD:List Stmt:=p9.main.body.drop 89
noncomputable def K9h (P:Params):W.Frag:=(nat_lit 2,⟨.none,none,.dict #[] 0,#[]⟩)::(nat_lit 3,dO [eO P "__name__" 165 (.str "law_grassnake_k03_expressions" 1023),eO P "__doc__" 166 .none,eO P "__package__" 167 .none,eO P "__loader__" 168 (.builtin "__main__.__loader__#opaque"),eO P "__spec__" 169 .none,eR P "__annotations__" 170 6,eR P "__builtins__" 171 4,eO P "__file__" 173 (.str "/claim/cut.py" 172),eO P "__cached__" 174 .none,eR P "SnakeError" 206 24,eR P "BadText" 231 44,eO P "MOST_DEEP" 235 (.int 12 234),eO P "MOST_PARTS" 237 (.int 60 236),eO P "MOST_BRACKETS" 239 (.int 12 238),eO P "MOST_VALUES" 241 (.int 4 240),eR P "END" 244 47,eR P "OPENING" 247 48,eR P "CLOSING" 250 49,eR P "COMMA" 253 50,eR P "DOT" 256 51,eR P "NOT" 259 52,eR P "MINUS" 262 53,eR P "OR_SIGNS" 265 55,eR P "AND_SIGNS" 268 57,eR P "COMPARE_SIGNS" 281 64,eR P "SUM_SIGNS" 286 67,eR P "PRODUCT_SIGNS" 295 72,eR P "TOLD_VALUES" 305 73,eR P "Row" 380 129,eR P "sized" 386 138,eR P "parted" 395 145,eR P "in_brackets" 404 152,eR P "perhaps_parted" 411 159,eR P "values_in_brackets" 420 166,eR P "read_single" 428 173,eR P "read_call" 434 178,eR P "read_reach" 442 185,eR P "read_repeated" 455 192,eR P "read_pair" 467 199,eR P "read_from_left" 478 206,eR P "read_minus" 485 213,eR P "read_product" 492 220,eR P "read_sum" 499 227,eR P "read_compare" 507 234,eR P "read_not" 514 241,eR P "read_and" 521 248,eR P "read_or" 528 255,eR P "read_expression" 535 262,eR P "read_values" 541 267,eO P "LETTERS" 545 (.str "abcdefghijklmnopqrstuvwxyzABCDEFGHIJKLMNOPQRSTUVWXYZ" 544),eO P "FIGURES" 547 (.str "0123456789" 546),eR P "TOLD_WORDS" 575 268,eR P "SHORT_MARKS" 589 269,eR P "LONG_MARKS" 598 270,eO P "MOST_NAME_SIGNS" 600 (.int 12 599),eO P "MOST_FIGURES" 602 (.int 12 601),eO P "MOST_TEXT_SIGNS" 604 (.int 40 603),eO P "BLANKS_OF_BLOCK" 606 (.int 4 605),eO P "MOST_BLOCKS" 608 (.int 12 607),eR P "is_word_sign" 615 277,eR P "is_name" 621 282,eR P "is_number" 627 287,eR P "is_text_literal" 633 292,eR P "word_of" 640 299,eR P "behind_literal" 649 306,eR P "behind_word_signs" 658 313,eR P "behind_piece" 666 320,eR P "words_of" 677 327,eR P "indent_of" 686 334,eR P "rows_of" 697 341,eO P "MOST_SIGNS" 701 (.int 4000 700),eO P "MOST_ROWS" 703 (.int 200 702),eO P "MOST_STATEMENTS" 705 (.int 150 704),eO P "MOST_ELIFS" 707 (.int 8 706),eO P "MOST_PARAMS" 709 (.int 4 708),eO P "MOST_ELDERS" 711 (.int 3 710),eR P "COLON" 714 342,eR P "EQUALS" 717 343,eR P "SETTING_MARKS" 726 348,eR P "AS" 729 349,eR P "FROM" 732 350,eR P "IN" 735 351,eR P "YIELD" 738 352,eR P "OPENERS" 745 353,eR P "CLAUSES" 750 354,eR P "read_name" 757 361,eR P "read_param" 765 368,eR P "read_params" 771 373,eR P "read_catch" 779 380,eR P "read_for" 787 387,eR P "read_head" 796 394,eR P "read_raise" 804 401,eR P "read_told" 812 408,eR P "read_binding" 821 415,eR P "read_doing" 830 422,eR P "read_single_row" 838 429,eR P "may_follow" 847 436,eR P "block_of" 853 441,eR P "tree_of_try" 859 446,eR P "tree_of" 869 453,eR P "Level" 913 484,eR P "Reader" 1010 554,eR P "read" 1022 565,eR P "_law_cell_at" 1032 572,eR P "_law_cell" 1042 579,eR P "_law_name" 1048 584,eR P "_law_told" 1055 591,eR P "_law_least" 1061 596,eR P "_law_tree" 1067 601,eR P "_law_rank" 1074 608,eR P "_law_put" 1086 615,eR P "_law_text" 1092 620,eR P "_law_read" 1100 627,eR P "_law_fits" 1112 634,eR P "_law_parts" 1118 639,eR P "_law_bound" 1127 646,eR P "_law_shape" 1136 653,eR P "law" 1157 660] 118)::(nat_lit 23,dO [eO P "__module__" 196 (.str "grassnake.errors" 187),eO P "__firstlineno__" 200 (.int 2 199),eR P "__static_attributes__" 201 22,eR P "__weakref__" 203 25,eO P "__doc__" 204 .none] 3)::(nat_lit 24,kO "SnakeError" [(.type "ValueError")] [(.ref 24),(.type "ValueError"),(.type "Exception"),(.type "BaseException"),(.type "object")] 23 [(.ref 44)] #[some (.ref 15),none,some (.str "SnakeError" 189),some (.str "SnakeError" 197),some (.builtin "ValueError.__new__"),some (.bool true)])::(nat_lit 40,cO 40 true "__init__" "BadText.__init__" 219 6 2 224)::(nat_lit 41,fm1 (iC 0 (tp9 2)) "__init__" "BadText.__init__" 40)::(nat_lit 43,dO [eO P "__module__" 214 (.str "grassnake.errors" 187),eO P "__firstlineno__" 218 (.int 4 217),eR P "__init__" 226 41,eR P "__static_attributes__" 228 42,eO P "__doc__" 229 .none] 2)::(nat_lit 44,kO "BadText" [(.ref 24)] [(.ref 44),(.ref 24),(.type "ValueError"),(.type "Exception"),(.type "BaseException"),(.type "object")] 43 [] #[some (.ref 28),none,some (.str "BadText" 207),some (.str "BadText" 215),some (.builtin "ValueError.__new__"),some (.bool true)])::(nat_lit 47,tO [(.str "end" 242),(.str "" 243)])::(nat_lit 48,tO [(.str "mark" 245),(.str "(" 246)])::(nat_lit 49,tO [(.str "mark" 248),(.str ")" 249)])::(nat_lit 50,tO [(.str "mark" 251),(.str "," 252)])::(nat_lit 51,tO [(.str "mark" 254),(.str "." 255)])::(nat_lit 52,tO [(.str "told" 257),(.str "not" 258)])::(nat_lit 53,tO [(.str "mark" 260),(.str "-" 261)])::(nat_lit 54,tO [(.str "told" 263),(.str "or" 264)])::(nat_lit 55,tO [(.ref 54)])::(nat_lit 56,tO [(.str "told" 266),(.str "and" 267)])::(nat_lit 57,tO [(.ref 56)])::(nat_lit 58,tO [(.str "mark" 269),(.str "<" 270)])::(nat_lit 59,tO [(.str "mark" 271),(.str "<=" 272)])::(nat_lit 60,tO [(.str "mark" 273),(.str ">" 274)])::(nat_lit 61,tO [(.str "mark" 275),(.str ">=" 276)])::(nat_lit 62,tO [(.str "mark" 277),(.str "==" 278)])::(nat_lit 63,tO [(.str "mark" 279),(.str "!=" 280)])::(nat_lit 64,tO [(.ref 58),(.ref 59),(.ref 60),(.ref 61),(.ref 62),(.ref 63)])::(nat_lit 65,tO [(.str "mark" 282),(.str "+" 283)])::(nat_lit 66,tO [(.str "mark" 284),(.str "-" 285)])::(nat_lit 67,tO [(.ref 65),(.ref 66)])::(nat_lit 68,tO [(.str "mark" 287),(.str "*" 288)])::(nat_lit 69,tO [(.str "mark" 289),(.str "//" 290)])::(nat_lit 70,tO [(.str "mark" 291),(.str "&" 292)])::(nat_lit 71,tO [(.str "mark" 293),(.str "|" 294)])::(nat_lit 72,tO [(.ref 68),(.ref 69),(.ref 70),(.ref 71)])::(nat_lit 73,dO [eR P "True" 296 74,eR P "False" 298 75,eR P "None" 300 76] 3)::(nat_lit 74,tO [(.str "truth" 297),(.bool true)])::(nat_lit 75,tO [(.str "truth" 299),(.bool false)])::(nat_lit 76,tO [(.str "none" 301)])::(nat_lit 89,cO 89 true "__init__" "Row.__init__" 318 29 3 324)::(nat_lit 90,fm2 (iC 0 (tp9 21)) "__init__" "Row.__init__" 89)::(nat_lit 91,tO [(.int 0 327)])::(nat_lit 97,cO 97 true "seen" "Row.seen" 328 35 2 334)::(nat_lit 98,fD "grassnake.expressions" 232 (iC 1 (tp9 21)) "seen" "Row.seen" 97 91)::(nat_lit 104,cO 104 true "taken" "Row.taken" 337 39 1 342)::(nat_lit 105,fm2 (iC 2 (tp9 21)) "taken" "Row.taken" 104)::(nat_lit 111,cO 111 true "skips" "Row.skips" 345 44 2 350)::(nat_lit 112,fm2 (iC 3 (tp9 21)) "skips" "Row.skips" 111)::(nat_lit 118,cO 118 true "wants" "Row.wants" 353 50 2 358)::(nat_lit 119,fm2 (iC 4 (tp9 21)) "wants" "Row.wants" 118)::(nat_lit 125,cO 125 true "wants_name" "Row.wants_name" 361 54 1 366)::(nat_lit 126,fm2 (iC 5 (tp9 21)) "wants_name" "Row.wants_name" 125)::(nat_lit 128,dO [eO P "__module__" 313 (.str "grassnake.expressions" 232),eO P "__firstlineno__" 317 (.int 27 316),eR P "__init__" 326 90,eR P "seen" 336 98,eR P "taken" 344 105,eR P "skips" 352 112,eR P "wants" 360 119,eR P "wants_name" 368 126,eR P "__static_attributes__" 373 127,eR P "__dict__" 375 130,eR P "__weakref__" 377 131,eO P "__doc__" 378 .none] 4)::(nat_lit 129,kO "Row" [(.type "object")] [(.ref 129),(.type "object")] 128 [] #[none,none,some (.str "Row" 306),some (.str "Row" 314),some (.builtin "object.__new__"),some (.bool true)])::(nat_lit 137,oF 137 "sized" 381 59 3 384)::(nat_lit 138,fn2 22 "sized" 137)::(nat_lit 144,oT 144 "parted" 387 65 2 393)::(nat_lit 145,fn2 23 "parted" 144)::(nat_lit 151,oT 151 "in_brackets" 396 70 2 402)::(nat_lit 152,fn2 24 "in_brackets" 151)::(nat_lit 158,oT 158 "perhaps_parted" 405 79 1 409)::(nat_lit 159,fn2 25 "perhaps_parted" 158)::(nat_lit 165,oT 165 "values_in_brackets" 412 81 2 418)::(nat_lit 166,fn2 26 "values_in_brackets" 165)::(nat_lit 172,oT 172 "read_single" 421 86 1 426)::(nat_lit 173,fn2 27 "read_single" 172)::(nat_lit 177,oF 177 "read_call" 429 96 2 432)::(nat_lit 178,fn2 28 "read_call" 177)::(nat_lit 184,oT 184 "read_reach" 435 99 1 440)::(nat_lit 185,fn2 29 "read_reach" 184)::(nat_lit 191,oT 191 "read_repeated" 443 107 4 453)::(nat_lit 192,fn2 30 "read_repeated" 191)::(nat_lit 198,oT 198 "read_pair" 456 115 4 465)::(nat_lit 199,fn2 31 "read_pair" 198)::(nat_lit 205,oT 205 "read_from_left" 468 119 4 476)::(nat_lit 206,fn2 32 "read_from_left" 205)::(nat_lit 212,oT 212 "read_minus" 479 124 1 483)::(nat_lit 213,fn2 33 "read_minus" 212)::(nat_lit 219,oT 219 "read_product" 486 126 1 490)::(nat_lit 220,fn2 34 "read_product" 219)::(nat_lit 226,oT 226 "read_sum" 493 128 1 497)::(nat_lit 227,fn2 35 "read_sum" 226)::(nat_lit 233,oT 233 "read_compare" 500 130 1 505)::(nat_lit 234,fn2 36 "read_compare" 233)::(nat_lit 240,oT 240 "read_not" 508 133 1 512)::(nat_lit 241,fn2 37 "read_not" 240)::(nat_lit 247,oT 247 "read_and" 515 135 1 519)::(nat_lit 248,fn2 38 "read_and" 247)::(nat_lit 254,oT 254 "read_or" 522 137 1 526)::(nat_lit 255,fn2 39 "read_or" 254)::(nat_lit 261,oT 261 "read_expression" 529 139 1 533)::(nat_lit 262,fn2 40 "read_expression" 261)::(nat_lit 268,tO [(.str "and" 548),(.str "as" 549),(.str "break" 550),(.str "class" 551),(.str "continue" 552),(.str "def" 553),(.str "elif" 554),(.str "else" 555),(.str "except" 556),(.str "False" 557),(.str "finally" 558),(.str "for" 559),(.str "from" 560),(.str "global" 561),(.str "if" 562),(.str "in" 563),(.str "None" 564),(.str "nonlocal" 565),(.str "not" 566),(.str "or" 567),(.str "pass" 568),(.str "raise" 569),(.str "return" 570),(.str "True" 571),(.str "try" 572),(.str "while" 573),(.str "yield" 574)])::(nat_lit 269,tO [(.str "+" 576),(.str "-" 577),(.str "*" 578),(.str "&" 579),(.str "|" 580),(.str "<" 581),(.str ">" 582),(.str "=" 583),(.str "(" 584),(.str ")" 585),(.str "," 586),(.str "." 587),(.str ":" 588)])::(nat_lit 270,tO [(.str "//" 590),(.str "<=" 591),(.str ">=" 592),(.str "==" 593),(.str "!=" 594),(.str "+=" 595),(.str "-=" 596),(.str "*=" 597)])::(nat_lit 276,oT 276 "is_word_sign" 609 154 1 613)::(nat_lit 277,fn3 53 "is_word_sign" 276)::(nat_lit 281,oF 281 "is_name" 616 156 1 619)::(nat_lit 282,fn3 54 "is_name" 281)::(nat_lit 286,oF 286 "is_number" 622 162 1 625)::(nat_lit 287,fn3 55 "is_number" 286)::(nat_lit 291,oF 291 "is_text_literal" 628 166 1 631)::(nat_lit 292,fn3 56 "is_text_literal" 291)::(nat_lit 298,oT 298 "word_of" 634 170 1 638)::(nat_lit 299,fn3 57 "word_of" 298)::(nat_lit 305,oT 305 "behind_literal" 641 182 2 647)::(nat_lit 306,fn3 58 "behind_literal" 305)::(nat_lit 312,oT 312 "behind_word_signs" 650 185 2 656)::(nat_lit 313,fn3 59 "behind_word_signs" 312)::(nat_lit 319,oT 319 "behind_piece" 659 190 2 664)::(nat_lit 320,fn3 60 "behind_piece" 319)::(nat_lit 326,oT 326 "words_of" 667 196 1 675)::(nat_lit 327,fn3 61 "words_of" 326)::(nat_lit 333,oT 333 "indent_of" 678 210 1 684)::(nat_lit 334,fn3 62 "indent_of" 333)::(nat_lit 340,oT 340 "rows_of" 687 216 1 695)::(nat_lit 341,fn3 63 "rows_of" 340)::(nat_lit 342,tO [(.str "mark" 712),(.str ":" 713)])::(nat_lit 343,tO [(.str "mark" 715),(.str "=" 716)])::(nat_lit 344,tO [(.str "mark" 718),(.str "=" 719)])::(nat_lit 345,tO [(.str "mark" 720),(.str "+=" 721)])::(nat_lit 346,tO [(.str "mark" 722),(.str "-=" 723)])::(nat_lit 347,tO [(.str "mark" 724),(.str "*=" 725)])::(nat_lit 348,tO [(.ref 344),(.ref 345),(.ref 346),(.ref 347)])::(nat_lit 352,tO [(.str "told" 736),(.str "yield" 737)])::(nat_lit 353,tO [(.str "def" 739),(.str "class" 740),(.str "if" 741),(.str "while" 742),(.str "for" 743),(.str "try" 744)])::(nat_lit 354,tO [(.str "elif" 746),(.str "else" 747),(.str "except" 748),(.str "finally" 749)])::(nat_lit 393,oT 393 "read_head" 788 261 2 794)::(nat_lit 394,fn4 85 "read_head" 393)::(nat_lit 407,oT 407 "read_told" 805 280 2 810)::(nat_lit 408,fn4 87 "read_told" 407)::(nat_lit 414,oT 414 "read_binding" 813 290 1 819)::(nat_lit 415,fn4 88 "read_binding" 414)::(nat_lit 421,oT 421 "read_doing" 822 298 1 828)::(nat_lit 422,fn4 89 "read_doing" 421)::(nat_lit 428,oT 428 "read_single_row" 831 306 1 836)::(nat_lit 429,fn4 90 "read_single_row" 428)::(nat_lit 452,oT 452 "tree_of" 860 332 1 867)::(nat_lit 453,fn4 94 "tree_of" 452)::(nat_lit 466,cO 466 true "__init__" "Level.__init__" 882 347 1 886)::(nat_lit 467,fm4 (iC 0 (tp9 95)) "__init__" "Level.__init__" 466)::(nat_lit 473,cO 473 true "is_empty" "Level.is_empty" 889 351 1 893)::(nat_lit 474,fm4 (iC 1 (tp9 95)) "is_empty" "Level.is_empty" 473)::(nat_lit 480,cO 480 true "settle" "Level.settle" 896 354 2 901)::(nat_lit 481,fm4 (iC 2 (tp9 95)) "settle" "Level.settle" 480)::(nat_lit 483,dO [eO P "__module__" 877 (.str "grassnake.reading" 698),eO P "__firstlineno__" 881 (.int 345 880),eR P "__init__" 888 467,eR P "is_empty" 895 474,eR P "settle" 903 481,eR P "__static_attributes__" 906 482,eR P "__dict__" 908 485,eR P "__weakref__" 910 486,eO P "__doc__" 911 .none] 4)::(nat_lit 484,kO "Level" [(.type "object")] [(.ref 484),(.type "object")] 483 [] #[none,none,some (.str "Level" 870),some (.str "Level" 878),some (.builtin "object.__new__"),some (.bool true)])::(nat_lit 501,cO 501 true "__init__" "Reader.__init__" 926 363 1 930)::(nat_lit 502,fm4 (iC 0 (tp9 96)) "__init__" "Reader.__init__" 501)::(nat_lit 508,cO 508 true "close" "Reader.close" 933 367 3 941)::(nat_lit 509,fm4 (iC 1 (tp9 96)) "close" "Reader.close" 508)::(nat_lit 515,cO 515 true "add_statement" "Reader.add_statement" 944 375 2 949)::(nat_lit 516,fm4 (iC 2 (tp9 96)) "add_statement" "Reader.add_statement" 515)::(nat_lit 522,cO 522 true "begin_block" "Reader.begin_block" 952 380 2 960)::(nat_lit 523,fm4 (iC 3 (tp9 96)) "begin_block" "Reader.begin_block" 522)::(nat_lit 536,cO 536 true "take_statement" "Reader.take_statement" 972 396 2 978)::(nat_lit 537,fm4 (iC 5 (tp9 96)) "take_statement" "Reader.take_statement" 536)::(nat_lit 543,cO 543 true "take_row" "Reader.take_row" 981 405 4 990)::(nat_lit 544,fm4 (iC 6 (tp9 96)) "take_row" "Reader.take_row" 543)::(nat_lit 550,cO 550 true "finished" "Reader.finished" 993 417 2 998)::(nat_lit 551,fm4 (iC 7 (tp9 96)) "finished" "Reader.finished" 550)::(nat_lit 553,dO [eO P "__module__" 921 (.str "grassnake.reading" 698),eO P "__firstlineno__" 925 (.int 361 924),eR P "__init__" 932 502,eR P "close" 943 509,eR P "add_statement" 951 516,eR P "begin_block" 962 523,eR P "take_clause" 971 530,eR P "take_statement" 980 537,eR P "take_row" 992 544,eR P "finished" 1000 551,eR P "__static_attributes__" 1003 552,eR P "__dict__" 1005 555,eR P "__weakref__" 1007 556,eO P "__doc__" 1008 .none] 4)::(nat_lit 554,kO "Reader" [(.type "object")] [(.ref 554),(.type "object")] 553 [] #[none,none,some (.str "Reader" 914),some (.str "Reader" 922),some (.builtin "object.__new__"),some (.bool true)])::(nat_lit 564,oT 564 "read" 1011 421 1 1020)::(nat_lit 565,fn4 97 "read" 564)::(nat_lit 571,oT 571 "_law_cell_at" 1025 432 2 1030)::(nat_lit 572,fn5 99 "_law_cell_at" 571)::(nat_lit 578,oT 578 "_law_cell" 1033 436 2 1040)::(nat_lit 579,fn5 100 "_law_cell" 578)::(nat_lit 583,oF 583 "_law_name" 1043 443 1 1046)::(nat_lit 584,fn5 101 "_law_name" 583)::(nat_lit 590,oT 590 "_law_told" 1049 451 0 1053)::(nat_lit 591,fn5 102 "_law_told" 590)::(nat_lit 595,oF 595 "_law_least" 1056 454 1 1059)::(nat_lit 596,fn5 103 "_law_least" 595)::(nat_lit 600,oF 600 "_law_tree" 1062 462 3 1065)::(nat_lit 601,fn5 104 "_law_tree" 600)::(nat_lit 607,oT 607 "_law_rank" 1068 481 1 1072)::(nat_lit 608,fn5 105 "_law_rank" 607)::(nat_lit 614,oT 614 "_law_put" 1075 487 3 1084)::(nat_lit 615,fn5 106 "_law_put" 614)::(nat_lit 619,oF 619 "_law_text" 1087 496 2 1090)::(nat_lit 620,fn5 107 "_law_text" 619)::(nat_lit 626,oT 626 "_law_read" 1093 514 1 1098)::(nat_lit 627,fn5 108 "_law_read" 626)::(nat_lit 633,oT 633 "_law_fits" 1101 519 2 1110)::(nat_lit 634,fn5 109 "_law_fits" 633)::(nat_lit 638,oF 638 "_law_parts" 1113 527 1 1116)::(nat_lit 639,fn5 110 "_law_parts" 638)::(nat_lit 645,oT 645 "_law_bound" 1119 535 1 1125)::(nat_lit 646,fn5 111 "_law_bound" 645)::(nat_lit 652,oT 652 "_law_shape" 1128 551 3 1134)::(nat_lit 653,fn5 112 "_law_shape" 652)::(nat_lit 659,oT 659 "law" 1137 561 1 1155)::(nat_lit 660,fn5 113 "law" 659)::[]
noncomputable def asK9h:List Nat:=[2,3,23,24,40,41,43,44,47,48,49,50,51,52,53,54,55,56,57,58,59,60,61,62,63,64,65,66,67,68,69,70,71,72,73,74,75,76,89,90,91,97,98,104,105,111,112,118,119,125,126,128,129,137,138,144,145,151,152,158,159,165,166,172,173,177,178,184,185,191,192,198,199,205,206,212,213,219,220,226,227,233,234,240,241,247,248,254,255,261,262,268,269,270,276,277,281,282,286,287,291,292,298,299,305,306,312,313,319,320,326,327,333,334,340,341,342,343,344,345,346,347,348,352,353,354,393,394,407,408,414,415,421,422,428,429,452,453,466,467,473,474,480,481,483,484,501,502,508,509,515,516,522,523,536,537,543,544,550,551,553,554,564,565,571,572,578,579,583,584,590,591,595,596,600,601,607,608,614,615,619,620,626,627,633,634,638,639,645,646,652,653,659,660]
noncomputable def lo9:List Str:=(["SnakeError","BadText","MOST_DEEP","MOST_PARTS","MOST_BRACKETS","MOST_VALUES","END","OPENING","CLOSING","COMMA","DOT","NOT","MINUS","OR_SIGNS","AND_SIGNS","COMPARE_SIGNS","SUM_SIGNS","PRODUCT_SIGNS","TOLD_VALUES","Row","sized","parted","in_brackets","perhaps_parted","values_in_brackets","read_single","read_call","read_reach","read_repeated","read_pair","read_from_left","read_minus","read_product","read_sum","read_compare","read_not","read_and","read_or","read_expression","read_values","LETTERS","FIGURES","TOLD_WORDS","SHORT_MARKS","LONG_MARKS","MOST_NAME_SIGNS","MOST_FIGURES","MOST_TEXT_SIGNS","BLANKS_OF_BLOCK","MOST_BLOCKS","is_word_sign","is_name","is_number","is_text_literal","word_of","behind_literal","behind_word_signs","behind_piece","words_of","indent_of","rows_of","MOST_SIGNS","MOST_ROWS","MOST_STATEMENTS","MOST_ELIFS","MOST_PARAMS","MOST_ELDERS","COLON","EQUALS","SETTING_MARKS","AS","FROM","IN","YIELD","OPENERS","CLAUSES","read_name","read_param","read_params","read_catch","read_for","read_head","read_raise","read_told","read_binding","read_doing","read_single_row","may_follow","block_of","tree_of_try","tree_of","Level","Reader","read","_law_cell_at","_law_cell","_law_name","_law_told","_law_least","_law_tree","_law_rank","_law_put","_law_text","_law_read","_law_fits","_law_parts","_law_bound","_law_shape"]:List String).map Str.ofString
theorem eK9h (P:Params):asK9h=(K9h P).map (·.1):=by kernel_rfl
noncomputable def q9:Program:={ p9 with main:={ p9.main with body:=[113].filterMap λi=>p9.main.body[i]? } }
end
end GS
set_option Elab.async false
set_option linter.all false
set_option maxRecDepth 100000
set_option maxHeartbeats 4000000
namespace GS
open PySem
noncomputable section
theorem pre9 (w:World) (os:OsState):W.topGo treeTable pr9 w 11 (some (.ref 6)) 12 ⟨W.boot_heap w.params,#[],W.boot_drawn,W.boot_toks,os⟩ (W.topStub pr9)=some (⟨⟨(l0 w.params).toArray,{}⟩,#[],{},187,os⟩,⟨denote treeTable c9,c9,z9,tf9⟩):=by kernel_rfl
theorem blk9 (w:World) (os:OsState):W.segRun treeTable pr9 w 11 (some (.ref 6)) 1 1 ⟨⟨(l0 w.params).toArray,{}⟩,#[],{},187,os⟩ (W.blockOf b9 env9 c9 z9 tf9)=some (.next,(st9 (l0 w.params) 15 187 os).abs,c9,z9):=by kernel_rfl
theorem pA9 (w:World) (os:OsState):W.segRunT treeTable pr9 w 11 (some (.ref 6)) 1 585 (st9 (l0 w.params) 15 187 os) (W.piecesOf lA env9 c9 z9 tf9)=some (.next,st9 (l1 w.params) 56 266 os,c9,⟨21,0,21,8⟩):=by kernel_rfl
def qC (os:OsState) (w:World):Prop:=W.segRunT treeTable pr9 w 11 (some (.ref 6)) 1 154 (st9 (l1 w.params) 56 266 os) (W.piecesOf lC env9 c9 ⟨21,0,21,8⟩ tf9)=some (.next,st9 (l2 w.params) 77 306 os,c9,⟨26,0,26,11⟩)
theorem pCf (os:OsState) (w:World):qC os (w.withFollow "special-get-raises" false):=by unfold qC; kernel_rfl
theorem pCt (os:OsState) (w:World):qC os (w.withFollow "special-get-raises" true):=by unfold qC; kernel_rfl
theorem pB9 (w:World) (os:OsState):W.segRunT treeTable pr9 w 11 (some (.ref 6)) 1 1922 (st9 (l2 w.params) 77 306 os) (W.piecesOf lB env9 c9 ⟨26,0,26,11⟩ tf9)=some (.next,st9 (l3 w.params) 416 822 os,c9,⟨290,0,297,46⟩):=by kernel_rfl
theorem pD9 (w:World) (os:OsState):W.segRunT treeTable pr9 w 11 (some (.ref 6)) 1 1420 (st9 (l3 w.params) 416 822 os) (W.piecesOf lD env9 c9 ⟨290,0,297,46⟩ tf9)=some (.next,st9 (l4 w.params) 661 1158 os,c9,⟨561,0,588,103⟩):=by kernel_rfl
theorem fin9 (w:World) (os:OsState):W.topRun treeTable pr9 w 11 (some (.ref 6)) 2 (st9 (l4 w.params) 661 1158 os).abs ⟨W.doneF .next,c9,⟨561,0,588,103⟩,tf9⟩=some ⟨⟨(l4 w.params).toArray,{}⟩,#[],{},1158,os⟩:=by kernel_rfl
theorem eb9:b9=lA++(lC++(lB++(lD++[]))):=by kernel_rfl
theorem run9 (w:World) (os:OsState):W.topRun treeTable pr9 w 11 (some (.ref 6)) (12+(1+(585+(154+(1922+(1420+2)))))) ⟨W.boot_heap w.params,#[],W.boot_drawn,W.boot_toks,os⟩ (W.topStub pr9)=some ⟨⟨(l4 w.params).toArray,{}⟩,#[],{},1158,os⟩:=by
  refine W.go_top (pre9 w os) (W.piece_block (blk9 w os) ?_)
  have e:W.restOf b9 env9 c9 z9 tf9=W.restOf (lA++(lC++(lB++(lD++[])))) env9 c9 z9 tf9:=congrArg (λl=>W.restOf l env9 c9 z9 tf9) eb9
  rw [e]
  exact W.piece_app (W.segRun_of (pA9 w os)) (W.piece_app (W.segRun_of (W.byRow2 "special-get-raises" (pCf os) (pCt os) w)) (W.piece_app (W.segRun_of (pB9 w os)) (W.piece_app (W.segRun_of (pD9 w os)) (W.piece_nil (fin9 w os)))))
theorem left9:W.LeftO pr9 q9 lo9 (λs=>W.xlAt q9 [] s && W.recOk (W.RowW.records (W.OpenRow.toRowW (W.OpenLaw.row r9))) s) (W.Hook.obs (W.kHook K9h asK9h eK9h)) (W.Hook.val (W.kHook K9h asK9h eK9h)) 8262 :=
  W.LeftO.of_pieces (M:=12+(1+(585+(154+(1922+(1420+2)))))) (H₀:=λP=>W.boot_heap P) (H₁:=λP=>⟨(l4 P).toArray,{}⟩) (W.boot_open (by kernel_rfl) rfl (λs=>by rfl)) (λw=>by kernel_rfl) run9 rfl (λw=>by kernel_rfl)
end
end GS
set_option Elab.async false
set_option linter.all false
set_option maxRecDepth 100000
set_option maxHeartbeats 4000000
namespace GS
open PySem
noncomputable section
theorem ba9 {a b:Bool} (h:a=true) (k:b=true):(a && b)=true:=by rw [h,k]; rfl
theorem said9:r9.wellSaid=true:=by
  unfold W.OpenLaw.wellSaid W.OpenRow.wellSaid W.OpenRow.partSaid W.looksOpen
  refine (ba9 (ba9 (ba9 (ba9 (ba9 (ba9 (ba9 (ba9 (ba9 (ba9 (ba9 (ba9 (ba9 (ba9 (ba9 (ba9 (ba9 (ba9 (ba9 (ba9 (ba9 (ba9 (ba9 (ba9 (ba9 (ba9 (ba9 (ba9 (ba9 (ba9 (ba9 (ba9 (ba9 (ba9 (ba9 (ba9 (ba9 (ba9 ?_ ?_) ?_) ?_) ?_) ?_) ?_) ?_) ?_) ?_) ?_) ?_) ?_) ?_) ?_) ?_) ?_) ?_) ?_) ?_) ?_) ?_) ?_) ?_) ?_) ?_) ?_) ?_) ?_) ?_) ?_) ?_) ?_) ?_) ?_) ?_) ?_) ?_) ?_)
  all_goals decide +kernel
end
end GS
def I {cC:Sort _}{a:cC}:a=a:=rfl
abbrev dH:=List PySem.Str
abbrev cn:=Option PySem.Value
abbrev eU:=List (PySem.Addr×PySem.Obj)
abbrev e3:=List PySem.Value
abbrev gY:=List PySem.Expr
abbrev bh:=List Nat
abbrev gd:=List PySem.Addr
abbrev rL:=List PySem.Keyword
abbrev vi:=List PySem.Stmt
abbrev oy:=List PySem.Env
abbrev iU:=Option Int
abbrev tf:=Option PySem.Addr
abbrev cD:List PySem.Str:=["row"]
abbrev vj:List PySem.Str:=["_law_tree_here","_law_least_here","_law_more"]
abbrev kN:List PySem.Str:=["self","number"]
abbrev rM:List PySem.Str:=["row","kind","signs","inner"]
abbrev mP:List PySem.Str:=["self","further"]
abbrev lr:List PySem.Str:=["self","word"]
abbrev vk:List PySem.Str:=["_law_cells","_law_spot","_law_deep"]
abbrev mQ:List PySem.Str:=["_law_tree_here"]
abbrev qy:List PySem.Str:=["row","tree","inner"]
abbrev ls:List PySem.Str:=["self","at"]
abbrev vl:List PySem.Str:=["row","kind","left","inner"]
abbrev vm:List PySem.Str:=["row","word","kind","inner"]
abbrev vn:List PySem.Str:=["_law_tree_here","_law_more"]
abbrev h7:List PySem.Str:=["self"]
abbrev Af:List PySem.Str:=["_law_text_here","_law_tree_here","_law_n"]
abbrev nx:List PySem.Str:=["row","word"]
abbrev oz:List PySem.Str:=["row","inner"]
abbrev vo:List PySem.Str:=["_law_cells","_law_spot"]
abbrev pv:List PySem.Str:=["row","place"]
abbrev qz:List PySem.Str:=["row","left"]
abbrev Jr:List PySem.Str:=["text","many_rows","reader","number","indent","words"]
abbrev Js:List PySem.Str:=["row","word","kind","inner","many","found","turn"]
abbrev Ag:List PySem.Str:=["self","indent","number"]
abbrev Dw:List PySem.Str:=["self","number","indent","words"]
abbrev Jt:List PySem.Str:=["self","indent","number","deepest","awaits_block"]
abbrev ny:List PySem.Str:=["piece"]
abbrev Ah:List PySem.Str:=["self","number","words"]
abbrev Dx:List PySem.Str:=["_law_text_here","_law_tree_here"]
abbrev Ju:List PySem.Str:=["self","number","indent","words","row","word"]
abbrev Ai:List PySem.Str:=["row","inner","found"]
abbrev Aj:List PySem.Str:=["_law_script","_law_k"]
abbrev pw:List PySem.Str:=["_law_n"]
abbrev Jv:List PySem.Str:=["row","kind","left","inner","sign","right"]
abbrev vp:List PySem.Str:=["self","row"]
abbrev xA:List PySem.Str:=["row","most"]
abbrev aJ:=PySem.W.Frag
abbrev qA:=@List.takeWhile_cons
abbrev b8:=@if_pos
abbrev bf:=@Nat.le_refl
abbrev Jw:=@List.findIdx?_eq_some_iff_getElem
abbrev bP:=@if_neg
abbrev tg:=@List.any_eq_true
abbrev h8:=@beq_eq_false_iff_ne
abbrev fv:=@decide_eq_true
abbrev ew:=@decide_eq_false
abbrev px:=@List.all_cons
abbrev en:=@List.length_cons
abbrev ku:=@List.cons_append
abbrev j4:=@List.mem_cons_of_mem
abbrev gZ:=@List.mem_cons
abbrev jG:=@List.mem_cons_self
abbrev Dy:=@PySem.SeqAt.EqAt.int_str
abbrev Dz:=@PySem.SeqAt.EqAt.str_int
abbrev hB:=@Option.some.inj
abbrev di:=@PySem.Heap.lt_size
abbrev eG:=@Nat.lt_of_lt_of_le
abbrev j5:=@Nat.lt_irrefl
abbrev fw:=@Nat.ne_of_lt
abbrev oA:=@List.mem_range
abbrev dW:=@Nat.le_trans
abbrev xB:=@Nat.le_of_lt
abbrev vq:=@List.filterMap_cons
abbrev DA:=@PySem.Heap.get?_none_of_le
abbrev d0:=@Ne.symm
abbrev th:=@List.mem_append
abbrev vr:=@List.mem_append_left
abbrev kP:=@List.getElem?_eq_some_iff
abbrev fL:=@PySem.wpAny_mono
abbrev xC:=@PySem.Calls.Constant_str
abbrev ti:=@PySem.wpAny_truthy_bool
abbrev fM:=@congrArg
abbrev xD:=@PySem.wpAny_execs_nil
abbrev a4:=@PySem.wpAny_bind
abbrev md:=@PySem.wpAny_holding
abbrev rP:=@PySem.wpAny_standAt
abbrev tj:=@PySem.wpAny_passesOwn
abbrev gf:=@Bool.false_ne_true
abbrev xE:=@Nat.ne_of_gt
abbrev b3:=@PySem.wpAny_pure
abbrev Ak:=@PySem.wpAny_pyIter_list
abbrev ej:=@PySem.Heap.get?_push_of_some
abbrev hN:=@PySem.Heap.get?_push_size
abbrev Al:=@PyProof.Rows.callWith_type1
abbrev kQ:=@List.mem_append_right
abbrev fN:=@Nat.zero_le
abbrev mR:=@Bool.eq_iff_iff
abbrev jH:=@PySem.sizeLine_eq
abbrev DB:=@PySem.W.plainGet_of
abbrev qB:=@beq_iff_eq
abbrev Am:=@PySem.wpAny_loadPart
abbrev vt:=@PySem.W.Looks.here
abbrev DC:=@PySem.W.looks_clsIn
abbrev An:=@PySem.W.looks_findIn
abbrev kR:=@List.map_cons
abbrev eV:=@List.length_map
abbrev Ao:=@Nat.le_of_eq
abbrev pz:=@Nat.lt_succ_self
abbrev Ap:=@PySem.W.methodCall_KW
abbrev nz:=@PySem.W.kia_one
abbrev xF:=@PySem.Calls.spliced_cons
abbrev me:=@List.append_nil
abbrev rQ:=@PySem.wpAny_call
abbrev vu:=@PySem.codeAny_mono
abbrev qD:=@PySem.wpAny_Call_Name_kw
abbrev xG:=@PySem.W.callWith_K
abbrev DD:=@PySem.W.callWith_K0
abbrev mf:=@Nat.le_succ
abbrev xH:=@List.nodup_cons
abbrev DE:=@List.of_mem_zip
abbrev rR:=@List.length_take
abbrev pA:=@PySem.mem_of_lookup
abbrev xI:=@List.getElem?_append_right
abbrev Aq:=@List.getElem?_replicate
abbrev rS:=@List.getElem?_map
abbrev qE:=@List.mem_of_getElem?
abbrev cy:=@List.length_append
abbrev oB:=@List.length_replicate
abbrev DF:=@PySem.F.slot_tuple_add
abbrev DG:=@PySem.F.entry_tuple_add
abbrev DH:=@PySem.F.args_tuple_add_2
abbrev gu:=@List.size_toArray
abbrev Ar:=@Int.toNat_natCast
abbrev nA:=@PySem.wpAny_field
abbrev j6:=@List.length_drop
abbrev tk:=@PyProof.Rows.slot_tuple_getitem
abbrev jh:=@Bool.and_eq_true
abbrev rT:=@PySem.wpAny_newObj_type
abbrev tl:=@PySem.typeIs_str
abbrev rU:=@PySem.Heap.get?_update_self
abbrev mS:=@PySem.Heap.get?_update_other
abbrev As:=@List.any_cons
abbrev xJ:=@PySem.Calls.callWith_builtin
abbrev Au:=@PySem.Calls.evalArgs_plain
abbrev mT:=@List.replicate_succ
abbrev tm:=@List.flatten_cons
abbrev hU:=@List.append_assoc
abbrev tn:=@PySem.call_meets
abbrev pB:=@PySem.F.slot_list_append
abbrev vv:=@List.length_singleton
abbrev DI:=@List.nil_append
abbrev DJ:=@Nat.lt_of_le_of_lt
abbrev Av:=@PySem.wpAny_getItem_str_slice
abbrev Aw:=@PySem.post_val_or_str
abbrev DK:=@PySem.length_partsBetween
abbrev vw:=@PySem.F.slot_str_split
abbrev DL:=@PySem.F.args_str_split_2
abbrev DM:=@ne_true_of_eq_false
abbrev eW:=@List.all_eq_true
abbrev Ax:=@List.getElem_mem
abbrev kv:=@List.mem_singleton
abbrev vx:=@List.map_append
abbrev mh:=@List.getD_eq_getElem?_getD
abbrev xK:=@PySem.StrLaws.found_one
abbrev vy:=@beq_self_eq_true
abbrev kS:=@List.map_map
abbrev gP:=@of_decide_eq_true
abbrev nB:=@of_decide_eq_false
abbrev xM:=@List.length_tail
abbrev tp:=@Nat.lt_or_ge
abbrev vz:=@List.drop_eq_nil_of_le
abbrev lu:=@PySem.F.plainAttrs_str
abbrev vA:=@List.drop_eq_getElem_cons
abbrev rV:=@PySem.PassesOwn.never
abbrev qF:=@List.drop_length
abbrev DN:=@List.take_of_length_le
abbrev pC:=@PySem.F.plainAttrs_list
abbrev qG:=@PySem.F.type_list_append
abbrev Ay:=@List.cons_ne_nil
abbrev oC:=@List.eq_nil_of_length_eq_zero
abbrev DO:=@PySem.SeqAt.RcNeAt.lists
abbrev Az:=@List.take_add_one
abbrev DP:=@PySem.F.type_str_split
abbrev DQ:=@List.take_length
abbrev iB:=@List.getElem?_eq_getElem
abbrev DR:=@List.mem_iff_getElem?
abbrev vB:=@List.contains_iff_mem
abbrev mU:=@List.mem_map
abbrev fY:=@List.all_append
abbrev DS:=@PySem.F.slot_dict_get
abbrev j7:=@PySem.wpAny_ite_false
abbrev rW:=@PySem.wpAny_ite_true
abbrev xN:=@PySem.wpAny_setField
abbrev xO:=@PySem.Obj.data_mapFields
abbrev tq:=@Array.getElem?_eq_some_iff
abbrev vC:=@PySem.wpAny_loadPart_at
abbrev AA:=@PySem.codeAny_call_builtin
abbrev vD:=@PySem.F.store_ValueError
abbrev AB:=@PySem.W.looks_mroIn
abbrev xP:=@PySem.Heap.get?_update_ne
abbrev xQ:=@PySem.wpAny_letGo
abbrev DT:=@Array.size_append
abbrev DU:=@decide_eq_decide
abbrev h9:=@List.lookup_cons
abbrev DV:=@List.getElem?_eq_none
abbrev vE:=@PySem.F.plain_max_loop
abbrev AC:=@PySem.plainId_quiet
abbrev AD:=@List.sum_append
abbrev vF:=@List.sum_cons
abbrev AE:=@List.getElem?_eq_none_iff
abbrev rX:=@PySem.PassesOwn.leaving
abbrev AF:=@Bool.beq_comm
abbrev DW:=@List.drop_eq_nil_iff
abbrev xR:=@List.drop_zero
abbrev DX:=@Int.emod_nonneg
abbrev DY:=@Int.emod_lt_of_pos
abbrev AG:=@PySem.StrLaws.glued_eq_join
abbrev tr:=@PySem.F.slot_str_join
abbrev ts:=@PySem.F.type_str_join
abbrev xS:=@Nat.max_zero
abbrev DZ:=@Bool.or_eq_true
abbrev D0:=@Int.eq_ofNat_of_zero_le
abbrev pD:=@PySem.W.mg_of
abbrev D1:=@List.find?_cons
namespace GS
def hC (c:Nat):Bool:=(decide (65<=c)&&decide (c<=90))||(decide (97<=c)&&decide (c<=122))
def ho (c:Nat):Bool:=decide (48<=c)&&decide (c<=57)
def dk (c:Nat):Bool:=hC c||ho c||c == 95
def code (s:String):bh:=s.toList.map Char.toNat
def qH:List (bh):=["and","as","break","class","continue","def","elif","else","except","False","finally","for","from","global","if","in","None","nonlocal","not","or","pass","raise","return","True","try","while","yield"].map code
def AH:List (bh):=["+","-","*","&","|","<",">","=","(",")",",",".",":"].map code
def pE:List (bh):=["//","<=",">=","==","!=","+=","-=","*="].map code
def ji (p:bh):Bool:=qH.any λy=>y == p
def nC (p:bh):Bool:=AH.any λy=>y == p
def gg (p:bh):Bool:=pE.any λy=>y == p
inductive bJ where
 |name (l:bh)|ee (l:bh)|num (l:bh)|text (l:bh)|mark (l:bh)
 deriving DecidableEq
def hp (f:Nat->Bool) (p:bh):Bool:=match p with|[]=>false|c::_=>f c
def g0 (p:bh):Bool:=!ji p&&(decide (p.length<=12)&&hp hC p)&&p.all dk
def jj (p:bh):Bool:=decide (p.length<=12)&&p.all ho&&(p == [48]||hp (· != 48) p)
def inR (c:Nat):Bool:=decide (32<=c)&&decide (c<=126)
def kx (chk:Bool) (p:bh):Bool:=decide (2<=p.length)&&decide (p.length<=42)&&hp (· == 34) p&&(p.getLast? == some 34)&&(!chk||p.all inR)
def fh (chk:Bool) (p:bh):Option bJ:=
 if ji p then some (.ee p) else if g0 p then some (.name p) else if jj p then some (.num p)
 else if kx chk p then some (.text (p.tail.dropLast)) else if nC p||gg p then some (.mark p) else none
def fe:bh->Nat
 |[]=>0
 |c::t=>if c=34 then(match t.findIdx? (· == 34) with|some i=>i+2|none=>t.length+1)
  else if dk c then((c::t).takeWhile dk).length else if gg ((c::t).take 2) then 2 else 1
def pF (c t):fe (c::t)=if c=34 then(match t.findIdx? (· == 34) with|some i=>i+2|none=>t.length+1) else if dk c then((c::t).takeWhile dk).length else if gg ((c::t).take 2) then 2 else 1:=rfl
def AI (c t):1<=fe (c::t):=by
 rw[pF];split
 ·cases t.findIdx? (· == 34) with
  |none=>show 1<=t.length+1;omega
  |some i=>show 1<=i+2;omega
 ·split
  ·rename_i h;rw[qA,b8 h];simp
  ·split<;>omega
theorem P2:∀l:bh,fe l<=l.length
 |[]=>bf 0
 |c::t=>by
  rw[pF];split
  ·split
   ·rename_i i h;obtain⟨ag,_⟩:=Jw.mp h;simp;omega
   ·simp
  ·split
   ·exact(List.takeWhile_sublist _).length_le
   ·split
    ·rename_i h;have:(c::t).length≠1:=by
      intro e;have bO:t=[]:=by cases t with|nil=>rfl|cons a b=>simp at e
      subst bO;have mE:gg [c]=false:=by
       unfold gg pE code;simp
      have h':gg (List.take 2 [c])=gg [c]:=rfl;rw[h',mE] at h;exact Bool.noConfusion h
     simp at this⊢;cases t with
     |nil=>exact absurd rfl this
     |cons a b=>simp
    ·simp
def words (chk:Bool) (l:bh):Option (List bJ):=
 match l with
 |[]=>some []
 |c::t=>if c=35 then some [] else if c=32 then words chk t else
  match fh chk ((c::t).take (fe (c::t))) with
  |none=>none
  |some w=>(words chk ((c::t).drop (fe (c::t)))).map (w::·)
termination_by l.length
decreasing_by
 ·simp
 ·have:=AI c t;simp;omega
def AJ (chk):words chk []=some []:=by rw[words]
def Jx (chk t):words chk (35::t)=some []:=by rw[words];simp
def D2 (chk t):words chk (32::t)=words chk t:=by rw[words];simp
def Jy {chk c t}(ag:c≠35) (ae:c≠32) (h:fh chk ((c::t).take (fe (c::t)))=none):words chk (c::t)=none:=by
 rw[words,bP ag,bP ae,h]
def vG {chk c t w}(ag:c≠35) (ae:c≠32) (h:fh chk ((c::t).take (fe (c::t)))=some w):words chk (c::t)=(words chk ((c::t).drop (fe (c::t)))).map (w::·):=by
 rw[words,bP ag,bP ae,h]
def D3 (p:bh):Option bJ:=
 if ji p then some (.ee p)
 else if hp ho p then(if !p.all ho||(decide (12 < p.length)||(hp (· == 48) p&&p != [48])) then none else some (.num p))
 else if hp (· == 95) p||decide (12 < p.length) then none else some (.name p)
def P4 {p}(h:ji p=true):hp hC p=true:=by
 have:∀y∈qH,hp hC y=true:=by decide
 unfold ji at h;obtain⟨y,aT,e⟩:=tg.mp h;have db:=eq_of_beq e;subst db;exact this y aT
def P5 {p}(h:nC p=true):hp dk p=false/\hp (· == 34) p=false/\p.length=1:=by
 have:∀y∈AH,hp dk y=false/\hp (· == 34) y=false/\y.length=1:=by decide
 unfold nC at h;obtain⟨y,aT,e⟩:=tg.mp h;have db:=eq_of_beq e;subst db;exact this y aT
def Jz {p}(h:gg p=true):hp dk p=false/\hp (· == 34) p=false/\p.length=2:=by
 have:∀y∈pE,hp dk y=false/\hp (· == 34) y=false/\y.length=2:=by decide
 unfold gg at h;obtain⟨y,aT,e⟩:=tg.mp h;have db:=eq_of_beq e;subst db;exact this y aT
def JA {c}(h:hC c=true):ho c=false:=by
 unfold hC at h;unfold ho;simp only[Bool.or_eq_true,Bool.and_eq_true,decide_eq_true_eq] at h;simp only[Bool.and_eq_false_iff,decide_eq_false_iff_not];omega
def JB {c}(h:dk c=true):hC c=true\/ho c=true\/c=95:=by
 unfold dk at h;simp only[Bool.or_eq_true,beq_iff_eq] at h;rcases h with (h|h)|h
 ·exact .inl h
 ·exact .inr (.inl h)
 ·exact .inr (.inr h)
def P6 {c}(h:dk c=true):(c == 34)=false:=by
 rw[h8];intro e;subst e;exact absurd h (by decide)
def P7 (chk) {c t}(h:(c::t).all dk=true):fh chk (c::t)=D3 (c::t):=by
 have aw:dk c=true:=by simp only[List.all_cons,Bool.and_eq_true] at h;exact h.1
 unfold fh D3;cases bO:ji (c::t) with
 |true=>rfl
 |false=>
  have bS:kx chk (c::t)=false:=by
   unfold kx hp;simp only[P6 aw];simp
  have cH:nC (c::t)=false:=by
   cases e:nC (c::t) with
   |false=>rfl
   |true=>have:=(P5 e).1;simp only[hp,aw] at this;exact Bool.noConfusion this
  have g4:gg (c::t)=false:=by
   cases e:gg (c::t) with
   |false=>rfl
   |true=>have:=(Jz e).1;simp only[hp,aw] at this;exact Bool.noConfusion this
  simp only[bS,cH,g4,Bool.false_eq_true,if_false,Bool.or_self];unfold g0 jj;simp only[h,bO,hp,Bool.not_false,Bool.true_and,Bool.and_true];rcases JB aw with ag|ag|ag
  ·have hd:=JA ag;have ax:(c == 95)=false:=by rw[h8];intro e;subst e;exact absurd ag (by decide)
   have nw:(c::t).all ho=false:=by simp only[List.all_cons,hd,Bool.false_and]
   simp only[ag,hd,ax,nw,Bool.and_true,Bool.false_eq_true,if_false,Bool.false_or,Bool.and_false,Bool.false_and];by_cases au:(c::t).length<=12
   ·rw[fv au,ew (by omega)];simp
   ·rw[ew au,fv (by omega)];simp
  ·have hd:hC c=false:=by
    cases e:hC c with
    |false=>rfl
    |true=>have:=JA e;rw[ag] at this;exact Bool.noConfusion this
   simp only[ag,hd,Bool.and_false,Bool.false_eq_true,if_false,if_true];by_cases au:(c::t).length<=12
   ·rw[fv au,ew (show ¬12 < (c::t).length by omega)];cases (c::t).all ho with
    |false=>simp
    |true=>
     simp only[Bool.true_and,Bool.not_true,Bool.false_or];cases am:((c::t) == [48]) with
     |true=>
      have aE:=eq_of_beq am;injection aE with bq bX;subst bq bX;simp
     |false=>
      simp only[bne,am,Bool.false_or,Bool.not_false,Bool.and_true];cases (c == 48)<;>simp
   ·rw[ew au,fv (by omega)];simp
  ·subst ag;have hd:hC 95=false:=by decide
   have a1:ho 95=false:=by decide
   simp only[hd,a1,Bool.and_false,Bool.false_eq_true,if_false,List.all_cons,Bool.false_and,beq_self_eq_true,Bool.true_or,if_true]
def takeWhile_all (l:bh):(l.takeWhile dk).all dk=true:=by
 induction l with
 |nil=>rfl
 |cons c t ih=>
  rw[qA];split
  ·rename_i h;rw[px,h,ih];rfl
  ·rfl
def take_takeWhile (l:bh):l.take (l.takeWhile dk).length=l.takeWhile dk:=by
 induction l with
 |nil=>rfl
 |cons c t ih=>
  rw[qA];split
  ·rw[en,List.take_succ_cons,ih]
  ·rfl
def P8 (chk){c:Nat}{t:bh}(h:dk c=true):fe (c::t)=((c::t).takeWhile dk).length/\fh chk ((c::t).take (fe (c::t)))=D3 ((c::t).takeWhile dk):=by
 have e:fe (c::t)=((c::t).takeWhile dk).length:=by
  have n:¬c=34:=by intro e;subst e;exact absurd h (by decide)
  rw[pF,bP n,b8 h]
 refine⟨e,?_⟩;rw[e,take_takeWhile];have nw:=takeWhile_all (c::t);rw[qA,b8 h] at nw⊢;exact P7 chk nw
def JC (chk) {c t}(h:dk c=false) (xL:c≠34):fh chk (c::t)=if nC (c::t)||gg (c::t) then some (.mark (c::t)) else none:=by
 have au:hC c=false:=by unfold dk at h;simp only[Bool.or_eq_false_iff] at h;exact h.1.1
 have hd:ho c=false:=by unfold dk at h;simp only[Bool.or_eq_false_iff] at h;exact h.1.2
 unfold fh;have ag:ji (c::t)=false:=by
  cases e:ji (c::t) with
  |false=>rfl
  |true=>have:=P4 e;simp only[hp,au] at this;exact Bool.noConfusion this
 have ae:g0 (c::t)=false:=by
  unfold g0;simp only[hp,au,Bool.and_false,Bool.false_and]
 have aW:jj (c::t)=false:=by
  unfold jj;simp only[List.all_cons,hd,Bool.and_false,Bool.false_and]
 have bm:kx chk (c::t)=false:=by
  unfold kx;simp only[hp,beq_eq_false_iff_ne.mpr xL,Bool.and_false,Bool.false_and]
 simp only[ag,ae,aW,bm,Bool.false_eq_true,if_false]
def P9 (chk) {c t}(h:dk c=false) (xL:c≠34):fe (c::t)=(if gg ((c::t).take 2) then 2 else 1)/\fh chk ((c::t).take (fe (c::t)))=if gg ((c::t).take 2)||nC [c] then some (.mark ((c::t).take (fe (c::t)))) else none:=by
 have e:fe (c::t)=(if gg ((c::t).take 2) then 2 else 1):=by
  rw[pF,bP xL,bP (by rw[h];exact Bool.noConfusion)]
 refine⟨e,?_⟩;cases au:gg ((c::t).take 2) with
 |true=>
  rw[e,au,b8 rfl];have:(c::t).take 2=c::t.take 1:=rfl;rw[this] at au⊢;rw[JC chk h xL,au];simp
 |false=>
  rw[e,au];have aE:(c::t).take (if false=true then 2 else 1)=[c]:=by simp
  rw[aE,JC chk h xL];have aP:gg [c]=false:=by
   cases q:gg [c] with
   |false=>rfl
   |true=>have:=(Jz q).2.2;simp at this
  rw[aP];simp
def JD {c t}(h:g0 (c::t)=true):hC c=true/\(c::t).all dk=true/\(c::t).length<=12/\ji (c::t)=false:=by
 unfold g0 at h;simp only[Bool.and_eq_true,Bool.not_eq_true',hp,decide_eq_true_eq] at h;exact⟨h.1.2.2,h.2,h.1.2.1,h.1.1⟩
def blanks (l:bh):Nat:=(l.takeWhile (· == 32)).length
def nD (l:bh):Option Nat:=if blanks l % 4=0/\blanks l<=48 then some (blanks l / 4) else none
def P' (c:Nat) (t:bh):blanks (c::t)=if(c == 32)=true then blanks t+1 else 0:=by
 unfold blanks;rw[qA];split<;>rfl
def JE (l:bh):blanks l<=l.length:=(List.takeWhile_sublist _).length_le
abbrev oD:=Nat×bh×Option (List bJ)
def rowsOf (chk:Bool):Nat->List (bh)->List oD
 |_,[]=>[]
 |i,l::r=>if words chk l=some [] then rowsOf chk (i+1) r else(i,l,words chk l)::rowsOf chk (i+1) r
theorem JF (chk:Bool) (l:bh):∀(xs:List (bh)) (i:Nat),rowsOf chk i (xs++[l])=rowsOf chk i xs++(if words chk l=some [] then [] else [(i+xs.length,l,words chk l)])
 |[],i=>by
  show(if words chk l=some [] then [] else [(i,l,words chk l)])=_;simp[rowsOf]
 |x::xs,i=>by
  have ih:=JF chk l xs (i+1);have e:i+1+xs.length=i+(x::xs).length:=by simp;omega
  rw[e] at ih;rw[ku];show(if words chk x=some [] then rowsOf chk (i+1) (xs++[l]) else(i,x,words chk x)::rowsOf chk (i+1) (xs++[l]))=(if words chk x=some [] then rowsOf chk (i+1) xs else(i,x,words chk x)::rowsOf chk (i+1) xs)++_;rw[ih];split<;>simp
theorem D4 (chk:Bool):∀(xs:List (bh)) (i:Nat),(rowsOf chk i xs).length<=xs.length
 |[],_=>bf _
 |x::xs,i=>by
  have ih:=D4 chk xs (i+1);show(if words chk x=some [] then rowsOf chk (i+1) xs else(i,x,words chk x)::rowsOf chk (i+1) xs).length<=_;split
  ·simp;omega
  ·simp;omega
theorem JG (chk:Bool):∀(xs:List (bh)) (i:Nat) (r:oD),r∈rowsOf chk i xs->r.1 < i+xs.length/\r.2.1∈xs/\r.2.2=words chk r.2.1
 |[],_,r,h=>absurd h (by simp[rowsOf])
 |x::xs,i,r,h=>by
  have ih:=JG chk xs (i+1) r;have h':r∈(if words chk x=some [] then rowsOf chk (i+1) xs else(i,x,words chk x)::rowsOf chk (i+1) xs):=h;have use:r∈rowsOf chk (i+1) xs->r.1 < i+(x::xs).length/\r.2.1∈x::xs/\r.2.2=words chk r.2.1:=λq=>by
   obtain⟨a,b,c⟩:=ih q;exact⟨by simp;omega,j4 _ b,c⟩
  split at h'
  ·exact use h'
  ·rcases gZ.mp h' with rfl|q
   ·exact⟨by simp,jG,I⟩
   ·exact use q
theorem JH {c:Nat}:∀(p q cc tt:bh),c∉p->c∉q->p++c::cc=q++c::tt->p=q/\cc=tt
 |[],[],cc,tt,_,_,h=>by
  injection h with _ ae;exact⟨I,ae⟩
 |[],y::q,cc,tt,_,aD,h=>by
  injection h with ag _;exact absurd (ag▸jG) aD
 |x::p,[],cc,tt,ar,_,h=>by
  injection h with ag _;exact absurd (ag▸jG) ar
 |x::p,y::q,cc,tt,ar,aD,h=>by
  injection h with ag ae;obtain⟨am,aE⟩:=JH p q cc tt (λz=>ar (j4 _ z)) (λz=>aD (j4 _ z)) ae;exact⟨by rw[ag,am],aE⟩
def da (c:Nat):List (bh)->bh
 |[]=>[]
 |[p]=>p
 |p::q::r=>p++c::da c (q::r)
theorem JI {c:Nat}:∀(xs ys:List (bh)),xs≠[]->ys≠[]->(∀p∈xs,c∉p)->(∀p∈ys,c∉p)->da c xs=da c ys->xs=ys
 |[],_,h,_,_,_,_=>absurd rfl h
 |_::_,[],_,h,_,_,_=>absurd rfl h
 |[p],[q],_,_,_,_,h=>by
  have h':p=q:=h;rw[h']
 |[p],q::bn::r,_,_,ag,_,h=>by
  have h':p=q++c::da c (bn::r):=h;exact absurd (by rw[h'];simp) (ag p jG)
 |p::bM::r,[q],_,_,_,ae,h=>by
  have h':p++c::da c (bM::r)=q:=h;exact absurd (by rw[<-h'];simp) (ae q jG)
 |p::bM::r,q::bn::fG,_,_,ag,ae,h=>by
  have h':p++c::da c (bM::r)=q++c::da c (bn::fG):=h;obtain⟨am,aE⟩:=JH p q _ _ (ag p jG) (ae q jG) h';have bq:=JI (bM::r) (bn::fG) (by simp) (by simp) (λx ak=>ag x (j4 _ ak)) (λx ak=>ae x (j4 _ ak)) aE;rw[am,bq]
end GS
set_option Elab.async false
set_option linter.all false
set_option maxRecDepth 100000
def _root_.zzc{p:Prop}(h:p:=by decide +kernel):=h
def _root_.Ic:Lean.Syntax:=zzc._auto_1
def fP {p:Prop}(h:autoParam p Ic):p:=h
def _root_.zzd{p:Prop}(h:p:=by decide):=h
def _root_.Cl:Lean.Syntax:=zzd._auto_1
def dU {p:Prop}(h:autoParam p Cl):p:=h
def bZ {p:Prop}(h:p:=by simp):p:=h
def _root_.zze{p:Prop}(h:p:=by omega):=h
def _root_.Ty:Lean.Syntax:=zze._auto_1
def co {p:Prop}(h:autoParam p Ty):p:=h
abbrev PySem.Shared.hz (s:PySem.Shared):=s.heap.objs.size
abbrev e4 (x:PySem.Str):Prop:=(x == ("__debug__":PySem.Str))=false
namespace L2
open PySem PySem.Spec PyProof.Rows
abbrev Key:=Sum Int Str
def vH:Key->Value->Bool
 |.inl k,v=>Value.isInt k v
 |.inr x,v=>Value.isStrOf x v
def Qa (w:World):Key->Int
 |.inl k=>hashInt k
 |.inr x=>hashStr w x
theorem qI:∀{k v},vH k v=true->(∃i t,k=Sum.inl i/\v=Value.int i t)\/(∃x t,k=Sum.inr x/\v=Value.str x t)
 |.inl i,v,h=>by
  obtain⟨t,e⟩:=Value.isInt_shape (k:=i) (v:=v) h;exact .inl ⟨i,t,I,e⟩
 |.inr x,v,h=>by
  obtain⟨t,e⟩:=Value.isStrOf_shape (x:=x) (v:=v) h;exact .inr ⟨x,t,I,e⟩
def Qb (i t):vH (.inl i) (.int i t)=true:=by simp[vH,Value.isInt]
def Qc (x t):vH (.inr x) (.str x t)=true:=by simp[vH,Value.isStrOf]
def Qd (a b):decide ((Sum.inl a:Key)=Sum.inl b)=(a == b):=by
 by_cases e:a=b
 ·subst e;simp
 ·have h:¬(Sum.inl a:Key)=Sum.inl b:=λq=>e (Sum.inl.inj q);rw[ew h];exact(h8.mpr e).symm
def Qe (a b):decide ((Sum.inr a:Key)=Sum.inr b)=decide (a=b):=by
 by_cases e:a=b
 ·subst e;simp
 ·have h:¬(Sum.inr a:Key)=Sum.inr b:=λq=>e (Sum.inr.inj q);rw[ew h,ew e]
def Qf (a b):decide ((Sum.inl a:Key)=Sum.inr b)=false:=ew (λq=>nomatch q)
def Qg (a b):decide ((Sum.inr a:Key)=Sum.inl b)=false:=ew (λq=>nomatch q)
def kT (prog:Program) (w:World):PySem.KeyKind prog w Key where
 is:=vH
 hash:=Qa w
 inj:=λv a b aq af=>by
  rcases qI aq with ⟨i,t,rfl,rfl⟩|⟨x,t,rfl,rfl⟩
  ·rcases qI af with ⟨j,u,rfl,e⟩|⟨y,u,rfl,e⟩
   ·injection e with am _;rw[am]
   ·exact nomatch e
  ·rcases qI af with ⟨j,u,rfl,e⟩|⟨y,u,rfl,e⟩
   ·exact nomatch e
   ·injection e with am _;rw[am]
 byValue:=λk v h=>by
  rcases qI h with ⟨i,t,rfl,rfl⟩|⟨x,t,rfl,rfl⟩<;>rfl
 pyHash:=λaK h=>by
  rcases qI aK with ⟨i,t,rfl,rfl⟩|⟨x,t,rfl,rfl⟩
  ·exact wpAny_pyHash_int h
  ·exact wpAny_pyHash_str h
 eqBool:=λbY aK h=>by
  rcases qI bY with ⟨i,t,rfl,rfl⟩|⟨x,t,rfl,rfl⟩
  ·rcases qI aK with ⟨j,u,rfl,rfl⟩|⟨y,u,rfl,rfl⟩
   ·rw[Qd] at h;exact wpAny_eqBool_int h
   ·rw[Qf] at h;exact Dy i t y u _ _ _ _ h
  ·rcases qI aK with ⟨j,u,rfl,rfl⟩|⟨y,u,rfl,rfl⟩
   ·rw[Qg] at h;exact Dz x t j u _ _ _ _ h
   ·rw[Qe] at h;exact wpAny_eqBool_str h
 «strs»:=λk x t v h=>by
  rcases qI h with ⟨i,u,rfl,e⟩|⟨y,u,rfl,e⟩
  ·exact nomatch e
  ·injection e with am _;subst am;cases v<;>rfl
def Qh (prog w i t):(kT prog w).is (.inl i) (.int i t)=true:=Qb i t
def Qi (prog w x t):(kT prog w).is (.inr x) (.str x t)=true:=Qc x t
end L2
namespace L2
open PySem PySem.Spec PyProof.Rows
inductive V where
 |a3|aM (b:Bool)|int (i:Int)|str (x:Str)|nE (b:Array UInt8)|tu (b:UInt64)|ref (a:Addr)|ty (n:String)
 deriving DecidableEq
abbrev br:=List V
abbrev mV:=List (Str×V)
abbrev mi:=Option V
def RelV:V->Value->Prop
 |.a3,u=>u=Value.none
 |.aM b,u=>u=Value.bool b
 |.int i,u=>∃t,u=Value.int i t
 |.str x,u=>∃t,u=Value.str x t
 |.nE b,u=>∃t,u=Value.bytes b t
 |.tu b,u=>∃t,u=Value.float b t
 |.ref a,u=>u=Value.ref a
 |.ty n,u=>u=Value.type n
abbrev b4:br->e3->Prop:=Paired RelV
def b4.length (r:b4 xs us):xs.length=us.length:=Paired.length r
theorem b4.get:∀{xs us}{i:Nat} {x},b4 xs us->xs[i]?=some x->∃u,us[i]?=some u/\RelV x u
 |_,_,_,_,.nil,e=>by simp at e
 |_,_,0,_,.cons r _,e=>by simp at e;subst e;exact⟨_,I,r⟩
 |_,_,i+1,x,.cons _ t,e=>by
  obtain⟨u,ag,ae⟩:=b4.get (i:=i) (x:=x) t (by simpa using e);exact⟨u,by simpa using ag,ae⟩
theorem b4.set (r:RelV x u):∀{xs us} i,b4 xs us->b4 (xs.set i x) (us.set i u)
 |_,_,_,.nil=>.nil
 |_,_,0,.cons _ t=>.cons r t
 |_,_,i+1,.cons q t=>.cons q (b4.set r i t)
theorem b4.append:∀{xs ys us ab},b4 xs us->b4 ys ab->b4 (xs++ys) (us++ab)
 |_,_,_,_,.nil,s=>s
 |_,_,_,_,.cons r t,s=>.cons r (b4.append t s)
theorem b4.take:∀{xs us} n,b4 xs us->b4 (xs.take n) (us.take n)
 |_,_,0,_=>.nil
 |_,_,_+1,.nil=>.nil
 |_,_,n+1,.cons r t=>.cons r (b4.take n t)
theorem b4.drop:∀{xs us} n,b4 xs us->b4 (xs.drop n) (us.drop n)
 |_,_,0,r=>r
 |_,_,_+1,.nil=>.nil
 |_,_,n+1,.cons _ t=>b4.drop n t
def jI:mi->cn->Prop
 |some v,some u=>RelV v u
 |none,none=>True
 |_,_=>False
def hV {κ:Type}:List (κ×V)->List (κ×Value)->Prop:=Paired λ(p:κ×V) (q:κ×Value)=>p.1=q.1/\RelV p.2 q.2
def eo:Key->V
 |.inl i=>.int i
 |.inr x=>.str x
inductive jJ where
 |lst (xs:br)
 |tup (xs:br)
 |iV (bG:List (Key×V))|gv (bG:List (List Key×V))
 |set (S:Int->Bool) (n:Nat)
 |ins (C ao:Addr) (bi:mV)
 |own (x:Addr)
 |nF (bi:mV)
 |met (f x:Addr)
 |D5 (lo aR:Int)
 |mj (o:Obj) (u:jJ)
 |tw (aG:Array Value)
 |ext (re:Heap->Prop)
abbrev ap:=Addr->Option jJ
def upd (H:ap) (a:Addr) (o:jJ):ap:=λb=>if b=a then some o else H b
def b':upd H a o a=some o:=by unfold upd;rw[b8 rfl]
def cj (h:b≠a):upd H a o b=H b:=by unfold upd;rw[bP h]
def AK {H:ap}{a b:Addr}{o u:jJ}(h:H a=some o) (h':H b=some u) (d:o≠u):a≠b:=by
 intro e;subst e;rw[h] at h';exact d (hB h')
def mW {H:ap}{a b:Addr}{o:jJ}(h:H a=some o) (h':H b=none):a≠b:=by
 intro e;subst e;rw[h] at h';cases h'
section
variable (P:Program) (w:World)
def gB (H:ap) (h:Heap) (a:Addr):jJ->Prop
 |.lst xs=>xs.length<=sizeLine/\∃aL n,b4 xs aL/\h.get? a=some { cls:=.type "list",data:=.seq aL.toArray n }
 |.tup xs=>xs.length<=sizeLine/\∃aL:e3,b4 xs aL/\IsTup h a aL.toArray
 |.iV bG=>bG.length<=sizeLine/\(a == sysModules)=false/\∃vs,hV bG vs/\h.DictOf (kT P w) a vs
 |.gv bG=>bG.length<=sizeLine/\(a == sysModules)=false/\∃xs:List (List Key×Addr×Value),
   Paired (λp q=>p.1=q.1/\H q.2.1=some (.tup (p.1.map eo))/\RelV p.2 q.2.2) bG xs/\
   ∃o aj cp,h.get? a=some o/\o.ExactDict/\o.data=.dict aj cp/\aj.toList=xs.map (entryOfKey (tupleKind (kT P w)))/\(xs.map (·.1)).Nodup
 |.set S n=>h.SetOf (intKind P w) a S n
 |.ins C ao bi=>H ao=some (.own a)/\bi.length<=1000/\ao≠a/\h.get? a=some (PySem.W.instObj C ao)/\
   ∃eb,h.Ns1 ao eb/\(∀f,jI (bi.lookup f) (eb f))/\PySem.Within eb (bi.map (·.1))
 |.own _=>∃o,h.get? a=some o
 |.nF bi=>∃eb,h.Ns1 a eb/\∀f,jI (bi.lookup f) (eb f)
 |.D5 lo aR=>∃t u v,h.get? a=some { cls:=.type "range",data:=.fields #[.int lo t,.int aR u,.int 1 v] }
 |.mj o u=>h.get? a=some o/\gB H h a u
 |.tw aG=>h.get? a=some { cls:=.none,data:=.fields aG }
 |.met f x=>h.get? a=some (PySem.W.methodObj (.ref f) (.ref x))
 |.ext re=>re h/\(∃o,h.get? a=some o)/\∀ag ae:Heap,re ag->(∀o,ag.get? a=some o->ae.get? a=some o)->re ae
def gh (H:ap) (h:Heap):Prop:=∀a o,H a=some o->gB P w H h a o
end
section
variable {P:Program}{w:World}{H Z:ap}{h h':Heap}{a:Addr}{o:jJ}
def gB.lt (x:gB P w H h a o):a < h.objs.size:=by
 cases o with
 |lst xs=>obtain⟨_,_,_,_,e⟩:=x;exact di e
 |tup xs=>obtain⟨_,_,_,p⟩:=x;exact p.lt
 |iV bG=>obtain⟨_,_,_,_,o,_,_,e,_⟩:=x;exact di e
 |gv bG=>obtain⟨_,_,_,_,o,_,_,e,_⟩:=x;exact di e
 |set S n=>obtain⟨o,_,_,_,e,_⟩:=x;exact di e
 |ins C ao bi=>obtain⟨_,_,_,e,_⟩:=x;exact di e
 |own y=>obtain⟨_,e⟩:=x;exact di e
 |nF bi=>obtain⟨_,⟨_,_,_,e,_⟩,_⟩:=x;exact di e
 |D5 lo aR=>obtain⟨_,_,_,e⟩:=x;exact di e
 |mj c7 u=>obtain⟨e,_⟩:=x;exact di e
 |tw aG=>exact di (show h.get? a=some _ from x)
 |met f y=>exact di (show h.get? a=some _ from x)
 |ext re=>obtain⟨_,⟨_,e⟩,_⟩:=x;exact di e
theorem Paired.rY:∀{l₁:List cC}{l₂:List kw},Paired F l₁ l₂->(∀a b,F a b->G a b)->Paired G l₁ l₂
 |_,_,.nil,_=>.nil
 |_,_,.cons r t,f=>.cons (f _ _ r) (Paired.rY t f)
def gB.nG (x:gB P w H h a o) (k:∀b u,(b=a\/H b=some (.own a))->h.get? b=some u->h'.get? b=some u) (a':∀b,H b=some (.own a)->Z b=some (.own a)) (bO:∀b xs,H b=some (.tup xs)->Z b=some (.tup xs)):gB P w Z h' a o:=by
 induction o with
 |lst xs=>obtain⟨z,aL,n,r,e⟩:=x;exact⟨z,aL,n,r,k _ _ (.inl I) e⟩
 |tup xs=>obtain⟨z,aL,r,c7,e,c⟩:=x;exact⟨z,aL,r,c7,k _ _ (.inl I) e,c⟩
 |iV bG=>obtain⟨z,y,vs,r,c7,aj,cp,e,c⟩:=x;exact⟨z,y,vs,r,c7,aj,cp,k _ _ (.inl I) e,c⟩
 |gv bG=>
  obtain⟨z,y,xs,r,c7,aj,cp,e,c⟩:=x;exact⟨z,y,xs,Paired.rY r λp q z=>⟨z.1,bO _ _ z.2.1,z.2.2⟩,c7,aj,cp,k _ _ (.inl I) e,c⟩
 |set S n=>obtain⟨c7,aj,cp,t,e,c⟩:=x;exact⟨c7,aj,cp,t,k _ _ (.inl I) e,c⟩
 |ins C ao bi=>
  obtain⟨d,z,ne,e,eb,⟨dg,aj,cp,aE,c⟩,r⟩:=x;exact⟨a' _ d,z,ne,k _ _ (.inl I) e,eb,⟨dg,aj,cp,k _ _ (.inr d) aE,c⟩,r⟩
 |own y=>obtain⟨c7,e⟩:=x;exact⟨c7,k _ _ (.inl I) e⟩
 |nF bi=>obtain⟨eb,⟨dg,aj,cp,e,c⟩,r⟩:=x;exact⟨eb,⟨dg,aj,cp,k _ _ (.inl I) e,c⟩,r⟩
 |D5 lo aR=>obtain⟨t,u,v,e⟩:=x;exact⟨t,u,v,k _ _ (.inl I) e⟩
 |mj c7 u ih=>obtain⟨e,q⟩:=x;exact⟨k _ _ (.inl I) e,ih q⟩
 |tw aG=>
  have e:h.get? a=some { cls:=.none,data:=.fields aG }:=x;show h'.get? a=some { cls:=.none,data:=.fields aG };exact k a _ (.inl I) e
 |met f y=>
  have e:h.get? a=some (PySem.W.methodObj (.ref f) (.ref y)):=x;show h'.get? a=some (PySem.W.methodObj (.ref f) (.ref y));exact k a _ (.inl I) e
 |ext re=>obtain⟨p,⟨o,e⟩,st⟩:=x;exact⟨st _ _ p λo q=>k _ _ (.inl I) q,⟨o,k _ _ (.inl I) e⟩,st⟩
def gh.lt (x:gh P w H h) (e:H a=some o):a < h.objs.size:=(x a o e).lt
def gh.fresh (x:gh P w H h) (e:h.objs.size<=a):H a=none:=by
 cases q:H a with
 |none=>rfl
 |some u=>exact absurd (eG (x.lt q) e) (j5 _)
def gh.kept (x:gh P w H h) (k:∀b u,h.get? b=some u->h'.get? b=some u):gh P w H h':=λa o e=>
 (x a o e).nG (λb u _ q=>k b u q) (λ_ q=>q) λ_ _ q=>q
def gh.laid (x:gh P w H h) (k:∀b u,h.get? b=some u->h'.get? b=some u) (ar:h.objs.size<=a) (new:gB P w (upd H a o) h' a o):gh P w (upd H a o) h':=λb u e=>by
 have aP:=x.fresh ar;by_cases af:b=a
 ·subst af;rw[b'] at e;cases e;exact new
 ·rw[cj af] at e;exact(x b u e).nG (λc v _ q=>k c v q) (λc q=>by rw[cj (mW q aP)];exact q) λc xs q=>by rw[cj (mW q aP)];exact q
end
def mX (H:ap) (a:Addr) (u:jJ):Prop:=H a=some u\/∃o,H a=some (.mj o u)
def mX.ok (r:mX H a u) (x:gh P w H h):gB P w H h a u:=by
 rcases r with r|⟨o,r⟩
 ·exact x a u r
 ·obtain⟨_,q⟩:=x a _ r;exact q
def xT:Option jJ->Prop
 |some (.lst _)=>True
 |some (.iV _)=>True
 |some (.gv _)=>True
 |some (.set _ _)=>True
 |some (.ins _ _ _)=>True
 |some (.ext _)=>True
 |_=>False
section
variable {P:Program}{w:World}{H:ap}{h h':Heap}{x e:Addr}{c0:jJ}
def gh.write (ok:gh P w H h) (mF:xT (H x)) (he:e=x\/H e=some (.own x)) (k:∀b u,b≠e->h.get? b=some u->h'.get? b=some u) (v1:∃u,h'.get? e=some u) (new:gB P w (upd H x c0) h' x c0):gh P w (upd H x c0) h':=λb u q=>by
 have KB:∀c y,H c=some (.own y)->c≠x:=λc y r z=>by subst z;rw[r] at mF;exact mF
 have Re:∀c xs,H c=some (.tup xs)->c≠x:=λc xs r z=>by subst z;rw[r] at mF;exact mF
 by_cases af:b=x
 ·subst af;rw[b'] at q;cases q;exact new
 ·rw[cj af] at q;by_cases t0:b=e
  ·have kF:H b=some (.own x):=by
    rcases he with z|z
    ·exact absurd (t0.trans z) af
    ·rw[t0];exact z
   rw[q] at kF;cases kF;obtain⟨v,aK⟩:=v1;exact⟨v,by rw[t0];exact aK⟩
  ·refine(ok b u q).nG (λc v aw r=>k c v ?_ r) (λc r=>by rw[cj (KB c b r)];exact r) λc xs r=>by rw[cj (Re c xs r)];exact r
   rcases aw with rfl|aw
   ·exact t0
   ·rintro rfl;rcases he with z|z
    ·exact KB c b aw z
    ·rw[aw] at z;cases z;exact af rfl
end
structure ha (bi ex:gd) (H Z:ap) (h h':Heap):Prop where
 keep:∀b o,h.get? b=some o->H b=none->b∉bi->b∉ex->h'.get? b=some o
 slot:∀b o,h.get? b=some o->H b=none->b∈bi->b∉ex->∃sl,h'.get? b=some { o with slots:=sl }
 free:∀b o,h.get? b=some o->H b=none->b∉ex->Z b=none
 there:∀b o,h.get? b=some o->b∉ex->∃c0,h'.get? b=some c0
 ml:∀b xs,H b=some (.tup xs)->Z b=some (.tup xs)
 lx:∀b o u,H b=some (.mj o u)->Z b=some (.mj o u)
 mm:∀b aG,H b=some (.tw aG)->∃more,Z b=some (.tw (aG++more))
section
variable {bi Rs ex Ev:gd}{H ai aB:ap}{h ag ae h':Heap}{a x e:Addr}{o:jJ}
def ha.any (u:ha bi ex H ai h ag) (q:h.get? b=some c7) (n:H b=none) (ak:b∉ex):∃sl,ag.get? b=some { c7 with slots:=sl }:=by
 by_cases af:b∈bi
 ·exact u.slot b c7 q n af ak
 ·exact⟨c7.slots,u.keep b c7 q n af ak⟩
def ha.kept (k:∀b u,h.get? b=some u->h'.get? b=some u):ha bi ex H H h h':=
 ⟨λb c7 q _ _ _=>k b c7 q,λb c7 q _ _ _=>⟨c7.slots,k b c7 q⟩,λ_ _ _ n _=>n,λb c7 q _=>⟨c7,k b c7 q⟩,λ_ _ q=>q,λ_ _ _ q=>q,λ_ aG q=>⟨#[],by rw[q];simp⟩⟩
def ha.refl:ha bi ex H H h h:=ha.kept λ_ _ q=>q
theorem ha.laid (k:∀b u,h.get? b=some u->h'.get? b=some u) (ar:h.objs.size<=a) (aP:H a=none):ha bi ex H (upd H a o) h h' where
 keep:=λb u q _ _ _=>k b u q
 slot:=λb u q _ _ _=>⟨u.slots,k b u q⟩
 free:=λb u q n _=>by rw[cj (fw (eG (di q) ar))];exact n
 there:=λb u q _=>⟨u,k b u q⟩
 ml:=λb xs q=>by rw[cj (mW q aP)];exact q
 lx:=λb u xs q=>by rw[cj (mW q aP)];exact q
 mm:=λb aG q=>⟨#[],by rw[cj (mW q aP),q];simp⟩
def ha.write (mF:xT (H x)) (he:e=x\/H e=some (.own x)) (k:∀b u,b≠e->h.get? b=some u->h'.get? b=some u) (v1:∃u,h'.get? e=some u):ha bi ex H (upd H x o) h h':=by
 have ak:∀b,H b=none->b≠x:=λb n z=>by subst z;rw[n] at mF;exact mF
 have af:∀b,H b=none->b≠e:=λb n z=>by
  subst z;rcases he with r|r
  ·exact ak b n r
  ·rw[n] at r;cases r
 have aQ:∀b u,H b=some u->¬xT (some u)->b≠x:=λb u q nm z=>by subst z;rw[q] at mF;exact nm mF
 refine⟨λb u q n _ _=>k b u (af b n) q,λb u q n _ _=>⟨u.slots,k b u (af b n) q⟩,λb u q n _=>by rw[cj (ak b n)];exact n,λb u q _=>?_,
  λb xs q=>by rw[cj (aQ b _ q λz=>z)];exact q,λb u xs q=>by rw[cj (aQ b _ q λz=>z)];exact q,λb aG q=>⟨#[],by rw[cj (aQ b _ q λz=>z),q];simp⟩⟩
 by_cases t0:b=e
 ·subst t0;exact v1
 ·exact⟨u,k b u t0 q⟩
end
def AL (h:Heap) (H:ap):gd:=(List.range h.objs.size).filter λa=>(H a).isSome
def qJ (h:Heap) (H:ap):Heap:=PySem.W.hideAll h (AL h H)
def Qj (h H):(qJ h H).objs.size=h.objs.size:=PySem.W.hideAll_size _ _
def Qk (e:h.get? b=some o) (n:H b=none):(qJ h H).get? b=some o:=
 PySem.W.hideAll_get _ e λaQ=>by
  have q:(H b).isSome=true:=(List.mem_filter.mp aQ).2;rw[n] at q;simp at q
def Ql (e:(qJ h H).get? b=some o):h.get? b=some o/\H b=none:=by
 have db:h.get? b=some o:=PySem.W.of_hideAll (AL h H) e;refine⟨db,?_⟩;cases q:H b with
 |none=>rfl
 |some x=>
  have aQ:b∈AL h H:=List.mem_filter.mpr ⟨oA.mpr (di db),by simp[q]⟩;have z:(qJ h H).get? b=none:=PySem.W.hideAll_none (AL h H) aQ;rw[z] at e;cases e
end L2
namespace L2
open PySem PySem.Spec PyProof.Rows
structure Mod (K:aJ) (mg:Str->cn) (base:Heap):Prop where
 tx:K.In base
 glob:base.Ns mainGlobals mg
 blt:∃ky,base.Ns builtinsNs ky/\∀x:Str,x≠"__name__"->ky x=bootBuiltins x
 nolimit:base.NoLimit
structure a8 where
 prog:Program
 w:World
 K:aJ
 mg:Str->cn
 base:Heap
 A:Around
 N:dH
 fZ:Shared
 H₀:ap
 env:Env
 outer:oy
 stack:oy
 ex:gd
 fn:Str->Bool
 calm:Bool
 ia:eU
 cR:Value->Shared->Prop
abbrev dN (X:a8){cC:Type}(t:Sem cC) (Q:cC->Shared->Prop) (E:Value->Shared->Prop) (s:Shared):Prop:=wpAny (model X.prog X.w) X.A t Q E s
abbrev gi (X:a8) (e:Expr) (aj:gY):Prop:=starEach (e::aj) X.env=(false,eval e X.env)::starEach aj X.env
abbrev iW (X:a8) (p:Pos) (aj:gY):Prop:=(backTo p (starEach aj X.env)).any (·.1)=false
def jk (l:oy):gd:=l.filterMap (·.frame)
abbrev a8.bi (X:a8):gd:=jk X.outer
def tz (hv:Scope) (x:Str):Prop:=hv.names.lookup x=some .local\/hv.names.lookup x=some .cell\/hv.names.lookup x=some .free
def Loc (hv:Scope) (x:Str):Prop:=hv.names.lookup x=some .local\/hv.names.lookup x=some .cell
def Look (env:Env) (h:Heap) (m:Str->cn) (x:Str) (u:Value):Prop:=
 (env.kindOf x=some .local/\m x=some u)\/((env.kindOf x=some .cell\/env.kindOf x=some .free)/\∃c,env.cells.lookup x=some c/\h.IsCell c (some u))
structure a8.Ok (X:a8):Prop where
 mod:Mod X.K X.mg X.base
 kind:X.env.scope.kind=.function
 glob:X.env.globals=mainGlobals
 blt:X.env.builtins=builtinsNs
 above:X.fZ.hz<=X.env.locals
 inj:∀x y c,X.env.cells.lookup x=some c->X.env.cells.lookup y=some c->x=y
 has:∀x,(X.env.kindOf x=some .cell\/X.env.kindOf x=some .free)->∃c,X.env.cells.lookup x=some c
 rZ:∀x c,X.fn x=true->X.env.cells.lookup x=some c->X.fZ.hz<=c
 hd:X.calm=true->X.A.handled=none
 frames:X.A.frames=some X.stack
 tA:X.stack=X.outer\/(X.stack=X.env::X.outer/\X.env.frame=some X.env.locals)
 xU:∀b∈X.ex,b≠X.env.locals/\∀x c,X.env.cells.lookup x=some c->c≠b
 bs:∀b o,X.base.get? b=some o->X.fZ.heap.get? b=some o/\X.H₀ b=none
 ly:X.base.objs.size<=X.fZ.hz
 qK:∀b o,X.base.get? b=some o->b∉X.ex
 r0:∀b∈X.ex,b∉X.bi
 kU:X.fZ.heap.FunFrames X.base X.outer
 pG:∀b∈X.bi,X.H₀ b=none
structure Inv (X:a8) (ac:eU) (aa:List (mi)) (H:ap) (s:Shared):Prop where
 ok:X.Ok
 os:s.os=X.fZ.os
 bare:AllBare s.gens
 base:ha X.bi X.ex X.H₀ H X.fZ.heap s.heap
 loc:∃m,s.heap.Ns X.env.locals m/\∀(i:Nat) x v,X.N[i]?=some x->aa[i]?=some (some v)->tz X.env.scope x->∃u,RelV v u/\Look X.env s.heap m x u
 cell:∀x c,X.env.cells.lookup x=some c->∃v,s.heap.IsCell c v
 free:H X.env.locals=none
 j8:∀x c,X.env.cells.lookup x=some c->H c=none
 pin:∀p∈X.ia++ac,s.heap.get? p.1=some p.2/\H p.1=none/\p.1≠X.env.locals/\p.1∉X.bi/\∀v,p.2.data≠.cell v
 bA:gh X.prog X.w H s.heap
 len:aa.length=X.N.length
section
variable {X:a8}{ac:eU}{aa:List (mi)}{H Z:ap}{s:Shared}{h':Heap}
def a8.Ok.Qm (ok:X.Ok) (e:X.base.get? b=some o):b∉X.bi:=λaf=>by
 have:=(ok.kU.mem af).1;rw[e] at this;cases this
def Inv.bs (J:Inv X ac aa H s):∀b o,X.base.get? b=some o->s.heap.get? b=some o/\H b=none:=λb o e=>
 ⟨J.base.keep b o (J.ok.bs b o e).1 (J.ok.bs b o e).2 (J.ok.Qm e) (J.ok.qK b o e),J.base.free b o (J.ok.bs b o e).1 (J.ok.bs b o e).2 (J.ok.qK b o e)⟩
def Inv.j9 (J:Inv X ac aa H s):∀b o,X.base.get? b=some o->s.heap.get? b=some o:=λb o e=>(J.bs b o e).1
def Inv.mod (J:Inv X ac aa H s):Mod X.K X.mg X.base:=J.ok.mod
def Inv.ep (J:Inv X ac aa H s):X.K.In s.heap:=J.ok.mod.tx.keeps J.j9
def Inv.fr (J:Inv X ac aa H s):∃m,Fr X.base X.env.locals s.heap m:=
 let ⟨m,aP,_⟩:=J.loc
 ⟨m,aP,J.j9,dW J.ok.ly J.ok.above⟩
def Inv.lt (J:Inv X ac aa H s):X.env.locals < s.hz:=let ⟨_,aP,_⟩:=J.loc;aP.lt
def Inv.oE (J:Inv X ac aa H s):X.fZ.hz<=s.hz:=dW J.ok.above (xB J.lt)
def Inv.Qn (J:Inv X ac aa H s) (h:s.hz<=a):a∉X.bi:=λaf=>by
 obtain⟨_,o,a',_⟩:=J.ok.kU.mem af;exact absurd (eG (di a') (dW J.oE h)) (j5 _)
def Inv.pH (J:Inv X ac aa H s):∀x c,X.env.cells.lookup x=some c->c≠X.env.locals:=λx c e z=>by
 obtain⟨v,o,a',hd⟩:=J.cell x c e;obtain⟨m,⟨c0,aj,cp,t1,ge,_⟩,_⟩:=J.loc;rw[z,t1] at a';cases a';rw[ge] at hd;cases hd
def Inv.kU (J:Inv X ac aa H s):s.heap.FunFrames X.base X.outer:=by
 have all:∀(l:oy),(∀b∈jk l,b∈X.bi)->X.fZ.heap.FunFrames X.base l->s.heap.FunFrames X.base l:=by
  intro l
  induction l with
  |nil=>intro _ _;trivial
  |cons env r ih=>
   intro ax au;obtain⟨aU,⟨L,o,bl,aP,a',hd⟩,al⟩:=au;have dC:L∈X.bi:=ax L (by unfold jk;rw[vq,bl];exact jG);obtain⟨sl,e⟩:=J.base.slot L o a' (J.ok.pG L dC) dC λz=>J.ok.r0 L z dC;exact⟨aU,⟨L,_,bl,aP,e,hd⟩,ih (λb af=>ax b (by unfold jk;rw[vq,bl];exact j4 _ af)) al⟩
 exact all X.outer (λ_ af=>af) J.ok.kU
def Inv.stack (J:Inv X ac aa H s):s.heap.FunFrames X.base X.stack:=by
 rcases J.ok.tA with e|⟨e,bl⟩
 ·rw[e];exact J.kU
 ·rw[e];obtain⟨m,aP,_⟩:=J.loc;refine .cons (by rw[J.ok.kind];decide) bl aP ?_ J.kU;exact DA (dW J.ok.ly J.ok.above)
def Inv.vI (J:Inv X ac aa H s):∀b∈jk X.stack,b∈X.env.locals::X.bi:=λb af=>by
 rcases J.ok.tA with e|⟨e,bl⟩
 ·rw[e] at af;exact j4 _ af
 ·rw[e] at af;unfold jk at af;rw[vq,bl] at af;exact af
def Inv.xV (J:Inv X ac aa H s):∀b∈jk X.stack,H b=none:=λb af=>by
 rcases gZ.mp (J.vI b af) with e|af
 ·rw[e];exact J.free
 ·obtain⟨_,o,a',_⟩:=J.ok.kU.mem af;exact J.base.free b o a' (J.ok.pG b af) λz=>J.ok.r0 b z af
def Inv.step {g':Array GenState}{t':Nat}{d':Drawn}{ch:gd}(J:Inv X ac aa H s) (kG:∀b∈ch,(b∈X.ex\/X.fZ.hz<=b)/\b≠X.env.locals/\(∀x c,X.env.cells.lookup x=some c->c≠b)/\∀p∈X.ia++ac,p.1≠b) (keep:∀b o,b≠X.env.locals->b∉X.bi->b∉ch->s.heap.get? b=some o->H b=none->h'.get? b=some o) (slot:∀b o,b≠X.env.locals->b∈X.bi->b∉ch->s.heap.get? b=some o->H b=none->∃sl,h'.get? b=some { o with slots:=sl }) (free:∀b o,b∉ch->s.heap.get? b=some o->H b=none->Z b=none) (there:∀b o,b∉ch->s.heap.get? b=some o->∃c0,h'.get? b=some c0) (ml:∀b xs,H b=some (.tup xs)->Z b=some (.tup xs)) (lx:∀b o u,H b=some (.mj o u)->Z b=some (.mj o u)) (mm:∀b aG,H b=some (.tw aG)->∃more,Z b=some (.tw (aG++more))) (ns:∀m,s.heap.Ns X.env.locals m->h'.Ns X.env.locals m) (bA:gh X.prog X.w Z h') (a1:AllBare g'):Inv X ac aa Z { s with heap:=h',gens:=g',drawn:=d',toks:=t' }:=by
 have KF:∀b o,X.fZ.heap.get? b=some o->b≠X.env.locals:=λb o e=>fw (eG (di e) J.ok.above);have AT:∀b o,X.fZ.heap.get? b=some o->b∉X.ex->b∉ch:=λb o e ak af=>by
  rcases(kG b af).1 with z|z
  ·exact ak z
  ·exact absurd (eG (di e) z) (j5 _)
 have cellK:∀x c,X.env.cells.lookup x=some c->∀v,s.heap.IsCell c v->h'.IsCell c v:=λx c e v ⟨o,a',hd⟩=>by
  have x0:c∉ch:=λz=>(kG c z).2.2.1 x c e rfl;by_cases aw:c∈X.bi
  ·obtain⟨sl,q⟩:=slot c o (J.pH x c e) aw x0 a' (J.j8 x c e);exact⟨_,q,hd⟩
  ·exact⟨o,keep c o (J.pH x c e) aw x0 a' (J.j8 x c e),hd⟩
 refine⟨J.ok,J.os,a1,⟨λb o e n af ak=>?_,λb o e n af ak=>?_,λb o e n ak=>?_,λb o e ak=>?_,λb xs e=>ml b xs (J.base.ml b xs e),λb o xs e=>lx b o xs (J.base.lx b o xs e),λb aG e=>?_⟩,?_,λx c e=>?_,?_,λx c e=>?_,λp ar=>?_,bA,J.len⟩
 ·exact keep b o (KF b o e) af (AT b o e ak) (J.base.keep b o e n af ak) (J.base.free b o e n ak)
 ·obtain⟨sl,am⟩:=J.base.slot b o e n af ak;obtain⟨y8,aE⟩:=slot b _ (KF b o e) af (AT b o e ak) am (J.base.free b o e n ak);exact⟨y8,aE⟩
 ·obtain⟨c0,am⟩:=J.base.there b o e ak;exact free b c0 (AT b o e ak) am (J.base.free b o e n ak)
 ·obtain⟨c0,am⟩:=J.base.there b o e ak;exact there b c0 (AT b o e ak) am
 ·obtain⟨d3,am⟩:=J.base.mm b aG e;obtain⟨im,aE⟩:=mm b _ am;exact⟨d3++im,by rw[aE,Array.append_assoc]⟩
 ·obtain⟨m,aP,au⟩:=J.loc;refine⟨m,ns m aP,λi x v am aE bq=>?_⟩;obtain⟨u,r,l⟩:=au i x v am aE bq;refine⟨u,r,?_⟩;rcases l with l|⟨k,c,e,z⟩
  ·exact .inl l
  ·exact .inr ⟨k,c,e,cellK x c e _ z⟩
 ·obtain⟨v,z⟩:=J.cell x c e;exact⟨v,cellK x c e v z⟩
 ·obtain⟨m,⟨o,_,_,a',_⟩,_⟩:=J.loc;exact free _ o (λz=>(kG _ z).2.1 I) a' J.free
 ·obtain⟨v,o,a',hd⟩:=J.cell x c e;exact free c o (λz=>(kG c z).2.2.1 x c e I) a' (J.j8 x c e)
 ·obtain⟨e,n,ne,o0,d⟩:=J.pin p ar;have x0:p.1∉ch:=λz=>(kG p.1 z).2.2.2 p ar rfl;exact⟨keep p.1 p.2 ne o0 x0 e n,free p.1 p.2 x0 e n,ne,o0,d⟩
def Inv.un {t':Nat}(J:Inv X ac aa H s) (u:ha X.bi [] H Z s.heap h') (bA:gh X.prog X.w Z h'):Inv X ac aa Z { s with heap:=h',toks:=t' }:=by
 obtain⟨m,⟨o,aj,cp,a',r⟩,_⟩:=id J.loc;obtain⟨sl,dC⟩:=u.any a' J.free bZ;exact J.step (g':=s.gens) (d':=s.drawn) (ch:=[]) (λ_ z=>nomatch z) (λb o _ af _ e n=>u.keep b o e n af bZ) (λb o _ af _ e n=>u.slot b o e n af bZ) (λb o _ e n=>u.free b o e n bZ) (λb o _ e=>u.there b o e bZ) u.ml u.lx u.mm (λc8 aQ=>by
  obtain⟨c0,v2,y9,t1,fG⟩:=aQ;rw[a'] at t1;cases t1;exact⟨_,v2,y9,dC,fG⟩) bA J.bare
def Inv.call {g':Array GenState}{t':Nat}{d':Drawn}{ch:gd}(J:Inv X ac aa H s) (u:ha (jk X.stack) ch H Z s.heap h') (bA:gh X.prog X.w Z h') (a1:AllBare g') (kG:∀b∈ch,(b∈X.ex\/X.fZ.hz<=b)/\b≠X.env.locals/\(∀x c,X.env.cells.lookup x=some c->c≠b)/\∀p∈X.ia++ac,p.1≠b):Inv X ac aa Z { s with heap:=h',gens:=g',drawn:=d',toks:=t' }:=by
 obtain⟨m,⟨o,aj,cp,a',r⟩,_⟩:=id J.loc;obtain⟨sl,dC⟩:=u.any a' J.free λz=>(kG _ z).2.1 rfl;exact J.step (ch:=ch) kG (λb o dC af aw e n=>u.keep b o e n (λz=>(gZ.mp (J.vI b z)).elim dC af) aw) (λb o _ _ aw e n=>u.any e n aw) (λb o aw e n=>u.free b o e n aw) (λb o aw e=>u.there b o e aw) u.ml u.lx u.mm (λc8 aQ=>by
  obtain⟨c0,v2,y9,t1,fG⟩:=aQ;rw[a'] at t1;cases t1;exact⟨_,v2,y9,dC,fG⟩) bA a1
def Inv.turned {t':Nat}{bV:Addr}(J:Inv X ac aa H s) (k:∀b o,b≠bV->s.heap.get? b=some o->h'.get? b=some o) (aP:H bV=none) (dC:bV≠X.env.locals) (ag:bV∈X.ex\/X.fZ.hz<=bV) (ae:∀x c,X.env.cells.lookup x=some c->c≠bV) (aW:∀p∈X.ia++ac,p.1≠bV):Inv X ac aa H { s with heap:=h',toks:=t' }:=by
 have KM:∀b u,H b=some u->b≠bV:=λb u e z=>by rw[z,aP] at e;cases e
 refine J.step (g':=s.gens) (d':=s.drawn) (ch:=[bV]) (λb af=>?_) (λb o _ _ aw e _=>k b o (λz=>aw (by simp[z])) e) (λb o _ _ aw e _=>⟨o.slots,k b o (λz=>aw (by simp[z])) e⟩) (λ_ _ _ _ n=>n)
  (λb o aw e=>⟨o,k b o (λz=>aw (by simp[z])) e⟩) (λ_ _ e=>e) (λ_ _ _ e=>e) (λb aG e=>⟨#[],by rw[e];simp⟩) (λm aQ=>?_) (λb u e=>?_) J.bare
 ·have e:b=bV:=by simpa using af
  subst e;exact⟨ag,dC,ae,aW⟩
 ·obtain⟨o,aj,cp,a',r⟩:=aQ;exact⟨o,aj,cp,k _ o (d0 dC) a',r⟩
 ·refine(J.bA b u e).nG (λc v aw q=>k c v ?_ q) (λ_ q=>q) λ_ _ q=>q;rcases aw with z|z
  ·rw[z];exact KM b u e
  ·exact KM c _ z
def Inv.tok (J:Inv X ac aa H s) (t:Nat):Inv X ac aa H { s with toks:=t }:=J.un (h':=s.heap) (t':=t) ha.refl J.bA
def Inv.kept (J:Inv X ac aa H s) (k:∀b u,s.heap.get? b=some u->h'.get? b=some u):Inv X ac aa H { s with heap:=h',toks:=t' }:=J.un (ha.kept k) (J.bA.kept k)
def Inv.laid (J:Inv X ac aa H s) (k:∀b u,s.heap.get? b=some u->h'.get? b=some u) (ar:s.hz<=a) (new:gB X.prog X.w (upd H a o) h' a o):Inv X ac aa (upd H a o) { s with heap:=h',toks:=t' }:=J.un (ha.laid k ar (J.bA.fresh ar)) (J.bA.laid k ar new)
def Inv.write (J:Inv X ac aa H s) (mF:xT (H x)) (he:e=x\/H e=some (.own x)) (k:∀b u,b≠e->s.heap.get? b=some u->h'.get? b=some u) (v1:∃u,h'.get? e=some u) (new:gB X.prog X.w (upd H x o) h' x o):Inv X ac aa (upd H x o) { s with heap:=h',toks:=t' }:=J.un (ha.write mF he k v1) (J.bA.write mF he k v1 new)
def Inv.weak (J:Inv X ac aa H s) (au:σ'.length=aa.length) (w:∀(i:Nat) v,σ'[i]?=some (some v)->aa[i]?=some (some v)):Inv X ac σ' H s:=
 ⟨J.ok,J.os,J.bare,J.base,let ⟨m,aP,io⟩:=J.loc;⟨m,aP,λi x v am aE bq=>io i x v am (w i v aE) bq⟩,J.cell,J.free,J.j8,J.pin,J.bA,au.trans J.len⟩
def Inv.AM (J:Inv X ac aa H s) (h:∀p∈Sc,s.heap.get? p.1=some p.2/\H p.1=none/\p.1≠X.env.locals/\p.1∉X.bi/\∀v,p.2.data≠.cell v):Inv X Sc aa H s:=
 ⟨J.ok,J.os,J.bare,J.base,J.loc,J.cell,J.free,J.j8,λp ar=>(th.mp ar).elim (λz=>J.pin p (vr _ z)) (h p),J.bA,J.len⟩
def JJ {N:dH}(dx:N.Nodup){i j:Nat}{x:Str}(a:N[i]?=some x) (b:N[j]?=some x):i=j:=by
 obtain⟨ag,am⟩:=kP.mp a;obtain⟨ae,aE⟩:=kP.mp b;exact(List.getElem_inj dx).mp (am.trans aE.symm)
def _root_.zzf{p:Prop}(h:p:=by first|exact .inl I|exact .inr I|assumption):=h
def _root_.KK:Lean.Syntax:=zzf._auto_1
def JK {i:Nat}(J:Inv X ac aa H s) (dx:X.N.Nodup) (aR:X.N[i]?=some x) (ak:Loc X.env.scope x) (r:RelV v u) (h:∀s',Inv X ac (aa.set i (some v)) H s'->(∃a,Heap.SameBut a s.heap s'.heap/\(a=X.env.locals\/X.env.cells.lookup x=some a))->Q () s') (bl:autoParam (X.fn x=true\/X.env.scope.names.lookup x=some .local) KK):wpAny M A (storeName X.env x u) Q E s:=by
 obtain⟨m,aP,au⟩:=id J.loc;have SL:(X.env.scope.kind == .class||(X.env.scope.kind == .module&&X.env.locals != X.env.globals))=false:=by rw[J.ok.kind];rfl
 have No:i < aa.length:=by rw[J.len];exact(kP.mp aR).1
 have pH:=J.pH;have tracked:∀{a:Addr}{h':Heap},(∃o,s.heap.get? a=some o/\H a=none)->Heap.SameBut a s.heap h'->gh X.prog X.w H h':=λ{a h'} aq ax b c7 e=>by
  obtain⟨_,_,n2⟩:=aq;refine(J.bA b c7 e).nG (λc jT aw q=>(ax.2 c ?_).trans q) (λ_ q=>q) λ_ _ q=>q;rintro rfl;rcases aw with rfl|aw
  ·rw[n2] at e;cases e
  ·rw[n2] at aw;cases aw
 rcases ak with aU|aU
 ·refine wpAny_storeName_local aU aP (λh' y' ax=>?_) SL;obtain⟨m0,_,_,N8,_⟩:=id aP;refine h _ ⟨J.ok,J.os,J.bare,⟨λb o e n af ak=>?_,λb o e n af ak=>?_,J.base.free,λb o e ak=>?_,J.base.ml,J.base.lx,J.base.mm⟩,⟨_,y',λj y gl am aE bq=>?_⟩,λy c e=>?_,J.free,J.j8,λp ar=>?_,tracked ⟨m0,N8,J.free⟩ ax,by simpa using J.len⟩ ⟨_,ax,.inl I⟩
  ·exact(ax.2 b (fw (eG (di e) J.ok.above))).trans (J.base.keep b o e n af ak)
  ·obtain⟨sl,am⟩:=J.base.slot b o e n af ak;exact⟨sl,(ax.2 b (fw (eG (di e) J.ok.above))).trans am⟩
  ·obtain⟨c0,am⟩:=J.base.there b o e ak;exact⟨c0,(ax.2 b (fw (eG (di e) J.ok.above))).trans am⟩
  ·by_cases c':j=i
   ·subst c';rw[aR] at am;cases am;rw[List.getElem?_set_self No] at aE;cases aE;exact⟨u,r,.inl ⟨aU,bZ⟩⟩
   ·rw[List.getElem?_set_ne (d0 c')] at aE;obtain⟨ec,fG,q⟩:=au j y gl am aE bq;refine⟨ec,fG,?_⟩;rcases q with ⟨k,e⟩|⟨k,c,e,z⟩
    ·refine .inl ⟨k,?_⟩;have:y≠x:=λe=>c' (JJ dx am (e▸aR));simp[this,e]
    ·exact .inr ⟨k,c,e,z.sameBut ax (pH y c e)⟩
  ·obtain⟨jT,z⟩:=J.cell y c e;exact⟨jT,z.sameBut ax (pH y c e)⟩
  ·obtain⟨e,n,ne,o0,d⟩:=J.pin p ar;exact⟨(ax.2 p.1 ne).trans e,n,ne,o0,d⟩
 ·have Fa:X.fn x=true:=by
   rcases bl with z|z
   ·exact z
   ·rw[z] at aU;cases aU
  obtain⟨c,aw⟩:=J.ok.has x (.inl aU);obtain⟨jT,z⟩:=J.cell x c aw;refine wpAny_storeName_cell J.ok.kind aU aw z (λh' n3 ax=>?_);obtain⟨gn,N9,SZ⟩:=id z;refine h { s with heap:=h' } ⟨J.ok,J.os,J.bare,⟨λb o e n af ak=>?_,λb o e n af ak=>?_,J.base.free,λb o e ak=>?_,J.base.ml,J.base.lx,J.base.mm⟩,⟨m,aP.sameBut ax (d0 (pH x c aw)),λj y gl am aE bq=>?_⟩,λy dF e=>?_,J.free,J.j8,λp ar=>?_,tracked ⟨gn,N9,J.j8 x c aw⟩ ax,by simpa using J.len⟩ ⟨c,ax,.inr aw⟩
  ·exact(ax.2 b (fw (eG (di e) (J.ok.rZ x c Fa aw)))).trans (J.base.keep b o e n af ak)
  ·obtain⟨sl,am⟩:=J.base.slot b o e n af ak;exact⟨sl,(ax.2 b (fw (eG (di e) (J.ok.rZ x c Fa aw)))).trans am⟩
  ·obtain⟨c0,am⟩:=J.base.there b o e ak;exact⟨c0,(ax.2 b (fw (eG (di e) (J.ok.rZ x c Fa aw)))).trans am⟩
  ·by_cases c':j=i
   ·subst c';rw[aR] at am;cases am;rw[List.getElem?_set_self No] at aE;cases aE;exact⟨u,r,.inr ⟨.inl aU,c,aw,n3⟩⟩
   ·rw[List.getElem?_set_ne (d0 c')] at aE;obtain⟨ec,fG,q⟩:=au j y gl am aE bq;refine⟨ec,fG,?_⟩;rcases q with q|⟨k,dF,e,o5⟩
    ·exact .inl q
    ·refine .inr ⟨k,dF,e,o5.sameBut ax ?_⟩;rintro rfl;exact c' (JJ dx am (J.ok.inj _ _ _ e aw▸aR))
  ·by_cases N':dF=c
   ·subst N';exact⟨_,n3⟩
   ·obtain⟨dd,cW⟩:=J.cell y dF e;exact⟨dd,cW.sameBut ax N'⟩
  ·obtain⟨e,n,ne,o0,d⟩:=J.pin p ar;refine⟨(ax.2 p.1 ?_).trans e,n,ne,o0,d⟩;intro q;rw[q,N9] at e;have kF:gn=p.2:=hB e;exact d jT (by rw[<-kF];exact SZ)
def D6 (J:Inv X ac aa H s) (dx:X.N.Nodup) (aR:X.N[i]?=some x) (ak:Loc X.env.scope x) (r:RelV v u) (h:∀s',Inv X ac (aa.set i (some v)) H s'->Q () s') (bl:autoParam (X.fn x=true\/X.env.scope.names.lookup x=some .local) KK):wpAny M A (storeName X.env x u) Q E s:=
 JK J dx aR ak r (λs' sc _=>h s' sc) bl
def Inv.vJ (J:Inv X ac aa H s) (a':s'.os=s.os) (u:ha (jk X.stack) ch H Z s.heap s'.heap) (bA:gh X.prog X.w Z s'.heap) (a1:AllBare s'.gens) (kG:∀b∈ch,(b∈X.ex\/X.fZ.hz<=b)/\b≠X.env.locals/\(∀x c,X.env.cells.lookup x=some c->c≠b)/\∀p∈X.ia++ac,p.1≠b):Inv X ac aa Z s':=by
 obtain⟨h',g',d',t',c0⟩:=s';have e:c0=s.os:=a';subst e;exact J.call (g':=g') (t':=t') (d':=d') u bA a1 kG
end
abbrev cJ:=Value->tf->ap->Prop
abbrev St:=List (mi)
abbrev bz:=V->ap->Prop
abbrev TE:=St->ap->bz->Prop
abbrev TT:=St->ap->(Bool->ap->Prop)->Prop
abbrev fi:=St->ap->(br->ap->Prop)->Prop
structure Ends where
 c4:St->ap->Prop
 lz:bz
 j9:St->ap->Prop:=λ_ _=>False
 b0:St->ap->Prop:=λ_ _=>False
abbrev gw:=Ends->St->ap->Prop
def gC (X:a8) (ac:eU) (aa:St) (Q:bz) (u:Value) (s':Shared):Prop:=∃v Z,Inv X ac aa Z s'/\RelV v u/\Q v Z
def D7 (X:a8) (ac:eU) (aa:St) (Q:Bool->ap->Prop) (b:Bool) (s':Shared):Prop:=∃Z,Inv X ac aa Z s'/\Q b Z
def JL (X:a8) (ac:eU) (aa:St) (Q:br->ap->Prop) (us:e3) (s':Shared):Prop:=∃vs Z,Inv X ac aa Z s'/\b4 vs us/\Q vs Z
def pI (X:a8) (ac:eU) (D:Ends) (f:Flow) (s':Shared):Prop:=
 match f with
 |.next=>∃σ' Z,Inv X ac σ' Z s'/\D.c4 σ' Z
 |.brk=>∃σ' Z,Inv X ac σ' Z s'/\D.j9 σ' Z
 |.cont=>∃σ' Z,Inv X ac σ' Z s'/\D.b0 σ' Z
 |.ret u=>∃v σ' Z,Inv X ac σ' Z s'/\RelV v u/\D.lz v Z
def bU (X:a8) (e:Expr) (t:TE):Prop:=
 ∀ac s aa H Q,Inv X ac aa H s->t aa H Q->dN X (eval e X.env) (gC X ac aa Q) X.cR s
def kV (X:a8) (e:Expr) (t:TT):Prop:=
 ∀ac s aa H Q,Inv X ac aa H s->t aa H Q->dN X (isTrue e X.env (eval e X.env)) (D7 X ac aa Q) X.cR s
def jl (X:a8) (e:Expr) (t:TT):Prop:=
 ∀(whole:Sem Value) ac s aa H Q,Inv X ac aa H s->t aa H Q->dN X (isTrue e X.env whole) (D7 X ac aa Q) X.cR s
def jl.pt (h:jl X e t):kV X e t:=h _
def iX (X:a8) (aj:gY) (t:fi):Prop:=
 ∀(pos:Pos) ac s aa H Q,Inv X ac aa H s->t aa H Q->dN X (spliced (backTo pos (starEach aj X.env))) (JL X ac aa Q) X.cR s
def j' (X:a8) (st:Stmt) (t:gw):Prop:=
 ∀ac s aa H D,Inv X ac aa H s->t D aa H->dN X (exec st X.env) (pI X ac D) X.cR s
def ka (X:a8) (st:vi) (t:gw):Prop:=
 ∀ac s aa H D,Inv X ac aa H s->t D aa H->dN X (execs st X.env) (pI X ac D) X.cR s
def bW (h:wpAny M A t Q E s) (n4:∀a s,Q a s->iJ a s):wpAny M A t iJ E s:=fL h n4 λ_ _ x=>x
end L2
namespace L2
open PySem PySem.Spec PyProof.Rows
section
variable {X:a8}
inductive xW (i:Nat) (aa:St) (H:ap) (Q:bz):Prop
 |mk v:aa[i]?=some (some v)->Q v H->xW i aa H Q
def jm (v:V):TE:=λ_ H Q=>Q v H
def JM (dx:X.N[i]?=some x) (aK:tz X.env.scope x) (hd:autoParam (e4 x) Cl) (gT:autoParam ((x == ("__classdict__":Str))=false) Cl):bU X (.Name x pos) (xW i):=by
 intro ac s aa H Q J h;obtain⟨v,e,h⟩:=h;obtain⟨m,aP,au⟩:=J.loc;obtain⟨u,r,l⟩:=au i x v dx e aK;have fin:gC X ac aa Q u s:=⟨v,H,J,r,h⟩;rcases l with ⟨aU,aQ⟩|⟨aU,c,aw,za⟩
 ·exact wpAny_Name (wpAny_loadName_local J.ok.kind aU aP aQ fin) hd
 ·rcases aU with aU|aU
  ·exact wpAny_Name (wpAny_loadName_cell J.ok.kind aU aw za fin) hd
  ·exact wpAny_Name (wpAny_loadName_free J.ok.kind aU aw za fin gT) hd
def aO:bU X (.Constant (.int i) j pos) (jm (.int i)):=λ_ _ _ H _ J h=>wpAny_Constant_int ⟨.int i,H,J.tok _,⟨_,I⟩,h⟩
def kW:bU X (.Constant (.bool b) j pos) (jm (.aM b)):=λ_ _ _ H _ J h=>Constant_bool ⟨.aM b,H,J,I,h⟩
def nH:bU X (.Constant .none j pos) (jm .a3):=λ_ _ _ H _ J h=>Constant_none ⟨.a3,H,J,I,h⟩
def aV:bU X (.Constant (.str x) j pos) (jm (.str x)):=λ_ _ _ H _ J h=>xC ⟨.str x,H,J.tok _,⟨_,I⟩,h⟩
def eH (X:a8) (x:Str):Prop:=X.env.kindOf x=some .globalImplicit
def r1 (J:Inv X ac aa H s) (a1:eH X x) (aQ:X.mg x=some u) (h:Q u s) (hd:autoParam (e4 x) Cl):dN X (eval (.Name x pos) X.env) Q E s:=
 Calls.Name_function_global J.ok.kind a1 (Calls.loadGlobal_global (by rw[J.ok.glob];exact J.mod.glob.keeps J.j9) aQ h) hd
def tB (J:Inv X ac aa H s) (a1:eH X x) (aQ:X.mg x=none) (aK:bootBuiltins x=some u) (h:Q u s) (aP:autoParam (x≠"__name__") Cl) (hd:autoParam (e4 x) Cl):dN X (eval (.Name x pos) X.env) Q E s:=by
 obtain⟨ky,ag,ae⟩:=J.mod.blt;exact Calls.Name_function_global J.ok.kind a1 (Calls.loadGlobal_builtin (by rw[J.ok.glob];exact J.mod.glob.keeps J.j9) aQ (by rw[J.ok.blt];exact ag.keeps J.j9) ((ae x aP).trans aK) h) hd
def iY (a1:eH X x) (aQ:X.mg x=some u) (r:RelV v u) (hd:autoParam (e4 x) Cl):bU X (.Name x pos) (jm v):=
 λ_ _ _ H _ J h=>r1 J a1 aQ ⟨v,H,J,r,h⟩ hd
def oG (a1:eH X x) (aQ:X.mg x=none) (aK:bootBuiltins x=some u) (r:RelV v u) (aP:autoParam (x≠"__name__") Cl) (hd:autoParam (e4 x) Cl):bU X (.Name x pos) (jm v):=
 λ_ _ _ H _ J h=>tB J a1 aQ aK ⟨v,H,J,r,h⟩ aP hd
variable {a b:Expr}{bu bH:TE}{pos:Pos}
def Qo (X:a8) (op:CmpOp) (a b:Expr) (t:TE):Prop:=
 ∀ac s aa H Q,Inv X ac aa H s->t aa H Q->
  dN X (eval a X.env) (λv dn=>dN X (eval b X.env) (λu la=>dN X (compareOp op v u) (gC X ac aa Q) X.cR la) X.cR dn) X.cR s
inductive IsT (x:V) (ai:ap) (Q:Bool->ap->Prop):Prop
 |mk c:x=.aM c->Q c ai->IsT x ai Q
def AN (t:TE):TT:=λaa H Q=>t aa H λx ai=>IsT x ai Q
def Qp (h:Qo X op a b t) (ag:behindInMarks op b=false:=by first|exact abB _ dU dU|rfl):kV X (.Compare a [op] [b] pos) (AN t):=by
 intro ac s aa H Q J ay;refine wpAny_isTrue_Compare1 (bW (h ac s aa H _ J ay) λv az ag=>bW ag λu aN ae=>bW ae λc a2 aD=>?_) ag;obtain⟨x,ai,a6,bR,aZ⟩:=aD;obtain⟨d,rfl,q⟩:=aZ;cases bR;exact ti ⟨ai,a6,q⟩
def _root_.zzg{p:Prop}(h:p:=by intro _;rfl):=h
def _root_.Tm:Lean.Syntax:=zzg._auto_1
def hD (h:bU X e t) (he:autoParam (∀whole,isTrue e X.env whole=(do let v <-whole;standAt e.pos;holding [v] (truthy v))) Tm):kV X e (AN t):=by
 intro ac s aa H Q J ay;refine isTrue_plain (bW (h ac s aa H _ J ay) λv az aD=>?_) (he _);obtain⟨x,ai,a6,bR,aZ⟩:=aD;obtain⟨d,rfl,q⟩:=aZ;cases bR;exact ti ⟨ai,a6,q⟩
variable {fT ri:TT}{rest:gY}
def JN (t u:TT):TT:=λaa H Q=>t aa H λc ai=>if c=true then u aa ai Q else Q false ai
def JO (t u:TT):TT:=λaa H Q=>t aa H λc ai=>if c=true then Q true ai else u aa ai Q
def hO (t:TT):TT:=λaa H Q=>t aa H λc ai=>Q (!c) ai
def kz (aq:kV X a fT):jl X (.BoolOp .And [a] pos) fT:=by
 intro zb ac s aa H Q J h;refine isTrue_and (bW (aq ac s aa H Q J h) λc az e=>?_);cases c with
 |true=>exact isTrue_and_nil e
 |false=>exact e
def jK (aq:kV X a fT):jl X (.BoolOp .Or [a] pos) fT:=by
 intro zb ac s aa H Q J h;refine isTrue_or (bW (aq ac s aa H Q J h) λc az e=>?_);cases c with
 |false=>exact isTrue_or_nil e
 |true=>exact e
def kb (aq:kV X a fT) (af:jl X (.BoolOp .And (b::rest) pos) ri):jl X (.BoolOp .And (a::b::rest) pos) (JN fT ri):=by
 intro zb ac s aa H Q J h;refine isTrue_and (bW (aq ac s aa H _ J h) λc az aD=>?_);obtain⟨ai,a6,aZ⟩:=aD;cases c with
 |true=>exact af zb ac az aa ai Q a6 aZ
 |false=>exact⟨ai,a6,aZ⟩
def ib (aq:kV X a fT) (af:jl X (.BoolOp .Or (b::rest) pos) ri):jl X (.BoolOp .Or (a::b::rest) pos) (JO fT ri):=by
 intro zb ac s aa H Q J h;refine isTrue_or (bW (aq ac s aa H _ J h) λc az aD=>?_);obtain⟨ai,a6,aZ⟩:=aD;cases c with
 |true=>exact⟨ai,a6,aZ⟩
 |false=>exact af zb ac az aa ai Q a6 aZ
def nI (aq:kV X a fT):kV X (.UnaryOp .Not a pos) (hO fT):=by
 intro ac s aa H Q J h;exact isTrue_not (aq ac s aa H (λc ai=>Q (!c) ai) J h)
def JP (bu bH:TE):TE:=λaa H Q=>bu aa H λx ai=>∃c,x=.aM c/\if c=true then bH aa ai Q else Q (.aM false) ai
def Qq (bu bH:TE):TE:=λaa H Q=>bu aa H λx ai=>∃c,x=.aM c/\if c=true then Q (.aM true) ai else bH aa ai Q
def oH (h:bU X a t):bU X (.BoolOp op [a] pos) t:=λac s aa H Q J ay=>BoolOp_one (h ac s aa H Q J ay)
def qL (aq:bU X a bu) (af:bU X (.BoolOp .And (b::rest) pos) bH):bU X (.BoolOp .And (a::b::rest) pos) (JP bu bH):=by
 intro ac s aa H Q J h;refine BoolOp_and (bW (aq ac s aa H _ J h) λv az aD=>?_);obtain⟨x,ai,a6,bR,aZ⟩:=aD;obtain⟨c,rfl,aZ⟩:=aZ;cases bR;refine ti ?_;cases c with
 |true=>exact af ac az aa ai Q a6 aZ
 |false=>exact⟨.aM false,ai,a6,I,aZ⟩
def vK (aq:bU X a bu) (af:bU X (.BoolOp .Or (b::rest) pos) bH):bU X (.BoolOp .Or (a::b::rest) pos) (Qq bu bH):=by
 intro ac s aa H Q J h;refine BoolOp_or (bW (aq ac s aa H _ J h) λv az aD=>?_);obtain⟨x,ai,a6,bR,aZ⟩:=aD;obtain⟨c,rfl,aZ⟩:=aZ;cases bR;refine ti ?_;cases c with
 |false=>exact af ac az aa ai Q a6 aZ
 |true=>exact⟨.aM true,ai,a6,I,aZ⟩
def JQ (t:TT) (bu bH:TE):TE:=λaa H Q=>t aa H λc ai=>if c=true then bu aa ai Q else bH aa ai Q
def mY (aw:kV X c fT) (aq:bU X a bu) (af:bU X b bH):bU X (.IfExp c a b pos) (JQ fT bu bH):=by
 intro ac s aa H Q J h;refine wpAny_IfExp (bW (aw ac s aa H _ J h) λd az aD=>?_);obtain⟨ai,a6,aZ⟩:=aD;cases d with
 |true=>exact aq ac az aa ai Q a6 aZ
 |false=>exact af ac az aa ai Q a6 aZ
end
end L2
namespace L2
open PySem PySem.Spec PyProof.Rows
def bg (K:aJ) (H:ap) (a:Addr) (xs:br):Prop:=
 mX H a (.lst xs)\/
  ∃o aL n,K.lookup a=some o/\o.cls=.type "list"/\o.dict=none/\o.data=.seq aL n/\aL.size<=sizeLine/\b4 xs aL.toList
def dI (K:aJ) (H:ap) (a:Addr) (xs:br):Prop:=
 mX H a (.tup xs)\/
  ∃o aL n,K.lookup a=some o/\o.cls=.type "tuple"/\o.data=.seq aL n/\aL.size<=sizeLine/\b4 xs aL.toList
def Qr:Value->mi
 |.none=>some .a3
 |.bool b=>some (.aM b)
 |.int i _=>some (.int i)
 |.str x _=>some (.str x)
 |.bytes b _=>some (.nE b)
 |.float b _=>some (.tu b)
 |.ref a=>some (.ref a)
 |.type n=>some (.ty n)
 |_=>none
def RelV.abs (r:RelV x u):Qr u=some x:=by
 cases x with
 |a3=>cases r;rfl
 |aM _=>cases r;rfl
 |int _=>obtain⟨t,rfl⟩:=r;rfl
 |str _=>obtain⟨t,rfl⟩:=r;rfl
 |nE _=>obtain⟨t,rfl⟩:=r;rfl
 |tu _=>obtain⟨t,rfl⟩:=r;rfl
 |ref _=>cases r;rfl
 |ty _=>cases r;rfl
def RelV.inj (r:RelV x u) (q:RelV y u):x=y:=hB (r.abs.symm.trans q.abs)
theorem b4.inj:∀{xs ys us},b4 xs us->b4 ys us->xs=ys
 |_,_,_,.nil,.nil=>rfl
 |_,_,_,.cons r t,.cons fG t'=>by rw[r.inj fG,b4.inj t t']
section
variable {X:a8}{ac:eU}{aa:St}{H:ap}{s:Shared}{a:Addr}{xs ys:br}
def bg.of {K}(h:H a=some (.lst xs)):bg K H a xs:=.inl (.inl h)
def dI.of {K}(h:H a=some (.tup xs)):dI K H a xs:=.inl (.inl h)
def Inv.list (J:Inv X ac aa H s) (h:bg X.K H a xs):∃aL:e3,b4 xs aL/\PlainL s.heap a aL.toArray/\xs.length<=sizeLine:=by
 rcases h with h|⟨o,aL,n,aU,aw,hd,ax,hz,r⟩
 ·obtain⟨z,aL,n,r,e⟩:=h.ok J.bA;exact⟨aL,r,⟨_,n,e,I,I,I⟩,z⟩
 ·refine⟨aL.toList,r,⟨o,n,J.ep a o aU,aw,hd,by simpa using ax⟩,?_⟩;have e:=r.length;simp only[Array.length_toList] at e;omega
def Inv.tuple (J:Inv X ac aa H s) (h:dI X.K H a xs):∃aL:e3,b4 xs aL/\IsTup s.heap a aL.toArray/\xs.length<=sizeLine:=by
 rcases h with h|⟨o,aL,n,aU,aw,ax,hz,r⟩
 ·obtain⟨z,aL,r,p⟩:=h.ok J.bA;exact⟨aL,r,p,z⟩
 ·refine⟨aL.toList,r,⟨o,J.ep a o aU,aw,n,by simpa using ax⟩,?_⟩;have e:=r.length;simp only[Array.length_toList] at e;omega
def Inv.D8 (J:Inv X ac aa H s) (h:bg X.K H a xs) (h':bg X.K H a ys):xs=ys:=by
 obtain⟨aL,r,⟨o,n,e,_,_,d⟩,_⟩:=J.list h;obtain⟨its',fG,⟨c0,bv,db,_,_,d'⟩,_⟩:=J.list h';rw[e] at db;cases db;rw[d] at d';injection d' with eB _;have:aL=its':=by simpa using fM Array.toList eB
 subst this;exact r.inj fG
def Inv.JR (J:Inv X ac aa H s) (h:dI X.K H a xs) (h':dI X.K H a ys):xs=ys:=by
 obtain⟨aL,r,⟨o,e,_,n,d⟩,_⟩:=J.tuple h;obtain⟨its',fG,⟨c0,db,_,bv,d'⟩,_⟩:=J.tuple h';rw[e] at db;cases db;rw[d] at d';injection d' with eB _;have:aL=its':=by simpa using fM Array.toList eB
 subst this;exact r.inj fG
end
abbrev a8.pJ (X:a8) (E:Value->Shared->Prop):a8:={ X with cR:=E }
abbrev a8.r2 (X:a8):a8:=X.pJ λ_ _=>False
def a8.Ok.pJ {X:a8}(ok:X.Ok) (E:Value->Shared->Prop):(X.pJ E).Ok:=
 ⟨ok.mod,ok.kind,ok.glob,ok.blt,ok.above,ok.inj,ok.has,ok.rZ,ok.hd,ok.frames,ok.tA,ok.xU,ok.bs,ok.ly,ok.qK,ok.r0,ok.kU,ok.pG⟩
def a8.Ok.r3 {X:a8}{E:Value->Shared->Prop}(ok:(X.pJ E).Ok):X.Ok:=
 ⟨ok.mod,ok.kind,ok.glob,ok.blt,ok.above,ok.inj,ok.has,ok.rZ,ok.hd,ok.frames,ok.tA,ok.xU,ok.bs,ok.ly,ok.qK,ok.r0,ok.kU,ok.pG⟩
section
variable {X:a8}{ac:eU}{aa:St}{H:ap}{s:Shared}{E:Value->Shared->Prop}
def Inv.pJ (J:Inv X ac aa H s) (E:Value->Shared->Prop):Inv (X.pJ E) ac aa H s:=⟨J.ok.pJ E,J.os,J.bare,J.base,J.loc,J.cell,J.free,J.j8,J.pin,J.bA,J.len⟩
def Inv.r3 (J:Inv (X.pJ E) ac aa H s):Inv X ac aa H s:=⟨J.ok.r3,J.os,J.bare,J.base,J.loc,J.cell,J.free,J.j8,J.pin,J.bA,J.len⟩
def pI.r3 (h:pI (X.pJ E) ac D f s'):pI X ac D f s':=by
 cases f with
 |next=>obtain⟨σ',Z,J,q⟩:=h;exact⟨σ',Z,J.r3,q⟩
 |brk=>obtain⟨σ',Z,J,q⟩:=h;exact⟨σ',Z,J.r3,q⟩
 |cont=>obtain⟨σ',Z,J,q⟩:=h;exact⟨σ',Z,J.r3,q⟩
 |ret u=>obtain⟨v,σ',Z,J,r,q⟩:=h;exact⟨v,σ',Z,J.r3,r,q⟩
def ka.r2 {st t}(h:ka X.r2 st t):ka X st t:=λac s aa H D J ay=>
 fL (h ac s aa H D (J.pJ _) ay) (λ_ _ q=>q.r3) λ_ _ z=>False.elim z
end
section
variable {X:a8}{st:Stmt}{rest:vi}{t u:gw}{e:Expr}{bw:TE}{pos:Pos}
def JS:gw:=λD aa H=>D.c4 aa H
def D9 (t u:gw):gw:=λD aa H=>t { D with c4:=u D } aa H
def cA:ka X [] JS:=λ_ _ aa H _ J h=>xD ⟨aa,H,J,h⟩
def aX (ag:j' X st t) (ae:ka X rest u):ka X (st::rest) (D9 t u):=by
 intro ac s aa H D J h;refine wpAny_execs_cons (bW (ag ac s aa H { D with c4:=u D } J h) λf az q=>?_);cases f with
 |next=>
  obtain⟨σ',Z,sc,q⟩:=q;exact ae ac az σ' Z D sc q
 |ret v=>exact q
 |brk=>exact q
 |cont=>exact q
def a9 (ag:j' X st t):ka X [st] t:=by
 intro ac s aa H D J h;refine wpAny_execs_cons (bW (ag ac s aa H D J h) λf az q=>?_);cases f with
 |next=>exact xD q
 |ret v=>exact q
 |brk=>exact q
 |cont=>exact q
def Inv.quiet (J:Inv X ac aa H s):interactive X.env=false:=by simp[interactive,J.ok.kind]
def JT (bw:TE):gw:=λD aa H=>bw aa H λ_ ai=>D.c4 aa ai
def _root_.zzh{p:Prop}(h:p:=by rfl):=h
def _root_.dl:Lean.Syntax:=zzh._auto_1
def gQ (he:bU X e bw) (ax:autoParam (swapsWith e none pos.line X.env=pure false) dl):j' X (.Expr e pos) (JT bw):=by
 intro ac s aa H D J h;exact wpAny_Expr_any (bW (he ac s aa H _ J h) λv az ⟨x,ai,a6,bR,aZ⟩=>⟨aa,ai,a6,aZ⟩) J.quiet ax
def JU (bw:TE):gw:=λD aa H=>bw aa H D.lz
def bE (he:bU X e bw):j' X (.Return (some e) pos) (JU bw):=by
 intro ac s aa H D J h;exact wpAny_Return_some (bW (he ac s aa H _ J h) λv az ⟨x,ai,a6,bR,aZ⟩=>⟨x,aa,ai,a6,bR,aZ⟩)
def JV:gw:=λD _ H=>D.lz .a3 H
def vL:j' X (.Return none pos) JV:=λ_ _ aa H _ J h=>wpAny_Return_none ⟨.a3,aa,H,J,I,h⟩
def JW (c:TT) (t u:gw):gw:=λD aa H=>c aa H λb ai=>if b=true then t D aa ai else u D aa ai
def ck (aw:kV X c fU) (aq:ka X a t) (af:ka X b u):j' X (.If c a b pos) (JW fU t u):=by
 intro ac s aa H D J h;refine wpAny_If (bW (aw ac s aa H _ J h) λd az aD=>?_);obtain⟨ai,a6,aZ⟩:=aD;cases d with
 |true=>exact aq ac az aa ai D a6 aZ
 |false=>exact af ac az aa ai D a6 aZ
end
abbrev lE:=V->St->ap->(St->ap->Prop)->Prop
abbrev vM:=br->St->ap->(St->ap->Prop)->Prop
def nJ (X:a8) (target:Expr) (t:lE):Prop:=
 ∀ac s aa H v u Q,Inv X ac aa H s->RelV v u->t v aa H Q->
  dN X (assign target X.env u) (λ_ s'=>∃σ' Z,Inv X ac σ' Z s'/\Q σ' Z) X.cR s
def tC (X:a8) (aH:gY) (t:vM):Prop:=
 ∀ac s aa H vs us Q,Inv X ac aa H s->b4 vs us->t vs aa H Q->
  dN X (assignInOrder ((assignEach aH X.env).map (·.2)) us) (λ_ s'=>∃σ' Z,Inv X ac σ' Z s'/\Q σ' Z) X.cR s
abbrev JX:=V->V->V->ap->(ap->Prop)->Prop
def JY (X:a8) (t:JX):Prop:=
 ∀ac s aa H o i v eC lb u Q,Inv X ac aa H s->RelV o eC->RelV i lb->RelV v u->t o i v H Q->
  dN X (setItem eC lb u) (λ_ s'=>∃Z,Inv X ac aa Z s'/\Q Z) X.cR s
section
variable {X:a8}{pos:Pos}
def qM (i:Nat):lE:=λv aa H Q=>Q (aa.set i (some v)) H
def qN (dx:X.N.Nodup) (aR:X.N[i]?=some x) (ak:Loc X.env.scope x) (bl:autoParam (X.fn x=true\/X.env.scope.names.lookup x=some .local) KK):nJ X (.Name x pos) (qM i):=by
 intro ac s aa H v u Q J r h;exact wpAny_assign_Name (D6 J dx aR ak r (λs' sc=>⟨_,H,sc,h⟩) bl)
def JZ:vM:=λvs aa H Q=>vs=[]/\Q aa H
inductive D' (t:lE) (u:vM) (vs:br) (aa:St) (H:ap) (Q:St->ap->Prop):Prop
 |mk v r:vs=v::r->(t v aa H λσ' Z=>u r σ' Z Q)->D' t u vs aa H Q
def pK:tC X [] JZ:=by
 intro ac s aa H vs us Q J r h;obtain⟨e,h⟩:=h;subst e;cases r;exact assignInOrder_nil ⟨aa,H,J,h⟩
def kX (ag:nJ X e t) (ae:tC X aj u) (ax:autoParam ((assignEach (e::aj) X.env).map (·.2)=assign e X.env::(assignEach aj X.env).map (·.2)) dl):tC X (e::aj) (D' t u):=by
 intro ac s aa H vs us Q J r h;obtain⟨v,Oa,am,h⟩:=h;subst am;cases r with
 |cons r t3=>
  rw[ax];refine assignInOrder_cons (bW (ag ac s aa H _ _ _ J r h) λ_ az aD=>?_);obtain⟨p8,ai,a6,aZ⟩:=aD;exact ae ac az p8 ai _ _ Q a6 t3 aZ
inductive Ea (K:aJ) (n:Nat) (t:vM) (v:V) (aa:St) (H:ap) (Q:St->ap->Prop):Prop
 |mk a xs:v=.ref a->dI K H a xs->xs.length=n->t xs aa H Q->Ea K n t v aa H Q
def pL (aw:X.calm=true) (h:tC X aj t) (aP:autoParam ((assignEach aj X.env).length=n) dl) (iK:autoParam ((assignEach aj X.env).findIdx? (·.1)=none) dl):nJ X (.Tuple aj k pos) (Ea X.K n t):=by
 intro ac s aa H v u Q J r ay;obtain⟨a,xs,am,aD,au,ay⟩:=ay;subst am;cases r;obtain⟨aL,cI,bO,hz⟩:=J.tuple aD;refine assign_Tuple_tuple (J.ok.hd aw) bO (by simp[aP,<-au,cI.length]) iK λh' ak=>?_;have a6:Inv X ac aa H { s with heap:=h' }:=J.kept (t':=s.toks) λb o e=>ak b o (fw (di e)) e;exact h ac _ aa H xs _ Q a6 (by simpa using cI) ay
def Qs (to FB:TE) (t:JX):lE:=λv aa H Q=>to aa H λo ai=>FB aa ai λi aB=>t o i v aB λa7=>Q aa a7
def J0 (a':bU X o to) (aR:bU X i FB) (ax:JY X t)
  (aq:autoParam (∀v,assign (.Subscript o i pos) X.env v=(do
   let eC <-holding [v] (eval o X.env)
   let lb <-holding [v,eC] (eval i X.env)
   standAt pos
   holding [v,eC,lb] (setItem eC lb v)
   release [v,eC,lb] [])) Tm):nJ X (.Subscript o i pos) (Qs to FB t):=by
 intro ac s aa H v u Q J r h;rw[aq];refine a4 (md (bW (a' ac s aa H _ J h) λeC az aD=>?_));obtain⟨x,ai,a6,bR,aZ⟩:=aD;refine a4 (md (bW (aR ac az aa ai _ a6 aZ) λlb aN aD=>?_));obtain⟨y,aB,ci,dL,bn⟩:=aD;refine a4 (rP (a4 (md (bW (ax ac aN aa aB x y v eC lb u _ ci bR dL r bn) λ_ a2 aD=>?_))));obtain⟨a7,eM,dA⟩:=aD;exact wpAny_release ⟨aa,a7,eM,dA⟩
def xX (bw:TE) (g:lE):gw:=λD aa H=>bw aa H λx ai=>g x aa ai D.c4
def pM (he:bU X e bw) (a1:nJ X cU g) (ax:autoParam (swapsWithSole [cU] e pos.line X.env=pure false) dl) (ay:autoParam (swappedStores [cU] e X.env=pure none) dl) (ag:autoParam ((assignEach [cU] X.env).map (·.2)=[assign cU X.env]) dl):j' X (.Assign [cU] e pos) (xX bw g):=by
 intro ac s aa H D J h;refine wpAny_Assign_stores (bW (he ac s aa H _ J h) λv az aD=>?_) ax ay;obtain⟨x,ai,a6,bR,aZ⟩:=aD;rw[ag];exact bW (a1 ac az aa ai x v _ a6 bR aZ) λ_ aN q=>q
def jL (dx:X.N.Nodup) (aR:X.N[i]?=some x) (ak:Loc X.env.scope x) (he:bU X e bw) (ax:autoParam (swapsWith e (some (.Name x pos')) pos.line X.env=pure false) dl) (bl:autoParam (X.fn x=true\/X.env.scope.names.lookup x=some .local) KK):j' X (.Assign [.Name x pos'] e pos) (xX bw (qM i)):=by
 intro ac s aa H D J h;refine wpAny_Assign_Name (bW (he ac s aa H _ J h) λv az aD=>?_) ax;obtain⟨y,ai,a6,bR,aZ⟩:=aD;exact D6 a6 dx aR ak bR (λaN ci=>⟨_,ai,ci,aZ⟩) bl
inductive Eb (c:TT) (bH:gw) (D:Ends) (aa:St) (H:ap):Prop
 |mk (W:Nat->St->ap->Prop):(∃m,W m aa H)->(∀m aa H,W m aa H->c aa H λb ai=>if b=true then ∃N:St->ap->Prop,(∀σ' Z,N σ' Z->∃c8,c8 < m/\W c8 σ' Z)/\bH { D with c4:=N,b0:=N,j9:=D.c4 } aa ai else D.c4 aa ai)->Eb c bH D aa H
def nK (ar:PassesOwn (model X.prog X.w) X.A X.env X.cR) (aw:kV X c fU) (af:ka X body bH):j' X (.While c body [] pos) (Eb fU bH):=by
 intro ac s aa H D J h;obtain⟨W,⟨lc,ut⟩,o6⟩:=h;refine wpAny_While (codeAny_whileLoop (λn s'=>∃σ' Z,Inv X ac σ' Z s'/\W n σ' Z) ?_ lc ⟨aa,H,J,ut⟩);rintro n az ⟨p8,ai,a6,cu⟩;refine tj ar (bW (aw ac az p8 ai _ a6 (o6 n p8 ai cu)) λb aN aD=>?_);obtain⟨aB,ci,bn⟩:=aD;cases b with
 |true=>
  obtain⟨N,dx,bn⟩:=bn;rw[b8 rfl];refine tj ar (bW (af ac aN p8 aB _ ci bn) λf a2 dA=>?_);cases f with
  |next=>
   obtain⟨o7,a7,eM,g4⟩:=dA;obtain⟨c8,aQ,d4⟩:=dx o7 a7 g4;exact⟨c8,aQ,o7,a7,eM,d4⟩
  |cont=>
   obtain⟨o7,a7,eM,g4⟩:=dA;obtain⟨c8,aQ,d4⟩:=dx o7 a7 g4;exact⟨c8,aQ,o7,a7,eM,d4⟩
  |brk=>exact dA
  |ret v=>exact dA
 |false=>
  rw[bP gf];exact xD ⟨p8,aB,ci,bn⟩
end
structure lF where
 go:Nat->ap->Prop
 pN:Nat->ap->V->ap->Prop
 stop:Nat->ap->Prop
def kY (X:a8) (ac:eU) (H:ap) (b:Addr):Prop:=
 H b=none/\b≠X.env.locals/\b∉X.bi/\(b∈X.ex\/X.fZ.hz<=b)/\(∀x c,X.env.cells.lookup x=some c->c≠b)/\∀p∈X.ia++ac,p.1≠b
def Inv.tD (J:Inv X ac aa H s) (af:s.hz<=b) (aP:Z b=none):kY X ac Z b:=by
 refine⟨aP,xE (eG J.lt af),J.Qn af,.inr (dW J.oE af),λx c e z=>?_,λp ar z=>?_⟩
 ·obtain⟨v,q⟩:=J.cell x c e;exact absurd (eG q.lt (by rw[z];exact af)) (j5 _)
 ·exact absurd (eG (di (J.pin p ar).1) (by rw[z];exact af)) (j5 _)
structure Turn (P:Program) (w:World) (K:aJ) (cU:Expr) (cc:lF) (fp:gd) (bV:Addr) (iL:Nat->Heap->Prop):Prop where
 mem:bV∈fp
 obj:∀i h,iL i h->∀b∈fp,∃o,h.get? b=some o/\∀v,o.data≠.cell v
 keep:∀i h h',iL i h->(∀b∈fp,∀o,h.get? b=some o->h'.get? b=some o)->iL i h'
 item:∀X,X.prog=P->X.w=w->X.K=K->X.calm=true->∀i ac s aa H E,Inv X ac aa H s->(∀b∈fp,kY X ac H b)->iL i s.heap->cc.go i H->
  wpAny (model P w) X.A (pyNext (.ref bV)) (λr az=>∃u,r=some u/\wpAny (model P w) X.A (letOwnedTupleGo cU (.ref bV) u) (λ_ aN=>∃x Z,Inv X ac aa Z aN/\RelV x u/\cc.pN i H x Z/\iL (i+1) aN.heap/\∀b∈fp,Z b=none) E az) E s
 done:∀X,X.prog=P->X.w=w->X.K=K->X.calm=true->∀i ac s aa H E,Inv X ac aa H s->(∀b∈fp,kY X ac H b)->iL i s.heap->cc.stop i H->
  wpAny (model P w) X.A (pyNext (.ref bV)) (λr az=>r=none/\Inv X ac aa H az) E s
 self:∀A i s Q E,iL i s.heap->Q (.ref bV) s->wpAny (model P w) A (pyIter (.ref bV)) Q E s
abbrev TI:=St->ap->(lF->ap->Prop)->Prop
def J1 (X:a8) (ac:eU) (aa:St) (cU:Expr) (R:lF->ap->Prop) (Ch:Value) (aN:Shared):Prop:=
 ∃(bV:Addr) (fp:gd) (iL:Nat->Heap->Prop) (cc:lF) (Z:ap),Ch=.ref bV/\Inv X ac aa Z aN/\Turn X.prog X.w X.K cU cc fp bV iL/\iL 0 aN.heap/\(∀b∈fp,kY X ac Z b)/\R cc Z
def mn (X:a8) (cU iter:Expr) (f0:TI):Prop:=
 ∀ac s aa H R,Inv X ac aa H s->f0 aa H R->
  dN X (eval iter X.env) (λv az=>dN X (pyIter v) (J1 X ac aa cU R) X.cR az) X.cR s
def vN (a':s.heap.get? bV=some o) (aw:o.cls=.type n) (hd:o.data=.fields vs) (aP:["enumerate","zip","dict_itemiterator","dict_reverseitemiterator","odict_iterator","itertools.zip_longest","itertools.pairwise"].contains n=false) (n4:Q () s):wpAny M A (letOwnedTupleGo cU (.ref bV) u) Q E s:=by
 unfold letOwnedTupleGo;cases cU<;>first
  |exact b3 n4
  |(cases u<;>first
    |exact b3 n4
    |(refine a4 (wpAny_load a' ?_)
      rw[aw,hd];show wpAny M A (if(["enumerate","zip","dict_itemiterator","dict_reverseitemiterator","odict_iterator","itertools.zip_longest","itertools.pairwise"].contains n&&vs[0]? == some (rawInt _))=true then _ else _) Q E s;rw[bP (by intro h;rw[aP,Bool.false_and] at h;cases h)];exact b3 n4))
def vO (K:aJ) (a:Addr):lF:=
 ⟨λi H=>∃xs x,bg K H a xs/\xs[i]?=some x,λi H x Z=>Z=H/\∀xs,bg K H a xs->xs[i]?=some x,λi H=>∃xs,bg K H a xs/\xs.length<=i⟩
def Ec (K:aJ) (a:Addr):lF:=
 ⟨λi H=>∃xs x,dI K H a xs/\xs[i]?=some x,λi H x Z=>Z=H/\∀xs,dI K H a xs->xs[i]?=some x,λi H=>∃xs,dI K H a xs/\xs.length<=i⟩
def tE (lo:Int) (n:Nat):lF:=⟨λi _=>i < n,λi H x Z=>Z=H/\x=.int (lo+i),λi _=>n<=i⟩
theorem Qt {P w K cU} (a bV):Turn P w K cU (vO K a) [bV] bV (λi h=>h.IsListIter bV a i) where
 mem:=by simp
 obj:=λi h st b af=>by
  have e:b=bV:=by simpa using af
  subst e;obtain⟨o,e,c,d⟩:=st;exact⟨o,e,λv z=>by rw[d] at z;cases z⟩
 keep:=λi h h' st k=>st.at λo e=>k bV bZ o e
 item:=by
  intro X gp ay gG aw i ac s aa H E J bl st a1;subst gp ay gG;obtain⟨xs,x,aD,ak⟩:=a1;obtain⟨aL,cI,p,hz⟩:=J.list aD;obtain⟨u,bY,fc⟩:=cI.get ak;obtain⟨gU,f1,f2,dy,hf,hj⟩:=bl bV bZ;refine wpAny_pyNext_list_item st p.isList (x:=u) (by simpa using bY) λh' kH iZ=>?_;have a6:Inv X ac aa H { s with heap:=h' }:=J.turned (t':=s.toks) (λb o af e=>(iZ.2 b af).trans e) gU f1 dy hf hj;obtain⟨o,e,c,d⟩:=id kH;exact⟨u,I,vN (s:={ s with heap:=h' }) e c d dU ⟨x,H,a6,fc,⟨I,λys aT=>by rw[J.D8 aT aD];exact ak⟩,kH,λb af=>(bl b af).1⟩⟩
 done:=by
  intro X gp ay gG aw i ac s aa H E J bl st a1;subst gp ay gG;obtain⟨xs,aD,ak⟩:=a1;obtain⟨aL,cI,p,hz⟩:=J.list aD;obtain⟨gU,f1,f2,dy,hf,hj⟩:=bl bV bZ;have au:=cI.length;exact wpAny_pyNext_list_end (J.ok.hd aw) st p.isList (by simp;omega) λh' gH=>⟨I,J.turned (t':=s.toks) (λb o af e=>gH b o af e) gU f1 dy hf hj⟩
 self:=λ_ _ _ _ _ st h=>wpAny_pyIter_listiter st h
theorem Qu {P w K cU} (a bV):Turn P w K cU (Ec K a) [bV] bV (λi h=>h.IsTupleIter bV a i) where
 mem:=by simp
 obj:=λi h st b af=>by
  have e:b=bV:=by simpa using af
  subst e;obtain⟨o,e,c,d⟩:=st;exact⟨o,e,λv z=>by rw[d] at z;cases z⟩
 keep:=λi h h' st k=>st.at λo e=>k bV bZ o e
 item:=by
  intro X gp ay gG aw i ac s aa H E J bl st a1;subst gp ay gG;obtain⟨xs,x,aD,ak⟩:=a1;obtain⟨aL,cI,p,hz⟩:=J.tuple aD;obtain⟨u,bY,fc⟩:=cI.get ak;obtain⟨gU,f1,f2,dy,hf,hj⟩:=bl bV bZ;refine wpAny_pyNext_tuple_item st (show s.heap.IsTuple a aL.toArray from p) (x:=u) (by simpa using bY) λh' kH iZ=>?_;have a6:Inv X ac aa H { s with heap:=h' }:=J.turned (t':=s.toks) (λb o af e=>(iZ.2 b af).trans e) gU f1 dy hf hj;obtain⟨o,e,c,d⟩:=id kH;exact⟨u,I,vN (s:={ s with heap:=h' }) e c d dU ⟨x,H,a6,fc,⟨I,λys aT=>by rw[J.JR aT aD];exact ak⟩,kH,λb af=>(bl b af).1⟩⟩
 done:=by
  intro X gp ay gG aw i ac s aa H E J bl st a1;subst gp ay gG;obtain⟨xs,aD,ak⟩:=a1;obtain⟨aL,cI,p,hz⟩:=J.tuple aD;obtain⟨gU,f1,f2,dy,hf,hj⟩:=bl bV bZ;have au:=cI.length;exact wpAny_pyNext_tuple_end (J.ok.hd aw) st (show s.heap.IsTuple a aL.toArray from p) (by simp;omega) λh' gH=>⟨I,J.turned (t':=s.toks) (λb o af e=>gH b o af e) gU f1 dy hf hj⟩
 self:=λ_ _ _ _ _ st h=>wpAny_pyIter_tupleiter st h
theorem Qv {P w K cU} (bV lo n):Turn P w K cU (tE lo n) [bV] bV (λi h=>IsRangeIter h bV (lo+(i:Nat)*1) ((n:Int) - (i:Nat)) 1) where
 mem:=by simp
 obj:=λi h st b af=>by
  have e:b=bV:=by simpa using af
  subst e;exact⟨_,st,λv z=>by
   have o5:Data.fields _=Data.cell v:=z;cases o5⟩
 keep:=λi h h' st k=>k bV bZ _ st
 item:=by
  intro X gp ay gG aw i ac s aa H E J bl st a1;subst gp ay gG;obtain⟨gU,f1,f2,dy,hf,hj⟩:=bl bV bZ;have W:=Walks.range (prog:=X.prog) (w:=X.w) (J.ok.hd aw) bV lo 1 n;refine W.item i s _ _ a1 st λv h' cS aK kH cL=>?_;obtain⟨t,rfl⟩:=aK;have a6:Inv X ac aa H { s with heap:=h',toks:=cS }:=J.turned (λb o af e=>cL b o (by simpa using af) e) gU f1 dy hf hj;refine⟨_,I,vN (s:={ s with heap:=h',toks:=cS }) (n:="range_iterator") kH I I dU ⟨.int (lo+i),H,a6,⟨t,?_⟩,⟨I,I⟩,kH,λb af=>(bl b af).1⟩⟩;rw[Int.mul_one]
 done:=by
  intro X gp ay gG aw i ac s aa H E J bl st a1;subst gp ay gG;obtain⟨gU,f1,f2,dy,hf,hj⟩:=bl bV bZ;exact wpAny_pyNext_range_end (J.ok.hd aw) st (by have:n<=i:=a1;omega) λh' gH=>⟨I,J.turned (t':=s.toks) (λb o af e=>gH b o af e) gU f1 dy hf hj⟩
 self:=λ_ _ _ _ _ st h=>wpAny_pyIter_rangeiter st h
end L2
namespace L2
open PySem PySem.Spec PyProof.Rows
section
variable {X:a8}{cU:Expr}
inductive J2 (K:aJ) (x:V) (ai:ap) (R:lF->ap->Prop):Prop
 |mk a:x=.ref a->(∃xs,bg K ai a xs)->R (vO K a) ai->J2 K x ai R
def J3 (K:aJ) (hk:TE):TI:=λaa H R=>hk aa H λx ai=>J2 K x ai R
def J4 (K:aJ) (hk:TE):TI:=λaa H R=>hk aa H λx ai=>∃a,x=.ref a/\(∃xs,dI K ai a xs)/\R (Ec K a) ai
def pO {l:Expr}{hk:TE}(au:bU X l hk):mn X cU l (J3 X.K hk):=by
 intro ac s aa H R J h;refine bW (au ac s aa H _ J h) λv az aD=>?_;obtain⟨x,ai,a6,bR,aZ⟩:=aD;obtain⟨a,e,⟨xs,aD⟩,q⟩:=aZ;subst e;cases bR;obtain⟨aL,cI,p,hz⟩:=a6.list aD;refine Ak p.isList ?_;refine⟨az.hz,[az.hz],_,_,ai,I,a6.kept (t':=az.toks) λb o e=>ej _ e,Qt a _,⟨_,hN _ I,I,I⟩,λb af=>?_,q⟩;have e:b=az.hz:=by simpa using af
 subst e;exact a6.tD (bf _) (a6.bA.fresh (bf _))
def r4 {l:Expr}{hk:TE}(au:bU X l hk):mn X cU l (J4 X.K hk):=by
 intro ac s aa H R J h;refine bW (au ac s aa H _ J h) λv az aD=>?_;obtain⟨x,ai,a6,bR,aZ⟩:=aD;obtain⟨a,e,⟨xs,aD⟩,q⟩:=aZ;subst e;cases bR;obtain⟨aL,cI,p,hz⟩:=a6.tuple aD;refine wpAny_pyIter_tuple (show az.heap.IsTuple a aL.toArray from p) ?_;refine⟨az.hz,[az.hz],_,_,ai,I,a6.kept (t':=az.toks) λb o e=>ej _ e,Qu a _,⟨_,hN _ I,I,I⟩,λb af=>?_,q⟩;have e:b=az.hz:=by simpa using af
 subst e;exact a6.tD (bf _) (a6.bA.fresh (bf _))
def Qw {lo aR:Int}{cS:Nat}(J:Inv X ac aa H s) (ag:-(2 ^ 62)<=lo) (ae:lo < 2 ^ 62) (aW:-(2 ^ 62)<=aR) (bm:aR < 2 ^ 62) (q:R (tE lo (aR - lo).toNat) H):dN X (pyIter (.ref s.hz)) (J1 X ac aa cU R) E { s with heap:=s.heap.push { cls:=.type "range",data:=.fields #[.int lo t,.int aR u,.int 1 v] },toks:=cS }:=by
 refine wpAny_pyIter_range (IsRange.new ..) (small_one ag ae aW bm) ?_;have a6:Inv X ac aa H { s with heap:=s.heap.push { cls:=.type "range",data:=.fields #[.int lo t,.int aR u,.int 1 v] },toks:=cS }:=J.kept λb o e=>ej _ e;refine⟨(s.heap.push { cls:=.type "range",data:=.fields #[.int lo t,.int aR u,.int 1 v] }).objs.size,[(s.heap.push { cls:=.type "range",data:=.fields #[.int lo t,.int aR u,.int 1 v] }).objs.size],_,_,H,I,a6.kept (t':=cS) λb o e=>ej _ e,Qv _ lo (aR - lo).toNat,?_,λb af=>?_,q⟩
 ·have am:lo+((0:Nat):Int)*1=lo:=by simp
  have aE:(((aR - lo).toNat:Nat):Int) - ((0:Nat):Int)=Builtin.Range.rangeSize lo aR 1:=by rw[rangeSize_one];split<;>omega
  show IsRangeIter _ _ (lo+((0:Nat):Int)*1) ((((aR - lo).toNat:Nat):Int) - ((0:Nat):Int)) 1;rw[am,aE];exact hN _ rfl
 ·have e:b=(s.heap.push { cls:=.type "range",data:=.fields #[.int lo t,.int aR u,.int 1 v] }).objs.size:=by simpa using af
  subst e;exact a6.tD (bf _) (a6.bA.fresh (bf _))
def J5 (bu:fi):TI:=λaa H R=>bu aa H λvs ai=>∃j:Int,vs=[.int j]/\-(2 ^ 62)<=j/\j < 2 ^ 62/\R (tE 0 j.toNat) ai
def oI {a:Expr}{bu:fi}{p pos:Pos}(a1:eH X "range") (aQ:X.mg "range"=none) (aq:iX X [a] bu) (ax:autoParam (starEach [a] X.env=[(false,eval a X.env)]) dl):mn X cU (.Call (.Name "range" p) [a] [] pos) (J5 bu):=by
 intro ac s aa H R J h;refine Call_ (tB J a1 aQ boot_range (Al (bW (aq pos ac s aa H _ J h) λus az aD=>?_) ax I));obtain⟨vs,ai,a6,bR,aZ⟩:=aD;obtain⟨j,e,aZ,bn,q⟩:=aZ;subst e;cases bR with
 |cons r t3=>
  cases t3;obtain⟨t,rfl⟩:=r;exact call_range_1 (Qw a6 co co aZ bn (by simpa using q))
def J6 (f0:TI) (g:lE) (bH:gw):gw:=λD aa H=>f0 aa H λcc ai=>∃W:Nat->Nat->St->ap->Prop,(∃m,W 0 m aa ai)/\∀i m aa H,W i m aa H->
 (cc.stop i H/\D.c4 aa H)\/(cc.go i H/\∃N:St->ap->Prop,(∀σ' Z,N σ' Z->∃c8,c8 < m/\W (i+1) c8 σ' Z)/\∀x Z,cc.pN i H x Z->g x aa Z λip aB=>bH { D with c4:=N,b0:=N,j9:=D.c4 } ip aB)
def xY (fp:gd) (h:Heap):eU:=fp.filterMap λb=>(h.get? b).map λo=>(b,o)
def vP (af:b∈fp) (e:h.get? b=some o):(b,o)∈xY fp h:=List.mem_filterMap.mpr ⟨b,af,by rw[e];rfl⟩
def Qx (ar:p∈xY fp h):p.1∈fp/\h.get? p.1=some p.2:=by
 obtain⟨b,af,e⟩:=List.mem_filterMap.mp ar;cases q:h.get? b with
 |none=>rw[q] at e;cases e
 |some o=>
  rw[q] at e;have db:(b,o)=p:=hB e;subst db;exact⟨af,q⟩
def Inv.pinned (J:Inv X ac aa H s) (bl:∀b∈fp,kY X ac H b) (a':∀b∈fp,∃o,s.heap.get? b=some o/\∀v,o.data≠.cell v):Inv X (ac++xY fp s.heap) aa H s:=
 J.AM λp ar=>(th.mp ar).elim (λz=>J.pin p (kQ _ z)) λz=>by
  obtain⟨af,e⟩:=Qx z;obtain⟨gU,f1,f2,_⟩:=bl p.1 af;obtain⟨o,db,d⟩:=a' p.1 af;rw[e] at db;cases db;exact⟨e,gU,f1,f2,d⟩
def Inv.xZ (J:Inv X (ac++pl) aa H s):Inv X ac aa H s:=J.AM λp ar=>J.pin p (kQ _ (vr _ ar))
def mo (ar:PassesOwn (model X.prog X.w) X.A X.env X.cR) (aw:X.calm=true) (aR:mn X cU iter f0) (a1:nJ X cU g) (af:ka X body bH) (ax:autoParam (∀x,foldedSetIterable iter X.env x=pure x) Tm):j' X (.For cU iter body [] pos) (J6 f0 g bH):=by
 intro ac s aa H D J h;refine wpAny_For (bW (aR ac s aa H _ J h) λv az ag=>bW ag λCh aN ae=>?_) ax;obtain⟨bV,fp,iL,cc,aB,e,ci,T,rj,f2,W,⟨lc,ut⟩,o6⟩:=ae;subst e;have o8:∀{Z:ap},(∀b∈fp,Z b=none)->∀b∈fp,kY X ac Z b:=λaP b af=>⟨aP b af,(f2 b af).2⟩;refine codeAny_forLoop_any (λn s'=>∃i σ' Z,Inv X ac σ' Z s'/\iL i s'.heap/\(∀b∈fp,Z b=none)/\W i n σ' Z) ?_ lc ⟨0,aa,aB,ci,rj,λb af=>(f2 b af).1,ut⟩;rintro n a2 ⟨i,o7,a7,eM,sn,v4,d4⟩;rcases o6 i n o7 a7 d4 with ⟨stop,ss⟩|⟨go,N,dx,step⟩
 ·refine tj ar (bW (T.done X I I I aw i ac a2 o7 a7 X.cR eM (o8 v4) sn stop) λr dp aD=>?_);obtain⟨al,lw⟩:=aD;subst al;exact xD ⟨o7,a7,lw,ss⟩
 ·refine tj ar (bW (T.item X I I I aw i ac a2 o7 a7 X.cR eM (o8 v4) sn go) λr dp aD=>?_);obtain⟨u,al,bm⟩:=aD;subst al;refine tj ar (bW bm λ_ dq aD=>?_);obtain⟨x,dS,n5,Tk,Tl,rk,uE⟩:=aD;have TD:=n5.pinned (o8 uE) (T.obj _ _ rk);refine tj ar (bW (a1 _ dq o7 dS x u _ TD Tk (step x dS Tl)) λ_ na aD=>?_);obtain⟨TW,gV,sw,T0⟩:=aD;refine tj ar (bW (af _ na TW gV _ sw T0) λf iM sB=>?_);have again:∀{o9:St}{fV:ap},Inv X (ac++xY fp dq.heap) o9 fV iM->N o9 fV->∃m,m < n/\∃i σ' Z,Inv X ac σ' Z iM/\iL i iM.heap/\(∀b∈fp,Z b=none)/\W i m σ' Z:=λ{o9 fV} kI zc=>by
   obtain⟨c8,aQ,Uf⟩:=dx o9 fV zc;refine⟨c8,aQ,i+1,o9,fV,kI.xZ,T.keep _ _ _ rk λb af o e=>(kI.pin (b,o) (kQ _ (kQ _ (vP af e)))).1,λb af=>?_,Uf⟩;obtain⟨o,e,d⟩:=T.obj _ _ rk b af;exact(kI.pin (b,o) (kQ _ (kQ _ (vP af e)))).2.1
  cases f with
  |next=>obtain⟨o9,fV,kI,zc⟩:=sB;exact again kI zc
  |cont=>obtain⟨o9,fV,kI,zc⟩:=sB;exact again kI zc
  |brk=>obtain⟨o9,fV,kI,sB⟩:=sB;exact⟨o9,fV,kI.xZ,sB⟩
  |ret v=>obtain⟨lT,o9,fV,kI,wf,sB⟩:=sB;exact⟨lT,o9,fV,kI.xZ,wf,sB⟩
end
def Qy {K:aJ}{a:Addr}{xs:br}{g:lE}{bH:gw}{D:Ends}{aa:St}{H:ap}(Pv:Nat->St->ap->Prop) (cd:Pv 0 aa H) (au:∀i aa H,i<=xs.length->Pv i aa H->bg K H a xs) (ax:∀i x aa H,xs[i]?=some x->Pv i aa H->g x aa H λip aB=>bH { D with c4:=Pv (i+1),b0:=Pv (i+1),j9:=D.c4 } ip aB) (hd:∀aa H,Pv xs.length aa H->D.c4 aa H):
  ∃W:Nat->Nat->St->ap->Prop,(∃m,W 0 m aa H)/\∀i m aa H,W i m aa H->
   ((vO K a).stop i H/\D.c4 aa H)\/((vO K a).go i H/\∃N:St->ap->Prop,(∀σ' Z,N σ' Z->∃c8,c8 < m/\W (i+1) c8 σ' Z)/\∀x Z,(vO K a).pN i H x Z->g x aa Z λip aB=>bH { D with c4:=N,b0:=N,j9:=D.c4 } ip aB):=by
 refine⟨λi m aa H=>m=xs.length - i/\i<=xs.length/\Pv i aa H,⟨xs.length,bZ,fN _,cd⟩,?_⟩;rintro i m aa H ⟨rfl,aR,p⟩;have q:=au i aa H aR p;by_cases cM:i < xs.length
 ·refine .inr ⟨⟨xs,xs[i],q,by simp[cM]⟩,Pv (i+1),λσ' Z av=>⟨xs.length - (i+1),co,I,cM,av⟩,λx Z y=>?_⟩;obtain⟨e,y⟩:=y;subst e;exact ax i x aa _ (y xs q) p
 ·have e:i=xs.length:=by omega
  subst e;exact .inl ⟨⟨xs,q,bf _⟩,hd aa H p⟩
def Qz {lo:Int}{n:Nat}{g:lE}{bH:gw}{D:Ends}{aa:St}{H:ap}(Pv:Nat->St->ap->Prop) (cd:Pv 0 aa H) (ax:∀i aa H,i < n->Pv i aa H->g (.int (lo+i)) aa H λip aB=>bH { D with c4:=Pv (i+1),b0:=Pv (i+1),j9:=D.c4 } ip aB) (hd:∀aa H,Pv n aa H->D.c4 aa H):
  ∃W:Nat->Nat->St->ap->Prop,(∃m,W 0 m aa H)/\∀i m aa H,W i m aa H->
   ((tE lo n).stop i H/\D.c4 aa H)\/((tE lo n).go i H/\∃N:St->ap->Prop,(∀σ' Z,N σ' Z->∃c8,c8 < m/\W (i+1) c8 σ' Z)/\∀x Z,(tE lo n).pN i H x Z->g x aa Z λip aB=>bH { D with c4:=N,b0:=N,j9:=D.c4 } ip aB):=by
 refine⟨λi m aa H=>m=n - i/\i<=n/\Pv i aa H,⟨n,bZ,fN _,cd⟩,?_⟩;rintro i m aa H ⟨rfl,aR,p⟩;by_cases cM:i < n
 ·refine .inr ⟨cM,Pv (i+1),λσ' Z av=>⟨n - (i+1),co,I,cM,av⟩,λx Z y=>?_⟩;obtain⟨e,y⟩:=y;subst e y;exact ax i aa _ cM p
 ·have e:i=n:=by omega
  subst e;exact .inl ⟨bf _,hd aa H p⟩
end L2
namespace L2
open PySem PySem.Spec PyProof.Rows
abbrev g5:=V->V->ap->bz->Prop
def eX (X:a8) (f:Value->Value->Sem Value) (r:g5):Prop:=
 ∀ac s aa H x y v u Q,Inv X ac aa H s->RelV x v->RelV y u->r x y H Q->
  dN X (f v u) (gC X ac aa Q) X.cR s
def AO (X:a8) (f:Value->Sem Value) (r:V->ap->bz->Prop):Prop:=
 ∀ac s aa H x v Q,Inv X ac aa H s->RelV x v->r x H Q->
  dN X (f v) (gC X ac aa Q) X.cR s
def kc (X:a8) (f:Value) (r:br->ap->bz->Prop):Prop:=
 ∀ac s aa H xs us Q,Inv X ac aa H s->b4 xs us->r xs H Q->
  dN X (call f us) (gC X ac aa Q) X.cR s
def lG (r:g5) (bu bH:TE):TE:=λaa H Q=>bu aa H λx ai=>bH aa ai λy aB=>r x y aB Q
def J7 (r:V->ap->bz->Prop) (bu:TE):TE:=λaa H Q=>bu aa H λx ai=>r x ai Q
inductive vQ (C:Int->Int->Prop) (g:Int->Int->V) (x:V) (y:V) (H:ap) (Q:bz):Prop
 |mk i j:x=.int i->y=.int j->C i j->Q (g i j) H->vQ C g x y H Q
inductive r5 (g:Int->Int->V) (x:V) (y:V) (H:ap) (Q:bz):Prop
 |mk i j:x=.int i->y=.int j->Q (g i j) H->r5 g x y H Q
inductive Ed (g:Int->V) (x:V) (H:ap) (Q:bz):Prop
 |mk i:x=.int i->Q (g i) H->Ed g x H Q
section
variable {X:a8}{a b c:Expr}{bu bH fU:TE}{pos:Pos}
def Ee (aq:bU X a bu) (af:bU X b bH){ac:eU}{s:Shared}{aa:St}{H:ap}{R:V->V->ap->Prop}(J:Inv X ac aa H s) (h:bu aa H λx ai=>bH aa ai λy aB=>R x y aB){Q:Value->Shared->Prop}{f:Value->Value->Sem Value}
  (bl:∀v u aN x y aB,Inv X ac aa aB aN->RelV x v->RelV y u->R x y aB->dN X (f v u) Q X.cR aN):
  dN X (eval a X.env) (λv dn=>dN X (eval b X.env) (λu la=>dN X (f v u) Q X.cR la) X.cR dn) X.cR s:=by
 refine bW (aq ac s aa H _ J h) λv az aD=>?_;obtain⟨x,ai,a6,bR,aZ⟩:=aD;refine bW (af ac az aa ai _ a6 aZ) λu aN aD=>?_;obtain⟨y,aB,ci,dL,bn⟩:=aD;exact bl v u aN x y aB ci bR dL bn
def a5 {op:Operator}{r:g5}(a':eX X (binaryOp op) r) (aq:bU X a bu) (af:bU X b bH):bU X (.BinOp a op b pos) (lG r bu bH):=by
 intro ac s aa H Q J h;exact wpAny_BinOp (Ee aq af J h λv u aN x y aB ci a0 bj q=>a' ac aN aa aB x y v u Q ci a0 bj q)
def mZ (a':AO X (unaryOp op) r) (aq:bU X a bu):bU X (.UnaryOp op a pos) (J7 r bu):=by
 intro ac s aa H Q J h;exact UnaryOp_ (bW (aq ac s aa H _ J h) λv az ⟨x,ai,a6,bR,aZ⟩=>a' ac az aa ai x v Q a6 bR aZ)
def AP {f:Value->Value->Sem Value}{C:Int->Int->Prop}{g:Int->Int->Int}(rule:∀(i j:Int) (t u:Tok) (s:Shared) (Q:Value->Shared->Prop) (E:Value->Shared->Prop),C i j->Q (.int (g i j) s.toks) { s with toks:=s.toks+1 }->dN X (f (.int i t) (.int j u)) Q E s):eX X f (vQ C λi j=>.int (g i j)):=by
 intro ac s aa H x y v u Q J a0 bj h;obtain⟨i,j,rfl,rfl,aw,q⟩:=h;obtain⟨t,rfl⟩:=a0;obtain⟨t',rfl⟩:=bj;exact rule i j t t' s _ _ aw ⟨.int (g i j),H,J.tok _,⟨_,I⟩,q⟩
def J8 {f:Value->Value->Sem Value}{g:Int->Int->Int}(rule:∀(i j:Int) (t u:Tok) (s:Shared) (Q:Value->Shared->Prop) (E:Value->Shared->Prop),Q (.int (g i j) s.toks) { s with toks:=s.toks+1 }->dN X (f (.int i t) (.int j u)) Q E s):eX X f (r5 λi j=>.int (g i j)):=by
 intro ac s aa H x y v u Q J a0 bj h;obtain⟨i,j,rfl,rfl,q⟩:=h;obtain⟨t,rfl⟩:=a0;obtain⟨t',rfl⟩:=bj;exact rule i j t t' s _ _ ⟨.int (g i j),H,J.tok _,⟨_,I⟩,q⟩
def Ef {f:Value->Value->Sem Value}{g:Int->Int->Bool}(rule:∀(i j:Int) (t u:Tok) (s:Shared) (Q:Value->Shared->Prop) (E:Value->Shared->Prop),Q (.bool (g i j)) s->dN X (f (.int i t) (.int j u)) Q E s):eX X f (r5 λi j=>.aM (g i j)):=by
 intro ac s aa H x y v u Q J a0 bj h;obtain⟨i,j,rfl,rfl,q⟩:=h;obtain⟨t,rfl⟩:=a0;obtain⟨t',rfl⟩:=bj;exact rule i j t t' s _ _ ⟨.aM (g i j),H,J,I,q⟩
def QA (i j:Int):Prop:=0 < j/\j < 1073741824
def QB (i j:Int):Prop:=0<=j/\j<=1000000/\i.natAbs < 2 ^ 64
def Eg (i j:Int):Prop:=(-(2 ^ 64) < i/\i < 2 ^ 64)\/(-(2 ^ 64) < j/\j < 2 ^ 64)
def Eg.ok (h:Eg i j):IntMulOk i j:=by
 rcases h with ⟨ag,ae⟩|⟨ag,ae⟩
 ·exact .of_left (intBits_le_64 ag ae)
 ·exact .of_right (intBits_le_64 ag ae)
def f3:eX X (binaryOp .Add) (r5 λi j=>.int (i+j)):=J8 λ_ _ _ _ _ _ _ q=>add_int q
def kZ:eX X (binaryOp .Sub) (r5 λi j=>.int (i - j)):=J8 λ_ _ _ _ _ _ _ q=>sub_int q
def m1:eX X (binaryOp .Mult) (vQ Eg λi j=>.int (i*j)):=AP λ_ _ _ _ _ _ _ aw q=>mul_int q aw.ok
def hW:eX X (binaryOp .FloorDiv) (vQ QA λi j=>.int (i / j)):=AP λi j _ _ _ _ _ aw q=>by
 have ag:(0:Int) < j:=aw.1;have ae:j < 1073741824:=aw.2;exact floordiv_int co (by rw[Int.fdiv_eq_ediv_of_nonneg i co];exact q) (.inl (PyProof.noPylong_small co))
def fx:eX X (binaryOp .Mod) (vQ (λ_ j=>0 < j) λi j=>.int (i % j)):=AP λi j _ _ _ _ _ aw q=>by
 have ag:(0:Int) < j:=aw;exact mod_int' co (by rw[Int.fmod_eq_emod_of_nonneg i co];exact q)
def QC:eX X (binaryOp .Pow) (vQ QB λi j=>.int (i ^ j.toNat)):=AP λ_ _ _ _ _ _ _ aw q=>pow_int_small aw.1 aw.2.1 aw.2.2 q
def QD {f:Value->Sem Value}{g:Int->Int}(rule:∀(i:Int) (t:Tok) (s:Shared) (Q:Value->Shared->Prop) (E:Value->Shared->Prop),Q (.int (g i) s.toks) { s with toks:=s.toks+1 }->dN X (f (.int i t)) Q E s):AO X f (Ed λi=>.int (g i)):=by
 intro ac s aa H x v Q J a0 h;obtain⟨i,rfl,q⟩:=h;obtain⟨t,rfl⟩:=a0;exact rule i t s _ _ ⟨.int (g i),H,J.tok _,⟨_,I⟩,q⟩
def r6:AO X (unaryOp .USub) (Ed λi=>.int (-i)):=QD λ_ _ _ _ _ q=>neg_int q
def J9:V->V->Bool
 |.a3,.a3=>true|.a3,.int _=>true|.int _,.a3=>true|.a3,.aM _=>true|.aM _,.a3=>true|.a3,.str _=>true|.str _,.a3=>true
 |.int _,.int _=>true|.aM _,.aM _=>true|.str _,.str _=>true|.nE _,.nE _=>true
 |.int _,.str _=>true|.str _,.int _=>true|.aM _,.str _=>true|.str _,.aM _=>true
 |_,_=>false
def QE:g5:=λx y H Q=>J9 x y=true/\Q (.aM (decide (x=y))) H
def QF:g5:=λx y H Q=>J9 x y=true/\Q (.aM (!decide (x=y))) H
def Eh:decide (V.int i=V.int j)=(i == j):=by
 rw[mR];simp
def J':decide (V.aM i=V.aM j)=(i == j):=by
 rw[mR];simp
def qP:decide (V.str i=V.str j)=(i == j):=by
 rw[mR];simp
def Ka:decide (V.nE i=V.nE j)=(i.toList == j.toList):=by
 rw[mR];cases i;cases j;simp
def fy (J:Inv X ac aa H s) (q:Q (.aM k) H) (e:k=k'):gC X ac aa Q (.bool k') s:=by
 subst e;exact⟨.aM k,H,J,I,q⟩
def eY:eX X (compareOp .Eq) QE:=by
 intro ac s aa H x y v u Q J a0 bj h;obtain⟨ax,q⟩:=h;cases x with
 |a3=>
  cases a0;cases y with
  |a3=>cases bj;exact PySem.EqNone.eq_none_none (fy J q bZ)
  |aM j=>cases bj;exact PySem.EqNone.eq_none_bool (fy J q bZ)
  |int j=>obtain⟨t',rfl⟩:=bj;exact PySem.EqNone.eq_none_int (fy J q bZ)
  |str j=>obtain⟨t',rfl⟩:=bj;exact PySem.EqNone.eq_none_str (fy J q bZ)
  |_=>exact absurd (show false=true from ax) gf
 |aM i=>
  cases a0;cases y with
  |a3=>cases bj;exact PySem.EqNone.eq_bool_none (fy J q bZ)
  |aM j=>cases bj;exact eq_bool (fy J q J')
  |str j=>obtain⟨t',rfl⟩:=bj;exact PySem.EqMixed.eq_bool_str (fy J q bZ)
  |_=>exact absurd (show false=true from ax) gf
 |int i=>
  obtain⟨t,rfl⟩:=a0;cases y with
  |a3=>cases bj;exact PySem.EqNone.eq_int_none (fy J q bZ)
  |int j=>obtain⟨t',rfl⟩:=bj;exact eq_int (fy J q Eh)
  |str j=>obtain⟨t',rfl⟩:=bj;exact PySem.EqMixed.eq_int_str (fy J q bZ)
  |_=>exact absurd (show false=true from ax) gf
 |str i=>
  obtain⟨t,rfl⟩:=a0;cases y with
  |a3=>cases bj;exact PySem.EqNone.eq_str_none (fy J q bZ)
  |aM j=>cases bj;exact PySem.EqMixed.eq_str_bool (fy J q bZ)
  |int j=>obtain⟨t',rfl⟩:=bj;exact PySem.EqMixed.eq_str_int (fy J q bZ)
  |str j=>obtain⟨t',rfl⟩:=bj;exact eq_str (fy J q qP)
  |_=>exact absurd (show false=true from ax) gf
 |nE i=>
  obtain⟨t,rfl⟩:=a0;cases y with
  |nE j=>obtain⟨t',rfl⟩:=bj;exact PySem.W.eq_bytes (fy J q Ka)
  |_=>exact absurd (show false=true from ax) gf
 |_=>cases y<;>exact absurd (show false=true from ax) gf
def pP:eX X (compareOp .NotEq) QF:=by
 intro ac s aa H x y v u Q J a0 bj h;obtain⟨ax,q⟩:=h;cases x with
 |a3=>
  cases a0;cases y with
  |a3=>cases bj;exact PySem.EqNone.ne_none_none (fy J q bZ)
  |aM j=>cases bj;exact PySem.EqNone.ne_none_bool (fy J q bZ)
  |int j=>obtain⟨t',rfl⟩:=bj;exact PySem.EqNone.ne_none_int (fy J q bZ)
  |str j=>obtain⟨t',rfl⟩:=bj;exact PySem.EqNone.ne_none_str (fy J q bZ)
  |_=>exact absurd (show false=true from ax) gf
 |aM i=>
  cases a0;cases y with
  |a3=>cases bj;exact PySem.EqNone.ne_bool_none (fy J q bZ)
  |aM j=>cases bj;exact ne_bool (fy J q (fM not J'))
  |str j=>obtain⟨t',rfl⟩:=bj;exact PySem.EqMixed.ne_bool_str (fy J q bZ)
  |_=>exact absurd (show false=true from ax) gf
 |int i=>
  obtain⟨t,rfl⟩:=a0;cases y with
  |a3=>cases bj;exact PySem.EqNone.ne_int_none (fy J q bZ)
  |int j=>obtain⟨t',rfl⟩:=bj;exact ne_int (fy J q (fM not Eh))
  |str j=>obtain⟨t',rfl⟩:=bj;exact PySem.EqMixed.ne_int_str (fy J q bZ)
  |_=>exact absurd (show false=true from ax) gf
 |str i=>
  obtain⟨t,rfl⟩:=a0;cases y with
  |a3=>cases bj;exact PySem.EqNone.ne_str_none (fy J q bZ)
  |aM j=>cases bj;exact PySem.EqMixed.ne_str_bool (fy J q bZ)
  |int j=>obtain⟨t',rfl⟩:=bj;exact PySem.EqMixed.ne_str_int (fy J q bZ)
  |str j=>obtain⟨t',rfl⟩:=bj;exact ne_str (fy J q (fM not qP))
  |_=>exact absurd (show false=true from ax) gf
 |nE i=>
  obtain⟨t,rfl⟩:=a0;cases y with
  |nE j=>obtain⟨t',rfl⟩:=bj;exact PySem.W.ne_bytes (fy J q (fM not Ka))
  |_=>exact absurd (show false=true from ax) gf
 |_=>cases y<;>exact absurd (show false=true from ax) gf
def jn:eX X (compareOp .Lt) (r5 λi j=>.aM (decide (i < j))):=Ef λ_ _ _ _ _ _ _ q=>lt_int q
def kd:eX X (compareOp .Gt) (r5 λi j=>.aM (decide (j < i))):=Ef λ_ _ _ _ _ _ _ q=>gt_int q
def QG:eX X (compareOp .GtE) (r5 λi j=>.aM (decide (j<=i))):=Ef λ_ _ _ _ _ _ _ q=>ge_int q
def AQ:eX X (compareOp .In) (λx y H Q=>∃i j,x=.str i/\y=.str j/\Q (.aM (!(Builtin.Str.occurrences j i 0 j.length 1).isEmpty)) H):=by
 intro ac s aa H x y v u Q J a0 bj h;obtain⟨i,j,rfl,rfl,q⟩:=h;obtain⟨t,rfl⟩:=a0;obtain⟨t',rfl⟩:=bj;exact in_str (fy J q I)
def Ei:eX X (compareOp .Is) (λx y H Q=>y=.a3/\Q (.aM (decide (x=.a3))) H):=by
 intro ac s aa H x y v u Q J a0 bj h;obtain⟨rfl,q⟩:=h;cases bj;refine is_none_gen (fy J q ?_);cases x<;>first
  |(cases a0;rfl)
  |(obtain⟨t,rfl⟩:=a0;rfl)
def hX (b) (h:autoParam (op≠.In) Cl) (ae:autoParam (op≠.NotIn) Cl):behindInMarks op b=false:=by
 have am:(op == CmpOp.In)=false:=by cases op<;>first|rfl|exact absurd rfl h
 have aE:(op == CmpOp.NotIn)=false:=by cases op<;>first|rfl|exact absurd rfl ae
 cases b<;>simp[behindInMarks,am,aE]
def mq (a':eX X (compareOp op) r) (aq:bU X a bu) (af:bU X b bH) (aQ:behindInMarks op b=false):bU X (.Compare a [op] [b] pos) (lG r bu bH):=by
 intro ac s aa H Q J h;exact wpAny_Compare1 (Ee aq af J h λv u aN x y aB ci a0 bj q=>a' ac aN aa aB x y v u Q ci a0 bj q) aQ
def Ej (t:TE):TT:=λaa H Q=>t aa H λx Z=>IsT x Z Q
def ey (a':eX X (compareOp op) r) (aq:bU X a bu) (af:bU X b bH) (aQ:behindInMarks op b=false):kV X (.Compare a [op] [b] pos) (Ej (lG r bu bH)):=by
 intro ac s aa H Q J h;refine wpAny_isTrue_Compare1 (bW (aq ac s aa H _ J h) λv az ⟨x,ai,a6,bR,aZ⟩=>bW (af ac az aa ai _ a6 aZ) λu aN ⟨y,aB,ci,dL,bn⟩=>bW (a' ac aN aa aB x y v u _ ci bR dL bn) λc a2 ⟨z,a7,eM,zd,k,e,dA⟩=>?_) aQ;subst e;cases zd;exact ti ⟨a7,eM,dA⟩
def vR:(sizeLine:Nat) < 2 ^ 63:=by rw[jH];decide
def e5:eX X (binaryOp .Add) (λx y H Q=>∃i j,x=.str i/\y=.str j/\i.length+j.length<=sizeLine/\Q (.str (i++j)) H):=by
 intro ac s aa H x y v u Q J a0 bj h;obtain⟨i,j,rfl,rfl,hz,q⟩:=h;obtain⟨t,rfl⟩:=a0;obtain⟨t',rfl⟩:=bj;exact add_str (λt' cS=>⟨.str (i++j),H,J.tok _,⟨_,I⟩,q⟩) hz
def vals1 (r:b4 [x] us):∃u,us=[u]/\RelV x u:=by
 cases r with
 |cons bR dL=>cases dL;exact⟨_,I,bR⟩
def vals2 (r:b4 [x,y] us):∃u jT,us=[u,jT]/\RelV x u/\RelV y jT:=by
 cases r with
 |cons bR dL=>
  cases dL with
  |cons zd ze=>cases ze;exact⟨_,_,I,bR,zd⟩
def QH (aw:X.calm=true):kc X (.builtin "max") (λxs H Q=>∃i j,xs=[.int i,.int j]/\Q (.int (if j > i then j else i)) H):=by
 intro ac s aa H xs us Q J r h;obtain⟨i,j,rfl,q⟩:=h;obtain⟨u,jT,rfl,⟨t,rfl⟩,⟨t',rfl⟩⟩:=vals2 r;refine max_two_ints (J.ok.hd aw) λh' cS k=>⟨_,H,J.kept k,?_,q⟩;by_cases c':j > i
 ·rw[b8 c',b8 c'];exact⟨_,I⟩
 ·rw[bP c',bP c'];exact⟨_,I⟩
def x1:kc X (.type "int") (λxs H Q=>(∃i,xs=[.int i]/\Q (.int i) H)\/∃k,xs=[.aM k]/\Q (.int (if k then 1 else 0)) H):=by
 intro ac s aa H xs us Q J r h;rcases h with ⟨i,rfl,q⟩|⟨k,rfl,q⟩
 ·obtain⟨u,rfl,t,rfl⟩:=vals1 r;exact call_int_int ⟨.int i,H,J,⟨_,I⟩,q⟩
 ·obtain⟨u,rfl,bR⟩:=vals1 r;cases bR;exact call_int_bool ⟨.int (if k then 1 else 0),H,J.tok _,⟨_,I⟩,q⟩
end
end L2
namespace L2
open PySem PySem.Spec PyProof.Rows
structure tF (h:Heap) (x ao C:Addr) (eb:Str->cn):Prop where
 obj:h.get? x=some (PySem.W.instObj C ao)
 ns:h.Ns1 ao eb
 ne:ao≠x
def Kb {h:Heap}{ao:Addr}{eb:Str->cn}(n:h.Ns1 ao eb):∃dg,h.get? ao=some dg/\∀name,PySem.W.lookIn name dg=some (eb name):=by
 obtain⟨o,aj,cp,a',hd,aU,_,aQ⟩:=n;refine⟨o,a',λname=>?_⟩;have e:=aQ name;unfold nsFind findBy at e;rw[<-Array.find?_toList] at e;unfold PySem.W.lookIn;rw[hd];dsimp only;split
 ·rename_i y q;rw[q] at e;exact fM some e
 ·rename_i q;rw[q] at e;have a:aj.toList.any (·.refKey)=false:=by
   rw[List.any_eq_false];intro y aT;obtain⟨z,t,UF⟩:=aU y (Array.mem_toList_iff.mp aT);simp[DictEntry.refKey,UF]
  have be:¬aj.toList.any (·.refKey)=true:=by rw[a];exact gf
  rw[bP be];exact fM some e
def tF.look (J:tF h x ao C eb):∃dg,PySem.W.InstAt h x (PySem.W.instObj C ao) C (some dg)/\∀name,PySem.W.lookIn name dg=some (eb name):=
 let ⟨dg,a',au⟩:=Kb J.ns
 ⟨dg,⟨J.obj,I,I,a'⟩,au⟩
section
variable {prog:Program}{w:World}{A:Around}{E:Value->Shared->Prop}{s:Shared}{K:aJ}{x ao C f:Addr}{eb:Str->cn}{name:Str}{v:Value}
def get_map (X:K.In s.heap) (J:tF s.heap x ao C eb) (a1:PySem.W.plainGet K C name=true) (mE:PySem.W.hasDictIn K C=true) (aq:PySem.W.findIn K (.ref C) name=some none) (aK:eb name=some v) (n6:PySem.W.handedIn v=true) (h:Q v { s with toks:=s.toks+1 }):wpAny (model prog w) A (getAttr (.ref x) name expr) Q E s:=by
 obtain⟨dg,cc,au⟩:=J.look;exact PySem.W.get_value X cc (DB a1).1 (PySem.W.findObj_own mE aq I (by rw[au,aK])) n6 h
def QI (X:K.In s.heap) (J:tF s.heap x ao C eb) (a1:PySem.W.plainGet K C name=true) (bl:PySem.W.findIn K (.ref C) name=some (some (.ref f))) (bO:PySem.W.isFn K (.ref f)=true) (aK:eb name=none) (h:Q (.ref f,[.ref x]) s):wpAny (model prog w) A (getMethod (.ref x) name pl) Q E s:=by
 obtain⟨dg,cc,au⟩:=J.look;exact PySem.W.method_fn X cc (DB a1).1 (DB a1).2 bl (qB.mp bO) (by show(PySem.W.lookIn name dg).map (·.isSome)=some false;rw[au,aK];rfl) h
def QJ (X:K.In s.heap) (J:tF s.heap x ao C eb) (ax:PySem.W.findIn K (.ref C) "__setattr__"=some (some (.builtin "object.__setattr__"))) (ar:PySem.W.plainOver K C=true) (bO:PySem.W.takerIn K C name=some none) (mE:PySem.W.hasDictIn K C=true) (ay:PySem.Within eb ns) (o':ns.length<=sizeLine) (h:∀h',tF h' x ao C (λy=>if y=name then some v else eb y)->Heap.SameBut ao s.heap h'->Q () { s with heap:=h',toks:=s.toks+2 }):
  wpAny (model prog w) A (setAttr (.ref x) name v) Q E s:=by
 obtain⟨dg,cc,au⟩:=J.look;refine PySem.W.set_plain X cc ax (PySem.W.osa_open (s:={ s with toks:=s.toks+1 }) (r:=none) X cc ar bO λb=>?_);obtain⟨dY,aw,ge⟩:=PySem.W.any_some mE;have ak:s.heap.get? x=some ⟨.ref C,some ao,.plain,#[]⟩:=J.obj;refine a4 (b3 (a4 (a4 (Am ak (a4 (vt (s:={ s with toks:=s.toks+1 }) (DC X aw) ?_))))));rw[ge];refine b3 (a:=some ao) (a4 (b3 (a4 ?_)));refine wpAny_nsSet1 (s:={ s with toks:=s.toks+1 }) J.ns λh' uF gq=>?_;obtain⟨UV,WF,WP,FM,FS,uG⟩:=uF.count (PySem.Within.cons name v ay);refine a4 (wpAny_lookBehind FM (by rw[FS];exact pastItsLine_dict (dW uG (by rw[en];omega))) ?_);exact b3 (h _ ⟨(gq.2 _ (d0 J.ne)).trans J.obj,uF,J.ne⟩ gq)
def QK (X:K.In s.heap) (aQ:PySem.W.makesIn K C=true) (aR:PySem.W.findIn K (.ref C) "__init__"=some (some (.ref f))) (bl:PySem.W.typeIn K (.ref f)=some (.type "function")) (h:codeAny (model prog w) (A.under (.builtin "type.__call__" ⟨.ref C::vs,p'⟩)) (.call (.ref f) ⟨.ref (s.hz+1)::vs,p'⟩) (PySem.W.InitBack (s.hz+1) R) { s with heap:=(s.heap.push PySem.W.emptyDict).push (PySem.W.instObj C s.hz) }):codeAny (model prog w) A (.call (.ref C) ⟨vs,p'⟩) R s:=by
 obtain⟨mE,g,d,t,os⟩:=s;exact PySem.W.make_core (PySem.W.makes_of X aQ) (An X aR) (λself=>PySem.W.bind_fn X self bl) (.inl I) h
end
def hq (f:Str) (v:V):mV->mV
 |[]=>[(f,v)]
 |(g,x)::r=>if g=f then(g,v)::r else(g,x)::hq f v r
theorem Kc (f g v):∀bi:mV,(hq f v bi).lookup g=if g=f then some v else bi.lookup g
 |[]=>by
  show List.lookup g [(f,v)]=_;by_cases h:g=f
  ·have af:(g == f)=true:=qB.mpr h;simp only[List.lookup,af,if_pos h]
  ·have af:(g == f)=false:=h8.mpr h;simp only[List.lookup,af,if_neg h]
 |(k,x)::r=>by
  have ih:=Kc f g v r;rw[show hq f v ((k,x)::r)=(if k=f then(k,v)::r else(k,x)::hq f v r) from rfl];by_cases aU:k=f
  ·rw[b8 aU];by_cases h:g=k
   ·have af:(g == k)=true:=qB.mpr h;simp only[List.lookup,af,if_pos (h.trans aU)]
   ·have af:(g == k)=false:=h8.mpr h;simp only[List.lookup,af,if_neg (λe:g=f=>h (e.trans aU.symm))]
  ·rw[bP aU];by_cases h:g=k
   ·have af:(g == k)=true:=qB.mpr h;simp only[List.lookup,af,if_neg (λe:g=f=>aU (h.symm.trans e))]
   ·have af:(g == k)=false:=h8.mpr h;simp only[List.lookup,af];exact ih
theorem Ek (f v):∀bi:mV,f∈(hq f v bi).map (·.1)/\∀g,g∈bi.map (·.1)->g∈(hq f v bi).map (·.1)
 |[]=>⟨by simp[hq],λg h=>by simp at h⟩
 |(k,x)::r=>by
  obtain⟨iN,lU⟩:=Ek f v r;rw[show hq f v ((k,x)::r)=(if k=f then(k,v)::r else(k,x)::hq f v r) from rfl];by_cases aU:k=f
  ·rw[b8 aU];subst aU;exact⟨bZ,λg h=>by simpa using h⟩
  ·rw[bP aU];refine⟨?_,λg h=>?_⟩
   ·rw[kR];exact j4 _ iN
   ·rw[kR] at h⊢;rcases gZ.mp h with e|e
    ·exact gZ.mpr (.inl e)
    ·exact j4 _ (lU g e)
theorem Kd (f v):∀bi:mV,(hq f v bi).length<=bi.length+1
 |[]=>by simp[hq]
 |(k,x)::r=>by
  have ih:=Kd f v r;rw[show hq f v ((k,x)::r)=(if k=f then(k,v)::r else(k,x)::hq f v r) from rfl];by_cases aU:k=f
  ·rw[b8 aU,en,en];omega
  ·rw[bP aU,en,en];omega
def jI.some_of (r:jI (some v) o):∃u,o=some u/\RelV v u:=by
 cases o with
 |none=>exact(show False from r).elim
 |some u=>exact⟨u,I,r⟩
def jI.none_of (r:jI none o):o=none:=by
 cases o with
 |none=>rfl
 |some u=>exact(show False from r).elim
def QL (r:RelV v u):PySem.W.handedIn u=true:=by
 cases v with
 |a3=>cases (show u=Value.none from r);rfl
 |aM b=>cases (show u=Value.bool b from r);rfl
 |int i=>obtain⟨t,e⟩:=(show ∃t,u=Value.int i t from r);cases e;rfl
 |str x=>obtain⟨t,e⟩:=(show ∃t,u=Value.str x t from r);cases e;rfl
 |nE b=>obtain⟨t,e⟩:=(show ∃t,u=Value.bytes b t from r);cases e;rfl
 |tu b=>obtain⟨t,e⟩:=(show ∃t,u=Value.float b t from r);cases e;rfl
 |ref a=>cases (show u=Value.ref a from r);rfl
 |ty n=>cases (show u=Value.type n from r);rfl
section
variable {P:Program}{w:World}{H Z:ap}{h h':Heap}{a C ao:Addr}{bi Rs:mV}
def AR (bA:gh P w H h) (e:H a=some (.ins C ao bi)):∃eb,tF h a ao C eb/\(∀f,jI (bi.lookup f) (eb f))/\PySem.Within eb (bi.map (·.1))/\bi.length<=1000/\H ao=some (.own a):=by
 obtain⟨d,z,ne,c7,eb,n,r,q⟩:=(show gB P w H h a (.ins C ao bi) from bA a _ e);exact⟨eb,⟨c7,n,ne⟩,r,q,z,d⟩
end
structure jo (K:aJ) (C:Addr):Prop where
 QM:PySem.W.plainGet K C Str.empty=true
 hd:PySem.W.hasDictIn K C=true
 po:PySem.W.plainOver K C=true
 tG:PySem.W.findIn K (.ref C) "__setattr__"=some (some (.builtin "object.__setattr__"))
def jo.get {K C}(c:jo K C) (f):PySem.W.plainGet K C f=true:=c.QM
def NoAttr (K:aJ) (C:Addr) (f:Str):Prop:=PySem.W.findIn K (.ref C) f=some none
def NoAttr.QN {K C f}(n:NoAttr K C f):PySem.W.takerIn K C f=some none:=by
 unfold PySem.W.takerIn;rw[show PySem.W.findIn K (.ref C) f=some none from n];rfl
structure pQ (K:aJ) (C:Addr) (m:Str) (f:Addr):Prop where
 at_:PySem.W.findIn K (.ref C) m=some (some (.ref f))
 fn:PySem.W.isFn K (.ref f)=true
 cZ:PySem.W.keepIn K (.ref f)=true
section
variable {X:a8}{ac:eU}{aa:St}{H:ap}{s:Shared}{a C ao:Addr}{bi:mV}{f:Str}{v:V}{A:Around}{E:Value->Shared->Prop}
def QO (J:Inv X ac aa H s) (e:H a=some (.ins C ao bi)) (c:jo X.K C) (n:NoAttr X.K C f) (l:bi.lookup f=some v) (h:∀u s',Inv X ac aa H s'->RelV v u->Q u s'):wpAny (model X.prog X.w) A (getAttr (.ref a) f b) Q E s:=by
 obtain⟨eb,O,r,_,_,_⟩:=AR J.bA e;obtain⟨u,bY,fc⟩:=jI.some_of (v:=v) (o:=eb f) (by rw[<-l];exact r f);exact get_map J.ep O (c.get f) c.hd n bY (QL fc) (h u _ (J.tok _) fc)
def El (J:Inv X ac aa H s) (e:H a=some (.ins C ao bi)) (c:jo X.K C) (k:pQ X.K C m g) (l:bi.lookup m=none) (h:Q (.ref g,[.ref a]) s):wpAny (model X.prog X.w) A (getMethod (.ref a) m pl) Q E s:=by
 obtain⟨eb,O,r,_,_,_⟩:=AR J.bA e;have aP:eb m=none:=jI.none_of (by rw[<-l];exact r m);exact QI J.ep O (c.get m) k.at_ k.fn aP h
def QP (J:Inv X ac aa H s) (e:H a=some (.ins C ao bi)) (c:jo X.K C) (n:NoAttr X.K C f) (au:bi.length < 1000) (bj:RelV y u) (h:∀s',Inv X ac aa (upd H a (.ins C ao (hq f y bi))) s'->Q () s'):wpAny (model X.prog X.w) A (setAttr (.ref a) f u) Q E s:=by
 obtain⟨eb,O,r,f0,_,a'⟩:=AR J.bA e;have hz:(bi.map (·.1)).length<=sizeLine:=by rw[eV,jH];omega
 refine QJ J.ep O c.tG c.po n.QN c.hd f0 hz λh' Go iZ=>h _ ?_;have hd:∃o,h'.get? ao=some o:=let ⟨o,_,_,db,_⟩:=Go.ns;⟨o,db⟩;refine J.write (x:=a) (e:=ao) (by rw[e];exact True.intro) (.inr a') (λb q af z=>(iZ.2 b af).trans z) hd ?_;refine⟨by rw[cj O.ne];exact a',?_,O.ne,Go.obj,_,Go.ns,λg=>?_,λg a1=>?_⟩
 ·have:=Kd f y bi;omega
 ·show jI ((hq f y bi).lookup g) (if g=f then some u else eb g);rw[Kc];by_cases q:g=f
  ·rw[b8 q,b8 q];exact bj
  ·rw[bP q,bP q];exact r g
 ·by_cases q:g=f
  ·rw[q];exact(Ek f y bi).1
  ·refine(Ek f y bi).2 g (f0 g λz=>a1 ?_);show(if g=f then some u else eb g)=none;rw[bP q];exact z
def Inv.made (J:Inv X ac aa H s):Inv X ac aa (upd (upd H s.hz (.own (s.hz+1))) (s.hz+1) (.ins C s.hz [])) { s with heap:=(s.heap.push PySem.W.emptyDict).push (PySem.W.instObj C s.hz) }:=by
 have am:(s.heap.push PySem.W.emptyDict).get? s.hz=some PySem.W.emptyDict:=hN s.heap rfl;have aE:((s.heap.push PySem.W.emptyDict).push (PySem.W.instObj C s.hz)).get? (s.hz+1)=some (PySem.W.instObj C s.hz):=by
  have:=hN (s.heap.push PySem.W.emptyDict) (o:=PySem.W.instObj C s.hz) rfl
  rwa [Heap.size_push] at this
 have bq:(s.heap.push PySem.W.emptyDict).Ns s.hz (λ_=>none):=⟨PySem.W.emptyDict,#[],_,am,I,(λe he=>absurd he bZ),λ_=>I⟩;have a6:=J.laid (a:=s.hz) (o:=.own (s.hz+1)) (h':=s.heap.push PySem.W.emptyDict) (t':=s.toks) (λb u q=>ej _ q) (bf _) ⟨_,am⟩;refine a6.laid (a:=s.hz+1) (o:=.ins C s.hz []) (t':=s.toks) (λb u q=>ej _ q) (Ao (Heap.size_push _ _)) ?_;have ne:s.hz≠s.hz+1:=fw (pz _);refine⟨by rw[cj ne,b'],fN _,ne,aE,λ_=>none,(Heap.Ns1.of_empty bq).at λo q=>ej _ q,λ_=>True.intro,λy aT=>absurd I aT⟩
def Ke (af:attributeBase e f env (eval e env)=eval e env) (h:wpAny (model prog w) A (eval e env) (λo dn=>wpAny (model prog w) A (getAttr o f true) Q E dn) E s):wpAny (model prog w) A (eval (.Attribute e f pos) env) Q E s:=
 Attribute_any_ h (by rw[arm_eval_Attribute,af])
end
inductive tH (K:aJ) (f:Str) (x:V) (ai:ap) (Q:bz):Prop
 |mk a C ao bi v:x=.ref a->ai a=some (.ins C ao bi)->jo K C->NoAttr K C f->bi.lookup f=some v->Q v ai->tH K f x ai Q
def Kf (K:aJ) (bu:TE) (f:Str):TE:=λaa H Q=>bu aa H λx ai=>tH K f x ai Q
def Kg (K:aJ) (bu h0:TE) (f:Str):gw:=λD aa H=>h0 aa H λy ai=>bu aa ai λx aB=>∃a C ao bi,x=.ref a/\aB a=some (.ins C ao bi)/\jo K C/\NoAttr K C f/\bi.length < 1000/\
 D.c4 aa (upd aB a (.ins C ao (hq f y bi)))
section
variable {X:a8}{o e value:Expr}{f:Str}{pos pos' CF:Pos}{bu h0:TE}
def eZ (he:bU X e bu) (af:attributeBase e f X.env (eval e X.env)=eval e X.env):bU X (.Attribute e f pos) (Kf X.K bu f):=by
 intro ac s aa H Q J h;refine Ke af (bW (he ac s aa H _ J h) λu az aD=>?_);obtain⟨x,ai,a6,a0,a,C,ao,bi,v,ex,cX,c,n,l,q⟩:=aD;subst ex;obtain rfl:u=Value.ref a:=a0;exact QO a6 cX c n l λec aN ci fc=>⟨v,ai,ci,fc,q⟩
def k0 (aq:bU X o bu) (aK:bU X value h0) (ax:swapsWith value (some (.Attribute o f pos')) pos.line X.env=pure false):j' X (.Assign [.Attribute o f pos'] value pos) (Kg X.K bu h0 f):=by
 intro ac s aa H D J h;refine plainObj_wpAny_Assign_Attribute (bW (aK ac s aa H _ J h) λu az ⟨y,ai,a6,bj,q⟩=>bW (aq ac az aa ai _ a6 q) λeC aN aD=>?_) ax;obtain⟨x,aB,ci,a0,a,C,ao,bi,ex,cX,c,n,l,bn⟩:=aD;subst ex;obtain rfl:eC=Value.ref a:=a0;exact QP ci cX c n l bj λa2 eM=>⟨aa,_,eM,bn⟩
def abC (he:bU X e bw) (J:Inv X ac aa H s)
  (h:bw aa H λx ai=>∃a C ao bi g,x=.ref a/\ai a=some (.ins C ao bi)/\jo X.K C/\pQ X.K C m g/\bi.lookup m=none/\∀az,Inv X ac aa ai az->dN X (callWith pos (.ref g) [.ref a] (backTo pos (starEach args X.env)) (backToKw pos (keywordEach [] X.env))) Q X.cR az)
  (bO:eval (.Call (.Attribute e m apos) args [] pos) X.env=(do
   let eC <-eval e X.env
   standAt apos.atName
   let (f,first) <-holding [eC] (getMethod eC m pl)
   callWith pos f first (backTo pos (starEach args X.env)) (backToKw pos (keywordEach [] X.env)))):
  dN X (eval (.Call (.Attribute e m apos) args [] pos) X.env) Q X.cR s:=by
 refine Ap (pl:=pl) (bW (he ac s aa H _ J h) λu az aD=>?_) bO;obtain⟨x,ai,a6,a0,a,C,ao,bi,g,ex,cX,c,k,l,q⟩:=aD;subst ex;obtain rfl:u=Value.ref a:=a0;exact El a6 cX c k l (q az a6)
end
section
variable {X:a8}{ac:eU}{aa:St}{H:ap}{s:Shared}{A:Around}{E:Value->Shared->Prop}{Q:Value->Shared->Prop}{c:Value}{b:Bool}
inductive mr (K:aJ) (H:ap):V->Value->Prop where
 |a3:mr K H .a3 (.type "NoneType")
 |aM x:mr K H (.aM x) (.type "bool")
 |int i:mr K H (.int i) (.type "int")
 |str x:mr K H (.str x) (.type "str")
 |tu (x:UInt64):mr K H (.tu x) (.type "float")
 |lst {a xs}(e:H a=some (.lst xs)):mr K H (.ref a) (.type "list")
 |mj {a o xs}(e:H a=some (.mj o (.lst xs))):mr K H (.ref a) (.type "list")
 |tup {a xs}(e:H a=some (.tup xs)):mr K H (.ref a) (.type "tuple")
 |iV {a bG}(e:H a=some (.iV bG)):mr K H (.ref a) (.type "dict")
 |gv {a bG}(e:H a=some (.gv bG)):mr K H (.ref a) (.type "dict")
 |ins {a C ao:Addr}{bi:mV}(e:H a=some (.ins C ao bi)) (cl:jo K C) (aq:PySem.W.findIn K (.ref C) "__class__"=some (some (.builtin "object.__class__")))
   (aP:PySem.W.specialIn K (.builtin "object.__class__") "__get__"=some (some (.builtin "getset_descriptor.__get__"))) (Ob:PySem.W.takesIn K (.builtin "object.__class__")=some true)
   (aQ:PySem.W.mroIn K C (.type "object")=some true):mr K H (.ref a) (.ref C)
def QR (J:Inv X ac aa H s) (a0:RelV x u) (ty:mr X.K H x t) (e:PySem.W.kitOne X.K t c=some b) (h:∀cS,Q (.bool b) { s with toks:=cS }):wpAny (model X.prog X.w) A (call (.builtin "isinstance") [u,c]) Q E s:=by
 cases ty with
 |a3=>cases (show u=Value.none from a0);exact nz PySem.W.kitx_none J.ep True.intro e (λz=>nomatch z) h
 |aM y=>cases (show u=Value.bool y from a0);exact nz PySem.W.kitx_bool J.ep True.intro e (λz=>nomatch z) h
 |int i=>obtain⟨t,q⟩:=(show ∃t,u=Value.int i t from a0);cases q;exact nz PySem.W.kitx_int J.ep True.intro e (λz=>nomatch z) h
 |str y=>obtain⟨t,q⟩:=(show ∃t,u=Value.str y t from a0);cases q;exact nz PySem.W.kitx_str J.ep True.intro e (λz=>nomatch z) h
 |tu y=>obtain⟨t,q⟩:=(show ∃t,u=Value.float y t from a0);cases q;exact nz PySem.W.kitx_float J.ep True.intro e (λz=>nomatch z) h
 |@lst a xs cX=>
  cases (show u=Value.ref a from a0);obtain⟨_,_,n,_,ag⟩:=(show gB X.prog X.w H s.heap a (.lst xs) from J.bA a _ cX);exact nz PySem.W.kitx_list J.ep ⟨_,ag,I⟩ e (λz=>nomatch z) h
 |@mj a c7 xs cX=>
  cases (show u=Value.ref a from a0);obtain⟨_,_,_,n,_,ag⟩:=(show gB X.prog X.w H s.heap a (.mj c7 (.lst xs)) from J.bA a _ cX);exact nz PySem.W.kitx_list J.ep ⟨_,ag,I⟩ e (λz=>nomatch z) h
 |@tup a xs cX=>
  cases (show u=Value.ref a from a0);obtain⟨_,_,_,p⟩:=(show gB X.prog X.w H s.heap a (.tup xs) from J.bA a _ cX);obtain⟨o,ag,ae,_⟩:=p;exact nz PySem.W.kitx_tuple J.ep ⟨o,ag,ae⟩ e (λz=>nomatch z) h
 |@iV a bG cX=>
  cases (show u=Value.ref a from a0);obtain⟨_,_,vs,_,p⟩:=(show gB X.prog X.w H s.heap a (.iV bG) from J.bA a _ cX);obtain⟨o,aj,cp,ag,ae,_⟩:=p;exact nz PySem.W.kitx_dict J.ep ⟨o,ag,ae.1⟩ e (λz=>nomatch z) h
 |@gv a bG cX=>
  cases (show u=Value.ref a from a0);obtain⟨_,_,xs,_,o,aj,cp,ag,ae,_⟩:=(show gB X.prog X.w H s.heap a (.gv bG) from J.bA a _ cX);exact nz PySem.W.kitx_dict J.ep ⟨o,ag,ae.1⟩ e (λz=>nomatch z) h
 |@ins a C ao bi cX cl aq aP Ob aQ=>
  cases (show u=Value.ref a from a0);obtain⟨eb,O,_⟩:=AR J.bA cX;obtain⟨dg,cc,_⟩:=O.look;exact nz (PySem.W.kitx_own (cl.get _) cl.hd aq aP Ob aQ) J.ep cc e (λz=>nomatch z) h
end
end L2
namespace L2
open PySem PySem.Spec PyProof.Rows
structure dj (k:Nat) (A:Around):Prop where
 hd:A.handled=none
 oJ:A.depth+k+5 < recursionLimit
 un:A.units+16*k+200 < cLine
 x2:A.guards=some []
def dj.mono (r:dj k A) (h:j<=k):dj j A:=⟨r.hd,by have:=r.oJ;omega,by have:=r.un;omega,r.x2⟩
def dj.deeper (r:dj (k+1) A) (env):dj k (A.deeper env):=
 ⟨r.hd,by have:=r.oJ;show A.depth+1+k+5 < _;omega,by have:=r.un;show A.units+3+16*k+200 < _;omega,r.x2⟩
def QS {A:Around}{C:Addr}{us:e3}{p':List (Str×Value)}:(A.under (.builtin "type.__call__" ⟨.ref C::us,p'⟩)).depth=A.depth+1:=by
 first|rfl|simp[Around.under,Code.weight,Code.isCreation,Code.isGuard,Code.isCaller,Code.frames,Code.isFrame,guardIds]
def QT {A:Around}{C:Addr}{us:e3}{p':List (Str×Value)}:(A.under (.builtin "type.__call__" ⟨.ref C::us,p'⟩)).units=A.units+1:=by
 first|rfl|simp[Around.under,Code.cUnits,Code.frames,Code.isFrame]
def dj.make (r:dj (k+1) A) (C us p'):dj k (A.under (.builtin "type.__call__" ⟨.ref C::us,p'⟩)):=
 ⟨r.hd,by have:=r.oJ;rw[QS];omega,by have:=r.un;rw[QT];omega,r.x2⟩
def dj.depth (r:dj k A):A.depth < recursionLimit:=by have:=r.oJ;omega
def dj.units (r:dj k A):A.units+64 < cLine:=by have:=r.un;omega
def dj.QU (r:dj k A):A.units < cLine:=by have:=r.un;omega
def lH:fi:=λ_ H Q=>Q [] H
def m2 (bu:TE) (Em:fi):fi:=λaa H Q=>bu aa H λx ai=>Em aa ai λxs aB=>Q (x::xs) aB
section
variable {X:a8}{e:Expr}{aj:gY}{bw:TE}{t:fi}{pos:Pos}
def dc:iX X [] lH:=λ_ _ _ _ H Q J h=>Calls.spliced_nil ⟨[],H,J,.nil,h⟩
def cg (aq:bU X e bw) (al:iX X aj t) (ax:autoParam (gi X e aj) dl):iX X (e::aj) (m2 bw t):=by
 intro pos ac s aa H Q J h;rw[ax];show wpAny _ _ (spliced ((false,eval e X.env)::backTo pos (starEach aj X.env))) _ _ s;refine xF (bW (aq ac s aa H _ J h) λu az aD=>?_);obtain⟨x,ai,a6,bR,aZ⟩:=aD;exact bW (al pos ac az aa ai _ a6 aZ) λus aN ⟨xs,aB,ci,dL,bn⟩=>⟨x::xs,aB,ci,.cons bR dL,bn⟩
inductive x3 (o:jJ) (xs:br) (H:ap) (Q:bz):Prop
 |mk:xs.length<=sizeLine->(∀p,H p=none->Q (.ref p) (upd H p o))->x3 o xs H Q
def Kh (t:fi):TE:=λaa H Q=>t aa H λxs ai=>x3 (.tup xs) xs ai Q
def Ki (t:fi):TE:=λaa H Q=>t aa H λxs ai=>x3 (.lst xs) xs ai Q
def cP (h:iX X aj t):bU X (.Tuple aj n7 pos) (Kh t):=by
 intro ac s aa H Q J aD;refine wpAny_Tuple_spliced (bW (h pos ac s aa H _ J aD) λus az ⟨xs,ai,a6,r,z,q⟩=>⟨by rw[<-r.length];exact z,?_⟩);have bl:ai az.hz=none:=a6.bA.fresh (bf _);refine⟨.ref az.hz,upd ai az.hz (.tup xs),a6.laid (t':=az.toks) (λb u e=>ej _ e) (bf _) ?_,I,q _ bl⟩;exact⟨z,us,r,⟨_,hN _ I,I,_,I⟩⟩
def eL (h:iX X aj t):bU X (.List aj pos) (Ki t):=by
 intro ac s aa H Q J aD;refine wpAny_List_spliced (bW (h pos ac s aa H _ J aD) λus az ⟨xs,ai,a6,r,z,q⟩=>⟨by rw[<-r.length];exact z,?_⟩);have bl:ai az.hz=none:=a6.bA.fresh (bf _);refine⟨.ref az.hz,upd ai az.hz (.lst xs),a6.laid (t':=az.toks) (λb u e=>ej _ e) (bf _) ?_,I,q _ bl⟩;exact⟨z,us,0,r,hN _ I⟩
end
abbrev e6:=br->ap->bz->cJ->Prop
abbrev nL:=oy->ap->Shared->cJ->Value->Shared->Prop
structure tI (P:Program) (w:World) (K:aJ) (mg:Str->cn) (base:Heap) (A:Around) (outer:oy) (s:Shared) (H:ap):Prop where
 frames:A.frames=some outer
 mod:Mod K mg base
 bs:∀b o,base.get? b=some o->s.heap.get? b=some o/\H b=none
 ly:base.objs.size<=s.hz
 kU:s.heap.FunFrames base outer
 pG:∀b∈jk outer,H b=none
 bA:gh P w H s.heap
 bare:AllBare s.gens
def En (outer:oy) (P:Program) (w:World) (H:ap) (s:Shared) (Q:bz) (u:Value) (s':Shared):Prop:=
 ∃v Z,s'.os=s.os/\AllBare s'.gens/\ha (jk outer) [] H Z s.heap s'.heap/\gh P w Z s'.heap/\RelV v u/\Q v Z
def aY (CX:nL) (outer:oy) (P:Program) (w:World) (H:ap) (s:Shared) (Q:bz) (E:cJ) (r:Result) (s':Shared):Prop:=
 match r with
 |.ok (.ret u)=>En outer P w H s Q u s'
 |.ok _=>False
 |.error e=>CX outer H s E e s'
structure bK (P:Program) (w:World) (K:aJ) (mg:Str->cn) (base:Heap) (CX:nL) (k:Nat) (f:Addr) (as:FuncData) (aG:dH) (sp:e6):Prop where
 len:∀vs H Q E,sp vs H Q E->vs.length=aG.length
 run:∀A outer s H args us vs Q E,dj k A->tI P w K mg base A outer s H->BindsTo s as args (aG.zip us)->b4 vs us->sp vs H Q E->
  codeAny (model P w) A (.call (.ref f) args) (aY CX outer P w H s Q E) s
def bK.mono {P w K mg base CX j k f as aG sp}(F:bK P w K mg base CX j f as aG sp) (h:j<=k):bK P w K mg base CX k f as aG sp:=⟨F.len,λA outer s H args us vs Q E al=>F.run A outer s H args us vs Q E (al.mono h)⟩
def tI.make {P w K mg base A outer s H}(e:tI P w K mg base A outer s H) (C us p'):tI P w K mg base (A.under (.builtin "type.__call__" ⟨.ref C::us,p'⟩)) outer s H:=⟨by first|exact e.frames|(simpa[Around.under,Code.envs,Code.isFrame,pushEnvs] using e.frames),e.mod,e.bs,e.ly,e.kU,e.pG,e.bA,e.bare⟩
section
variable {X:a8}{ac:eU}{aa:St}{H:ap}{s s':Shared}
def Inv.Eo (J:Inv X ac aa H s):tI X.prog X.w X.K X.mg X.base X.A X.stack s H:=
 ⟨J.ok.frames,J.ok.mod,J.bs,dW J.ok.ly J.oE,J.stack,J.xV,J.bA,J.bare⟩
def Inv.after (J:Inv X ac aa H s) (h:En X.stack X.prog X.w H s Q u s'):gC X ac aa Q u s':=by
 obtain⟨v,Z,os,bare,un,bA,r,q⟩:=h;obtain⟨mE,g,d,t,WY⟩:=s';obtain rfl:WY=s.os:=os;exact⟨v,Z,J.call (h':=mE) (g':=g) (d':=d) (t':=t) (ch:=[]) un bA bare (λb z=>absurd z bZ),r,q⟩
end
def r7 (sp:e6) (dvs:br) (E:cJ) (t:fi):TE:=λaa H Q=>t aa H λvs ai=>sp (vs++dvs) ai Q E
inductive Ep (C:Addr) (m:Str) (x:V) (ai:ap) (R:Prop):Prop
 |mk a ao bi:x=.ref a->ai a=some (.ins C ao bi)->bi.lookup m=none->R->Ep C m x ai R
def x4 (C:Addr) (m:Str) (sp:e6) (dvs:br) (E:cJ) (bu:TE) (t:fi):TE:=λaa H Q=>bu aa H λx ai=>Ep C m x ai (t aa ai λvs aB=>sp (x::(vs++dvs)) aB Q E)
def AS (C:Addr) (sp:e6) (dvs:br) (E:cJ) (t:fi):TE:=λaa H Q=>t aa H λvs ai=>∀x ao,ai x=none->ai ao=none->ao≠x->
 sp (.ref x::(vs++dvs)) (upd (upd ai ao (.own x)) x (.ins C ao [])) (λv aB=>v=.a3/\Q (.ref x) aB) E
def Binds (K:aJ) (as:FuncData) (aG:dH) (ds:e3):Prop:=
 ∀s us,K.In s.heap->(us++ds).length=aG.length->BindsTo s as ⟨us,[]⟩ (aG.zip (us++ds))
def Binds.all {K as aG}(h:∀us:e3,us.length=aG.length->bindArgs as ⟨us,[]⟩=pure (aG.zip us)):Binds K as aG []:=λs us _ au=>by
 rw[me] at au⊢;exact .of_eq (h us au)
def ff (CX:nL) (X:a8) (E:cJ):Prop:=∀ac aa H s e s',Inv X ac aa H s->CX X.stack H s E e s'->X.cR e s'
section
variable {X:a8}{CX:nL}{k:Nat}{f C:Addr}{as:FuncData}{aG:dH}{sp:e6}{dvs:br}{ds:e3}{E:cJ}{x m:Str}{p pos apos:Pos}{e o:Expr}{aj:gY}{bu:TE}{t:fi}
def x5 (F:bK X.prog X.w X.K X.mg X.base CX k f as aG sp) (al:dj k X.A) (af:Binds X.K as aG ds) (hd:b4 dvs ds) (ak:ff CX X E) (J:Inv X ac aa H s) (r:b4 vs us) (h:sp (vs++dvs) H Q E):dN X (call (.ref f) us) (gC X ac aa Q) X.cR s:=by
 have dL:b4 (vs++dvs) (us++ds):=r.append hd;have au:(us++ds).length=aG.length:=by rw[<-dL.length];exact F.len _ _ _ _ h
 refine rQ (vu (F.run X.A X.stack s H ⟨us,[]⟩ (us++ds) (vs++dvs) Q E al J.Eo (af s us J.ep au) dL h) λr s' aD=>?_);cases r with
 |error e=>exact ak ac aa H s e s' J aD
 |ok f4=>
  cases f4 with
  |ret u=>exact J.after aD
  |next=>exact False.elim aD
  |brk=>exact False.elim aD
  |cont=>exact False.elim aD
def Er (F:bK X.prog X.w X.K X.mg X.base CX k f as aG sp) (al:dj k X.A) (a1:eH X x) (aQ:X.mg x=some (.ref f)) (aU:PySem.W.keepIn X.K (.ref f)=true) (af:Binds X.K as aG ds) (hd:b4 dvs ds) (ak:ff CX X E) (aq:iX X (e::aj) t) (eN:autoParam (e4 x) Cl) (he:autoParam (gi X e aj) dl) (hpl:autoParam (iW X pos aj) dl):bU X (.Call (.Name x p) (e::aj) [] pos) (r7 sp dvs E t):=by
 intro ac s aa H Q J h;refine qD (r1 J a1 aQ ?_ eN);refine xG (h₀:=X.base) J.ok.mod.tx aU (bW (aq pos ac s aa H _ J h) λus az ⟨vs,ai,a6,r,q⟩=>⟨a6.ep,?_⟩) he hpl;exact x5 F al af hd ak a6 r q
def QV (F:bK X.prog X.w X.K X.mg X.base CX k f as aG sp) (al:dj k X.A) (a1:eH X x) (aQ:X.mg x=some (.ref f)) (aU:PySem.W.keepIn X.K (.ref f)=true) (af:Binds X.K as aG ds) (hd:b4 dvs ds) (ak:ff CX X E) (eN:autoParam (e4 x) Cl):bU X (.Call (.Name x p) [] [] pos) (r7 sp dvs E lH):=by
 intro ac s aa H Q J h;refine qD (r1 J a1 aQ ?_ eN);exact DD J.ep aU (x5 (us:=[]) F al af hd ak J .nil h)
def QW (he:bU X o bu) (c:jo X.K C) (aQ:pQ X.K C m f) (F:bK X.prog X.w X.K X.mg X.base CX k f as aG sp) (al:dj k X.A) (af:Binds X.K as aG ds) (hd:b4 dvs ds) (ak:ff CX X E) (aq:iX X (e::aj) t)
  (iK:autoParam (gi X e aj) dl) (hpl:autoParam (iW X pos aj) dl)
  (bO:autoParam (eval (.Call (.Attribute o m apos) (e::aj) [] pos) X.env=(do
   let eC <-eval o X.env
   standAt apos.atName
   let (f,first) <-holding [eC] (getMethod eC m pl)
   callWith pos f first (backTo pos (starEach (e::aj) X.env)) (backToKw pos (keywordEach [] X.env)))) dl):
  bU X (.Call (.Attribute o m apos) (e::aj) [] pos) (x4 C m sp dvs E bu t):=by
 intro ac s aa H Q J h;refine Ap (pl:=pl) (bW (he ac s aa H _ J h) λu az aD=>?_) bO;obtain⟨x,ai,a6,a0,a,ao,bi,ex,cX,l,q⟩:=aD;subst ex;obtain rfl:u=Value.ref a:=a0;refine El a6 cX c aQ l ?_;refine xG (first:=[.ref a]) (h₀:=X.base) J.ok.mod.tx aQ.cZ (bW (aq pos ac az aa ai _ a6 q) λus aN ⟨vs,aB,ci,r,bn⟩=>⟨ci.ep,?_⟩) iK hpl;exact x5 (us:=.ref a::us) (vs:=.ref a::vs) F al af hd ak ci (.cons I r) bn
def Kj (he:bU X o bu) (c:jo X.K C) (aQ:pQ X.K C m f) (F:bK X.prog X.w X.K X.mg X.base CX k f as aG sp) (al:dj k X.A) (af:Binds X.K as aG ds) (hd:b4 dvs ds) (ak:ff CX X E)
  (bO:autoParam (eval (.Call (.Attribute o m apos) [] [] pos) X.env=(do
   let eC <-eval o X.env
   standAt apos.atName
   let (f,first) <-holding [eC] (getMethod eC m pl)
   callWith pos f first (backTo pos (starEach [] X.env)) (backToKw pos (keywordEach [] X.env)))) dl):
  bU X (.Call (.Attribute o m apos) [] [] pos) (x4 C m sp dvs E bu lH):=by
 intro ac s aa H Q J h;refine Ap (pl:=pl) (bW (he ac s aa H _ J h) λu az aD=>?_) bO;obtain⟨x,ai,a6,a0,a,ao,bi,ex,cX,l,q⟩:=aD;subst ex;obtain rfl:u=Value.ref a:=a0;refine El a6 cX c aQ l ?_;exact DD (first:=[.ref a]) a6.ep aQ.cZ (x5 (us:=[.ref a]) (vs:=[.ref a]) F al af hd ak a6 (.cons I .nil) q)
structure vS (K:aJ) (C f:Addr):Prop where
 makes:PySem.W.makesIn K C=true
 init:PySem.W.findIn K (.ref C) "__init__"=some (some (.ref f))
 fn:PySem.W.isFn K (.ref f)=true
 cZ:PySem.W.keepIn K (.ref C)=true
def Kk (M:vS X.K C f) (F:bK X.prog X.w X.K X.mg X.base CX k f as aG sp) (al:dj (k+1) X.A) (af:Binds X.K as aG ds) (hd:b4 dvs ds) (ak:ff CX X E) (J:Inv X ac aa H s) (r:b4 vs us) (h:∀x ao,H x=none->H ao=none->ao≠x->sp (.ref x::(vs++dvs)) (upd (upd H ao (.own x)) x (.ins C ao [])) (λv aB=>v=.a3/\Q (.ref x) aB) E):
  dN X (call (.ref C) us) (gC X ac aa Q) X.cR s:=by
 have aD:=h (s.hz+1) s.hz (J.bA.fresh (mf _)) (J.bA.fresh (bf _)) (fw (pz _));have ci:=Inv.made (C:=C) J;have dL:b4 (V.ref (s.hz+1)::(vs++dvs)) (Value.ref (s.hz+1)::(us++ds)):=.cons rfl (r.append hd);have au:(Value.ref (s.hz+1)::us++ds).length=aG.length:=by
  have e:=dL.length;rw[F.len _ _ _ _ aD] at e;exact e.symm
 refine rQ (QK (f:=f) J.ep M.makes M.init (qB.mp M.fn) (vu (F.run _ X.stack _ _ ⟨Value.ref (s.hz+1)::us,[]⟩ (Value.ref (s.hz+1)::(us++ds)) _ _ E (al.make C us []) (ci.Eo.make C us []) (af _ (Value.ref (s.hz+1)::us) ci.ep au) dL aD) λr s' iq=>?_));cases r with
 |error e=>exact ak ac aa _ _ e s' ci iq
 |ok f4=>
  cases f4 with
  |ret u=>
   obtain⟨v,Z,eM,cI,fd,dA⟩:=ci.after iq;subst fd;exact⟨cI,⟨V.ref (s.hz+1),Z,eM,I,dA⟩⟩
  |next=>exact False.elim iq
  |brk=>exact False.elim iq
  |cont=>exact False.elim iq
def QX (M:vS X.K C f) (F:bK X.prog X.w X.K X.mg X.base CX k f as aG sp) (al:dj (k+1) X.A) (a1:eH X x) (aQ:X.mg x=some (.ref C)) (af:Binds X.K as aG ds) (hd:b4 dvs ds) (ak:ff CX X E) (aq:iX X (e::aj) t) (eN:autoParam (e4 x) Cl) (he:autoParam (gi X e aj) dl) (hpl:autoParam (iW X pos aj) dl):bU X (.Call (.Name x p) (e::aj) [] pos) (AS C sp dvs E t):=by
 intro ac s aa H Q J h;refine qD (r1 J a1 aQ ?_ eN);refine xG (h₀:=X.base) J.ok.mod.tx M.cZ (bW (aq pos ac s aa H _ J h) λus az ⟨vs,ai,a6,r,q⟩=>⟨a6.ep,?_⟩) he hpl;exact Kk M F al af hd ak a6 r q
def QY (M:vS X.K C f) (F:bK X.prog X.w X.K X.mg X.base CX k f as aG sp) (al:dj (k+1) X.A) (a1:eH X x) (aQ:X.mg x=some (.ref C)) (af:Binds X.K as aG ds) (hd:b4 dvs ds) (ak:ff CX X E) (eN:autoParam (e4 x) Cl):bU X (.Call (.Name x p) [] [] pos) (AS C sp dvs E lH):=by
 intro ac s aa H Q J h;refine qD (r1 J a1 aQ ?_ eN);exact DD J.ep M.cZ (Kk (us:=[]) M F al af hd ak J .nil h)
end
def Es (X:a8) (zf:rL) (t:fi):Prop:=
 ∀(pos:Pos) ac s aa H Q,Inv X ac aa H s->t aa H Q->dN X (evalAll ((backToKw pos (keywordEach zf X.env)).map (·.2))) (JL X ac aa Q) X.cR s
section
variable {X:a8}{CX:nL}{k:Nat}{f C:Addr}{as:FuncData}{aG hx:dH}{sp:e6}{E:cJ}{x m:Str}{p pos apos kpos:Pos}{e o:Expr}{aj:gY}{zf:rL}{bw bu:TE}{t cS:fi}{nm:Option Str}
def QZ:Es X [] lH:=λ_ _ _ _ H Q J h=>wpAny_evalAll_nil ⟨[],H,J,.nil,h⟩
def Q0 (aq:bU X e bw) (al:Es X zf t):Es X (⟨nm,e,kpos⟩::zf) (m2 bw t):=by
 intro pos ac s aa H Q J h;show wpAny _ _ (evalAll ((do let v <-eval e X.env;standAt pos;pure v)::(backToKw pos (keywordEach zf X.env)).map (·.2))) _ _ s;refine wpAny_evalAll_cons (a4 (bW (aq ac s aa H _ J h) λu az ⟨x,ai,a6,bR,aZ⟩=>a4 (rP (b3 ?_))));exact bW (al pos ac az aa ai _ a6 aZ) λus aN ⟨xs,aB,ci,dL,bn⟩=>⟨x::xs,aB,ci,.cons bR dL,bn⟩
variable {g:e3->e3->e3}{abI:br->br->br}
end
structure cE (N P:dH) (hv:Scope):Prop where
 kind:hv.kind=.function
 Q1:hv.isCoroutine=false
 gen:hv.isGenerator=false
 bp:N.Nodup
 pre:N.take P.length=P
 Kl:∀x∈P,hv.names.lookup x=some .local\/hv.names.lookup x=some .cell
 Q2:∀y∈hv.names,y.2≠.free
theorem Km {kindOf x}:∀{binds m},(∀v,(x,v)∉binds)->bindL kindOf binds m x=m x
 |[],_,_=>rfl
 |(n,v)::r,m,h=>by
  unfold bindL;rw[Km λw ay=>h w (j4 _ ay)];split
  ·have:x≠n:=by rintro rfl;exact h v jG
   simp[this]
  ·rfl
theorem Kn {kindOf x}:∀{binds m},(∀v,(x,v)∉binds)->bindC kindOf binds m x=m x
 |[],_,_=>rfl
 |(n,v)::r,m,h=>by
  unfold bindC;rw[Kn λw ay=>h w (j4 _ ay)];split
  ·rfl
  ·have:x≠n:=by rintro rfl;exact h v jG
   simp[this]
theorem Ko {kindOf x v}:∀{P:dH}{vs:e3}{i:Nat}{m:Str->cn},P.Nodup->P[i]?=some x->vs[i]?=some v->kindOf x=some .local->bindL kindOf (P.zip vs) m x=some v
 |[],_,_,_,_,h,_,_=>by simp at h
 |_::_,[],_,_,_,_,h,_=>by simp at h
 |p::P,w::vs,0,m,bp,ag,ae,aU=>by
  simp at ag ae;subst ag;subst ae;show bindL kindOf ((p,w)::P.zip vs) m p=_;unfold bindL;rw[Km λv aK=>(xH.mp bp).1 (DE aK).1,b8 aU];simp
 |p::P,w::vs,i+1,m,bp,ag,ae,aU=>by
  show bindL kindOf ((p,w)::P.zip vs) m x=_;unfold bindL;exact Ko (i:=i) (xH.mp bp).2 (by simpa using ag) (by simpa using ae) aU
theorem Kp {kindOf x v}:∀{P:dH}{vs:e3}{i:Nat}{m:Str->cn},P.Nodup->P[i]?=some x->vs[i]?=some v->kindOf x≠some .local->bindC kindOf (P.zip vs) m x=some v
 |[],_,_,_,_,h,_,_=>by simp at h
 |_::_,[],_,_,_,_,h,_=>by simp at h
 |p::P,w::vs,0,m,bp,ag,ae,aU=>by
  simp at ag ae;subst ag;subst ae;show bindC kindOf ((p,w)::P.zip vs) m p=_;unfold bindC;rw[Kn λv aK=>(xH.mp bp).1 (DE aK).1,bP aU];simp
 |p::P,w::vs,i+1,m,bp,ag,ae,aU=>by
  show bindC kindOf ((p,w)::P.zip vs) m x=_;unfold bindC;exact Kp (i:=i) (xH.mp bp).2 (by simpa using ag) (by simpa using ae) aU
def start (N:dH) (vs:br):St:=vs.map some++List.replicate (N.length - vs.length) none
def fj (CX:nL) (P:Program) (w:World) (K:aJ) (mg:Str->cn) (base:Heap) (N:dH) (ce:Str) (scope:Scope) (f:Addr) (dY:Value) (A:Around) (outer:oy) (s:Shared) (H:ap) (E:cJ):a8 where
 prog:=P
 w:=w
 K:=K
 mg:=mg
 base:=base
 A:=A.deeper (envOfC ce scope s.hz f dY)
 N:=N
 fZ:=s
 H₀:=H
 env:=envOfC ce scope s.hz f dY
 outer:=outer
 stack:=envOfC ce scope s.hz f dY::outer
 ex:=[]
 calm:=true
 fn:=λ_=>true
 ia:=[]
 cR:=λe s'=>wpAny (model P w) (A.deeper (envOfC ce scope s.hz f dY)) (leaving (envOfC ce scope s.hz f dY) e) (λ_ lV=>CX outer H s E e lV) (λdb lV=>CX outer H s E db lV) s'
def Kq {hv:Scope}{n:Nat}{x:Str}(h:hv.names.lookup x=some .cell):∃c,(cellsFrom n hv.names []).lookup x=some c:=by
 have q:=PySem.W.cellsFrom_some hv.names n [] (.inl h);exact Option.isSome_iff_exists.mp q
def Q3 {CX:nL}{P:Program}{w:World}{K:aJ}{mg:Str->cn}{base:Heap}{N aG:dH}{ce:Str}{scope:Scope}{f:Addr}{dY:Value}{A:Around}{outer:oy}{s az:Shared}{H:ap}{E:cJ}{us:e3}{vs:br}(S:cE N aG scope) (hd:A.handled=none) (dD:tI P w K mg base A outer s H) (au:vs.length=aG.length) (r:b4 vs us) (x:InCallC s s.hz (bindL (envOfC ce scope s.hz f dY).kindOf (aG.zip us) λ_=>none) (cellsFrom (s.hz+1) scope.names []) (bindC (envOfC ce scope s.hz f dY).kindOf (aG.zip us) λ_=>none) az):
  Inv (fj CX P w K mg base N ce scope f dY A outer s H E) [] (start N vs) H az:=by
 have hpl:aG.length<=N.length:=by have:=fM List.length S.pre;rw[rR] at this;omega
 obtain⟨ag,cS,rfl,aU⟩:=x.done;have zg:∀b:Addr,b∉(fj CX P w K mg base N ce scope f dY A outer s H E).ex:=λb z=>absurd (show b∈([]:gd) from z) bZ;refine⟨⟨dD.mod,S.kind,I,I,bf _,λy z c ag ae=>?_,λy aT=>?_,λy c _ h=>?_,λ_=>hd,Around.frames_deeper dD.frames,.inr ⟨I,I⟩,λb z=>absurd z (zg b),dD.bs,dD.ly,λb _ _=>zg b,λb z=>absurd z (zg b),dD.kU,dD.pG⟩,rfl,dD.bare,ha.kept aU,⟨_,x.toInCall.ns,λi y v ag ae aW=>?_⟩,λy c h=>⟨_,x.cell y c h⟩,dD.bA.fresh (bf _),λy c h=>?_,λp ar=>absurd (show p∈([]:eU) from ar) bZ,dD.bA.kept aU,?_⟩
 ·exact name_of_addr x.apart (pA ag) (pA ae)
 ·have aT:scope.names.lookup y=some .cell\/scope.names.lookup y=some .free:=aT;rcases aT with aT|aT
  ·exact Kq aT
  ·exact absurd rfl (S.Q2 _ (pA aT))
 ·exact xB (x.above y c (pA h))
 ·have aR:i < vs.length:=by
   unfold start at ae;by_cases aR:i < vs.length
   ·exact aR
   ·rw[xI (by simpa using aR)] at ae;rw[Aq] at ae;split at ae<;>cases ae
  have aq:vs[i]?=some v:=by
   unfold start at ae;rw[List.getElem?_append_left (by simpa using aR),rS] at ae;cases e:vs[i]? with
   |none=>rw[e] at ae;cases ae
   |some a=>rw[e] at ae;cases ae;rfl
  obtain⟨u,bY,cI⟩:=r.get aq;have ar:aG[i]?=some y:=by
   rw[<-S.pre,List.getElem?_take_of_lt co];exact ag
  have Oc:aG.Nodup:=by rw[<-S.pre];exact S.bp.sublist (List.take_sublist _ _)
  refine⟨u,cI,?_⟩;rcases S.Kl y (qE ar) with k|k
  ·exact .inl ⟨k,Ko Oc ar bY k⟩
  ·obtain⟨c,e⟩:=Kq (n:=s.hz+1) k;refine .inr ⟨.inl k,c,e,?_⟩;have q:=x.cell y c e;rw[Kp Oc ar bY (by show scope.names.lookup y≠_;rw[k];decide)] at q;exact q
 ·exact dD.bA.fresh (xB (x.above y c (pA h)))
 ·unfold start;show _=N.length;rw[cy,eV,oB];omega
def Et {CX P w K mg base k f name ce params body scope kJ eo fW pm bk b0 gn an dg}{gI:Array (cn)}{N aG:dH}{sp:e6}(lk:K.lookup f=some ⟨gn,dg,.func (PySem.W.fnOf name ce params body scope kJ eo fW pm an bk b0),gI⟩) (gT:PySem.W.codeIn K bk ce=true) (S:cE N aG scope) (len:∀vs H Q E,sp vs H Q E->vs.length=aG.length) (pa:∀A outer s H vs Q E,dj k (A.deeper (envOfC ce scope s.hz f bk))->sp vs H Q E->∃t,ka (fj CX P w K mg base N ce scope f bk A outer s H E) body t/\t { c4:=λ_ Z=>Q .a3 Z,lz:=Q } (start N vs) H):
  bK P w K mg base CX (k+1) f (PySem.W.fnOf name ce params body scope kJ eo fW pm an bk b0) aG sp:=by
 refine⟨len,λA outer s H args us vs Q E al dD af r lg=>?_⟩;have au:=len _ _ _ _ lg;have sJ:K.In s.heap:=dD.mod.tx.keeps λb o e=>(dD.bs b o e).1;have WZ:s.heap.NoLimit:=dD.mod.nolimit.keeps λb o e=>(dD.bs b o e).1;have GE:∀y∈aG.zip us,scope.names.lookup y.1=some .local\/(scope.names.lookup y.1=some .cell/\((cellsFrom (s.hz+1) scope.names []).lookup y.1).isSome=true):=λ⟨n,v⟩ aT=>by
  rcases S.Kl n (DE aT).1 with q|q
  ·exact .inl q
  ·exact .inr ⟨q,PySem.W.cellsFrom_some _ _ _ (.inl q)⟩
 refine codeAny_call_function al.depth (sJ _ _ lk) rfl S.Q1 S.gen rfl (PySem.W.codeRec_of sJ gT) (af _ _ _ _ ?_);refine wpAny_newFunctionEnv_cells S.kind GE λenv he az x=>?_;subst he;refine⟨WZ.keeps x.toInCall.keep,codeAny_func ?_⟩;obtain⟨t,bO,aD⟩:=pa A outer s H vs Q E (al.deeper _) lg;have J:Inv (fj CX P w K mg base N ce scope f bk A outer s H E) [] (start N vs) H az:=Q3 S al.hd dD au r x;refine fL (bO [] az (start N vs) H _ J aD) (λf4 s' ax=>?_) λe s' ax=>ax;have fin:∀{σ' Z v u},Inv (fj CX P w K mg base N ce scope f bk A outer s H E) [] σ' Z s'->RelV v u->Q v Z->En outer P w H s Q u s':=
  λ{σ' Z v u} cc cI q=>⟨v,Z,cc.os,cc.bare,cc.base,cc.bA,cI,q⟩
 cases f4 with
 |ret u=>
  obtain⟨v,σ',Z,cc,cI,q⟩:=ax;exact fin cc cI q
 |next=>
  obtain⟨σ',Z,cc,q⟩:=ax;exact fin (v:=V.a3) (u:=Value.none) cc rfl q
 |brk=>
  obtain⟨_,_,_,q⟩:=ax;exact False.elim q
 |cont=>
  obtain⟨_,_,_,q⟩:=ax;exact False.elim q
end L2
namespace L2
open PySem PySem.Spec PyProof.Rows
section
variable {X:a8}{x:Str}{p pos:Pos}{e:Expr}{aj:gY}{t:fi}{id T:String}{r:br->ap->bz->Prop}
def AU (r:br->ap->bz->Prop) (t:fi):TE:=λaa H Q=>t aa H λvs ai=>r vs ai Q
def e7 (aw:kc X (.builtin id) r) (a1:eH X x) (aQ:X.mg x=none) (aK:bootBuiltins x=some (.builtin id)) (aq:iX X (e::aj) t) (aP:autoParam (x≠"__name__") Cl) (eN:autoParam (e4 x) Cl) (he:autoParam (gi X e aj) dl) (hpl:autoParam (iW X pos aj) dl):bU X (.Call (.Name x p) (e::aj) [] pos) (AU r t):=by
 intro ac s aa H Q J h;refine qD (tB J a1 aQ aK ?_ aP eN);exact PyProof.Rows.callWith_builtin1 (bW (aq pos ac s aa H _ J h) λus az ⟨vs,ai,a6,bR,aZ⟩=>aw ac az aa ai vs us Q a6 bR aZ) he hpl
def ke (aw:kc X (.type T) r) (a1:eH X x) (aQ:X.mg x=none) (aK:bootBuiltins x=some (.type T)) (aq:iX X (e::aj) t) (aP:autoParam (x≠"__name__") Cl) (eN:autoParam (e4 x) Cl) (he:autoParam (gi X e aj) dl) (hpl:autoParam (iW X pos aj) dl):bU X (.Call (.Name x p) (e::aj) [] pos) (AU r t):=by
 intro ac s aa H Q J h;refine qD (tB J a1 aQ aK ?_ aP eN);exact Al (bW (aq pos ac s aa H _ J h) λus az ⟨vs,ai,a6,bR,aZ⟩=>aw ac az aa ai vs us Q a6 bR aZ) he hpl
end
end L2
namespace i0
open PySem PyProof.Rows
section
open PySem.SeqAt
open PySem.AutoSeq1 (wpAny_loadPart')
open PySem.MeetsSeq PySem.MeetsSeq2 PySem.MeetsSeq3
end
section
variable {prog:Program}{w:World}{A:Around}{E:Value->Shared->Prop}{s:Shared}
def Q4 (bO:IsTup s.heap t vs.toArray) (af:IsTup s.heap b ab.toArray) (aK:vs≠[]) (ag:ab=[]->Q (.ref t) s) (ae:ab≠[]->Q (.ref s.hz) { s with heap:=s.heap.push { cls:=.type "tuple",data:=.seq (vs++ab).toArray } }) (o':vs.length+ab.length<=sizeLine):wpAny (model prog w) A (binaryOp .Add (.ref t) (.ref b)) Q E s:=by
 obtain⟨⟨cls,eg,data,sl⟩,a',aw,n,hd⟩:=id bO;obtain⟨⟨abJ,CG,data2,CH⟩,rl,n8,cH,qa⟩:=id af;simp only at aw hd n8 qa;subst aw hd n8 qa;have e:vs.toArray++ab.toArray=(vs++ab).toArray:=by simp
 by_cases ay:ab=[]
 ·exact concat_meets ⟨_,a',I⟩ ⟨_,rl,I⟩ noFill_tuple_add seq_tuple_add DF DG (DH _ _)
   (tuple_addW1 t b vs.toArray ab.toArray n cH eg CG sl CH (by simpa using aK) (by simp[ay])) ⟨a',rl,ag ay⟩
 ·refine concat_meets ⟨_,a',I⟩ ⟨_,rl,I⟩ noFill_tuple_add seq_tuple_add DF DG (DH _ _)
   (tuple_addW2 t b vs.toArray ab.toArray n cH eg CG sl CH (by simpa using aK) (by simpa using ay) (by rw[gu,gu];exact o')) ⟨a',rl,?_⟩
  rw[e];exact ae ay
def d1 (n d:Nat):iU->Nat
 |none=>d
 |some v=>if v < 0 then(v+(n:Int)).toNat else min v.toNat n
def Q5 (n d):d1 n d none=d:=rfl
def Q6 (n d k:Nat):d1 n d (some (k:Int))=min k n:=by
 show(if(k:Int) < 0 then((k:Int)+(n:Int)).toNat else min (k:Int).toNat n)=min k n;rw[bP co,Ar]
def Q7 (n d) (hd:d<=n) (o):d1 n d o<=n:=by
 cases o with
 |none=>exact hd
 |some v=>
  show(if v < 0 then(v+(n:Int)).toNat else min v.toNat n)<=n;by_cases aK:v < 0
  ·rw[b8 aK];omega
  ·rw[bP aK];exact Nat.min_le_right _ _
def Kr (v:Int) (n d:Nat):(if v < 0 then max (v+(n:Int)) 0 else min v (n:Int))=((d1 n d (some v):Nat):Int):=by
 show(if v < 0 then max (v+(n:Int)) 0 else min v (n:Int))=(((if v < 0 then(v+(n:Int)).toNat else min v.toNat n):Nat):Int);by_cases aK:v < 0
 ·simp only[if_pos aK];omega
 ·simp only[if_neg aK];omega
def Q8 (lo aR) (n:Nat):Builtin.Slice.sliceAdjust lo aR 1 (n:Int)=(((d1 n 0 lo:Nat):Int),((d1 n n aR:Nat):Int)):=by
 have ag:¬((1:Int) < 0):=by omega
 unfold Builtin.Slice.sliceAdjust;simp only[ag,if_false];refine Prod.ext ?_ ?_
 ·cases lo with
  |none=>rfl
  |some v=>exact Kr v n 0
 ·cases aR with
  |none=>rfl
  |some v=>exact Kr v n n
def Q9 (i j:Nat):Builtin.Slice.slicePlaces (i:Int) (j:Int) 1=j - i:=by
 unfold Builtin.Slice.slicePlaces;have ag:(1:Int) > 0:=by omega
 simp only[ag,if_true,Int.ediv_one];split<;>omega
def Ks (p:IsPart v o) (h:Q o s):wpAny (model prog w) A (Builtin.Slice.slicePartIndex v) Q E s:=by
 cases p with
 |none=>exact slicePart_none h
 |int i t=>exact slicePart_int h
def Kt {sl dP ja lo aR}{n:Nat} {Q}(ax:s.heap.IsSliceOf sl dP ja .none) (pl:IsPart dP lo) (lW:IsPart ja aR) (h:Q (((d1 n 0 lo:Nat):Int),1,d1 n n aR - d1 n 0 lo) s):wpAny (model prog w) A (Builtin.Slice.sliceApplied (.ref sl) (pure (n:Int))) Q E s:=by
 obtain⟨os,uH,mG,sK⟩:=id ax;unfold Builtin.Slice.sliceApplied Builtin.Slice.sliceFields;refine a4 (a4 (nA uH sK (x:=dP) I (a4 (nA uH sK (x:=ja) I (a4 (nA uH sK (x:=.none) I (b3 ?_)))))));refine a4 (slicePart_none ?_);show wpAny _ _ (if((1:Int) == 0)=true then _ else _) _ _ s;rw[bP dU];refine a4 (Ks pl (a4 (Ks lW (a4 (b3 ?_)))));show wpAny _ _ (match Builtin.Slice.sliceAdjust lo aR 1 (n:Int) with|(lo,aR)=>pure (lo,(1:Int),Builtin.Slice.slicePlaces lo aR 1)) _ _ s;rw[Q8 lo aR n];show wpAny _ _ (pure (((d1 n 0 lo:Nat):Int),(1:Int),Builtin.Slice.slicePlaces ((d1 n 0 lo:Nat):Int) ((d1 n n aR:Nat):Int) 1)) _ _ s;rw[Q9];exact b3 h
def Q' (xs:Array Value) (i k:Nat):((List.range k).filterMap λ(m:Nat)=>xs[((i:Int)+(m:Int)*1).toNat]?).toArray=((xs.toList.drop i).take k).toArray:=by
 have e:(λ(m:Nat)=>xs[((i:Int)+(m:Int)*1).toNat]?)=λm=>xs[i+m]?:=by
  funext m;have:((i:Int)+(m:Int)*1).toNat=i+m:=by omega
  rw[this]
 rw[e];have:=pick_run xs i k;rw[List.filterMap_map] at this;have aE:((λx=>xs[x]?)∘λx=>i+x)=λm=>xs[i+m]?:=rfl;rw[aE] at this;rw[this]
def Ra {t sl:Addr}{items:Array Value}{dP ja:Value}{lo aR:iU}{Q:Value->Shared->Prop}(bO:IsTup s.heap t items) (ax:s.heap.IsSliceOf sl dP ja .none) (pl:IsPart dP lo) (lW:IsPart ja aR) (ay:¬(d1 items.size 0 lo=0/\d1 items.size items.size aR=items.size)) (h:Q (.ref s.hz) { s with heap:=s.heap.push { cls:=.type "tuple",data:=.seq ((items.toList.drop (d1 items.size 0 lo)).take (d1 items.size items.size aR - d1 items.size 0 lo)).toArray } }) (o':items.size<=sizeLine):wpAny (model prog w) A (getItem (.ref t) (.ref sl)) Q E s:=by
 have CI:sizeOk (.seq ((items.toList.drop (d1 items.size 0 lo)).take (d1 items.size items.size aR - d1 items.size 0 lo)).toArray):=by
  show((items.toList.drop (d1 items.size 0 lo)).take (d1 items.size items.size aR - d1 items.size 0 lo)).toArray.size<=sizeLine;rw[gu,rR,j6,Array.length_toList];omega
 have c':d1 items.size items.size aR<=items.size:=Q7 _ _ (bf _) aR;obtain⟨os,uH,mG,sK⟩:=id ax;have GM:s.TypeIs (.ref sl) "slice":=⟨os,uH,mG⟩;unfold getItem
 try with_reducible refine md ?_
 first|refine a4 (b3 ?_)|skip
 refine a4 (wpAny_sequenceKey bO.typeIs dU ?_);refine a4 (wpAny_callSpecial?_slot (name:=Str.ofString "__getitem__") bO.typeIs tk (wpAny_call_entry tk bO.typeIs entry_tuple_getitem ?_ (args_tuple_getitem _ _)));show wpAny _ _ (Builtin.Tuple.tupleItemsOf (.ref t) >>= _) _ _ s;refine a4 (tupleItemsOf_ bO ?_);refine a4 (wpAny_typeOf GM ?_);rw[b8 dU];refine a4 (Kt ax pl lW ?_);have W0:¬((((d1 items.size 0 lo:Nat):Int) == 0&&(1:Int) == 1&&(d1 items.size items.size aR - d1 items.size 0 lo) == items.size)=true):=by
  intro q;rw[jh,jh] at q;have aZ:((d1 items.size 0 lo:Nat):Int)=0:=eq_of_beq q.1.1;have bn:d1 items.size items.size aR - d1 items.size 0 lo=items.size:=eq_of_beq q.2;exact ay ⟨co,co⟩
 show wpAny _ _ (if(((d1 items.size 0 lo:Nat):Int) == 0&&(1:Int) == 1&&(d1 items.size items.size aR - d1 items.size 0 lo) == items.size)=true then _ else _) _ _ s;rw[bP W0,Q']
 first
  |exact a4 (m:=Builtin.Tuple.tupleExact _) (rT (b3 ⟨_,I,b3 h⟩) CI)
  |exact a4 (m:=Builtin.Tuple.tupleExact _) (rT (a4 (b3 (b3 ⟨_,I,b3 h⟩))) CI)
  |exact a4 (a4 (m:=Builtin.Tuple.tupleExact _) (rT (b3 (b3 ⟨_,I,b3 h⟩)) CI))
  |exact a4 (a4 (m:=Builtin.Tuple.tupleExact _) (rT (b3 ⟨_,I,b3 h⟩) CI))
end
end i0
namespace L2
open PySem PySem.Spec PyProof.Rows
abbrev tJ:=St->ap->(iU->ap->Prop)->Prop
def tK (X:a8) (e:Option Expr) (t:tJ):Prop:=
 ∀ac s aa H Q,Inv X ac aa H s->t aa H Q->
  dN X (evalPart e X.env) (λu s'=>∃o Z,Inv X ac aa Z s'/\IsPart u o/\Q o Z) X.cR s
def Ku:tJ:=λ_ H Q=>Q none H
def Kv (t:TE):tJ:=λaa H Q=>t aa H λx ai=>∃i,x=.int i/\Q (some i) ai
section
variable {X:a8}{e:Expr}{bw:TE}{lo aR:Option Expr}{hk uI:tJ}{pos bM:Pos}
def vT:tK X none Ku:=by
 intro ac s aa H Q J h;rw[evalPart_none];exact b3 ⟨none,H,J,.none,h⟩
def m3 (h:bU X e bw):tK X (some e) (Kv bw):=by
 intro ac s aa H Q J ay;rw[evalPart_some];refine bW (h ac s aa H _ J ay) λu az aD=>?_;obtain⟨x,ai,a6,bR,aZ⟩:=aD;obtain⟨i,rfl,q⟩:=aZ;obtain⟨t,rfl⟩:=bR;exact⟨some i,ai,a6,.int i t,q⟩
def x6 (X:a8) (r:V->iU->iU->ap->bz->Prop):Prop:=
 ∀ac s aa H x v dP ja lo aR sl Q,Inv X ac aa H s->RelV x v->s.heap.IsSliceOf sl dP ja .none->IsPart dP lo->IsPart ja aR->r x lo aR H Q->
  ∃T id,typeLookup (.type T) "__getitem__"=pure (some (.builtin id))/\s.TypeIs v T/\dN X (getItem v (.ref sl)) (gC X ac aa Q) X.cR s
def Kw (r:V->iU->iU->ap->bz->Prop) (bw:TE) (hk uI:tJ):TE:=λaa H Q=>bw aa H λx ai=>hk aa ai λl aB=>uI aa aB λu a7=>r x l u a7 Q
def qQ (al:x6 X r) (he:bU X e bw) (au:tK X lo hk) (bY:tK X aR uI):bU X (.Subscript e (.Slice lo aR none bM) pos) (Kw r bw hk uI):=by
 intro ac s aa H Q J h;refine Subscript_ (bW (he ac s aa H _ J h) λv az aD=>?_);obtain⟨x,ai,a6,bR,aZ⟩:=aD;refine wpAny_Slice (bW (au ac az aa ai _ a6 aZ) λdP aN ⟨l,aB,ci,pl,bn⟩=>bW (bY ac aN aa aB _ ci bn) λja a2 aD=>?_);obtain⟨u,a7,eM,lW,dA⟩:=aD;rw[evalPart_none];refine b3 ?_;have lw:Inv X ac aa a7 { a2 with heap:=a2.heap.push { cls:=.type "slice",data:=.fields #[dP,ja,.none] } }:=eM.kept (t':=a2.toks) λb c7 q=>ej _ q;obtain⟨T,id,de,bO,a1⟩:=al ac { a2 with heap:=a2.heap.push { cls:=.type "slice",data:=.fields #[dP,ja,.none] } } aa a7 x v dP ja l u a2.hz Q lw bR (Heap.IsSliceOf.new ..) pl lW dA;show dN X (subscriptTail e (.Slice lo aR none bM) v (.ref a2.hz)) (gC X ac aa Q) X.cR { a2 with heap:=a2.heap.push { cls:=.type "slice",data:=.fields #[dP,ja,.none] } };exact tail_any (ops:=[.ref a2.hz,v]) bO de a1 (by with_unfolding_all rfl)
def x7 (xs:br) (lo aR:iU):br:=(xs.drop (i0.d1 xs.length 0 lo)).take (i0.d1 xs.length xs.length aR - i0.d1 xs.length 0 lo)
def Rb (xs lo aR):(x7 xs lo aR).length<=xs.length:=by
 unfold x7;rw[rR,j6];omega
inductive Kx (K:aJ) (x:V) (lo:iU) (aR:iU) (H:ap) (Q:bz):Prop
 |mk a xs:x=.ref a->dI K H a xs->¬(i0.d1 xs.length 0 lo=0/\i0.d1 xs.length xs.length aR=xs.length)->(∀p,H p=none->Q (.ref p) (upd H p (.tup (x7 xs lo aR))))->Kx K x lo aR H Q
def Rc:x6 X (Kx X.K):=by
 intro ac s aa H x v dP ja lo aR sl Q J a0 ax pl lW h;obtain⟨a,xs,rfl,ak,ay,q⟩:=h;cases a0;obtain⟨aL,r,bO,hz⟩:=J.tuple ak;have dT:aL.toArray.size=xs.length:=by rw[gu];exact r.length.symm
 refine⟨"tuple",_,tk.lookup,bO.typeIs,?_⟩;refine i0.Ra bO ax pl lW (by rw[dT];exact ay) ?_ (by rw[dT];exact hz);rw[dT];refine⟨.ref s.hz,_,J.laid (t':=s.toks) (o:=.tup (x7 xs lo aR)) (λb c7 q=>ej _ q) (bf _) ?_,I,q _ (J.bA.fresh (bf _))⟩;exact⟨dW (Rb xs lo aR) hz,_,(r.drop (i0.d1 xs.length 0 lo)).take (i0.d1 xs.length xs.length aR - i0.d1 xs.length 0 lo),IsTup.new _ _⟩
end
end L2
namespace L2
open PySem PySem.Spec PyProof.Rows
def m4 (n:Nat) (i:Int):Option Nat:=if 0<=i then(if i < n then some i.toNat else none) else if -(n:Int)<=i then some (i+n).toNat else none
def k1 {cC:Type}(xs:List cC) (i:Int):Option cC:=(m4 xs.length i).bind λj=>xs[j]?
def Ky (h:m4 n i=some j):seqIndex? i n=some j/\j < n/\-(n:Int)<=i/\i < n:=by
 unfold m4 at h;by_cases cd:0<=i
 ·rw[b8 cd] at h;by_cases ag:i < n
  ·rw[b8 ag] at h;have e:i.toNat=j:=hB h;exact⟨by rw[seqIndex_of cd ag,e],co,co,ag⟩
  ·rw[bP ag] at h;cases h
 ·rw[bP cd] at h;by_cases ag:-(n:Int)<=i
  ·rw[b8 ag] at h;have e:(i+n).toNat=j:=hB h;exact⟨by rw[seqIndex_neg co ag,e],co,ag,co⟩
  ·rw[bP ag] at h;cases h
def Eu (h:k1 xs i=some v):∃j,seqIndex? i xs.length=some j/\xs[j]?=some v/\j < xs.length/\-(xs.length:Int)<=i/\i < xs.length:=by
 unfold k1 at h;cases e:m4 xs.length i with
 |none=>rw[e] at h;cases h
 |some j=>
  rw[e] at h;obtain⟨ag,ae,aW,bm⟩:=Ky e;exact⟨j,ag,h,ae,aW,bm⟩
def iD {cC:Type}{xs:List cC}{j:Nat}{v:cC}(h:xs[j]?=some v):k1 xs (j:Int)=some v:=by
 have c':j < xs.length:=(kP.mp h).1;have e:m4 xs.length (j:Int)=some j:=by
  unfold m4;rw[b8 co,b8 co];simp
 unfold k1;rw[e];exact h
def Rd (xs) (v:cC):k1 (xs++[v]) (-1)=some v:=by
 have au:(xs++[v]).length=xs.length+1:=by simp
 have e:m4 (xs++[v]).length (-1)=some xs.length:=by
  unfold m4;rw[au,bP dU,b8 co];congr 1;omega
 unfold k1;rw[e];show(xs++[v])[xs.length]?=some v;simp
def Ew (b:Expr):Prop:=∀o i,subscripted b false o i=operate [o,i] (getItem o i)
def vU (X:a8) (r:g5):Prop:=
 ∀value slice ac s aa H x y v u Q,Inv X ac aa H s->RelV x v->RelV y u->r x y H Q->
  subscripted slice false v u=operate [v,u] (getItem v u)->dN X (subscriptTail value slice v u) (gC X ac aa Q) X.cR s
def qR (X:a8) (id:String) (r:V->br->ap->bz->Prop):Prop:=
 ∀ac s aa H x xs v us Q,Inv X ac aa H s->RelV x v->b4 xs us->r x xs H Q->
  dN X (call (.builtin id) (v::us)) (gC X ac aa Q) X.cR s
section
variable {X:a8}{a b:Expr}{bu bH:TE}{pos:Pos}
def gj (al:vU X r) (aq:bU X a bu) (af:bU X b bH) (ax:Ew b):bU X (.Subscript a b pos) (lG r bu bH):=by
 intro ac s aa H Q J h;exact Subscript_ (Ee aq af J h λv u aN x y aB ci a0 bj q=>al a b ac aN aa aB x y v u Q ci a0 bj q (ax _ _))
inductive Ex (K:aJ) (x:V) (y:V) (H:ap) (Q:bz):Prop
 |mk p xs i v:x=.ref p->y=.int i->bg K H p xs->k1 xs i=some v->Q v H->Ex K x y H Q
inductive tL (K:aJ) (x:V) (y:V) (H:ap) (Q:bz):Prop
 |mk p xs i v:x=.ref p->y=.int i->dI K H p xs->k1 xs i=some v->Q v H->tL K x y H Q
inductive Kz (x:V) (y:V) (H:ap) (Q:bz):Prop
 |mk z i c:x=.str z->y=.int i->z.length<=sizeLine->k1 z.cps.toList i=some c->Q (.str ⟨#[c]⟩) H->Kz  x y H Q
def tM:vU X (Ex X.K):=by
 intro value slice ac s aa H x y v u Q J a0 bj h ax;obtain⟨p,xs,i,z,rfl,rfl,aD,he,q⟩:=h;cases a0;obtain⟨t,rfl⟩:=bj;obtain⟨aL,r,pl,hz⟩:=J.list aD;obtain⟨j,ag,ae,aW,bm,b7⟩:=Eu he;obtain⟨w,fH,jU⟩:=r.get ae;have au:=r.length;have aP:=vR;have fin:gC X ac aa Q w s:=⟨z,H,J,jU,q⟩;by_cases cd:0<=i
 ·have c':i.toNat=j:=by
   rw[seqIndex_of cd b7] at ag;exact hB ag
  exact item_listR pl.isList cd co (by rw[c'];simpa using fH) fin ax
 ·have c':(i+(aL.toArray.size:Int)).toNat=j:=by
   rw[seqIndex_neg co bm] at ag;rw[gu,<-au];exact hB ag
  exact subscriptTail_builtinR (x:=w) pl.isList.typeIs slot_list_getitem.lookup
   (wpAny_getItem_list_neg (Q:=λr s'=>r=w/\gC X ac aa Q r s') pl.isList co (by rw[gu]<;>omega) co (by rw[c'];simpa using fH) ⟨I,fin⟩) ax
def vV:vU X (tL X.K):=by
 intro value slice ac s aa H x y v u Q J a0 bj h ax;obtain⟨p,xs,i,z,rfl,rfl,aD,he,q⟩:=h;cases a0;obtain⟨t,rfl⟩:=bj;obtain⟨aL,r,pl,hz⟩:=J.tuple aD;obtain⟨j,ag,ae,aW,bm,b7⟩:=Eu he;obtain⟨w,fH,jU⟩:=r.get ae;have au:=r.length;have aP:=vR;have fin:gC X ac aa Q w s:=⟨z,H,J,jU,q⟩;exact subscriptTail_builtinR (x:=w) pl.typeIs tk.lookup
  (getItem_tuple (j:=j) (Q:=λr s'=>r=w/\gC X ac aa Q r s') pl co co (by rw[gu,<-au];exact ag) (by simpa using fH) ⟨I,fin⟩) ax
def nM:vU X Kz:=by
 intro value slice ac s aa H x y v u Q J a0 bj h ax;obtain⟨z,i,c,rfl,rfl,hz,he,q⟩:=h;obtain⟨t,rfl⟩:=a0;obtain⟨t',rfl⟩:=bj;obtain⟨j,ag,ae,aW,bm,b7⟩:=Eu he;have au:z.cps.toList.length=z.length:=by simp[Str.length]
 rw[au] at ag bm b7;have aP:=vR;exact tail_any (tl s z t) slot_str_getitem.lookup (getItem_str (c:=c) (by
  have am:decide (i < -(2 ^ 63:Int))=false:=ew co;have aE:decide (i≥2 ^ 63)=false:=ew co;rw[am,aE,Bool.or_false]) (by rw[ag];simpa using ae) ⟨.str ⟨#[c]⟩,H,J.tok _,⟨_,I⟩,q⟩) ax
def Rf (aL:e3) (n j:Nat) (u:Value):Obj.mapSeq (·.setIfInBounds j u) { cls:=.type "list",data:=.seq aL.toArray n }={ cls:=.type "list",data:=.seq (aL.set j u).toArray n }:=by
 simp[Obj.mapSeq]
def Inv.lst (J:Inv X ac aa H s) (h:H p=some (.lst xs)):∃aL n,b4 xs aL/\s.heap.get? p=some { cls:=.type "list",data:=.seq aL.toArray n }/\xs.length<=sizeLine:=by
 obtain⟨z,aL,n,r,e⟩:=J.bA p _ h;exact⟨aL,n,r,e,z⟩
def Inv.Rg {ac:eU}{aa:St}{H:ap}{s:Shared}{p:Addr}{xs ys:br}{aL its':e3}{n bv:Nat}{f:Obj->Obj}(J:Inv X ac aa H s) (h:H p=some (.lst xs)) (a':s.heap.get? p=some { cls:=.type "list",data:=.seq aL.toArray n }) (bl:f { cls:=.type "list",data:=.seq aL.toArray n }={ cls:=.type "list",data:=.seq its'.toArray bv }) (r:b4 ys its') (hz:ys.length<=sizeLine) (t:Nat):Inv X ac aa (upd H p (.lst ys)) { s with heap:=s.heap.update p f,toks:=t }:=by
 have e:(s.heap.update p f).get? p=some { cls:=.type "list",data:=.seq its'.toArray bv }:=by
  rw[rU f a' (by rw[bl]<;>rfl),bl]
 refine J.write (x:=p) (e:=p) (by rw[h];trivial) (.inl I) (λb u af q=>(mS _ _ (d0 af)).trans q) ⟨_,e⟩ ?_;exact⟨hz,its',bv,r,e⟩
inductive KA (o:V) (i:V) (v:V) (H:ap) (Q:(ap->Prop)):Prop
 |mk p xs k j:o=.ref p->i=.int k->H p=some (.lst xs)->m4 xs.length k=some j->Q (upd H p (.lst (xs.set j v)))->KA  o i v H Q
def set_list:JY X KA:=by
 intro ac s aa H o i v eC lb u Q J W1 W2 cI h;obtain⟨p,xs,k,j,rfl,rfl,ar,c',q⟩:=h;cases W1;obtain⟨t,rfl⟩:=W2;obtain⟨aL,n,r,a',hz⟩:=J.lst ar;obtain⟨ag,ae,aW,bm⟩:=Ky c';have au:=r.length;have aP:=vR;have sc:Inv X ac aa (upd H p (.lst (xs.set j v))) { s with heap:=s.heap.update p (Obj.mapSeq (·.setIfInBounds j u)) }:=
  J.Rg ar a' (Rf aL n j u) (r.set cI j) (by rw[List.length_set];exact hz) s.toks
 by_cases cd:0<=k
 ·have aU:k.toNat=j:=by
   rw[seqIndex_of cd bm] at ag;exact hB ag
  exact PySem.W.ki_setAt a' cd co (by rw[gu,<-au];exact bm) (by rw[aU];exact⟨_,sc,q⟩)
 ·have aU:(k+(aL.toArray.size:Int)).toNat=j:=by
   rw[seqIndex_neg co aW] at ag;rw[gu,<-au];exact hB ag
  exact PySem.W.ki_setBack a' co (by rw[gu,<-au];exact aW) co (by rw[aU];exact⟨_,sc,q⟩)
def qS:V->Bool
 |.a3=>true
 |.aM _=>true
 |.int _=>true
 |.str _=>true
 |_=>false
def r8:V->V->Bool
 |.a3,.a3=>true
 |.aM a,.aM b=>a == b
 |.aM a,.int b=>(if a then 1 else 0) == b
 |.int a,.aM b=>a == (if b then 1 else 0)
 |.int a,.int b=>a == b
 |.str a,.str b=>a == b
 |_,_=>false
def Rh (bj:RelV y u) (a0:RelV x v) (W3:qS y=true) (qb:qS x=true):SeqAt.EqAt A s u v (r8 y x):=by
 cases y with
 |a3=>
  cases bj;cases x with
  |a3=>cases a0;exact SeqAt.EqAt.same _
  |aM b=>cases a0;exact SeqAt.EqAt.none_bool b
  |int b=>obtain⟨t,rfl⟩:=a0;exact SeqAt.EqAt.none_int b t
  |str b=>obtain⟨t,rfl⟩:=a0;exact SeqAt.EqAt.none_str b t
  |_=>exact absurd (show false=true from qb) gf
 |aM a=>
  cases bj;cases x with
  |a3=>cases a0;exact SeqAt.EqAt.bool_none a
  |aM b=>cases a0;exact SeqAt.EqAt.bool_bool a b
  |int b=>obtain⟨t,rfl⟩:=a0;exact SeqAt.EqAt.bool_int a b t
  |str b=>obtain⟨t,rfl⟩:=a0;exact SeqAt.EqAt.bool_str a b t
  |_=>exact absurd (show false=true from qb) gf
 |int a=>
  obtain⟨t',rfl⟩:=bj;cases x with
  |a3=>cases a0;exact SeqAt.EqAt.int_none a t'
  |aM b=>cases a0;exact SeqAt.EqAt.int_bool a t' b
  |int b=>obtain⟨t,rfl⟩:=a0;exact SeqAt.EqAt.int_int a t' b t
  |str b=>obtain⟨t,rfl⟩:=a0;exact Dy a t' b t
  |_=>exact absurd (show false=true from qb) gf
 |str a=>
  obtain⟨t',rfl⟩:=bj;cases x with
  |a3=>cases a0;exact SeqAt.EqAt.str_none a t'
  |aM b=>cases a0;exact SeqAt.EqAt.str_bool a t' b
  |int b=>obtain⟨t,rfl⟩:=a0;exact Dz a t' b t
  |str b=>obtain⟨t,rfl⟩:=a0;exact SeqAt.EqAt.str_str a t' b t
  |_=>exact absurd (show false=true from qb) gf
 |_=>exact absurd (show false=true from W3) gf
def qT (x:V) (u:Value):Bool:=match u with
 |.none=>r8 .a3 x
 |.bool b=>r8 (.aM b) x
 |.int i _=>r8 (.int i) x
 |.str z _=>r8 (.str z) x
 |_=>false
def KC (r:RelV y u) (f:qS y=true):qT x u=r8 y x:=by
 cases y with
 |a3=>cases r;rfl
 |aM b=>cases r;rfl
 |int i=>obtain⟨t,rfl⟩:=r;rfl
 |str z=>obtain⟨t,rfl⟩:=r;rfl
 |_=>exact absurd (show false=true from f) gf
theorem Ey:∀{xs us},b4 xs us->xs.all qS=true->us.any (qT x)=xs.any λy=>r8 y x
 |_,_,.nil,_=>rfl
 |y::xs,u::us,.cons r t,f=>by
  rw[px,jh] at f;rw[As,As,KC r f.1,Ey t f.2]
theorem Ez (a0:RelV x v) (qb:qS x=true):∀{xs us},b4 xs us->xs.all qS=true->∀u∈us,SeqAt.EqAt A s u v (qT x u)
 |_,_,.nil,_=>λu bY=>by cases bY
 |y::xs,u::us,.cons r t,f=>λec bY=>by
  rw[px,jh] at f;rcases gZ.mp bY with rfl|bY
  ·rw[KC r f.1];exact Rh r a0 f.1 qb
  ·exact Ez a0 qb t f.2 ec bY
def e8 (x:V) (xs:br):Bool:=xs.any λy=>r8 y x
inductive KD (K:aJ) (neg:Bool) (x:V) (y:V) (H:ap) (Q:bz):Prop
 |mk p xs:y=.ref p->((bg K H p xs\/dI K H p xs))->qS x=true->xs.all qS=true->Q (.aM (if neg then !e8 x xs else e8 x xs)) H->KD K neg x y H Q
def ms:eX X (compareOp .In) (KD X.K false):=by
 intro ac s aa H x y v u Q J a0 bj h;obtain⟨p,xs,rfl,aD,qb,bi,q⟩:=h;cases bj;rcases aD with aD|aD
 ·obtain⟨aL,r,pl,hz⟩:=J.list aD;refine SeqAt.in_listAt (qT x) pl.isList (λw ay=>Ez a0 qb r bi w (by simpa using ay)) ⟨.aM _,H,J,I,?_⟩;rw[show aL.toArray.any (qT x)=aL.any (qT x) by simp,Ey r bi];exact q
 ·obtain⟨aL,r,pl,hz⟩:=J.tuple aD;refine SeqAt.in_tupleAt (qT x) pl (λw ay=>Ez a0 qb r bi w (by simpa using ay)) ⟨.aM _,H,J,I,?_⟩;rw[show aL.toArray.any (qT x)=aL.any (qT x) by simp,Ey r bi];exact q
def Ri:eX X (compareOp .NotIn) (λx y H Q=>∃i j,x=.str i/\y=.str j/\Q (.aM (!(!(Builtin.Str.occurrences j i 0 j.length 1).isEmpty))) H):=by
 intro ac s aa H x y v u Q J a0 bj h;obtain⟨i,j,rfl,rfl,q⟩:=h;obtain⟨t,rfl⟩:=a0;obtain⟨t',rfl⟩:=bj;exact notIn_str ⟨.aM _,H,J,I,q⟩
inductive KE (K:aJ) (xs:br) (H:ap) (Q:bz):Prop
 |mk p ys:xs=[.ref p]->((bg K H p ys\/dI K H p ys))->Q (.int ys.length) H->KE K xs H Q
def r':kc X (.builtin "len") (KE X.K):=by
 intro ac s aa H xs us Q J r h;obtain⟨p,ys,rfl,aD,q⟩:=h;obtain⟨u,rfl,a0⟩:=vals1 r;cases a0;have aP:=vR;rcases aD with aD|aD
 ·obtain⟨aL,fG,pl,hz⟩:=J.list aD;have dT:=fG.length;exact Calls.call_len_list pl.isList (by simp only[List.size_toArray]<;>omega) ⟨.int ys.length,H,J.tok _,⟨s.toks+1,by rw[gu,dT]⟩,q⟩
 ·obtain⟨aL,fG,pl,hz⟩:=J.tuple aD;have dT:=fG.length;exact len_tuple pl (by simp only[List.size_toArray]<;>omega) ⟨.int ys.length,H,J.tok _,⟨s.toks+1,by rw[gu,dT]⟩,q⟩
def nN:kc X (.builtin "len") (λxs H Q=>∃z,xs=[.str z]/\z.length<=sizeLine/\Q (.int z.length) H):=by
 intro ac s aa H xs us Q J r h;obtain⟨z,rfl,hz,q⟩:=h;obtain⟨u,rfl,t,rfl⟩:=vals1 r;have aP:=vR;exact len_str co ⟨.int z.length,H,J.tok _,⟨_,I⟩,q⟩
inductive KG (K:aJ) (xs:br) (H:ap) (Q:bz):Prop
 |mk p ys:xs=[.ref p]->((bg K H p ys\/dI K H p ys))->(∀l,H l=none->Q (.ref l) (upd H l (.lst ys)))->KG K xs H Q
def Rj:kc X (.type "list") (KG X.K):=by
 intro ac s aa H xs us Q J r h;obtain⟨p,ys,rfl,aD,q⟩:=h;obtain⟨u,rfl,a0⟩:=vals1 r;cases a0;have fin:∀aL,b4 ys aL->ys.length<=sizeLine->∀h' dF,(∀b c0,s.heap.get? b=some c0->h'.get? b=some c0)->
   h'.get? s.hz=some { cls:=.type "list",dict:=none,data:=.seq aL.toArray dF,slots:=#[] }->gC X ac aa Q (.ref s.hz) { s with heap:=h' }:=λaL fG hz h' dF cZ e=>
  ⟨.ref s.hz,_,J.laid (t':=s.toks) cZ (bf _) (show gB X.prog X.w _ h' _ (.lst ys) from⟨hz,aL,dF,fG,e⟩),I,q _ (J.bA.fresh (bf _))⟩
 rcases aD with aD|aD
 ·obtain⟨aL,fG,pl,hz⟩:=J.list aD;have dT:=fG.length;obtain⟨o,a',aw,n,hd⟩:=pl.isList;exact call_list_seq p (.inl I) a' aw hd (λh' dF cZ e=>fin aL fG hz h' dF cZ e) (by simp only[List.size_toArray]<;>omega)
 ·obtain⟨aL,fG,pl,hz⟩:=J.tuple aD;have dT:=fG.length;obtain⟨o,a',aw,n,hd⟩:=pl;exact call_list_seq p (.inr I) a' aw hd (λh' dF cZ e=>fin aL fG hz h' dF cZ e) (by simp only[List.size_toArray]<;>omega)
inductive KH (K:aJ) (xs:br) (H:ap) (Q:bz):Prop
 |mk p ys:xs=[.ref p]->(((bg K H p ys/\∀l,H l=none->Q (.ref l) (upd H l (.tup ys)))\/(dI K H p ys/\Q (.ref p) H)))->KH K xs H Q
def x8:kc X (.type "tuple") (KH X.K):=by
 intro ac s aa H xs us Q J r h;obtain⟨p,ys,rfl,h⟩:=h;obtain⟨u,rfl,a0⟩:=vals1 r;cases a0;rcases h with ⟨aD,q⟩|⟨aD,q⟩
 ·obtain⟨aL,fG,pl,hz⟩:=J.list aD;have dT:=fG.length;refine call_tuple_list pl.isList (λh' cZ=>?_) (by simp only[List.size_toArray]<;>omega);have a6:Inv X ac aa H { s with heap:=h' }:=J.kept (t':=s.toks) cZ;have ci:Inv X ac aa (upd H h'.objs.size (.tup ys)) { s with heap:=h'.push { cls:=.type "tuple",data:=.seq aL.toArray } }:=
   a6.laid (t':=s.toks) (λb o e=>ej _ e) (bf _) (show gB X.prog X.w _ _ _ (.tup ys) from⟨hz,aL,fG,IsTup.new _ _⟩)
  exact⟨.ref h'.objs.size,_,ci,I,q _ (a6.bA.fresh (bf _))⟩
 ·obtain⟨aL,fG,pl,hz⟩:=J.tuple aD;exact call_tuple_same pl ⟨.ref p,H,J,I,q⟩
def EA (K:aJ) (T:String) (x:V) (H:ap):Prop:=match x with
 |.str _=>T="str"
 |.int _=>T="int"
 |.ref p=>(T="list"/\∃xs,bg K H p xs)\/(T="tuple"/\∃o,K.lookup p=some o/\o.cls=.type "tuple"/\o.dict=none)\/
   (T="dict"/\((∃bG,H p=some (.iV bG))\/∃bG,H p=some (.gv bG)))\/(T="set"/\∃S n,H p=some (.set S n))
 |_=>False
def KI (J:Inv X ac aa H s) (r:RelV x v) (ty:EA X.K T x H):s.TypeIs v T/\∀a,v=.ref a->∃c7,s.heap.get? a=some c7/\c7.dict=none:=by
 cases x with
 |str z=>
  obtain⟨t,rfl⟩:=r;cases (show T="str" from ty);exact⟨tl s z t,λ_ e=>nomatch e⟩
 |int i=>
  obtain⟨t,rfl⟩:=r;cases (show T="int" from ty);exact⟨typeIs_int s i t,λ_ e=>nomatch e⟩
 |ref p=>
  cases r;rcases ty with ⟨rfl,xs,aD⟩|⟨rfl,o,aU,aw,hd⟩|⟨rfl,aU⟩|⟨rfl,S,n,aU⟩
  ·obtain⟨aL,_,pl,_⟩:=J.list aD;refine⟨pl.isList.typeIs,λa e=>?_⟩;cases e;obtain⟨o,n,e,c,hd,_⟩:=pl;exact⟨o,e,hd⟩
  ·refine⟨⟨o,J.ep p o aU,aw⟩,λa e=>?_⟩;cases e;exact⟨o,J.ep _ o aU,hd⟩
  ·have z:∃o,s.heap.get? p=some o/\o.ExactDict:=by
    rcases aU with ⟨bG,aU⟩|⟨bG,aU⟩
    ·obtain⟨_,_,_,_,o,_,_,e,ex,_⟩:=J.bA p _ aU;exact⟨o,e,ex⟩
    ·obtain⟨_,_,_,_,o,_,_,e,ex,_⟩:=J.bA p _ aU;exact⟨o,e,ex⟩
   obtain⟨o,e,ex⟩:=z;refine⟨⟨o,e,ex.1⟩,λa aE=>?_⟩;cases aE;exact⟨o,e,ex.2.1⟩
  ·obtain⟨o,_,_,_,e,ex,_⟩:=J.bA p _ aU;refine⟨⟨o,e,ex.1⟩,λa aE=>?_⟩;cases aE;exact⟨o,e,ex.2.1⟩
 |_=>exact False.elim ty
def KJ (K:aJ) (T:String) (r:V->br->ap->bz->Prop) (to:TE):TE:=λaa H Q=>to aa H λx ai=>EA K T x ai/\r x [] ai Q
def KL (K:aJ) (T:String) (r:V->br->ap->bz->Prop) (to:TE) (t:fi):TE:=λaa H Q=>to aa H λx ai=>EA K T x ai/\t aa ai λxs aB=>r x xs aB Q
variable {o e:Expr}{aj:gY}{to:TE}{t:fi}{name:Str}{apos gz:Pos}{T id:String}{r:V->br->ap->bz->Prop}
def vW (n9:PlainAttrs T) (slot:Slot T name id) (qc:typeOf (.builtin id)=pure (.type "method_descriptor")) (aQ:qR X id r) (a':bU X o to) (n':autoParam (attributeBase o name X.env (eval o X.env)=eval o X.env) dl) (rm:autoParam ((apos.endLine == gz.line)=true) dl):bU X (.Call (.Attribute o name apos) [] [] gz) (KJ X.K T r to):=by
 intro ac s aa H Q J h;refine wpAny_Call_method0_late n' rm (bW (a' ac s aa H _ J h) λv az aD=>?_);obtain⟨x,ai,a6,bR,ty,aZ⟩:=aD;obtain⟨ag,ae⟩:=KI a6 bR ty;exact⟨T,id,n9,slot,qc,ag,ae,xJ I (PySem.evalArgs_none (aQ ac az aa ai x [] v [] Q a6 bR .nil aZ))⟩
def hb (n9:PlainAttrs T) (slot:Slot T name id) (qc:typeOf (.builtin id)=pure (.type "method_descriptor")) (aQ:qR X id r) (a':bU X o to) (aq:iX X (e::aj) t) (n':autoParam (attributeBase o name X.env (eval o X.env)=eval o X.env) dl) (GT:autoParam (((backTo gz (starEach (e::aj) X.env)).all (λx=>!x.1)&&(backToKw gz (keywordEach [] X.env)).all (λx=>x.1.isSome)&&decide ((e::aj).length+([]:rL).length+(if([]:rL).isEmpty then 0 else 1) < 30))=true) dl)
  (rm:autoParam ((apos.endLine == gz.line)=true) dl) (ax:autoParam (gi X e aj) dl) (G5:autoParam (iW X gz aj) dl):
  bU X (.Call (.Attribute o name apos) (e::aj) [] gz) (KL X.K T r to t):=by
 intro ac s aa H Q J h;refine wpAny_Call_method_late n' GT rm rfl (bW (a' ac s aa H _ J h) λv az aD=>?_);obtain⟨x,ai,a6,bR,ty,aZ⟩:=aD;obtain⟨ag,ae⟩:=KI a6 bR ty;refine⟨T,id,n9,slot,qc,ag,ae,?_⟩;have ei:=aq gz ac az aa ai _ a6 aZ;rw[ax] at ei⊢;refine xJ (by show(false||(backTo gz (starEach aj X.env)).any (·.1))=false;rw[G5]<;>rfl) (Au ?_);exact bW ei λus aN ⟨vs,aB,ci,dL,bn⟩=>aQ ac aN aa aB x vs v us Q ci bR dL bn
end
end L2
namespace L2
open PySem PySem.Spec PyProof.Rows
def KN (X:a8) (id:String) (r:V->br->ap->bz->Prop):Prop:=
 ∀ac s aa H x xs v us Q,Inv X ac aa H s->RelV x v->b4 xs us->r x xs H Q->
  dN X (call (.builtin id) (v::us)) (gC X ac aa Q) X.cR s
theorem b4.one:∀{x us},b4 [x] us->∃u,us=[u]/\RelV x u
 |_,_,.cons r .nil=>⟨_,I,r⟩
theorem b4.zero:∀{us},b4 [] us->us=[]
 |_,.nil=>rfl
def b4.dropLast (h:b4 xs us):b4 xs.dropLast us.dropLast:=by
 induction h with
 |nil=>exact .nil
 |cons r t ih=>
  cases t with
  |nil=>exact .nil
  |cons q t'=>exact .cons r ih
theorem b4.rep (h:b4 xs us):∀k:Nat,b4 (List.replicate k xs).flatten (List.replicate k us).flatten
 |0=>.nil
 |k+1=>by
  rw[mT,mT,tm,tm];exact b4.append h (b4.rep h k)
def Rk (l:List cC):l.eraseIdx (l.length - 1)=l.dropLast:=by
 induction l with
 |nil=>rfl
 |cons a r ih=>
  cases r with
  |nil=>rfl
  |cons b r=>
   have e:(a::b::r).length - 1=((b::r).length - 1)+1:=by
    have ag:(a::b::r).length=r.length+2:=rfl;have ae:(b::r).length=r.length+1:=rfl;omega
   rw[e,List.eraseIdx_cons_succ,ih]
   all_goals rfl
theorem foldl_rep (aL:e3):∀(k:Nat) (gJ:e3),List.foldl (λn7 rn=>n7++rn) gJ.toArray (List.replicate k aL.toArray)=(gJ++(List.replicate k aL).flatten).toArray
 |0,gJ=>by simp
 |k+1,gJ=>by
  have e:gJ.toArray++aL.toArray=(gJ++aL).toArray:=by simp
  have aE:(gJ++aL)++(List.replicate k aL).flatten=gJ++(List.replicate (k+1) aL).flatten:=by
   rw[mT,tm,hU]
  rw[<-aE,<-foldl_rep aL k (gJ++aL),<-e,mT,List.foldl_cons]
section
variable {X:a8}{ac:eU}{aa:St}{H:ap}{s:Shared}{l b:Addr}{xs ys zs:br}
def Inv.KO {aL its':e3}{n:Nat}{f:Array Value->Array Value}{t':Nat}(J:Inv X ac aa H s) (lX:H l=some (.lst xs)) (e:s.heap.get? l=some { cls:=.type "list",data:=.seq aL.toArray n }) (bl:f aL.toArray=its'.toArray) (aK:b4 ys its') (hz:ys.length<=sizeLine):Inv X ac aa (upd H l (.lst ys)) { s with heap:=s.heap.update l (Obj.mapSeq f),toks:=t' }:=by
 have q:=PySem.IsL.update e f;rw[bl] at q;refine J.write (x:=l) (e:=l) (by rw[lX];exact trivial) (.inl I) (λG6 u af bY=>(mS s.heap (Obj.mapSeq f) (d0 af)).trans bY) ⟨_,q⟩ ?_;exact⟨hz,its',_,aK,q⟩
def Inv.KP (J:Inv X ac aa H s) (aK:b4 ys aL) (hz:ys.length<=sizeLine):Inv X ac aa (upd H s.hz (.lst ys)) { s with heap:=s.heap.push { cls:=.type "list",data:=.seq aL.toArray },toks:=t' }:=
 J.laid (λ_ _ q=>ej _ q) (bf _) ⟨hz,aL,0,aK,hN _ I⟩
def Inv.fresh (J:Inv X ac aa H s):H s.hz=none:=J.bA.fresh (bf _)
def Inv.x9 (J:Inv X ac aa H s) (lX:H l=some (.lst xs)):xs.length<=sizeLine/\∃aL n,b4 xs aL/\xs.length=aL.length/\s.heap.get? l=some { cls:=.type "list",data:=.seq aL.toArray n }:=by
 obtain⟨z,aL,n,r,e⟩:=J.bA l _ lX;exact⟨z,aL,n,r,r.length,e⟩
def Rl (h:n<=sizeLine):Builtin.List.listTooLong n=false:=by
 unfold Builtin.List.listTooLong;exact ew co
end
section
variable {X:a8}
inductive KQ (x:V) (vs:br) (H:ap) (Q:bz):Prop
 |mk l xs y:x=.ref l->vs=[y]->H l=some (.lst xs)->xs.length < sizeLine->Q .a3 (upd H l (.lst (xs++[y])))->KQ  x vs H Q
def oK:KN X "list.append" KQ:=by
 intro ac s aa H x vs v us Q J a0 cI h;obtain⟨l,xs,y,rfl,rfl,lX,hz,q⟩:=h;cases a0;obtain⟨u,rfl,fc⟩:=cI.one;obtain⟨z,aL,n,r,au,e⟩:=J.x9 lX;refine tn pB ⟨_,e,I⟩ F.entry_list_append (F.args_list_append_2 _ _) (PySem.list_append l aL.toArray n u (by rw[gu];omega)) ⟨e,?_⟩;refine⟨.a3,_,J.KO (its':=aL++[u]) lX e bZ (r.append (.cons fc .nil)) ?_,I,q⟩;rw[cy,vv];omega
inductive KR (x:V) (vs:br) (H:ap) (Q:bz):Prop
 |mk l xs y:x=.ref l->vs=[]->H l=some (.lst xs)->xs[xs.length - 1]?=some y->Q y (upd H l (.lst xs.dropLast))->KR  x vs H Q
def Rm:KN X "list.pop" KR:=by
 intro ac s aa H x vs v us Q J a0 cI h;obtain⟨l,xs,y,rfl,rfl,lX,aT,q⟩:=h;cases a0;have W4:=cI.zero;subst W4;obtain⟨z,aL,n,r,au,e⟩:=J.x9 lX;obtain⟨u,bY,fc⟩:=r.get aT;have zh:aL.toArray[aL.toArray.size - 1]?=some u:=by
  show aL.toArray[aL.length - 1]?=some u;rw[<-Array.getElem?_toList,<-au];exact bY
 refine tn F.slot_list_pop ⟨_,e,I⟩ F.entry_list_pop (F.args_list_pop_1 _) (MeetsSeq.list_pop_last l aL.toArray n u zh (by rw[gu];omega)) ⟨e,?_⟩;refine⟨y,_,J.KO (its':=aL.dropLast) lX e ?_ r.dropLast ?_,fc,q⟩
 ·show aL.toArray.eraseIdxIfInBounds (aL.toArray.size - 1)=aL.dropLast.toArray;rw[gu,List.eraseIdxIfInBounds_toArray,Rk]
 ·rw[List.length_dropLast];omega
inductive KS (x:V) (y:V) (H:ap) (Q:bz):Prop
 |mk l b xs zs:x=.ref l->y=.ref b->H l=some (.lst xs)->H b=some (.lst zs)->xs.length+zs.length<=sizeLine->(∀p,H p=none->Q (.ref p) (upd H p (.lst (xs++zs))))->KS  x y H Q
def EB:eX X (binaryOp .Add) KS:=by
 intro ac s aa H x y v u Q J a0 bj h;obtain⟨l,b,xs,zs,rfl,rfl,lX,g8,hz,q⟩:=h;cases a0;cases bj;obtain⟨z,aL,n,r,au,e⟩:=J.x9 lX;obtain⟨cW,qd,cH,dL,hQ,aE⟩:=J.x9 g8;refine PySem.P.add_list e aE ?_ (by rw[gu,gu];omega);have cX:aL.toArray++qd.toArray=(aL++qd).toArray:=by simp
 rw[cX];exact⟨.ref _,_,J.KP (t':=s.toks) (r.append dL) (by rw[cy];omega),I,q _ J.fresh⟩
inductive KU (x:V) (y:V) (H:ap) (Q:bz):Prop
 |mk l k xs:x=.ref l->y=.int k->H l=some (.lst xs)->-(2 ^ 63)<=k->k < 2 ^ 63->xs.length*k.toNat<=sizeLine->(∀p,H p=none->Q (.ref p) (upd H p (.lst (List.replicate k.toNat xs).flatten)))->KU  x y H Q
def len_rep (xs:List cC) (k:Nat):(List.replicate k xs).flatten.length=k*xs.length:=by
 induction k with
 |zero=>simp
 |succ k ih=>rw[mT,tm,cy,ih,Nat.succ_mul,Nat.add_comm]
def KV:eX X (binaryOp .Mult) KU:=by
 intro ac s aa H x y v u Q J a0 bj h;obtain⟨l,k,xs,rfl,rfl,lX,ag,ae,hz,q⟩:=h;cases a0;obtain⟨t,rfl⟩:=bj;obtain⟨z,aL,n,r,au,e⟩:=J.x9 lX;have dT:aL.toArray.size*k.toNat<=sizeLine:=by rw[gu,<-au];exact hz
 have W5:¬aL.toArray.size*k.toNat > (2 ^ 63 - 1) / 8:=by
  have:(sizeLine:Nat)<=(2 ^ 63 - 1) / 8:=by decide
  omega
 have W6:¬(!Builtin.List.listFitsIndex k)=true:=by
  rw[fitsIndex_both ag ae];exact gf
 have W7:¬Builtin.List.listTooLong (aL.toArray.size*k.toNat)=true:=by
  rw[Rl dT];exact gf
 have W8:List.foldl (λn7 rn=>n7++rn) #[] (List.replicate (if aL.toArray.isEmpty=true then 0 else k.toNat) aL.toArray)=(List.replicate k.toNat aL).flatten.toArray:=by
  have gU:∀m:Nat,List.foldl (λn7 rn=>n7++rn) #[] (List.replicate m aL.toArray)=(List.replicate m aL).flatten.toArray:=λm=>by
   have:=foldl_rep aL m [];rw[DI] at this;exact this
  rw[gU];cases aL with
  |nil=>simp
  |cons a fG=>rw[bP bZ]
 refine wpAny_binaryOp_repeat_ref (T:="list") (U:="int") dU ⟨_,e,I⟩ (λs'=>typeIs_int s' k t) noFill_list_mul F.fills_int_mul F.slot_int_rmul repeat_list F.slot_int_index.lookup
  (tn F.slot_int_rmul (typeIs_int s k t) F.entry_int_rmul (F.args_int_rmul_2 _ _) (int___rmul___int_list k t l aL.toArray n) ⟨e,I,⟨_,e,I⟩,tn F.slot_list_mul ⟨_,e,I⟩ F.entry_list_mul (F.args_list_mul_2 _ _) (AutoListH.list___mul___list_int_3 l aL.toArray n k t W6 W5 W7) ⟨e,?_⟩⟩)
 rw[W8];exact⟨.ref _,_,J.KP (t':=s.toks) (r.rep k.toNat) (by rw[len_rep,Nat.mul_comm];exact hz),I,q _ J.fresh⟩
end
section
variable {prog:Program}{w:World}{A:Around}{E:Value->Shared->Prop}{s:Shared}
set_option maxRecDepth 100000 in
end
section
variable {X:a8}
end
end L2
namespace KW
open PySem PySem.W PySem.Calls PyProof.Rows
def Rn:∀ns vs,WellAll P h vs (ns.map WData.int)->IntsAre vs ns:=by
 intro ns
 induction ns with
 |nil=>
  intro vs w;rw[List.map_nil] at w;cases w;exact .nil
 |cons n ns ih=>
  intro vs w;rw[kR] at w;cases w with
  |cons a b=>
   cases a;exact .cons _ _ (ih _ b)
def Ro {l:OpenLaw}{n:Nat}(aP:l.most=some n){P:Params}{h:Heap}{args:List WData}{G7:e3}(CJ:l.row.toRowW.claim.pre args=true) (lY:WellAll P h G7 args):∃a vs ns,G7=[Value.ref a]/\args=[WData.list (ns.map WData.int)]/\h.get? a=some { cls:=.type "list",data:=.seq vs.toArray }/\IntsAre vs ns/\ns.length<=n:=by
 have W9:WShape.hasAll [] args [.list .int]=true:=(pre_splitW CJ).1;have aw:l.pre.holds [] { args:=args }=true:=(pre_splitW CJ).2;obtain⟨d,r,rfl,ag,ae⟩:=hasAllW_cons W9;obtain rfl:=hasAllW_nil ae;obtain⟨xs,rfl,aW⟩:=hasW_list ag;obtain⟨ns,rfl⟩:=items_int aW;have dT:ns.length<=n:=by
  unfold OpenLaw.pre at aw;have bm:(WTm.not (.lt (.lit (.int (n:Int))) (.len (.arg 0)))).holds [] { args:=[.list (ns.map .int)] }=true:=by
   have bm:=(holds_andW aw).1;rw[aP] at bm;exact bm
  have b7:=condW_of bm (w_not (w_lt w_lit (w_len_list (w_arg I))));rw[eV] at b7;refine Nat.le_of_not_lt λq=>?_;have kF:(n:Int) < ((ns.length:Nat):Int):=by omega
  first
   |(rw[fv kF] at b7;exact absurd b7 dU)
   |(simp at b7;omega)
 cases lY with
 |cons cu dd=>
  cases dd;cases cu with
  |list a' nw=>exact⟨_,_,ns,I,I,a',Rn ns _ nw,dT⟩
def Rp (l:OpenLaw) (args):l.row.toRowW.claim.post args (.bool true) args=true:=
 postW_of (r:=l.row.toRowW) (X:=(true == true))
  (show WShape.has [] (.bool true) .bool=true by first|rfl|decide|simp[WShape.has,WShape.arms,WShape.armsAll])
  (show(WTm.eq .res (.lit (.bool true))).value [] { args:=args,res:=some (.bool true),after:=args }=some (.bool (true == true)) from w_eq_bool (w_res I) w_lit) rfl
def Rq {l:OpenLaw}{n:Nat}{q:Program}{loose:dH}{wn:(Str->cn)->Heap->Prop}{sL:World->Heap->Prop}{d:DefRec}(aP:l.most=some n) (zi:d.params.defaults=[]) (call:∀(w:World) (fZ dn:Shared) (mg ky:Str->cn) (fa:Addr) (o:Obj) (pm dY fW:Value) (a:Addr) (vs:e3) (ns:List Int),Ground q loose [] wn w fZ mg ky dn.heap->sL w dn.heap->dn.heap.get? fa=some o->o.data=.func (docDef d.name d.params d.body d.scope pm dY fW)->dn.heap.CodeRec dY d.name->mg d.name=some (.ref fa)->dn.heap.get? a=some { cls:=.type "list",data:=.seq vs.toArray }->IntsAre vs ns->ns.length<=n->dn.gens=#[]->codeAny (model l.prog w) callerA (.call (.ref fa) ⟨[.ref a],[]⟩) (λr s'=>r=.ok (.ret (.bool true))/\OldK dn.heap s'.heap/\s'.os=dn.os/\AllBare s'.gens) dn):
  WalkO q loose wn sL l.row.toRowW d [] (λf vs=>PySem.call f vs):=by
 intro w fZ dn mg ky G Y fa o pm dY fW kJ eo a' hd gT dh G8 a1 args G7 ro CJ abK zj lY G9;obtain rfl:kJ=.none:=Dflts.none dh zi;obtain rfl:eo=.none:=Dflts.noKw dh;obtain⟨a,vs,ns,rfl,rfl,G',Ha,dT⟩:=Ro aP CJ lY;refine enter_call (vu (call w fZ dn mg ky fa o pm dY fW a vs ns G Y a' (fd_plain hd) gT G8 G' Ha dT a1) λr s' aD=>?_);obtain⟨rfl,ae,aW,bm⟩:=aD;exact⟨.inl ⟨.bool true,.bool true,[],I,λ_=>I,.bool true,Rp l _,λ_=>⟨List.Pairwise.nil,λ_ aQ=>(nomatch aQ)⟩⟩,ae,aW,bm⟩
section
variable {prog:Program}{w:World}{A:Around}{E:Value->Shared->Prop}{s:Shared}{K:Frag}
end
end KW
namespace L2
open PySem PySem.Spec PyProof.Rows
theorem KY:∀{vs ns},IntsAre vs ns->b4 (ns.map V.int) vs
 |_,_,.nil=>.nil
 |_,_,.cons n t h=>.cons ⟨t,I⟩ (KY h)
def EC (H:ap):Prop:=∀b,H b=none\/∃o xs,H b=some (.mj o (.lst xs))
def Rr {P w K mg ky CX k fa a as x sp dn vs ns}(sJ:K.In dn.heap) (Od:dn.heap.Ns mainGlobals mg) (af:dn.heap.Ns builtinsNs ky) (W':∀x:Str,x≠"__name__"->ky x=bootBuiltins x) (Xa:dn.heap.NoLimit) (a1:dn.gens=#[]) (aq:dn.heap.get? a=some { cls:=.type "list",data:=.seq vs.toArray }) (aR:IntsAre vs ns) (au:ns.length<=sizeLine) (al:dj k callerA) (F:∀base:Heap,K.In base->base.Ns mainGlobals mg->bK P w K mg base CX k fa as [x] sp) (Xb:∀s u,BindsTo s as ⟨[u],[]⟩ [(x,u)]) (lg:∀H:ap,EC H->bg K H a (ns.map V.int)->sp [.ref a] H (λv _=>v=.aM true) λ_ _ _=>False)
  (Hb:∀H e s',CX [] H dn (λ_ _ _=>False) e s'->False):
  codeAny (model P w) callerA (.call (.ref fa) ⟨[.ref a],[]⟩) (λr s'=>r=.ok (.ret (.bool true))/\OldK dn.heap s'.heap/\s'.os=dn.os/\AllBare s'.gens) dn:=by
 have cI:=KY aR;have Xc:=aR.length;have core:∀H:ap,EC H->bg K H a (ns.map V.int)->gh P w H dn.heap->(∀b,H b≠none->b=a)->(H a≠none->K.lookup a=none)->
   codeAny (model P w) callerA (.call (.ref fa) ⟨[.ref a],[]⟩) (λr s'=>r=.ok (.ret (.bool true))/\OldK dn.heap s'.heap/\s'.os=dn.os/\AllBare s'.gens) dn:=by
  intro H pb fI bA ei gG;have Oe:∀{b o},dn.heap.get? b=some o->H b=none->(qJ dn.heap H).get? b=some o:=λe n=>Qk e n;have zg:∀{b o aj cp},dn.heap.get? b=some o->o.data=.dict aj cp->H b=none:=λ{b o aj cp} e d=>by
   cases q:H b with
   |none=>rfl
   |some u=>
    have db:b=a:=ei b (by rw[q];simp);subst db;rw[aq] at e;cases e;have d':Data.seq vs.toArray _=Data.dict aj cp:=d;cases d'
  have CK:∀{b m},dn.heap.Ns b m->(qJ dn.heap H).Ns b m:=λ{b m} ⟨o,aj,cp,e,d,r⟩=>⟨o,aj,cp,Oe e (zg e d),d,r⟩;have Of:K.In (qJ dn.heap H):=λb o e=>Oe (sJ b o e) (by
   cases q:H b with
   |none=>rfl
   |some u=>
    have db:b=a:=ei b (by rw[q];simp);subst db;rw[gG (by rw[q];simp)] at e;cases e)
  have jV:Mod K mg (qJ dn.heap H):=⟨Of,CK Od,⟨ky,CK af,W'⟩,let ⟨AV,ag,ae⟩:=Xa;⟨AV,CK ag,ae⟩⟩;have dD:tI P w K mg (qJ dn.heap H) callerA [] dn H:=⟨I,jV,λb o e=>Ql e,Ao (Qj _ _),trivial,λb af=>absurd (show b∈([]:gd) from af) bZ,bA,.of_eq a1⟩;refine vu ((F _ Of (CK Od)).run callerA [] dn H ⟨[.ref a],[]⟩ [.ref a] [.ref a] _ _ al dD (Xb dn (.ref a)) (.cons I .nil) (lg H pb fI)) λr s' h=>?_;cases r with
  |error e=>exact(Hb H e s' h).elim
  |ok f4=>
   cases f4 with
   |next=>exact False.elim h
   |brk=>exact False.elim h
   |cont=>exact False.elim h
   |ret u=>
    obtain⟨v,Z,os,bare,un,Xd,fG,q⟩:=h;have kF:v=.aM true:=q;subst kF;obtain rfl:u=Value.bool true:=fG;refine⟨I,OldK.of_keep λb o e=>?_,os,bare⟩;cases q:H b with
    |none=>exact un.keep b o e q (by intro z;exact absurd (show b∈([]:gd) from z) bZ) bZ
    |some u=>
     rcases pb b with z|⟨c7,xs,z⟩
     ·rw[q] at z;cases z
     ·have cW:=un.lx b c7 _ z;obtain⟨am,_⟩:=bA b _ z;obtain⟨aE,_⟩:=Xd b _ cW;rw[e] at am;cases am;exact aE
 cases aU:K.lookup a with
 |some o=>
  have e:=sJ a o aU;rw[aq] at e;cases e;refine core (λ_=>none) (λ_=>.inl I) (.inr ⟨_,vs.toArray,_,aU,I,I,I,by rw[gu,Xc];exact au,by simpa using cI⟩) (λb u z=>by have o5:(none:Option jJ)=some u:=z;cases o5) (λb z=>absurd I z) λz=>absurd rfl z
 |none=>
  refine core (λb=>if b=a then some (.mj { cls:=.type "list",data:=.seq vs.toArray } (.lst (ns.map V.int))) else none) (λb=>?_) (.inl (.inr ⟨{ cls:=.type "list",data:=.seq vs.toArray },b8 I⟩)) (λb u z=>?_) (λb z=>?_) λ_=>aU
  ·by_cases af:b=a
   ·exact .inr ⟨_,_,b8 af⟩
   ·exact .inl (bP af)
  ·by_cases af:b=a
   ·have o5:=(b8 af).symm.trans z;cases o5;subst af;exact⟨aq,by rw[eV];exact au,vs,_,cI,aq⟩
   ·have o5:=(bP af).symm.trans z;cases o5
  ·by_cases af:b=a
   ·exact af
   ·exact absurd (bP af) z
end L2
namespace L2
open PySem PySem.Spec PyProof.Rows
abbrev KOf {K:aJ}{h:Heap}(_:K.In h):aJ:=K
def Rt {l:PySem.W.OpenLaw}{n k:Nat}{q:Program}{loose:dH}{wn:(Str->cn)->Heap->Prop}{sL:World->Heap->Prop}{d:DefRec}{K:Params->aJ}{CX:World->nL}{sp:World->e6}{x:Str}(aP:l.most=some n) (uF:n<=sizeLine) (zi:d.params.defaults=[]) (al:dj k callerA) (jb:∀(w:World) (h:Heap),sL w h->(K w.params).In h) (F:∀(w:World) (mg:Str->cn) (fa:Addr) (h:Heap),(K w.params).In h->h.Ns mainGlobals mg->mg d.name=some (.ref fa)->∃as:FuncData,(∀(s:Shared) (u:Value),BindsTo s as ⟨[u],[]⟩ [(x,u)])/\∀base:Heap,(K w.params).In base->base.Ns mainGlobals mg->bK l.prog w (K w.params) mg base (CX w) k fa as [x] (sp w)) (lg:∀(w:World) (H:ap) (a:Addr) (ns:List Int),ns.length<=n->EC H->bg (K w.params) H a (ns.map V.int)->sp w [.ref a] H (λv _=>v=.aM true) λ_ _ _=>False)
  (Hb:∀(w:World) (H:ap) (s:Shared) (e:Value) (s':Shared),CX w [] H s (λ_ _ _=>False) e s'->False):
  PySem.W.WalkO q loose wn sL l.row.toRowW d [] (λf vs=>PySem.call f vs):=by
 refine KW.Rq aP zi λw fZ dn mg ky fa o pm dY fW a vs ns G Y a' hd gT G8 G' Ha dT a1=>?_;have sJ:=jb w _ Y;obtain⟨as,af,zk⟩:=F w mg fa _ sJ G.T.g G8;exact Rr sJ G.T.g G.T.b G.T.builtins G.T.nolimit a1 G' Ha (dW dT uF) al zk af (λH pb fI=>lg w H a ns dT pb fI) λH e s'=>Hb w H dn e s'
end L2
namespace L2
open PySem PySem.Spec PyProof.Rows
def k2 (s:Stmt):Arguments:=match s with
 |.FunctionDef _ a _ _ _ _ _ _ _ _=>a
 |_=>{ posonlyargs:=[],args:=[],vararg:=none,kwonlyargs:=[],kw_defaults:=[],kwarg:=none,defaults:=[] }
def lI (s:Stmt):vi:=match s with
 |.FunctionDef _ _ b _ _ _ _ _ _ _=>b
 |_=>[]
def bF (s:Stmt):Scope:=match s with
 |.FunctionDef _ _ _ _ _ _ hv _ _ _=>hv
 |_=>{ kind:=.function,names:=[],isGenerator:=false,isCoroutine:=false }
abbrev dJ:nL:=λ_ _ _ _ _ _=>False
abbrev oL:cJ:=λ_ _ _=>False
def AW:ff dJ X oL:=λ_ _ _ _ _ _ _ h=>h.elim
structure b5 (K:aJ) (x ce:Str) (st:Stmt) (f:Addr) (as:FuncData):Prop where
 ex:∃gn dg eo fW pm an bk b0 gI,
  as=PySem.W.fnOf x ce (k2 st) (lI st) (bF st) .none eo fW pm an bk b0/\K.lookup f=some ⟨gn,dg,.func as,gI⟩/\PySem.W.codeIn K bk ce=true
 cZ:PySem.W.keepIn K (.ref f)=true
section
variable {P:Program}{w:World}{K:aJ}{mg:Str->cn}{base:Heap}
def b5.ok {x ce st f as N aG k sp}(F:b5 K x ce st f as) (S:cE N aG (bF st)) (len:∀vs H Q E,sp vs H Q E->vs.length=aG.length) (pa:∀bk A outer s H vs Q E,dj k (A.deeper (envOfC ce (bF st) s.hz f bk))->sp vs H Q E->∃t,ka (fj dJ P w K mg base N ce (bF st) f bk A outer s H E).r2 (lI st) t/\t { c4:=λ_ Z=>Q .a3 Z,lz:=Q } (start N vs) H):bK P w K mg base dJ (k+1) f as aG sp:=by
 obtain⟨gn,dg,eo,fW,pm,an,bk,b0,gI,rfl,lk,gT⟩:=F.ex;refine Et lk gT S len λA outer s H vs Q E al lg=>?_;obtain⟨t,h,q⟩:=pa bk A outer s H vs Q E al lg;exact⟨t,h.r2,q⟩
def b5.binds {x ce st f as aG}(F:b5 K x ce st f as) (h:∀eo fW pm an bk b0 us,us.length=aG.length->bindArgs (PySem.W.fnOf x ce (k2 st) (lI st) (bF st) .none eo fW pm an bk b0) ⟨us,[]⟩=pure (aG.zip us)):Binds K as aG []:=by
 obtain⟨gn,dg,eo,fW,pm,an,bk,b0,gI,rfl,lk,gT⟩:=F.ex;exact .all (h eo fW pm an bk b0)
def AX {x ce st f gn dg an gI eo fW pm bk b0}(l:K.lookup f=some ⟨gn,dg,.func (PySem.W.fnOf x ce (k2 st) (lI st) (bF st) .none eo fW pm an bk b0),gI⟩) (c:PySem.W.codeIn K bk ce=true) (k:PySem.W.keepIn K (.ref f)=true):b5 K x ce st f (PySem.W.fnOf x ce (k2 st) (lI st) (bF st) .none eo fW pm an bk b0):=⟨⟨gn,dg,eo,fW,pm,an,bk,b0,gI,I,l,c⟩,k⟩
end
def AY (al:dj k A):A.units+1 < cLine:=DJ (Nat.add_le_add_left (by decide:1<=64) _) al.units
section
variable {X:a8}
def _root_.zzi{p:Prop}(h:p:=by first|exact Or.inl I|exact Or.inr (Or.inl I)|exact Or.inr (Or.inr I)):=h
def _root_.zza:Lean.Syntax:=zzi._auto_1
def ah (i) (dx:autoParam (X.N[i]?=some x) dl) (aK:autoParam (tz X.env.scope x) zza) (hd:autoParam (e4 x) Cl) (gT:autoParam ((x == ("__classdict__":Str))=false) Cl):bU X (.Name x pos) (xW i):=JM dx aK hd gT
end
def dr {A B:Prop}(h:B):if false=true then A else B:=by
 rw[bP gf];exact h
def fz {A B:Prop}(h:A):if true=true then A else B:=by
 rw[b8 rfl];exact h
def ba (H Z:ap):Prop:=∀b o,H b=some o->Z b=some o
def ba.refl (H):ba H H:=λ_ _ h=>h
def ba.trans (a:ba H ai) (b:ba ai aB):ba H aB:=λc o h=>b c o (a c o h)
def ba.free (e:ba H Z) (h:Z l=Option.none):H l=Option.none:=by
 cases q:H l with
 |none=>rfl
 |some o=>
  rw[e l o q] at h;cases h
def ba.seq {K H Z a xs}(e:ba H Z) (h:bg K H a xs):bg K Z a xs:=by
 rcases h with (h|⟨o,h⟩)|h
 ·exact .inl (.inl (e _ _ h))
 ·exact .inl (.inr ⟨o,e _ _ h⟩)
 ·exact .inr h
end L2
set_option maxHeartbeats 4000000
namespace GS
open PySem PySem.Builtin PySem.Builtin.List
section
variable {P:Program}{w:World}{B:Around}{E:Value->Shared->Prop}{aa:Shared}{R:Result->Shared->Prop}{J:Addr}{fp zl:gd}{n:Nat}{Pv:Nat->Value->Prop}{St:Nat->Heap->Prop}{T:String}
end
end GS
namespace L2
open PySem PySem.Spec PyProof.Rows PySem.Builtin PySem.Builtin.Str
section
variable {X:a8}
inductive KZ (x:V) (lo:iU) (aR:iU) (H:ap) (Q:bz):Prop
 |mk z:x=.str z->z.length<=sizeLine->Q (.str (StrLaws.sliceText z lo aR)) H->KZ  x lo aR H Q
def AZ (x l u):(StrLaws.sliceText x l u).length<=x.length:=Txt.slice_le x l u
def ED:x6 X KZ:=by
 intro ac s aa H x v dP ja lo aR sl Q J a0 ax pl lW h;obtain⟨z,rfl,hz,q⟩:=h;obtain⟨t,rfl⟩:=a0;have fin:∀t' k,gC X ac aa Q (.str (StrLaws.sliceText z lo aR) t') { s with toks:=k }:=λt' k=>⟨.str _,H,J.tok _,⟨_,I⟩,q⟩;refine⟨"str",_,F.slot_str_getitem.lookup,tl _ _ _,?_⟩;cases pl with
 |none=>
  cases lW with
  |none=>exact Av (l:=none) (u:=none) (st:=none) ax rfl (Aw ⟨dW (AZ z _ _) hz,fin⟩)
  |int j Hc=>exact Av (l:=none) (u:=some (j,Hc)) (st:=none) ax rfl (Aw ⟨dW (AZ z _ _) hz,fin⟩)
 |int i Og=>
  cases lW with
  |none=>exact Av (l:=some (i,Og)) (u:=none) (st:=none) ax rfl (Aw ⟨dW (AZ z _ _) hz,fin⟩)
  |int j Hc=>exact Av (l:=some (i,Og)) (u:=some (j,Hc)) (st:=none) ax rfl (Aw ⟨dW (AZ z _ _) hz,fin⟩)
def Ru:qR X "str.find" (λx xs H Q=>∃z y i,x=.str z/\xs=[.str y,.int i]/\Q (.int (Txt.find3 z y i)) H):=by
 intro ac s aa H x xs v us Q J a0 eD h;obtain⟨z,y,i,rfl,rfl,q⟩:=h;obtain⟨t,rfl⟩:=a0;obtain⟨u,jT,rfl,⟨d5,rfl⟩,⟨gr,rfl⟩⟩:=vals2 eD;exact SC.find3 ⟨.int _,H,J.tok _,⟨_,I⟩,q⟩
theorem K0:∀l,b4 ((l.map (·.1)).map V.str) (strValues l)
 |[]=>.nil
 |(x,t)::r=>.cons ⟨t,I⟩ (K0 r)
def EE:qR X "str.split" (λx xs H Q=>∃z y,x=.str z/\xs=[.str y]/\(y.length == 0)=false/\z.length+2<=sizeLine/\∀p,H p=none->Q (.ref p) (upd H p (.lst ((Txt.split z y).map V.str)))):=by
 intro ac s aa H x xs v us Q J a0 eD h;obtain⟨z,y,rfl,rfl,aT,hz,q⟩:=h;obtain⟨t,rfl⟩:=a0;obtain⟨u,rfl,d5,rfl⟩:=vals1 eD;have aP:(partsBetween z (occurrences z y 0 z.length (z.length+1)) y.length).length<=sizeLine:=by
  have am:=StrLaws.occ_length_le z y 0 z.length (z.length+1);rw[DK];omega
 have dT:(Txt.split z y).length<=sizeLine:=by
  have ag:1<=sizeLine:=by decide
  unfold Txt.split;split
  ·simpa using ag
  ·split
   ·simpa using ag
   ·exact aP
 have fin:∀l k,l.map (·.1)=Txt.split z y->gC X ac aa Q (.ref s.hz) { s with heap:=s.heap.push { cls:=.type "list",data:=.seq (strValues l).toArray },toks:=k }:=λl k e=>by
  refine⟨.ref s.hz,_,J.laid (λb u e=>ej _ e) (bf _) ?_,I,q _ (J.bA.fresh (bf _))⟩;exact⟨by rw[eV];exact dT,_,0,by rw[<-e];exact K0 l,hN _ I⟩
 cases ag:(decide (z.length < y.length)||decide (strKind z < strKind y))
 ·cases bl:(occurrences z y 0 z.length (z.length+1)).isEmpty
  ·refine tn vw (tl _ _ _) F.entry_str_split (DL _ _) (meets_str_split_sep z y t d5 ag aT bl co aP) ?_;show gC X ac aa Q _ { s with toks:=_,heap:=s.heap.push { cls:=.type "list",data:=.seq (strsFrom s.toks (partsBetween z (occurrences z y 0 z.length (z.length+1)) y.length)).toArray } };rw[strsFrom_eq];exact fin (numbered s.toks _) _ ((numbered_texts _ _).trans ((bP (DM ag)).trans (bP (DM bl))).symm)
  ·exact tn vw (tl _ _ _) F.entry_str_split (DL _ _) (meets_str_split_not_found z y t d5 ag aT bl)
    (fin [(z,t)] s.toks ((bP (DM ag)).trans (b8 bl)).symm)
 ·exact tn vw (tl _ _ _) F.entry_str_split (DL _ _) (meets_str_split_cannot_occur z y t d5 ag)
   (fin [(z,t)] s.toks (b8 ag).symm)
theorem K1:∀{ys us},b4 (ys.map V.str) us->StrsAre us ys
 |[],_,.nil=>.nil
 |y::ys,_,.cons r t3=>by
  obtain⟨t,rfl⟩:=r;exact .cons y t (K1 t3)
def tN:qR X "str.join" (λx xs H Q=>∃z p ys,x=.str z/\xs=[.ref p]/\bg X.K H p (ys.map V.str)/\(ys.map (·.length)).sum+ys.length*z.length<=16777216/\Q (.str (Txt.join z ys)) H):=by
 intro ac s aa H x xs v us Q J a0 eD h;obtain⟨z,p,ys,rfl,rfl,aD,bA,q⟩:=h;obtain⟨t,rfl⟩:=a0;obtain⟨u,rfl,fc⟩:=vals1 eD;cases fc;obtain⟨aL,r,pl,hz⟩:=J.list aD;exact join_list pl.isList (by simpa using K1 r) bA λt' k=>⟨.str _,H,J.tok _,⟨_,I⟩,q⟩
def qU:eX X (binaryOp .Mult) (λx y H Q=>∃z n,x=.str z/\y=.int n/\0<=n/\n<=4096/\z.length<=4095/\Q (.str (Txt.mul z n)) H):=by
 intro ac s aa H x y v u Q J a0 bj h;obtain⟨z,n,rfl,rfl,cd,ag,ae,q⟩:=h;obtain⟨t,rfl⟩:=a0;obtain⟨t',rfl⟩:=bj;refine SB.mul ⟨?_,λ_ _=>?_,λ_ _=>?_⟩ λt' k=>⟨.str _,H,J.tok _,⟨_,I⟩,q⟩
 ·have am:decide (n < -(2 ^ 63:Int))=false:=ew co;have aE:decide (n≥2 ^ 63)=false:=ew co;rw[am,aE];rfl
 ·by_cases aP:n=0
  ·subst aP;omega
  ·have:(2 ^ 63 - 1:Int) / n≥4096:=by
    refine(Int.le_ediv_iff_mul_le co).mpr ?_;omega
   omega
 ·have aQ:z.length*n.toNat<=4095*4096:=Nat.mul_le_mul ae co;unfold tooLong;exact ew (by rw[jH];omega)
def K2:eX X (compareOp .LtE) (λx y H Q=>∃i j,x=.str i/\y=.str j/\Q (.aM (!decide (j.cps.toList < i.cps.toList))) H):=by
 intro ac s aa H x y v u Q J a0 bj h;obtain⟨i,j,rfl,rfl,q⟩:=h;obtain⟨t,rfl⟩:=a0;obtain⟨t',rfl⟩:=bj;exact PySem.P.le_str ⟨.aM _,H,J,I,q⟩
def Rv:kc X (.type "int") (λxs H Q=>∃z n,xs=[.str z]/\PySem.intText? z=some n/\z.length<=640/\Q (.int n) H):=by
 intro ac s aa H xs us Q J r h;obtain⟨z,n,rfl,aP,au,q⟩:=h;obtain⟨u,rfl,t,rfl⟩:=vals1 r;exact PySem.W.KIN.call_text aP au ⟨.int _,H,J.tok _,⟨_,I⟩,q⟩
end
end L2
namespace PySem
section
variable {prog:Program}{w:World}{A:Around}{E:Value->Shared->Prop}{R:Result->Shared->Prop}{s:Shared}
def Rw {ir target iter scope pos bV gJ env}(J:Nat->Shared->Prop)
  (o6:∀n s,J n s->wpAny (model prog w) A (pyNext bV) (λr dn=>match r with
   |none=>R (.ok .next) dn
   |some v=>wpAny (model prog w) A (letOwnedTupleGo target bV v) (λ_ la=>wpAny (model prog w) A (assign target env v) (λ_ qe=>wpAny (model prog w) A (eval ir env) (λx rp=>wpAny (model prog w) A (call (.builtin "list.append") [gJ,x]) (λ_ zm=>∃m,m < n/\J m zm) (notedBy (model prog w) A env λe s'=>R (.error e) s') rp) (notedBy (model prog w) A env λe s'=>R (.error e) s') qe) (notedBy (model prog w) A env λe s'=>R (.error e) s') la) (notedBy (model prog w) A env λe s'=>R (.error e) s') dn) (notedBy (model prog w) A env λe s'=>R (.error e) s') s)
  (n:Nat) (h:J n s):
  codeAny (model prog w) A (.compLoop (.ListComp ir [⟨target,iter,[],0⟩] scope pos) 0 bV gJ env) R s:=by
 refine codeAny_loop rfl J (λn s kK=>?_) n h;show wpAny _ A ((compTurn (.ListComp ir [⟨target,iter,[],0⟩] scope pos) 0 bV gJ env).onRaise (λx=>do noteFrame x env;theTreesLotGoes x)) _ _ s;refine wpAny_noted ?_;rw[compTurn_list];refine a4 (rP (a4 (fL (o6 n s kK) (λr dn jW=>?_) λ_ _ h'=>h')));cases r with
 |none=>exact b3 jW
 |some v=>
  refine a4 (fL jW (λ_ la uJ=>a4 (fL uJ (λ_ qe zn=>?_) λ_ _ h'=>h')) λ_ _ h'=>h');refine a4 (wpAny_tests_nil ?_);exact a4 (a4 (fL zn (λx rp sM=>a4 (fL sM (λ_ zm Hd=>b3 (b3 ⟨I,Hd⟩)) λ_ _ h'=>h')) λ_ _ h'=>h'))
end
end PySem
namespace L2
open PySem PySem.Spec PyProof.Rows PySem.Builtin PySem.Builtin.Str
def A0 (x:Str):lF:=⟨λi _=>i < x.cps.size,λi H v Z=>Z=H/\∃c,x.cps[i]?=some c/\v=.str ⟨#[c]⟩,λi _=>x.cps.size<=i⟩
theorem Rx {P w K cU} (bV x t):Turn P w K cU (A0 x) [bV] bV (λi h=>h.IsStrIter bV "str_ascii_iterator" x t i) where
 mem:=by simp
 obj:=λi h st b af=>by
  have e:b=bV:=by simpa using af
  subst e;obtain⟨o,e,c,d⟩:=st;exact⟨o,e,λv z=>by rw[d] at z;cases z⟩
 keep:=λi h h' st k=>let ⟨o,a',r⟩:=st;⟨o,k bV bZ o a',r⟩
 item:=by
  intro X gp ay gG aw i ac s aa H E J bl st a1;subst gp ay gG;have rq:i < x.cps.size:=a1;obtain⟨gU,f1,f2,dy,hf,hj⟩:=bl bV bZ;refine wpAny_pyNext_ascii_item st (c:=x.cps[i]) (by simp[rq]) λh' kH iZ=>?_;have a6:Inv X ac aa H { s with heap:=h',toks:=s.toks+1 }:=J.turned (λb o af e=>(iZ.2 b af).trans e) gU f1 dy hf hj;obtain⟨o,e,c,d⟩:=id kH;exact⟨_,I,vN (s:={ s with heap:=h',toks:=s.toks+1 }) e c d dU ⟨.str ⟨#[x.cps[i]]⟩,H,a6,⟨_,I⟩,⟨I,x.cps[i],by simp[rq],I⟩,kH,λb af=>(bl b af).1⟩⟩
 done:=by
  intro X gp ay gG aw i ac s aa H E J bl st a1;subst gp ay gG;have rq:x.cps.size<=i:=a1;obtain⟨gU,f1,f2,dy,hf,hj⟩:=bl bV bZ;exact wpAny_pyNext_ascii_end (J.ok.hd aw) st (by simp[rq]) λh' gH=>⟨I,J.turned (t':=s.toks) (λb o af e=>gH b o af e) gU f1 dy hf hj⟩
 self:=λ_ _ _ _ _ st h=>wpAny_pyIter_striter_ascii st h
theorem Ry {P w K cU} (bV x t):Turn P w K cU (A0 x) [bV] bV (λi h=>h.IsStrIter bV "str_iterator" x t i) where
 mem:=by simp
 obj:=λi h st b af=>by
  have e:b=bV:=by simpa using af
  subst e;obtain⟨o,e,c,d⟩:=st;exact⟨o,e,λv z=>by rw[d] at z;cases z⟩
 keep:=λi h h' st k=>let ⟨o,a',r⟩:=st;⟨o,k bV bZ o a',r⟩
 item:=by
  intro X gp ay gG aw i ac s aa H E J bl st a1;subst gp ay gG;have rq:i < x.cps.size:=a1;obtain⟨gU,f1,f2,dy,hf,hj⟩:=bl bV bZ;refine wpAny_pyNext_wide_item st (c:=x.cps[i]) (by simp[rq]) λh' kH iZ=>?_;have a6:Inv X ac aa H { s with heap:=h',toks:=s.toks+1 }:=J.turned (λb o af e=>(iZ.2 b af).trans e) gU f1 dy hf hj;obtain⟨o,e,c,d⟩:=id kH;exact⟨_,I,vN (s:={ s with heap:=h',toks:=s.toks+1 }) e c d dU ⟨.str ⟨#[x.cps[i]]⟩,H,a6,⟨_,I⟩,⟨I,x.cps[i],by simp[rq],I⟩,kH,λb af=>(bl b af).1⟩⟩
 done:=by
  intro X gp ay gG aw i ac s aa H E J bl st a1;subst gp ay gG;have rq:x.cps.size<=i:=a1;obtain⟨gU,f1,f2,dy,hf,hj⟩:=bl bV bZ;exact wpAny_pyNext_wide_end (J.ok.hd aw) st (by simp[rq]) λh' gH=>⟨I,J.turned (t':=s.toks) (λb o af e=>gH b o af e) gU f1 dy hf hj⟩
 self:=λ_ _ _ _ _ st h=>wpAny_pyIter_striter_wide st h
section
variable {X:a8}{cU:Expr}
def K3 (hk:TE):TI:=λaa H R=>hk aa H λx ai=>∃z,x=.str z/\R (A0 z) ai
def qV {l hk}(au:bU X l hk):mn X cU l (K3 hk):=by
 intro ac s aa H R J h;refine bW (au ac s aa H _ J h) λv az aD=>?_;obtain⟨x,ai,a6,bR,aZ⟩:=aD;obtain⟨z,e,q⟩:=aZ;subst e;obtain⟨t,rfl⟩:=bR;have fr:∀b∈[az.hz],kY X ac ai b:=λb af=>by
  have e:b=az.hz:=by simpa using af
  subst e;exact a6.tD (bf _) (a6.bA.fresh (bf _))
 cases aq:z.cps.all (· < 128)
 ·exact wpAny_pyIter_wide aq ⟨az.hz,[az.hz],_,_,ai,I,a6.kept (t':=az.toks) λb o e=>ej _ e,Ry _ z t,⟨_,hN _ I,I,I⟩,fr,q⟩
 ·exact wpAny_pyIter_ascii aq ⟨az.hz,[az.hz],_,_,ai,I,a6.kept (t':=az.toks) λb o e=>ej _ e,Rx _ z t,⟨_,hN _ I,I,I⟩,fr,q⟩
end
def hr (X:a8) (scope:Scope) (cl:List (Str×Addr)) (C:Addr) (Xe:dH) (s0:Shared) (aI:ap) (fp:gd):a8:=
 { X with N:=Xe,fZ:=s0,H₀:=aI,env:=compEnvC scope cl C X.env,outer:=X.stack,stack:=X.stack,ex:=fp,fn:=λ_=>false,ia:=[],cR:=λ_ _=>False }
def K4 (js:bh) (bw:TE) (aa:St) (Q:bz) (cc:lF) (ai:ap):Prop:=∃vs:br,(vs.length=js.length/\∀(j i:Nat),js[j]?=some i->∃v,vs[j]?=some v/\aa[i]?=some (some v))/\
 ∀D,ai D=none->∃W:Nat->Nat->br->ap->Prop,(∃m,W 0 m [] (upd ai D (.lst [])))/\∀i m ys H,W i m ys H->
  (cc.stop i H/\Q (.ref D) H)\/(cc.go i H/\∀x Z,cc.pN i H x Z->bw (some x::vs.map some) Z λv aB=>aB D=some (.lst ys)/\ys.length < sizeLine/\∃c8,c8 < m/\W (i+1) c8 (ys++[v]) (upd aB D (.lst (ys++[v]))))
def Rz (js:bh) (f0:TI) (bw:TE):TE:=λaa H Q=>f0 aa H (K4 js bw aa Q)
structure EF (X:a8) (scope:Scope) (cl:List (Str×Addr)) (x:Str) (Nf:dH) (js:bh):Prop where
 EG:closureFor scope X.env=pure cl
 cell:∀y∈scope.names,y.2≠.cell
 kind:scope.kind=.function
 names:∀y∈scope.names,y.2=.local->scope.names.lookup y.1=some .local
 ak:scope.names.lookup x=some .local
 sub:∀y c,cl.lookup y=some c->X.env.cells.lookup y=some c
 has:∀y,((relabel scope X.env).names.lookup y=some .cell\/(relabel scope X.env).names.lookup y=some .free)->∃c,cl.lookup y=some c
 bp:(x::Nf).Nodup
 len:js.length=Nf.length
 frees:∀(j:Nat) y,Nf[j]?=some y->∃i,js[j]?=some i/\X.N[i]?=some y/\X.env.scope.names.lookup y=some .cell/\((relabel scope X.env).names.lookup y=some .cell\/(relabel scope X.env).names.lookup y=some .free)
section
variable {X:a8}
def RA {ac:eU}{aa:St}{H:ap}{s:Shared}{scope:Scope}{cl:List (Str×Addr)}{x:Str}{Nf:dH}{js:bh}{vs:br}{fp:gd}{ag:Heap}{cS:Nat}{m:Str->cn}(K:EF X scope cl x Nf js) (J:Inv X ac aa H s) (rr:vs.length=js.length) (pc:∀(j i:Nat),js[j]?=some i->∃v,vs[j]?=some v/\aa[i]?=some (some v)) (bl:∀b∈fp,kY X ac H b) (cM:∀b∈fp,b < s.hz) (ns:ag.Ns s.hz m) (keep:∀b o,s.heap.get? b=some o->ag.get? b=some o):Inv (hr X scope cl s.hz (x::Nf) s H fp) [] (none::vs.map some) H { s with heap:=ag,toks:=cS }:=by
 refine⟨⟨J.ok.mod,K.kind,J.ok.glob,J.ok.blt,bf _,λy z c am aE=>J.ok.inj y z c (K.sub y c am) (K.sub z c aE),λy aT=>K.has y aT,λy c e _=>(Bool.noConfusion (show false=true from e)),J.ok.hd,J.ok.frames,.inl I,
  λb af=>⟨fw (cM b af),λy c e=>(bl b af).2.2.2.2.1 y c (K.sub y c e)⟩,J.bs,dW J.ok.ly J.oE,λb o e af=>?_,λb af z=>?_,J.stack,J.xV⟩,
  rfl,J.bare,ha.kept keep,⟨m,ns,λi y v am aE bq=>?_⟩,λy c e=>?_,J.bA.fresh (bf _),λy c e=>J.j8 y c (K.sub y c e),λp ar=>absurd (show p∈([]:eU) from ar) bZ,J.bA.kept keep,?_⟩
 ·rcases(bl b af).2.2.2.1 with z|z
  ·exact J.ok.qK b o e z
  ·exact absurd (eG (di e) (dW J.ok.ly z)) (j5 _)
 ·rcases gZ.mp (J.vI b z) with e|e
  ·exact(bl b af).2.1 e
  ·exact(bl b af).2.2.1 e
 ·cases i with
  |zero=>simp at aE
  |succ j=>
   have zo:Nf[j]?=some y:=am;obtain⟨nc,c',dx,aU,al⟩:=K.frees j y zo;obtain⟨gl,fo,ko⟩:=pc j nc c';have fd:v=gl:=by
    have uK:(vs.map some)[j]?=some (some v):=aE;rw[rS,fo] at uK
    simpa using uK.symm
   subst fd;obtain⟨lc,uL,au⟩:=J.loc;obtain⟨u,r,l⟩:=au nc y v dx ko (.inr (.inl aU));refine⟨u,r,?_⟩;rcases l with ⟨eJ,_⟩|⟨_,c,aw,o,a',hd⟩
   ·have zp:X.env.scope.names.lookup y=some .local:=eJ;rw[aU] at zp;cases zp
   ·obtain⟨dF,n3⟩:=K.has y al;have h4:=K.sub y dF n3;rw[aw] at h4;cases h4;exact .inr ⟨al,c,n3,o,keep c o a',hd⟩
 ·obtain⟨v,o,a',hd⟩:=J.cell y c (K.sub y c e);exact⟨v,o,keep c o a',hd⟩
 ·show(none::vs.map some).length=(x::Nf).length;rw[en,en,eV,rr,K.len]
def vX {ir iter x bN pos scope cl Nf}{js:bh} {f0 bw}(K:EF X scope cl x Nf js) (aw:X.calm=true) (aR:mn X (.Name x bN) iter f0) (he:∀C s0 aI fp,bU (hr X scope cl C (x::Nf) s0 aI fp) ir bw) (ax:autoParam (∀x,foldedSetIterable iter X.env x=pure x) Tm):bU X (.ListComp ir [⟨.Name x bN,iter,[],0⟩] scope pos) (Rz js f0 bw):=by
 intro ac s aa H Q J h;rw[eval_ListComp];refine wpAny_comprehension_free (use:=none) rfl ax K.EG K.kind K.names (bW (aR ac s aa H _ J h) λv az ag=>bW ag λCh aN ae=>?_);obtain⟨bV,fp,iL,cc,aB,e,ci,T,rj,f2,vs,⟨rr,pc⟩,eE⟩:=ae;subst e;have dh:aB aN.hz=none:=ci.bA.fresh (bf _);obtain⟨W,⟨lc,ut⟩,o6⟩:=eE aN.hz dh;have sN:∀b∈fp,b < aN.hz:=λb af=>let ⟨o,e,_⟩:=T.obj _ _ rj b af;di e;refine rT (wpAny_newFunctionEnv K.cell (by intro y aT;simp at aT) (λjW rs rt=>?_) K.kind);dsimp only at rs rt⊢;generalize zq:aN.heap.push { cls:=.type "list",dict:=none,data:=.seq ([]:e3).toArray }=P3 at rs rt⊢;obtain⟨a2,mH⟩:∃a2:Shared,a2={ aN with heap:=P3 }:=⟨_,I⟩;have zr:P3=a2.heap:=by rw[mH]
 rw[zr] at rs rt⊢;have eM:Inv X ac aa (upd aB aN.hz (.lst [])) a2:=by
  rw[mH,<-zq];exact ci.laid (t':=aN.toks) (λb u e=>ej _ e) (bf _) ⟨fN _,[],0,.nil,hN _ I⟩
 have He:∀b o,aN.heap.get? b=some o->a2.heap.get? b=some o:=λb o e=>by rw[<-zr,<-zq];exact ej _ e
 have dy:∀b∈fp,kY X ac (upd aB aN.hz (.lst [])) b:=λb af=>⟨by rw[cj (fw (sN b af))];exact(f2 b af).1,(f2 b af).2⟩;have sn:iL 0 a2.heap:=T.keep _ _ _ rj λb af o e=>He b o e;have zt:∀b∈fp,b < a2.hz:=λb af=>let ⟨o,e,_⟩:=T.obj _ _ sn b af;di e;have zu:∀b o,a2.heap.get? b=some o->jW.get? b=some o:=λb o e=>rt.extBut b o (fw (di e)) (ej _ e);have zv:iL 0 jW:=T.keep _ _ _ sn λb af o e=>zu b o e;have v4:∀b∈fp,upd aB aN.hz (.lst []) b=none:=λb af=>(dy b af).1;have o8:∀{Z:ap},(∀b∈fp,Z b=none)->∀b∈fp,kY (hr X scope cl a2.hz (x::Nf) a2 (upd aB aN.hz (.lst [])) fp) [] Z b:=λ{Z} aP b af=>by
  refine⟨aP b af,fw (zt b af),λz=>?_,.inl af,λy c e=>(dy b af).2.2.2.2.1 y c (K.sub y c e),λp ar=>absurd (show p∈([]:eU) from ar) bZ⟩;rcases gZ.mp (eM.vI b z) with e|e
  ·exact(dy b af).2.1 e
  ·exact(dy b af).2.2.1 e
 have fin:∀{σ':St}{Z:ap}{s':Shared},Inv (hr X scope cl a2.hz (x::Nf) a2 (upd aB aN.hz (.lst [])) fp) [] σ' Z s'->Q (.ref aN.hz) Z->
   compPost (model X.prog X.w) X.A X.cR none (gC X ac aa Q) (.ref aN.hz) a2.hz (.ok .next) s':=λ{σ' Z s'} cc q=>by
  obtain⟨m,aP,_⟩:=cc.loc;refine⟨m,aP,λh' mI=>⟨.ref aN.hz,Z,?_,I,q⟩⟩;have ne:∀b o,a2.heap.get? b=some o->b≠a2.hz:=λb o e=>fw (di e);have zw:∀b u,Z b=some u->b≠a2.hz:=λb u e z=>by
   have f:=cc.free;rw[z] at e;have Hf:Z a2.hz=none:=f;rw[Hf] at e;cases e
  have B:=cc.base;refine eM.vJ (ch:=fp) (s':={ s' with heap:=h' }) cc.os ?_ (λb u e=>(cc.bA b u e).nG (λc v aw q=>mI.extBut c v ?_ q) (λ_ q=>q) λ_ _ q=>q) cc.bare λb af=>⟨(dy b af).2.2.2.1,(dy b af).2.1,(dy b af).2.2.2.2.1,(dy b af).2.2.2.2.2⟩
  ·exact⟨λb o e n af ak=>mI.extBut b o (ne b o e) (B.keep b o e n af ak),λb o e n af ak=>let ⟨sl,z⟩:=B.slot b o e n af ak;⟨sl,mI.extBut b _ (ne b o e) z⟩,λb o e n ak=>B.free b o e n ak,
    λb o e ak=>let ⟨c0,z⟩:=B.there b o e ak;⟨c0,mI.extBut b _ (ne b o e) z⟩,B.ml,B.lx,B.mm⟩
  ·rcases aw with z|z
   ·rw[z];exact zw b u e
   ·exact zw c _ z
 have loop:∀dp:Shared,dp={ a2 with heap:=jW,toks:=a2.toks+([]:List (Str×Value)).length }->
   codeAny (model X.prog X.w) X.A (.compLoop (.ListComp ir [⟨.Name x bN,iter,[],0⟩] scope pos) 0 (.ref bV) (.ref aN.hz) (compEnvC scope cl a2.hz X.env))
    (compPost (model X.prog X.w) X.A X.cR none (gC X ac aa Q) (.ref aN.hz) a2.hz) dp:=by
  rintro dp rfl;have lw:=RA (x:=x) (cS:=a2.toks+([]:List (Str×Value)).length) K eM rr pc dy zt rs zu;refine Rw (λn s'=>∃i fq ys Z,Inv (hr X scope cl a2.hz (x::Nf) a2 (upd aB aN.hz (.lst [])) fp) [] (fq::vs.map some) Z s'/\iL i s'.heap/\(∀b∈fp,Z b=none)/\W i n ys Z) ?_ lc ⟨0,none,[],_,lw,zv,v4,ut⟩;rintro n dq ⟨i,fq,ys,dS,n5,rk,uE,lh⟩;rcases o6 i n ys dS lh with ⟨stop,ss⟩|⟨go,step⟩
  ·refine fL (T.done (hr X scope cl a2.hz (x::Nf) a2 (upd aB aN.hz (.lst [])) fp) I I I aw i [] dq _ dS _ n5 (o8 uE) rk stop) (λr na aD=>?_) λ_ _ z=>z;obtain⟨al,sw⟩:=aD;subst al;exact fin sw ss
  ·refine fL (T.item (hr X scope cl a2.hz (x::Nf) a2 (upd aB aN.hz (.lst [])) fp) I I I aw i [] dq _ dS _ n5 (o8 uE) rk go) (λr na aD=>?_) λ_ _ z=>z;obtain⟨u,al,dZ⟩:=aD;subst al;refine fL dZ (λ_ iM aD=>?_) λ_ _ z=>z;obtain⟨lT,fV,kI,wf,Hg,uM,Hh⟩:=aD;have Hi:=kI.pinned (o8 Hh) (T.obj _ _ uM);have qf:(relabel scope X.env).names.lookup x=some .local:=lookup_relabel_local K.ak;refine fL (qN (X:=hr X scope cl a2.hz (x::Nf) a2 (upd aB aN.hz (.lst [])) fp) (pos:=bN) (i:=0) K.bp I (.inl qf) (.inr qf) _ iM _ fV lT u (λσ' Z=>σ'=some lT::vs.map some/\bw σ' Z _) Hi wf ⟨I,step lT fV Hg⟩)
    (λ_ lZ ⟨Xf,nd,zx,mJ,Hj⟩=>?_) λ_ _ z=>False.elim z
   subst mJ;refine fL (he a2.hz a2 _ fp _ lZ _ nd _ zx Hj) (λru oc aD=>?_) λ_ _ z=>False.elim z;obtain⟨v,mK,Hk,Hl,Hm,Hn,c8,uN,uO⟩:=aD;refine fL (oK (X:=hr X scope cl a2.hz (x::Nf) a2 (upd aB aN.hz (.lst [])) fp) _ oc _ mK (.ref aN.hz) [v] (.ref aN.hz) [ru] (λ_ Z=>Z=upd mK aN.hz (.lst (ys++[v]))) Hk I (.cons Hl .nil) ⟨_,ys,v,I,I,Hm,Hn,I⟩)
    (λ_ wp ⟨_,sO,rv,_,Ho⟩=>?_) λ_ _ z=>False.elim z
   subst Ho;refine⟨c8,uN,i+1,some lT,ys++[v],_,rv.xZ,T.keep _ _ _ uM λb af o e=>(rv.pin (b,o) (kQ _ (kQ _ (vP af e)))).1,λb af=>?_,uO⟩;obtain⟨o,e,d⟩:=T.obj _ _ uM b af;exact(rv.pin (b,o) (kQ _ (kQ _ (vP af e)))).2.1
 have bX:({ aN with heap:=jW,toks:=aN.toks+([]:List (Str×Value)).length }:Shared)={ a2 with heap:=jW,toks:=a2.toks+([]:List (Str×Value)).length }:=by rw[mH]
 rw[bX];exact codeAny_compStart_list (loop _ I) (T.self _ 0 _ _ _ zv (loop _ I))
end
end L2
namespace L2
open PySem PySem.Spec PyProof.Rows PySem.Builtin PySem.Builtin.Str
section
variable {X:a8}
theorem K5:∀{bs:List Bool}{us:e3},b4 (bs.map V.aM) us->us=bs.map Value.bool
 |[],_,.nil=>rfl
 |b::bs,_,.cons r t3=>by
  have e:_=Value.bool b:=r;rw[e,K5 t3];rfl
def RB (bs:List Bool):(List.range bs.length).all (λj=>(bs[j]?).getD true)=bs.all id:=by
 rw[mR,eW,eW];constructor
 ·intro h x ak;obtain⟨i,aR,rfl⟩:=List.mem_iff_getElem.mp ak;have:=h i (oA.mpr aR)
  simpa[aR] using this
 ·intro h j c';have wr:=oA.mp c';have:=h _ (Ax wr)
  simpa[wr] using this
def EH (aw:X.calm=true):kc X (.builtin "all") (λxs H Q=>∃(p:Addr) (bs:List Bool),xs=[.ref p]/\bg X.K H p (bs.map V.aM)/\Q (.aM (bs.all id)) H):=by
 intro ac s aa H xs us Q J r h;obtain⟨p,bs,rfl,aD,q⟩:=h;obtain⟨u,rfl,fc⟩:=vals1 r;cases fc;obtain⟨aL,cI,pl,hz⟩:=J.list aD;have zy:=K5 cI;subst zy;have hpl:p < s.hz:=let ⟨o,n,e,_⟩:=pl;di e;refine call_all_walk (Ak pl.isList ?_);refine⟨s.hz,[s.hz,p],[s.hz],(bs.map Value.bool).toArray.size,_,_,(λj=>(bs[j]?).getD true),I,Walks.list (A:=X.A.in1) (J.ok.hd aw) _ p (fw hpl) (bs.map Value.bool).toArray,⟨⟨_,hN _ I,I,I⟩,?_⟩,λi v s' iJ pd gp Xg=>?_,λh' cS k=>?_⟩
 ·obtain⟨o,a',r⟩:=pl.isList;exact⟨o,ej _ a',r⟩
 ·have zz:(bs.map Value.bool)[i]?=some v:=by simpa using gp
  rw[rS] at zz;cases e:bs[i]? with
  |none=>rw[e] at zz;cases zz
  |some b=>
   rw[e] at zz;have db:Value.bool b=v:=by simpa using zz
   subst db;have Xh:iJ b s':=by simpa[e] using Xg
   exact ti Xh
 ·have am:(bs.map Value.bool).toArray.size=bs.length:=by simp
  rw[am,RB bs];refine⟨.aM _,H,J.kept λb o e=>k b o ?_ (ej _ e),I,q⟩;intro aQ;exact fw (di e) (kv.mp aQ)
def EI:kc X (.builtin "isinstance") (λxs H Q=>∃x T t b,xs=[x,.ty T]/\mr X.K H x t/\PySem.W.kitOne X.K t (.type T)=some b/\Q (.aM b) H):=by
 intro ac s aa H xs us Q J r h;obtain⟨x,T,t,b,rfl,ty,aU,q⟩:=h;obtain⟨u,jT,rfl,bR,dL⟩:=vals2 r;cases dL;exact QR J bR ty aU λcS=>⟨.aM b,H,J.tok _,I,q⟩
def Inv.RC {ac aa H s}(J:Inv X ac aa H s):sysModules < s.hz:=by
 have h:mainGlobals < s.hz:=(J.mod.glob.keeps J.j9).lt;exact Nat.lt_trans dU h
def RD {P w H}(h:Heap) (af:sysModules < h.objs.size):gB P w H (h.push { cls:=.type "dict",data:=.dict #[] }) h.objs.size (.iV []):=
 ⟨fN _,h8.mpr (d0 (fw af)),[],.nil,Heap.DictOf.new h⟩
end
def Inv.RE {X:a8}{ac:eU}{aa:St}{H:ap}{s:Shared}{fp:gd}{T:Addr}{o:jJ}{h':Heap}{t':Nat}(J:Inv X ac aa H s) (k:∀b u,b∉fp->s.heap.get? b=some u->h'.get? b=some u) (bl:∀b∈fp,kY X ac H b) (de:s.hz<=T) (new:gB X.prog X.w (upd H T o) h' T o):Inv X ac aa (upd H T o) { s with heap:=h',toks:=t' }:=by
 have aP:=J.bA.fresh de;have o0:∀b u,H b=some u->b∉fp:=λb u e af=>by rw[(bl b af).1] at e;cases e
 refine J.vJ (ch:=fp) (s':={ s with heap:=h',toks:=t' }) rfl ⟨λb o q _ _ ak=>k b o ak q,λb o q _ _ ak=>⟨o.slots,k b o ak q⟩,λb u q n _=>?_,λb o q ak=>⟨o,k b o ak q⟩,λb xs q=>?_,λb u xs q=>?_,λb aG q=>⟨#[],?_⟩⟩ ?_ J.bare
  λb af=>⟨(bl b af).2.2.2.1,(bl b af).2.1,(bl b af).2.2.2.2.1,(bl b af).2.2.2.2.2⟩
 ·rw[cj (fw (eG (di q) de))];exact n
 ·rw[cj (mW q aP)];exact q
 ·rw[cj (mW q aP)];exact q
 ·rw[cj (mW q aP),q];simp
 ·intro b u e;by_cases af:b=T
  ·subst af;rw[b'] at e;cases e;exact new
  ·rw[cj af] at e;refine(J.bA b u e).nG (λc v aw q=>k c v ?_ q) (λc q=>by rw[cj (mW q aP)];exact q) λc xs q=>by rw[cj (mW q aP)];exact q
   rcases aw with z|z
   ·rw[z];exact o0 b u e
   ·exact o0 c _ z
def x' (K:aJ) (a:Addr):lF:=
 ⟨λi H=>∃xs x,bg K H a xs/\xs[i]?=some x,λi H x Z=>∃T y,H T=none/\x=.ref T/\Z=upd H T (.tup [.int (i:Nat),y])/\∀xs,bg K H a xs->xs[i]?=some y,λi H=>∃xs,bg K H a xs/\xs.length<=i⟩
theorem RF {P w K vY}{n7:Nat} {pos}(a e bV:Addr) (Oh:e≠bV):Turn P w K (.Tuple vY n7 pos) (x' K a) [e,bV] e (λi h=>(∃old,IsEnum h e bV i old)/\h.IsListIter bV a i) where
 mem:=by simp
 obj:=λi h st b af=>by
  obtain⟨⟨old,he⟩,hit⟩:=st;rcases gZ.mp af with rfl|af
  ·exact⟨_,he,λv z=>by cases z⟩
  ·have gH:b=bV:=by simpa using af
   subst gH;obtain⟨o,e,c,d⟩:=hit;exact⟨o,e,λv z=>by rw[d] at z;cases z⟩
 keep:=λi h h' st k=>by
  obtain⟨⟨old,he⟩,hit⟩:=st;exact⟨⟨old,k e bZ _ he⟩,hit.at λo z=>k bV bZ o z⟩
 item:=by
  intro X gp ay gG aw i ac s aa H E J bl st a1;subst gp ay gG;obtain⟨⟨old,he⟩,hit⟩:=st;obtain⟨xs,x,aD,ak⟩:=a1;obtain⟨aL,cI,p,hz⟩:=J.list aD;obtain⟨u,bY,fc⟩:=cI.get ak;have Oi:e < s.hz:=di he;have Xi:bV < s.hz:=by obtain⟨_,z,_⟩:=hit;exact di z
  refine wpAny_pyNext_enum_item he hit p.isList (x:=u) (by simpa using bY) Oh λag Xj Xk Hp abL Xl=>?_;refine⟨_,I,wpAny_letOwnedTupleGo_enum Xj λae Xm gq=>?_⟩;have Hq:ae.get? s.hz=some { cls:=.type "tuple",data:=.seq #[.int i s.toks,u] }:=(gq.2 _ (xE Oi)).trans Hp;refine⟨.ref s.hz,upd H s.hz (.tup [.int (i:Nat),x]),?_,I,⟨_,x,J.bA.fresh (bf _),I,I,λys aT=>by rw[J.D8 aT aD];exact ak⟩,⟨⟨_,by simpa using Xm⟩,Xk.at λo z=>(gq.2 bV Oh.symm).trans z⟩,λb af=>?_⟩
  ·refine Inv.RE (s:=s) (h':=ae) (fp:=[e,bV]) (t':=s.toks+1) J (λb o af q=>?_) bl (bf _) ⟨by show 2<=sizeLine;decide,_,.cons ⟨_,I⟩ (.cons fc .nil),⟨_,Hq,I,_,I⟩⟩;have Oj:b≠e:=λz=>af (by simp[z]);have zA:b≠bV:=λz=>af (by simp[z]);exact(gq.2 b Oj).trans (Xl b o Oj zA q)
  ·have cM:b < s.hz:=by
    rcases gZ.mp af with rfl|af
    ·exact Oi
    ·have gH:b=bV:=by simpa using af
     subst gH;exact Xi
   rw[cj (fw cM)];exact(bl b af).1
 done:=by
  intro X gp ay gG aw i ac s aa H E J bl st a1;subst gp ay gG;obtain⟨⟨old,he⟩,hit⟩:=st;obtain⟨xs,aD,ak⟩:=a1;obtain⟨aL,cI,p,hz⟩:=J.list aD;obtain⟨gU,f1,f2,dy,hf,hj⟩:=bl bV bZ;have au:=cI.length;exact wpAny_pyNext_enum_end (J.ok.hd aw) he hit p.isList (by simp;omega) λh' gH=>⟨I,J.turned (t':=s.toks) (λb o af e=>gH b o af e) gU f1 dy hf hj⟩
 self:=λ_ _ _ _ _ st h=>let ⟨⟨_,he⟩,_⟩:=st;wpAny_pyIter_enum he h
def RG:bootBuiltins "enumerate"=some (.type "enumerate"):=by decide +kernel
section
variable {X:a8}{vY:gY}{n7:Nat}{CF:Pos}
def RH (K:aJ) (bu:fi):TI:=λaa H R=>bu aa H λvs ai=>∃a,vs=[.ref a]/\(∃xs,bg K ai a xs)/\R (x' K a) ai
def RI {a bu p pos}(a1:eH X "enumerate") (aQ:X.mg "enumerate"=none) (aq:iX X [a] bu) (ax:autoParam (starEach [a] X.env=[(false,eval a X.env)]) dl):mn X (.Tuple vY n7 CF) (.Call (.Name "enumerate" p) [a] [] pos) (RH X.K bu):=by
 intro ac s aa H R J h;refine Call_ (tB J a1 aQ RG (Al (bW (aq pos ac s aa H _ J h) λus az aD=>?_) ax I));obtain⟨vs,ai,a6,bR,aZ⟩:=aD;obtain⟨l,e,⟨xs,aD⟩,q⟩:=aZ;subst e;obtain⟨u,rfl,fc⟩:=vals1 bR;cases fc;obtain⟨aL,cI,p,hz⟩:=a6.list aD;refine call_enumerate_list p.isList λh' he hit o' aU=>wpAny_pyIter_enum he ?_;refine⟨az.hz+1,[az.hz+1,az.hz],_,_,ai,I,a6.kept (t':=az.toks) aU,RF l _ _ (Nat.succ_ne_self _),⟨⟨_,he⟩,hit⟩,λb af=>?_,q⟩;have uP:az.hz<=b:=by
  rcases gZ.mp af with rfl|af
  ·exact mf _
  ·have gH:b=az.hz:=by simpa using af
   exact Ao gH.symm
 exact a6.tD uP (a6.bA.fresh uP)
end
def RJ {K:aJ}{a:Addr}{xs:br}{g:lE}{bH:gw}{D:Ends}{aa:St}{H:ap}(Pv:Nat->St->ap->Prop) (cd:Pv 0 aa H) (au:∀i aa H,i<=xs.length->Pv i aa H->bg K H a xs) (ax:∀i x aa H T,xs[i]?=some x->Pv i aa H->H T=none->g (.ref T) aa (upd H T (.tup [.int (i:Nat),x])) λip aB=>bH { D with c4:=Pv (i+1),b0:=Pv (i+1),j9:=D.c4 } ip aB) (hd:∀aa H,Pv xs.length aa H->D.c4 aa H):
  ∃W:Nat->Nat->St->ap->Prop,(∃m,W 0 m aa H)/\∀i m aa H,W i m aa H->
   ((x' K a).stop i H/\D.c4 aa H)\/((x' K a).go i H/\∃N:St->ap->Prop,(∀σ' Z,N σ' Z->∃c8,c8 < m/\W (i+1) c8 σ' Z)/\∀x Z,(x' K a).pN i H x Z->g x aa Z λip aB=>bH { D with c4:=N,b0:=N,j9:=D.c4 } ip aB):=by
 refine⟨λi m aa H=>m=xs.length - i/\i<=xs.length/\Pv i aa H,⟨xs.length,bZ,fN _,cd⟩,?_⟩;rintro i m aa H ⟨rfl,aR,p⟩;have q:=au i aa H aR p;by_cases cM:i < xs.length
 ·refine .inr ⟨⟨xs,xs[i],q,by simp[cM]⟩,Pv (i+1),λσ' Z av=>⟨xs.length - (i+1),co,I,cM,av⟩,λx Z y=>?_⟩;obtain⟨T,sP,de,rfl,rfl,aT⟩:=y;exact ax i sP aa _ T (aT xs q) p de
 ·have e:i=xs.length:=by omega
  subst e;exact .inl ⟨⟨xs,q,bf _⟩,hd aa H p⟩
section
variable {X:a8}
def RK:qR X "str.lstrip" (λx xs H Q=>∃z y,x=.str z/\xs=[.str y]/\z.length<=sizeLine/\Q (.str (Txt.lstripChars z y)) H):=by
 intro ac s aa H x xs v us Q J a0 eD h;obtain⟨z,y,rfl,rfl,hz,q⟩:=h;obtain⟨t,rfl⟩:=a0;obtain⟨u,rfl,d5,rfl⟩:=vals1 eD;exact SC.lstripChars (λ_ _=>⟨.str _,H,J.tok _,⟨_,I⟩,q⟩) hz
end
end L2
namespace GS
open PySem PySem.Builtin PySem.Builtin.Str
section
variable {P:Program}{w:World}{B:Around}{E:Value->Shared->Prop}{aa:Shared}
end
end GS
namespace GS
open PySem PySem.Builtin PySem.Builtin.Str
open AutoSeq1 (wpAny_loadPart')
section
variable {P:Program}{w:World}{B:Around}{E:Value->Shared->Prop}{aa:Shared}
end
end GS
namespace L2
open PySem PySem.Spec PyProof.Rows PySem.Builtin PySem.Builtin.Str GS
section
variable {P:Program}{w:World}{B:Around}{E:Value->Shared->Prop}{aa:Shared}
end
section
variable {X:a8}{vY:gY}{n7:Nat}{CF:Pos}
end
end L2
namespace GS
open PySem L2 PyProof.Rows
structure d7 (P:Program) (w:World) (K:aJ) (mg:Str->cn) (base:Heap) (name:Str) (aG:dH) (k:Nat) (sp:e6):Prop where
 ex:∃f as,mg name=some (.ref f)/\PySem.W.keepIn K (.ref f)=true/\Binds K as aG []/\bK P w K mg base dJ k f as aG sp
def k3 {X name aG k k' sp e aj t p pos}(F:d7 X.prog X.w X.K X.mg X.base name aG k sp) (al:dj k' X.A) (aU:k<=k') (a1:eH X name) (aq:iX X (e::aj) t) (eN:autoParam (e4 name) Cl) (he:autoParam (gi X e aj) dl) (hpl:autoParam (iW X pos aj) dl):bU X (.Call (.Name name p) (e::aj) [] pos) (r7 sp [] oL t):=by
 obtain⟨f,as,ag,ae,aW,bm⟩:=F.ex;exact Er (bm.mono aU) al a1 ag ae aW .nil AW aq eN he hpl
def EJ {X name aG k k' sp p pos}(F:d7 X.prog X.w X.K X.mg X.base name aG k sp) (al:dj k' X.A) (aU:k<=k') (a1:eH X name) (eN:autoParam (e4 name) Cl):bU X (.Call (.Name name p) [] [] pos) (r7 sp [] oL lH):=by
 obtain⟨f,as,ag,ae,aW,bm⟩:=F.ex;exact QV (bm.mono aU) al a1 ag ae aW .nil AW eN
def EK {P w K mg base name aG k sp st f as}(F:b5 K name name st f as) (aQ:mg name=some (.ref f)) (af:Binds K as aG []) (h:bK P w K mg base dJ k f as aG sp):d7 P w K mg base name aG k sp:=⟨f,as,aQ,F.cZ,af,h⟩
def A1 {X x z pos}(a1:eH X x) (aQ:∃t,X.mg x=some (.str z t)) (hd:autoParam (e4 x) Cl):bU X (.Name x pos) (jm (.str z)):=by
 obtain⟨t,e⟩:=aQ;exact iY a1 e ⟨t,I⟩ hd
def lJ {X x z pos}(a1:eH X x) (aQ:∃t,X.mg x=some (.int z t)) (hd:autoParam (e4 x) Cl):bU X (.Name x pos) (jm (.int z)):=by
 obtain⟨t,e⟩:=aQ;exact iY a1 e ⟨t,I⟩ hd
def qW (K:aJ) (mg:Str->cn) (x:Str) (xs:br):Prop:=∃p,mg x=some (.ref p)/\∀H,dI K H p xs
def K6 (K:aJ) (xs:br):TE:=λ_ H Q=>∀p,dI K H p xs->Q (.ref p) H
def qX {X x xs pos}(a1:eH X x) (aQ:qW X.K X.mg x xs) (hd:autoParam (e4 x) Cl):bU X (.Name x pos) (K6 X.K xs):=by
 obtain⟨p,e,ar⟩:=aQ;intro ac s aa H Q J h;exact iY (v:=.ref p) a1 e rfl hd ac s aa H Q J (h p (ar H))
def S (l:bh):Str:=⟨l.toArray⟩
def i1 (l):(S l).cps.toList=l:=by simp[S]
def EL (z):S z.cps.toList=z:=by cases z;simp[S]
def K7 {a b}(h:S a=S b):a=b:=by rw[<-i1 a,<-i1 b,h]
def ek (l):(S l).length=l.length:=by simp[S,Str.length]
def K8 (z:Str):z.length=z.cps.toList.length:=by simp[Str.length]
def abD (a b):decide (S a=S b)=(a == b):=by
 rw[mR];simp only[decide_eq_true_eq,beq_iff_eq];exact⟨K7,λh=>by rw[h]⟩
def pR (a b):(S a == S b)=(a == b):=by
 rw[mR];simp only[beq_iff_eq];exact⟨K7,λh=>by rw[h]⟩
def tP:Str:="abcdefghijklmnopqrstuvwxyzABCDEFGHIJKLMNOPQRSTUVWXYZ"
def tQ:Str:="0123456789"
def K9 (c):decide (c∈tP.cps.toList)=hC c:=by
 by_cases h:c < 128
 ·have:∀c,c < 128->decide (c∈tP.cps.toList)=hC c:=by decide +kernel
  exact this c h
 ·have e:hC c=false:=by
   unfold hC;simp only[Bool.or_eq_false_iff,Bool.and_eq_false_iff,decide_eq_false_iff_not];omega
  rw[e,decide_eq_false_iff_not];have:∀y∈tP.cps.toList,y < 128:=by decide +kernel
  exact λaQ=>h (this c aQ)
def K' (c):decide (c∈tQ.cps.toList)=ho c:=by
 by_cases h:c < 128
 ·have:∀c,c < 128->decide (c∈tQ.cps.toList)=ho c:=by decide +kernel
  exact this c h
 ·have e:ho c=false:=by
   unfold ho;simp only[Bool.and_eq_false_iff,decide_eq_false_iff_not];omega
  rw[e,decide_eq_false_iff_not];have:∀y∈tQ.cps.toList,y < 128:=by decide +kernel
  exact λaQ=>h (this c aQ)
def vZ (l:bh) (xs:List (bh)):e8 (.str (S l)) (xs.map λy=>V.str (S y))=xs.any λy=>y == l:=by
 unfold e8;rw[List.any_map];congr 1;funext y;exact pR y l
def v0 (xs:List (bh)):(xs.map λy=>V.str (S y)).all qS=true:=by
 rw[List.all_map,eW];exact λ_ _=>rfl
def cK {H p}(h:H p=none) (o):ba H (upd H p o):=λb u q=>by rw[cj (mW q h)];exact q
def EM {H Z p}(e:ba H Z) (h:H p=none) (o):ba H (upd Z p o):=λb u q=>by rw[cj (mW q h)];exact e b u q
def EN {X scope x}(n2:∀y∈scope.names,y.2≠.free) (za:∀y∈scope.names,y.2≠.cell) (GE:scope.kind=.function) (Xn:∀y∈scope.names,y.2=.local->scope.names.lookup y.1=some .local) (ak:scope.names.lookup x=some .local):EF X scope [] x [] []:=by
 have e:(relabel scope X.env).names=scope.names:=by
  show scope.names.map _=scope.names;refine map_eq_self λy aT=>?_;obtain⟨n,k⟩:=y;have:(k == NameKind.free)=false:=by simpa using n2 _ aT
  simp[this]
 refine⟨closureFor_none n2,za,GE,Xn,ak,(λ_ _ h=>by cases h),(λy aT=>?_),bZ,I,(λj y h=>by simp at h)⟩;rw[e] at aT;rcases aT with aT|aT
 ·exact absurd rfl (za _ (pA aT))
 ·exact absurd rfl (n2 _ (pA aT))
def RL {cc:lF}{bw:TE}{H:ap}{Q:bz}{vs:br}(n:Nat) (g:Nat->V) (aP:n<=1000000) (Xo:∀Z,cc.stop n Z) (Xp:∀i Z,i < n->cc.go i Z) (Hr:∀i x ai Z iJ,i < n->ba H ai->cc.pN i ai x Z->(∀hR,ba ai hR->iJ (g i) hR)->bw (some x::vs.map some) Z iJ) (q:∀D Z,H D=none->ba H Z->Z D=some (.lst ((List.range n).map g))->Q (.ref D) Z) (D:Addr) (dh:H D=none):∃W:Nat->Nat->br->ap->Prop,(∃m,W 0 m [] (upd H D (.lst [])))/\∀i m ys H,W i m ys H->(cc.stop i H/\Q (.ref D) H)\/(cc.go i H/\∀x Z,cc.pN i H x Z->bw (some x::vs.map some) Z λv aB=>aB D=some (.lst ys)/\ys.length < sizeLine/\∃c8,c8 < m/\W (i+1) c8 (ys++[v]) (upd aB D (.lst (ys++[v])))):=by
 refine⟨λi m ys Z=>m=n - i/\i<=n/\ys=(List.range i).map g/\Z D=some (.lst ys)/\ba H Z,⟨n,I,fN _,I,b',cK dh _⟩,?_⟩;rintro i m ys ai ⟨rfl,aR,rfl,ag,ae⟩;by_cases cM:i < n
 ·refine .inr ⟨Xp i ai cM,λx Z aT=>Hr i x ai Z _ cM ae aT λhR aW=>⟨aW D _ ag,?_,n - (i+1),co,I,cM,?_,b',EM (ae.trans aW) dh _⟩⟩
  ·rw[eV,List.length_range];exact eG cM (by rw[jH];omega)
  ·rw[List.range_succ,vx];rfl
 ·have e:i=n:=by omega
  subst e;exact .inl ⟨Xo ai,q D ai dh ae ag⟩
def RM (l:bh) (g:Nat->V):(List.range l.length).map (λi=>g (l.getD i 0))=l.map g:=by
 apply List.ext_getElem
 ·simp
 ·intro i ag ae;simp at ag ae;simp[List.getD,ae]
def EO {bw:TE}{aa:L2.St}{H:ap}{Q:bz}{z:Str}(g:Nat->V) (aP:z.length<=1000000) (Hr:∀c Z iJ,c∈z.cps.toList->ba H Z->(∀hR,ba Z hR->iJ (g c) hR)->bw [some (.str ⟨#[c]⟩)] Z iJ) (q:∀D Z,H D=none->ba H Z->Z D=some (.lst (z.cps.toList.map g))->Q (.ref D) Z):K4 [] bw aa Q (A0 z) H:=by
 refine⟨[],⟨I,λj i h=>by simp at h⟩,RL (vs:=[]) z.length (λi=>g (z.cps.toList.getD i 0)) aP (λ_=>bf _) (λi _ h=>h) (λi x ai Z iJ aR ax aT aD=>?_) λD Z dh ax au=>q D Z dh ax ?_⟩
 ·obtain⟨e,c,aw,ak⟩:=aT;subst e ak;have e:z.cps.toList.getD i 0=c:=by
   rw[mh];have:z.cps.toList[i]?=some c:=by simpa using aw
   rw[this];rfl
  rw[e] at aD;exact Hr c _ iJ (by
   have:z.cps.toList[i]?=some c:=by simpa using aw
   exact qE this) ax aD
 ·rw[au,K8 z];exact fM (λx=>some (jJ.lst x)) (RM _ g)
def small {n}(h:n<=1000000):n<=sizeLine:=by rw[jH];omega
def top (i:Nat):Stmt:=PySem.Challenge.pw_grassnake_k03_expressions.main.body.getD i (.Pass ⟨0,0,0,0⟩)
abbrev EP:Stmt:=top 53
abbrev EQ:Stmt:=top 54
abbrev ER:Stmt:=top 55
abbrev ES:Stmt:=top 56
abbrev ET:Stmt:=top 57
abbrev EU:Stmt:=top 58
abbrev EV:Stmt:=top 59
abbrev EW:Stmt:=top 60
abbrev EX:Stmt:=top 61
def EY:bootBuiltins "all"=some (.builtin "all"):=by decide +kernel
def v3:bootBuiltins "isinstance"=some (.builtin "isinstance"):=by decide +kernel
def nP:bootBuiltins "len"=some (.builtin "len"):=by decide +kernel
def La:bootBuiltins "repr"=some (.builtin "repr"):=by decide +kernel
def A2:bootBuiltins "str"=some (.type "str"):=by decide +kernel
def v5:bootBuiltins "int"=some (.type "int"):=by decide +kernel
structure pS (K:aJ) (mg:Str->cn):Prop where
 tP:∃t,mg "LETTERS"=some (.str tP t)
 tQ:∃t,mg "FIGURES"=some (.str tQ t)
 ee:qW K mg "TOLD_WORDS" (qH.map λy=>V.str (S y))
 short:qW K mg "SHORT_MARKS" (AH.map λy=>V.str (S y))
 long:qW K mg "LONG_MARKS" (pE.map λy=>V.str (S y))
 gx:∃t,mg "MOST_NAME_SIGNS"=some (.int 12 t)
 RN:∃t,mg "MOST_FIGURES"=some (.int 12 t)
 mt:∃t,mg "MOST_TEXT_SIGNS"=some (.int 40 t)
 EZ:mg "all"=none
 tR:mg "isinstance"=none
 jp:mg "len"=none
 Lb:mg "repr"=none
 A3:mg "str"=none
 v7:mg "int"=none
 nList:mg "list"=none
 abE:mg "bool"=none
 v8:mg "range"=none
def gR {b:Bool}{A B:Prop}(ag:b=true->A) (ae:b=false->B):if b=true then A else B:=by
 cases b with
 |true=>exact fz (ag I)
 |false=>exact dr (ae I)
def A4 (c:Nat) (t:bh):g0 (c::t)=(!ji (c::t)&&(decide ((c::t).length<=12)&&hC c)&&(c::t).all dk):=rfl
def RO (c:Nat) (t:bh):jj (c::t)=(decide ((c::t).length<=12)&&(c::t).all ho&&((c::t) == [48]||c != 48)):=rfl
def E0 (b:Bool) (c:Nat) (t:bh):kx b (c::t)=(decide (2<=(c::t).length)&&decide ((c::t).length<=42)&&(c == 34)&&((c::t).getLast? == some 34)&&(!b||(c::t).all inR)):=rfl
section
variable {P:Program}{w:World}{K:aJ}{mg:Str->cn}{base:Heap}{f:Addr}{as:FuncData}
def A5:e6:=λvs H Q _=>∃c,vs=[.str ⟨#[c]⟩]/\Q (.aM (dk c)) H
def RP:cE ["sign"] ["sign"] (bF EP):=⟨I,I,I,by decide +kernel,I,by decide +kernel,by decide +kernel⟩
def RQ (g:pS K mg) (F:b5 K "is_word_sign" "is_word_sign" EP f as):bK P w K mg base dJ 1 f as ["sign"] A5:=by
 refine F.ok RP (λvs H Q E h=>?_) (λbk A outer s H vs Q E al h=>?_)
 ·obtain⟨c,rfl,_⟩:=h;rfl
 obtain⟨c,rfl,q⟩:=h;refine⟨_,a9 (bE (vK (mq AQ (ah 0) (A1 I g.tP) I) (vK (mq AQ (ah 0) (A1 I g.tQ) I) (oH (mq eY (ah 0) aV (hX _)))))),?_⟩;refine⟨_,I,_,_,I,I,_,I,?_⟩;rw[xK,K9];refine gR (λe=>?_) (λe=>?_)
 ·have:dk c=true:=by unfold dk;rw[e];rfl
  rw[this] at q;exact q
 refine⟨_,I,_,_,I,I,_,I,?_⟩;rw[xK,K'];refine gR (λaE=>?_) (λaE=>?_)
 ·have:dk c=true:=by unfold dk;rw[aE];simp
  rw[this] at q;exact q
 refine⟨_,I,I,?_⟩;have:decide (V.str ⟨#[c]⟩=V.str "_")=dk c:=by
  unfold dk;rw[e,aE,qP];show(S [c] == S [95])=_;rw[pR];simp
 rw[this];exact q
def Lc (K:aJ):e6:=λvs H Q _=>(∃l,vs=[.str (S l)]/\l.length<=100000/\∀Z,ba H Z->Q (.aM (g0 l)) Z)\/
 (∃x t,vs=[x]/\mr K H x t/\PySem.W.kitOne K t (.type "str")=some false/\Q (.aM false) H)
def tS (K:aJ) (t:Value):PySem.W.kitOne K t t=some true:=by unfold PySem.W.kitOne;rw[b8 (vy t)]
def RR:cE ["thing"] ["thing"] (bF EQ):=⟨I,I,I,by decide +kernel,I,by decide +kernel,by decide +kernel⟩
def E1 (l:bh) (p:Nat->Bool):(l.map p).all id=l.all p:=by rw[List.all_map];rfl
def E2 {c:Nat}{t:bh}:k1 (S (c::t)).cps.toList 0=some c:=by
 rw[i1];exact iD (j:=0) rfl
def E3 (l:bh) (p:Nat->Bool):(l.map λc=>V.aM (p c))=(l.map p).map V.aM:=by rw[kS];rfl
def RS (g:pS K mg) (F:b5 K "is_name" "is_name" EQ f as) (W:d7 P w K mg base "is_word_sign" ["sign"] 1 A5):bK P w K mg base dJ 2 f as ["thing"] (Lc K):=by
 refine F.ok RR (λvs H Q E h=>?_) (λbk A outer s H vs Q E al h=>?_)
 ·rcases h with ⟨l,rfl,_⟩|⟨x,t,rfl,_⟩<;>rfl
 refine⟨_,aX (ck (jl.pt (ib (nI (hD (e7 EI I g.tR v3 (cg (ah 0) (cg (oG (v:=.ty "str") I g.A3 A2 I) dc))))) (jK (ey ms (ah 0) (qX I g.ee) I)))) (a9 (bE kW)) cA) (aX (ck (jl.pt (ib (ey eY (ah 0) aV (hX _)) (ib (ey kd (e7 nN I g.jp nP (cg (ah 0) dc)) (lJ I g.gx) (hX _)) (jK (ey Ri (gj nM (ah 0) aO (λ_ _=>I)) (A1 I g.tP) I))))) (a9 (bE kW)) cA) (a9 (bE (e7 (EH I) I g.EZ EY (cg (vX (EN (by decide +kernel) (by decide +kernel) I (by decide +kernel) I) I (qV (ah 0)) (λC s0 aI fp=>k3 W al (bf _) I (cg (ah 0) dc))) dc))))),?_⟩;rcases h with ⟨l,rfl,au,q⟩|⟨x,t,rfl,ty,aU,q⟩
 ·have hz:(S l).length<=sizeLine:=by rw[ek];exact small (by omega)
  refine⟨_,I,_,_,_,_,I,.str _,tS K _,_,I,?_⟩;refine dr ?_;refine⟨_,I,λp ar=>⟨p,_,I,.inr ar,I,v0 _,_,I,?_⟩⟩;show if(e8 (V.str (S l)) (qH.map λy=>V.str (S y)))=true then _ else _
  rw[vZ];refine gR (λe=>?_) (λe=>?_)
  ·have:g0 l=false:=by unfold g0 ji;rw[e];rfl
   rw[this] at q;exact q H (ba.refl H)
  have l5:ji l=false:=e;refine⟨_,I,I,_,I,?_⟩;have dD:decide (V.str (S l)=V.str "")=(l == []):=by
   rw[qP];exact pR l []
  rw[dD];refine gR (λam=>?_) (λam=>?_)
  ·have aE:l=[]:=eq_of_beq am;subst aE;exact q H (ba.refl H)
  refine⟨_,I,_,I,hz,_,_,I,I,_,I,?_⟩;rw[ek];refine gR (λaE=>?_) (λaE=>?_)
  ·have bq:¬l.length<=12:=by have:=gP aE;omega
   have:g0 l=false:=by unfold g0;rw[ew bq];simp
   rw[this] at q;exact q H (ba.refl H)
  have sQ:l.length<=12:=by have:=nB aE;omega
  cases l with
  |nil=>simp at am
  |cons c t=>
   refine⟨_,I,_,_,_,I,I,hz,E2,_,_,I,I,_,I,?_⟩;rw[xK,K9];refine gR (λbq=>?_) (λbq=>?_)
   ·have bX:hC c=false:=by simpa using bq
    have:g0 (c::t)=false:=by rw[A4,bX];simp
    rw[this] at q;exact q H (ba.refl H)
   have bX:hC c=true:=by simpa using bq
   have zB:g0 (c::t)=(c::t).all dk:=by
    rw[A4,l5,bX,fv sQ];simp
   rw[zB] at q;refine⟨_,I,_,I,?_⟩;refine EO (z:=S (c::t)) (λc=>V.aM (dk c)) (by rw[ek];omega) (λc Z iJ _ _ aD=>⟨_,I,c,I,aD Z (ba.refl Z)⟩) λD Z dh ax io=>?_;rw[i1,E3] at io;refine⟨D,_,I,bg.of io,?_⟩;rw[E1];exact q Z ax
 ·refine⟨_,I,_,_,_,_,I,ty,aU,_,I,?_⟩;exact fz q
def Ld:e6:=λvs H Q _=>∃l,vs=[.str (S l)]/\l≠[]/\l.length<=100000/\∀Z,ba H Z->Q (.aM (jj l)) Z
def RT:cE ny ny (bF ER):=⟨I,I,I,by decide +kernel,I,by decide +kernel,by decide +kernel⟩
def RU (g:pS K mg) (F:b5 K "is_number" "is_number" ER f as):bK P w K mg base dJ 2 f as ny Ld:=by
 refine F.ok RT (λvs H Q E h=>?_) (λbk A outer s H vs Q E al h=>?_)
 ·obtain⟨l,rfl,_⟩:=h;rfl
 obtain⟨l,rfl,e0,au,q⟩:=h;have hz:(S l).length<=sizeLine:=by rw[ek];exact small (by omega)
 refine⟨_,aX (ck (jl.pt (ib (ey kd (e7 nN I g.jp nP (cg (ah 0) dc)) (lJ I g.RN) (hX _)) (jK (nI (hD (e7 (EH I) I g.EZ EY (cg (vX (EN (by decide +kernel) (by decide +kernel) I (by decide +kernel) I) I (qV (ah 0)) (λC s0 aI fp=>mq AQ (ah 0) (A1 I g.tQ) I)) dc))))))) (a9 (bE kW)) cA)
  (a9 (bE (vK (mq eY (ah 0) aV (hX _)) (oH (mq pP (gj nM (ah 0) aO (λ_ _=>I)) aV (hX _)))))),?_⟩
 refine⟨_,I,_,I,hz,_,_,I,I,_,I,?_⟩;rw[ek];refine gR (λaE=>?_) (λaE=>?_)
 ·have bq:¬l.length<=12:=by have:=gP aE;omega
  have:jj l=false:=by unfold jj;rw[ew bq];simp
  rw[this] at q;exact q H (ba.refl H)
 have sQ:l.length<=12:=by have:=nB aE;omega
 refine⟨_,I,_,I,?_⟩;refine EO (z:=S l) (λc=>V.aM (ho c)) (by rw[ek];omega) (λc Z iJ _ _ aD=>⟨_,I,_,_,I,I,by rw[xK,K'];exact aD Z (ba.refl Z)⟩) λD Z dh ax io=>?_;rw[i1,E3] at io;refine⟨D,_,I,bg.of io,_,I,?_⟩;rw[E1];refine gR (λbq=>?_) (λbq=>?_)
 ·have bX:l.all ho=false:=by simpa using bq
  have:jj l=false:=by unfold jj;rw[bX];simp
  rw[this] at q;exact q Z ax
 have bX:l.all ho=true:=by simpa using bq
 refine⟨_,I,I,_,I,?_⟩;have dD:decide (V.str (S l)=V.str "0")=(l == [48]):=by rw[qP];exact pR l [48]
 rw[dD];refine gR (λdG=>?_) (λdG=>?_)
 ·have:jj l=true:=by unfold jj;rw[bX,dG,fv sQ];rfl
  rw[this] at q;exact q Z ax
 cases l with
 |nil=>exact absurd rfl e0
 |cons c t=>
  refine⟨_,I,_,_,_,I,I,hz,E2,I,?_⟩;have f8:(!decide (V.str ⟨#[c]⟩=V.str "0"))=jj (c::t):=by
   rw[qP];rw[RO,bX,dG,fv sQ];show(!(S [c] == S [48]))=_;rw[pR];simp[bne]
  rw[f8];exact q Z ax
def Le:e6:=λvs H Q _=>∃l,vs=[.str (S l)]/\l.length<=100000/\∀Z,ba H Z->Q (.aM (kx true l)) Z
def RV:cE ny ny (bF ES):=⟨I,I,I,by decide +kernel,I,by decide +kernel,by decide +kernel⟩
def Lf (a b:Nat):decide ([a] < [b])=decide (a < b):=by
 rw[StrLaws.lt_cons_cons,StrLaws.lt_nil_nil];simp
def RW {l:bh}{c:Nat}(h:l.getLast?=some c):k1 (S l).cps.toList (-1)=some c:=by
 rw[i1];obtain⟨ys,rfl⟩:=List.getLast?_eq_some_iff.mp h;exact Rd ys c
def RX (g:pS K mg) (F:b5 K "is_text_literal" "is_text_literal" ES f as):bK P w K mg base dJ 2 f as ny Le:=by
 refine F.ok RV (λvs H Q E h=>?_) (λbk A outer s H vs Q E al h=>?_)
 ·obtain⟨l,rfl,_⟩:=h;rfl
 obtain⟨l,rfl,au,q⟩:=h;have hz:(S l).length<=sizeLine:=by rw[ek];exact small (by omega)
 refine⟨_,aX (ck (jl.pt (ib (ey jn (e7 nN I g.jp nP (cg (ah 0) dc)) aO (hX _)) (ib (ey kd (e7 nN I g.jp nP (cg (ah 0) dc)) (a5 f3 (lJ I g.mt) aO) (hX _)) (ib (ey pP (gj nM (ah 0) aO (λ_ _=>I)) aV (hX _)) (jK (ey pP (gj nM (ah 0) (mZ r6 aO) (λ_ _=>I)) aV (hX _))))))) (a9 (bE kW)) cA) (a9 (bE (e7 (EH I) I g.EZ EY (cg (vX (EN (by decide +kernel) (by decide +kernel) I (by decide +kernel) I) I (qV (ah 0)) (λC s0 aI fp=>qL (mq K2 aV (ah 0) (hX _)) (oH (mq K2 (ah 0) aV (hX _))))) dc)))),?_⟩;refine⟨_,I,_,I,hz,_,_,I,I,_,I,?_⟩;rw[ek];refine gR (λam=>?_) (λam=>?_)
 ·have bq:¬2<=l.length:=by have:=gP am;omega
  have:kx true l=false:=by unfold kx;rw[ew bq];simp
  rw[this] at q;exact q H (ba.refl H)
 have ae:2<=l.length:=by have:=nB am;omega
 refine⟨_,I,_,I,hz,_,_,I,I,_,_,I,I,_,I,?_⟩;rw[ek];refine gR (λaE=>?_) (λaE=>?_)
 ·have bq:¬l.length<=42:=by have:=gP aE;omega
  have:kx true l=false:=by unfold kx;rw[ew bq];simp
  rw[this] at q;exact q H (ba.refl H)
 have Xq:l.length<=42:=by have:=nB aE;omega
 cases l with
 |nil=>simp at ae
 |cons c t=>
  refine⟨_,I,_,_,_,I,I,hz,E2,I,_,I,?_⟩;have f8:(!decide (V.str ⟨#[c]⟩=V.str "\""))=!(c == 34):=by
   rw[qP];show(!(S [c] == S [34]))=_;rw[pR];simp
  rw[f8];refine gR (λbq=>?_) (λbq=>?_)
  ·have bX:(c == 34)=false:=by simpa using bq
   have:kx true (c::t)=false:=by rw[E0,bX];simp
   rw[this] at q;exact q H (ba.refl H)
  have bX:(c == 34)=true:=by simpa using bq
  obtain⟨d,hd⟩:∃d,(c::t).getLast?=some d:=by
   cases e:(c::t).getLast? with
   |none=>simp at e
   |some d=>exact⟨d,I⟩
  refine⟨_,I,_,I,_,_,_,I,I,hz,RW hd,I,_,I,?_⟩;have od:(!decide (V.str ⟨#[d]⟩=V.str "\""))=!(d == 34):=by
   rw[qP];show(!(S [d] == S [34]))=_;rw[pR];simp
  rw[od];refine gR (λdG=>?_) (λdG=>?_)
  ·have mJ:(d == 34)=false:=by simpa using dG
   have:kx true (c::t)=false:=by rw[E0,hd];simp at mJ;simp[mJ]
   rw[this] at q;exact q H (ba.refl H)
  have mJ:(d == 34)=true:=by simpa using dG
  have zB:kx true (c::t)=(c::t).all inR:=by
   rw[E0,fv ae,fv Xq,hd];have:d=34:=eq_of_beq mJ;subst this;simp[bX]
  rw[zB] at q;refine⟨_,I,_,I,?_⟩;refine EO (z:=S (c::t)) (λc=>V.aM (inR c)) (by rw[ek];omega) (λc Z iJ _ _ aD=>?_) λD Z dh ax io=>?_
  ·refine⟨_,I,_,_,I,I,_,I,?_⟩;have cX:(!decide ((⟨#[c]⟩:Str).cps.toList < (" ":Str).cps.toList))=decide (32<=c):=by
    show(!decide ([c] < [32]))=_;rw[Lf];by_cases h:c < 32
    ·rw[fv h,ew (by omega)];rfl
    ·rw[ew h,fv (by omega)];rfl
   rw[cX];refine gR (λHs=>?_) (λHs=>?_)
   ·refine⟨_,I,_,_,I,I,?_⟩;have gH:(!decide (("~":Str).cps.toList < (⟨#[c]⟩:Str).cps.toList))=inR c:=by
     unfold inR;rw[Hs];show(!decide ([126] < [c]))=_;rw[Lf];by_cases h:126 < c
     ·rw[fv h,ew (show ¬c<=126 by omega)];rfl
     ·rw[ew h,fv (show c<=126 by omega)];rfl
    rw[gH];exact aD Z (ba.refl Z)
   ·have:inR c=false:=by unfold inR;rw[Hs];rfl
    rw[this] at aD;exact aD Z (ba.refl Z)
  ·rw[i1,E3] at io;refine⟨D,_,I,bg.of io,?_⟩;rw[E1];exact q Z ax
def ya:bJ->br
 |.name l=>[.str "name",.str (S l)]
 |.ee l=>[.str "told",.str (S l)]
 |.num l=>[.str "number",.int ((NumText.digitsVal l:Nat):Int)]
 |.text l=>[.str "text",.str (S l)]
 |.mark l=>[.str "mark",.str (S l)]
def RY (H Z:ap) (r:V):Option bJ->Prop
 |none=>r=.a3
 |some w=>∃p,r=.ref p/\H p=none/\Z p=some (.tup (ya w))
def Lg:e6:=λvs H Q _=>∃l,vs=[.str (S l)]/\l≠[]/\l.length<=100000/\∀r Z,ba H Z->RY H Z r (fh true l)->Q r Z
def RZ {l:bh}(h:l.all ho=true):NumText.AllDigits l:=λc aw=>by
 have:=eW.mp h c aw;unfold ho at this
 simpa using this
def R0 {l:bh}(h:jj l=true) (e0:l≠[]):PySem.intText? (S l)=some ((NumText.digitsVal l:Nat):Int)/\(S l).length<=640:=by
 have ag:l.all ho=true:=by unfold jj at h;simp only[Bool.and_eq_true] at h;exact h.1.2
 have ae:l.length<=12:=by unfold jj at h;simp only[Bool.and_eq_true,decide_eq_true_eq] at h;exact h.1.1
 have e:=intText_digits (x:=S l) (by rw[i1];exact RZ ag) (by rw[i1];exact e0) (by rw[ek];omega);rw[i1] at e;exact⟨e,by rw[ek];omega⟩
def R1 {l:bh}(h:2<=l.length):StrLaws.sliceText (S l) (some 1) (some (-1))=S (l.tail.dropLast):=by
 have au:((S l).length:Int)=l.length:=by rw[ek]
 rw[StrLaws.sliceText_neg_hi (S l) (some 1) (by omega) (by omega)];rw[StrLaws.sliceText_plain (by rw[i1];omega),i1];show S _=S _;congr 1;rw[List.dropLast_eq_take,xM,<-List.drop_one];congr 1;omega
def R2:cE ny ny (bF ET):=⟨I,I,I,by decide +kernel,I,by decide +kernel,by decide +kernel⟩
def R3 (g:pS K mg) (F:b5 K "word_of" "word_of" ET f as) (ws:d7 P w K mg base "is_name" ["thing"] 2 (Lc K)) (Xr:d7 P w K mg base "is_number" ny 2 Ld) (gv:d7 P w K mg base "is_text_literal" ny 2 Le):bK P w K mg base dJ 3 f as ny Lg:=by
 refine F.ok R2 (λvs H Q E h=>?_) (λbk A outer s H vs Q E al h=>?_)
 ·obtain⟨l,rfl,_⟩:=h;rfl
 obtain⟨l,rfl,e0,au,q⟩:=h;have hz:(S l).length<=sizeLine:=by rw[ek];exact small (by omega)
 refine⟨_,aX (ck (ey ms (ah 0) (qX I g.ee) I) (a9 (bE (cP (cg aV (cg (ah 0) dc))))) cA) (aX (ck (hD (k3 ws al (bf _) I (cg (ah 0) dc))) (a9 (bE (cP (cg aV (cg (ah 0) dc))))) cA) (aX (ck (hD (k3 Xr al (bf _) I (cg (ah 0) dc))) (a9 (bE (cP (cg aV (cg (ke Rv I g.v7 v5 (cg (ah 0) dc)) dc))))) cA) (aX (ck (hD (k3 gv al (bf _) I (cg (ah 0) dc))) (a9 (bE (cP (cg aV (cg (qQ ED (ah 0) (m3 aO) (m3 (mZ r6 aO))) dc))))) cA) (aX (ck (jl.pt (ib (ey ms (ah 0) (qX I g.short) I) (jK (ey ms (ah 0) (qX I g.long) I)))) (a9 (bE (cP (cg aV (cg (ah 0) dc))))) cA) (a9 (bE nH)))))),?_⟩;have fin:∀(cF:bJ) (ai:ap),ba H ai->fh true l=some cF->x3 (.tup (ya cF)) (ya cF) ai Q:=λcF ai ax e=>by
  refine⟨by cases cF<;>exact(by decide:2<=sizeLine),λp ar=>q _ _ (ax.trans (cK ar _)) ?_⟩;rw[e];exact⟨p,I,ax.free ar,b'⟩
 refine⟨_,I,λp ar=>⟨p,_,I,.inr ar,I,v0 _,_,I,?_⟩⟩;show if(e8 (V.str (S l)) (qH.map λy=>V.str (S y)))=true then _ else _
 rw[vZ];refine gR (λe=>?_) (λe=>?_)
 ·have fH:fh true l=some (.ee l):=by unfold fh ji;rw[e];rfl
  exact⟨_,I,fin _ H (ba.refl H) fH⟩
 have l5:ji l=false:=e;refine⟨_,I,.inl ⟨l,I,au,λai kp=>⟨_,I,?_⟩⟩⟩;refine gR (λam=>?_) (λam=>?_)
 ·have fH:fh true l=some (.name l):=by unfold fh;rw[l5,am];rfl
  exact⟨_,I,fin _ ai kp fH⟩
 refine⟨_,I,l,I,e0,au,λaB gq=>⟨_,I,?_⟩⟩;refine gR (λaE=>?_) (λaE=>?_)
 ·have fH:fh true l=some (.num l):=by unfold fh;rw[l5,am,aE];rfl
  obtain⟨ag,ae⟩:=R0 aE e0;exact⟨_,I,_,_,I,ag,ae,fin _ aB (kp.trans gq) fH⟩
 refine⟨_,I,l,I,au,λa7 mH=>⟨_,I,?_⟩⟩;refine gR (λbq=>?_) (λbq=>?_)
 ·have fH:fh true l=some (.text l.tail.dropLast):=by unfold fh;rw[l5,am,aE,bq];rfl
  have ae:2<=l.length:=by unfold kx at bq;simp only[Bool.and_eq_true,decide_eq_true_eq] at bq;exact bq.1.1.1.1
  refine⟨_,I,_,I,_,I,_,I,_,I,hz,?_⟩;show x3 (.tup [.str "text",.str _]) [.str "text",.str _] a7 _;have bX:=R1 ae;rw[show(-(1:Int))=-1 from I,bX];exact fin _ a7 ((kp.trans gq).trans mH) fH
 refine⟨_,I,λp ar=>⟨p,_,I,.inr ar,I,v0 _,_,I,?_⟩⟩;show if(e8 (V.str (S l)) (AH.map λy=>V.str (S y)))=true then _ else _
 rw[vZ];have ax:=(kp.trans gq).trans mH;have Ht:fh true l=if nC l||gg l then some (.mark l) else none:=by unfold fh;rw[l5,am,aE,bq];rfl
 refine gR (λbX=>?_) (λbX=>?_)
 ·have dG:nC l=true:=bX;have fH:fh true l=some (.mark l):=by rw[Ht,dG];rfl
  exact⟨_,I,fin _ a7 ax fH⟩
 have dG:nC l=false:=bX;refine⟨_,I,λp ar=>⟨p,_,I,.inr ar,I,v0 _,_,I,?_⟩⟩;show if(e8 (V.str (S l)) (pE.map λy=>V.str (S y)))=true then _ else _
 rw[vZ];refine gR (λf8=>?_) (λf8=>?_)
 ·have od:gg l=true:=f8;have fH:fh true l=some (.mark l):=by rw[Ht,od];simp
  exact⟨_,I,fin _ a7 ax fH⟩
 have od:gg l=false:=f8;refine q _ _ ax ?_;rw[Ht,dG,od];rfl
def R4 (n k:Nat):fromIndex n (k:Int)=k:=by
 unfold fromIndex;rw[bP (by omega)];omega
def E4 (l:bh) (v:Nat):(S l).cps.getD v 0=l.getD v 0:=by
 show(l.toArray).getD v 0=_;simp[Array.getD,List.getD];split<;>simp_all
def R5 {l t:bh}{p:Nat}(h:l.drop p=34::t):Txt.find3 (S l) ⟨#[34]⟩ ((p:Int)+1)=match t.findIdx? (· == 34) with|none=>-1|some i=>((p+1+i:Nat):Int):=by
 have bO:l.drop (p+1)=t:=by rw[<-List.drop_drop,h];rfl
 have ar:p < l.length:=by
  rcases tp p l.length with q|q
  ·exact q
  ·rw[vz q] at h;cases h
 have Hu:∀v,l.getD (p+1+v) 0=t.getD v 0:=λv=>by
  rw[<-bO,mh,mh,List.getElem?_drop]
 have dT:l.length=p+1+t.length:=by
  have:=fM List.length bO;rw[j6] at this;omega
 have am:fromIndex (S l).length ((p:Int)+1)=p+1:=by
  have:((p:Int)+1)=((p+1:Nat):Int):=by omega
  rw[this,R4]
 rcases StrLaws.find3_spec (S l) 34 ((p:Int)+1) with ⟨cd,aP⟩|⟨k,cd,ag,ae,aW,bm⟩
 ·rw[cd];have:t.findIdx? (· == 34)=none:=by
   rw[List.findIdx?_eq_none_iff];intro x ak;obtain⟨v,aK,rfl⟩:=List.mem_iff_getElem.mp ak;have:=aP (p+1+v) (by rw[am];omega) (by rw[ek];omega);rw[E4,Hu] at this
   simpa[List.getD,aK] using this
  rw[this]
 ·rw[cd];rw[am] at ag bm;rw[ek] at ae;have:t.findIdx? (· == 34)=some (k - (p+1)):=by
   rw[Jw];refine⟨by omega,?_,λj c'=>?_⟩
   ·rw[E4] at aW;have e:k=p+1+(k - (p+1)):=by omega
    rw[e,Hu] at aW;have af:k - (p+1) < t.length:=by omega
    simpa[List.getD,af] using aW
   ·have:=bm (p+1+j) (by omega) (by omega);rw[E4,Hu] at this;have af:j < t.length:=by omega
    simpa[List.getD,af] using this
  rw[this];show(k:Int)=((p+1+(k - (p+1)):Nat):Int);omega
def Lh:e6:=λvs H Q _=>∃(l t:bh) (p:Nat),vs=[.str (S l),.int p]/\l.drop p=34::t/\l.length<=100000/\Q (.int ((p+fe (34::t):Nat):Int)) H
def Li:cE ["row","place","closing"] pv (bF EU):=⟨I,I,I,by decide +kernel,I,by decide +kernel,by decide +kernel⟩
def R6 (g:pS K mg) (F:b5 K "behind_literal" "behind_literal" EU f as):bK P w K mg base dJ 1 f as pv Lh:=by
 refine F.ok Li (λvs H Q E h=>?_) (λbk A outer s H vs Q E al h=>?_)
 ·obtain⟨l,t,p,rfl,_⟩:=h;rfl
 obtain⟨l,t,p,rfl,hd,au,q⟩:=h;have hz:(S l).length<=sizeLine:=by rw[ek];exact small (by omega)
 have dT:l.length=p+1+t.length:=by
  have:=fM List.length hd;rw[j6,en] at this;omega
 refine⟨_,aX (jL (i:=2) Li.bp I (Or.inl I) (hb lu PySem.F.slot_str_find PySem.F.type_str_find Ru (ah 0) (cg aV (cg (a5 f3 (ah 1) aO) dc)))) (a9 (bE (mY (ey jn (ah 2) aO (hX _)) (e7 nN I g.jp nP (cg (ah 0) dc)) (a5 f3 (ah 2) aO)))),?_⟩;refine⟨_,I,I,_,I,_,_,I,I,_,_,_,I,I,?_⟩;have e:=R5 hd;refine⟨_,I,_,_,I,I,_,I,?_⟩;have db:Txt.find3 (S l) ("\"":Str) ((p:Int)+1)=Txt.find3 (S l) ⟨#[34]⟩ ((p:Int)+1):=rfl;rw[db,e];cases aR:t.findIdx? (· == 34) with
 |none=>
  have cp:fe (34::t)=t.length+1:=by rw[pF,b8 I,aR]
  rw[cp] at q;refine fz ⟨_,I,_,I,hz,?_⟩;rw[ek,show l.length=p+(t.length+1) by omega];exact q
 |some i=>
  have cp:fe (34::t)=i+2:=by rw[pF,b8 I,aR]
  rw[cp] at q;show if(decide (((p+1+i:Nat):Int) < 0))=true then _ else _
  rw[ew (by omega)];refine dr ⟨_,I,_,_,I,I,?_⟩;show Q (.int (((p+1+i:Nat):Int)+1)) H;rw[show((p+1+i:Nat):Int)+1=((p+(i+2):Nat):Int) by omega];exact q
def Lj:e6:=λvs H Q _=>∃(l:bh) (p:Nat),vs=[.str (S l),.int p]/\p<=l.length/\l.length<=100000/\Q (.int ((p+((l.drop p).takeWhile dk).length:Nat):Int)) H
def E5:cE ["row","place","behind"] pv (bF EV):=⟨I,I,I,by decide +kernel,I,by decide +kernel,by decide +kernel⟩
def yb {l:bh}{b:Nat}{c:Nat}{t:bh}(h:l.drop b=c::t):k1 (S l).cps.toList (b:Int)=some c:=by
 rw[i1];refine iD ?_;have:=fM (·[0]?) h
 simpa[List.getElem?_drop] using this
def Lk {l:bh}{b:Nat}(h:b < l.length):∃c t,l.drop b=c::t/\l.drop (b+1)=t:=by
 refine⟨l[b],l.drop (b+1),?_,I⟩;exact vA h
def R7 (g:pS K mg) (F:b5 K "behind_word_signs" "behind_word_signs" EV f as) (W:d7 P w K mg base "is_word_sign" ["sign"] 1 A5):bK P w K mg base dJ 2 f as pv Lj:=by
 refine F.ok E5 (λvs H Q E h=>?_) (λbk A outer s H vs Q E al h=>?_)
 ·obtain⟨l,p,rfl,_⟩:=h;rfl
 obtain⟨l,p,rfl,ar,au,q⟩:=h;have hz:(S l).length<=sizeLine:=by rw[ek];exact small (by omega)
 refine⟨_,aX (jL (i:=2) E5.bp I (Or.inl I) (ah 1)) (aX (nK rV (jl.pt (kb (ey jn (ah 2) (e7 nN I g.jp nP (cg (ah 0) dc)) (hX _)) (kz (hD (k3 W al (bf _) I (cg (gj nM (ah 0) (ah 2) (λ_ _=>I)) dc)))))) (a9 (jL (i:=2) E5.bp I (Or.inl I) (a5 f3 (ah 2) aO)))) (a9 (bE (ah 2)))),?_⟩;refine⟨_,I,?_⟩;refine⟨λm aa Z=>∃b:Nat,m=l.length - b/\b<=l.length/\aa=[some (.str (S l)),some (.int p),some (.int b)]/\Z=H/\b+((l.drop b).takeWhile dk).length=p+((l.drop p).takeWhile dk).length,⟨_,p,I,ar,I,I,I⟩,?_⟩;rintro m aa Z ⟨b,rfl,af,rfl,rfl,he⟩;refine⟨_,I,_,I,_,I,hz,_,_,I,I,_,I,?_⟩;rw[ek];refine gR (λam=>?_) (λam=>?_)
 ·have cM:b < l.length:=by have:=gP am;omega
  obtain⟨c,t,ag,ae⟩:=Lk cM;refine⟨_,I,_,I,_,_,_,I,I,hz,yb ag,c,I,_,I,?_⟩;rw[ag,qA] at he;refine gR (λaE=>?_) (λaE=>?_)
  ·rw[b8 aE,en] at he;refine⟨_,λσ' Z h=>h,_,I,_,_,I,I,_,?_,b+1,I,cM,?_,I,?_⟩
   ·omega
   ·show [some (V.str (S l)),some (V.int p),some (V.int ((b:Int)+1))]=_;rfl
   ·rw[ae];omega
  ·rw[bP (by rw[aE];exact Bool.noConfusion)] at he;refine⟨_,I,?_⟩;rw[<-he] at q;exact q
 ·have cM:b=l.length:=by have:=nB am;omega
  subst cM;rw[qF] at he;refine⟨_,I,?_⟩;rw[<-he] at q;exact q
def R8 (lo:iU){j:Int}{n:Nat}(h:(n:Int)<=j):Builtin.Str.strSliceIndices lo (some j) 1 n=Builtin.Str.strSliceIndices lo (some (n:Int)) 1 n:=by
 have am:¬j < 0:=by omega
 have aE:¬(n:Int) < 0:=by omega
 have bq:min j (n:Int)=n:=by omega
 simp[Builtin.Str.strSliceIndices,am,aE,bq]
def R9 (x:Str) (lo:iU){j:Int}(h:(x.length:Int)<=j):StrLaws.sliceText x lo (some j)=StrLaws.sliceText x lo (some (x.length:Int)):=by
 unfold StrLaws.sliceText;rw[R8 lo h]
def Ll (l:bh){a b:Nat}(aq:a<=l.length) (wv:a<=b):StrLaws.sliceText (S l) (some (a:Int)) (some (b:Int))=S ((l.drop a).take (b - a)):=by
 by_cases af:b<=l.length
 ·rw[StrLaws.sliceText_nat (S l) wv (by rw[ek];exact af),i1];rfl
 ·rw[R9 (S l) _ (by rw[ek];omega),ek,StrLaws.sliceText_nat (S l) aq (by rw[ek];exact bf _),i1];show S _=S _;congr 1;rw[DN (by rw[j6];exact bf _),DN (by rw[j6];omega)]
def E6 (c d:Nat):decide (V.str ⟨#[c]⟩=V.str ⟨#[d]⟩)=(c == d):=by
 rw[qP];show(S [c] == S [d])=_;rw[pR];simp
def Lm:e6:=λvs H Q _=>∃(l t:bh) (c p:Nat),vs=[.str (S l),.int p]/\l.drop p=c::t/\l.length<=100000/\Q (.int ((p+fe (c::t):Nat):Int)) H
def R':cE pv pv (bF EW):=⟨I,I,I,by decide +kernel,I,by decide +kernel,by decide +kernel⟩
def Sa (g:pS K mg) (F:b5 K "behind_piece" "behind_piece" EW f as) (W:d7 P w K mg base "is_word_sign" ["sign"] 1 A5) (jX:d7 P w K mg base "behind_literal" pv 1 Lh) (Hv:d7 P w K mg base "behind_word_signs" pv 2 Lj):bK P w K mg base dJ 3 f as pv Lm:=by
 refine F.ok R' (λvs H Q E h=>?_) (λbk A outer s H vs Q E al h=>?_)
 ·obtain⟨l,t,c,p,rfl,_⟩:=h;rfl
 obtain⟨l,t,c,p,rfl,hd,au,q⟩:=h;have hz:(S l).length<=sizeLine:=by rw[ek];exact small (by omega)
 have ar:p < l.length:=by
  rcases tp p l.length with z|z
  ·exact z
  ·rw[vz z] at hd;cases hd
 refine⟨_,aX (ck (ey eY (gj nM (ah 0) (ah 1) (λ_ _=>I)) aV (hX _)) (a9 (bE (k3 jX al (by decide) I (cg (ah 0) (cg (ah 1) dc))))) cA)
  (aX (ck (hD (k3 W al (by decide) I (cg (gj nM (ah 0) (ah 1) (λ_ _=>I)) dc))) (a9 (bE (k3 Hv al (by decide) I (cg (ah 0) (cg (ah 1) dc))))) cA)
  (a9 (bE (mY (ey ms (qQ ED (ah 0) (m3 (ah 1)) (m3 (a5 f3 (ah 1) aO))) (qX I g.long) I) (a5 f3 (ah 1) aO) (a5 f3 (ah 1) aO))))),?_⟩
 refine⟨_,I,_,I,_,_,_,I,I,hz,yb hd,I,_,I,?_⟩;have dD:decide (V.str ⟨#[c]⟩=V.str "\"")=(c == 34):=E6 c 34;rw[dD];refine gR (λam=>?_) (λam=>?_)
 ·have aE:c=34:=eq_of_beq am;subst aE;exact⟨_,I,_,I,l,t,p,I,hd,au,q⟩
 have Xu:c≠34:=by simpa using am
 refine⟨_,I,_,I,_,_,_,I,I,hz,yb hd,c,I,_,I,?_⟩;refine gR (λaE=>?_) (λaE=>?_)
 ·refine⟨_,I,_,I,l,p,I,by omega,au,?_⟩;rw[hd,<-(P8 true aE).1];exact q
 have cp:=(P9 true (t:=t) aE Xu).1;rw[cp] at q;refine⟨_,I,_,I,_,I,_,I,_,_,I,I,_,I,_,I,hz,λa aq=>⟨a,_,I,.inr aq,I,v0 _,_,I,?_⟩⟩;have aj:StrLaws.sliceText (S l) (some (p:Int)) (some ((p:Int)+2))=S ((c::t).take 2):=by
  rw[show(p:Int)+2=((p+2:Nat):Int) by omega,Ll l (by omega) (by omega),hd];congr 2;omega
 show if(e8 (V.str (StrLaws.sliceText (S l) (some (p:Int)) (some ((p:Int)+2)))) (pE.map λy=>V.str (S y)))=true then _ else _
 rw[aj,vZ];refine gR (λbq=>?_) (λbq=>?_)
 ·have bX:gg ((c::t).take 2)=true:=bq;rw[bX] at q;exact⟨_,I,_,_,I,I,q⟩
 ·have bX:gg ((c::t).take 2)=false:=bq;rw[bX] at q;exact⟨_,I,_,_,I,I,q⟩
def lK (H:ap) (a:Addr) (ab:List bJ):Prop:=∃aG:gd,H a=some (.lst (aG.map V.ref))/\Paired (λp cF=>H p=some (.tup (ya cF))) aG ab
def lK.same {H Z:ap}{a:Addr}{ab:List bJ}(h:lK H a ab) (e:ba H Z):lK Z a ab:=by
 obtain⟨aG,ag,ae⟩:=h;exact⟨aG,e _ _ ag,Paired.rY ae λp cF ar=>e _ _ ar⟩
def Paired.len {cC kw:Type}{F:cC->kw->Prop}{l₁:List cC}{l₂:List kw}(h:Paired F l₁ l₂):l₁.length=l₂.length:=Paired.length h
def lK.push {H:ap}{a q:Addr}{ab:List bJ}{cF:bJ}(h:lK H a ab) (aD:H q=some (.tup (ya cF))):∃aG:gd,H a=some (.lst (aG.map V.ref))/\aG.length=ab.length/\lK (upd H a (.lst (aG.map V.ref++[.ref q]))) a (ab++[cF]):=by
 obtain⟨aG,ag,ae⟩:=h;refine⟨aG,ag,Paired.len ae,aG++[q],by rw[b',vx];rfl,?_⟩;refine Paired.snoc (Paired.rY ae λp cF ar=>?_) ?_
 ·rw[cj (AK ar ag (by intro z;cases z))];exact ar
 ·rw[cj (AK aD ag (by intro z;cases z))];exact aD
def yc (H Z:ap) (r:V):Option (List bJ)->Prop
 |none=>r=.a3
 |some ab=>∃a,r=.ref a/\H a=none/\lK Z a ab
def Ln:e6:=λvs H Q _=>∃l,vs=[.str (S l)]/\l.length<=100000/\∀r Z,ba H Z->yc H Z r (words true l)->Q r Z
def tT:cE ["row","words","place","behind","word"] cD (bF EX):=⟨I,I,I,by decide +kernel,I,by decide +kernel,by decide +kernel⟩
def Sb (g:pS K mg) (F:b5 K "words_of" "words_of" EX f as) (jc:d7 P w K mg base "behind_piece" pv 3 Lm) (Hv:d7 P w K mg base "word_of" ny 3 Lg):bK P w K mg base dJ 4 f as cD Ln:=by
 refine F.ok tT (λvs H Q E h=>?_) (λbk A outer s H vs Q E al h=>?_)
 ·obtain⟨l,rfl,_⟩:=h;rfl
 obtain⟨l,rfl,au,q⟩:=h;have hz:(S l).length<=sizeLine:=by rw[ek];exact small (by omega)
 refine⟨_,aX (jL (i:=1) tT.bp I (Or.inl I) (eL dc)) (aX (jL (i:=2) tT.bp I (Or.inl I) aO) (aX (nK rV (jl.pt (kb (ey jn (ah 2) (e7 nN I g.jp nP (cg (ah 0) dc)) (hX _)) (kz (ey pP (gj nM (ah 0) (ah 2) (λ_ _=>I)) aV (hX _))))) (a9 (ck (ey eY (gj nM (ah 0) (ah 2) (λ_ _=>I)) aV (hX _)) (a9 (jL (i:=2) tT.bp I (Or.inl I) (a5 f3 (ah 2) aO))) (aX (jL (i:=3) tT.bp I (Or.inl I) (k3 jc al (bf _) I (cg (ah 0) (cg (ah 2) dc)))) (aX (jL (i:=4) tT.bp I (Or.inl I) (k3 Hv al (bf _) I (cg (qQ ED (ah 0) (m3 (ah 2)) (m3 (ah 3))) dc))) (aX (ck (ey Ei (ah 4) nH (hX _)) (a9 (bE nH)) cA) (aX (gQ (hb pC pB qG oK (ah 1) (cg (ah 4) dc))) (a9 (jL (i:=2) tT.bp I (Or.inl I) (ah 3)))))))))) (a9 (bE (ah 1))))),?_⟩;refine⟨fN _,λa aq=>?_⟩;refine⟨λm aa Z=>∃(gJ:List bJ) (p:Nat) (pe l6:mi),m=l.length - p/\p<=l.length/\gJ.length<=p/\aa=[some (.str (S l)),some (.ref a),some (.int p),pe,l6]/\ba H Z/\lK Z a gJ/\words true l=(words true (l.drop p)).map (gJ++·),⟨_,[],0,none,none,I,fN _,bf _,I,cK aq _,⟨[],b',.nil⟩,by simp⟩,?_⟩;rintro m aa ai ⟨gJ,p,pe,l6,rfl,ar,Xv,rfl,ax,ay,he⟩;refine⟨_,I,_,I,_,I,hz,_,_,I,I,_,I,?_⟩;rw[ek];refine gR (λam=>?_) (λam=>?_)
 ·have cM:p < l.length:=by have:=gP am;omega
  obtain⟨c,t,ag,ae⟩:=Lk cM;rw[ag] at he;refine⟨_,I,_,I,_,_,_,I,I,hz,yb ag,I,_,I,?_⟩;have Xw:decide (V.str ⟨#[c]⟩=V.str "#")=(c == 35):=E6 c 35;rw[Xw];refine gR (λaE=>?_) (λaE=>?_)
  ·have Ol:c≠35:=by simpa using aE
   refine⟨_,λσ' Z h=>h,?_⟩;refine⟨_,I,_,I,_,_,_,I,I,hz,yb ag,I,_,I,?_⟩;have Xx:decide (V.str ⟨#[c]⟩=V.str " ")=(c == 32):=E6 c 32;rw[Xx];refine gR (λbq=>?_) (λbq=>?_)
   ·have bX:c=32:=eq_of_beq bq;subst bX;rw[D2,<-ae] at he;exact⟨_,I,_,_,I,I,_,(by omega:l.length - (p+1) < l.length - p),gJ,p+1,pe,l6,I,cM,by omega,I,ax,ay,he⟩
   have Om:c≠32:=by simpa using bq
   have abM:=AI c t;have abN:=P2 (c::t);have dT:l.length=p+(c::t).length:=by
    have:=fM List.length ag;rw[j6] at this;omega
   refine⟨_,I,_,I,l,t,c,p,I,ag,au,?_⟩;refine⟨_,I,_,I,_,I,_,I,_,I,_,I,hz,?_⟩;have aj:StrLaws.sliceText (S l) (some (p:Int)) (some ((p+fe (c::t):Nat):Int))=S ((c::t).take (fe (c::t))):=by
    rw[Ll l (by omega) (by omega),ag];congr 2;omega
   rw[aj];refine⟨(c::t).take (fe (c::t)),I,?_,?_,λr aB gq wE=>?_⟩
   ·obtain⟨k,aU⟩:∃k,fe (c::t)=k+1:=⟨fe (c::t) - 1,by omega⟩;rw[aU];exact Ay _ _
   ·rw[rR];omega
   refine⟨_,I,I,_,I,?_⟩;cases uQ:fh true ((c::t).take (fe (c::t))) with
   |none=>
    rw[uQ] at wE;have f':r=.a3:=wE;subst f';refine fz (q _ _ (ax.trans gq) ?_);rw[he,Jy Ol Om uQ];rfl
   |some cF=>
    rw[uQ] at wE;obtain⟨z,rfl,abO,uR⟩:=wE;refine dr ?_;obtain⟨aG,cm,ed,gs⟩:=(ay.same gq).push uR;refine⟨_,I,.inl ⟨I,_,bg.of cm⟩,_,I,a,_,_,I,I,cm,?_,?_⟩
    ·rw[eV,ed];exact DJ (dW Xv ar) (by rw[jH];omega)
    refine⟨_,I,_,(by omega:l.length - (p+fe (c::t)) < l.length - p),gJ++[cF],p+fe (c::t),_,_,I,by omega,?_,I,EM (ax.trans gq) aq _,gs,?_⟩
    ·rw[cy];simp;omega
    ·rw[he,vG Ol Om uQ,<-List.drop_drop,ag,Option.map_map];congr 1;funext x;simp
  ·have bX:c=35:=by simpa using aE
   subst bX;rw[Jx] at he;refine⟨_,I,q _ _ ax ?_⟩;rw[he];exact⟨a,I,aq,by simpa using ay⟩
 ·have cM:p=l.length:=by have:=nB am;omega
  rw[cM,qF,AJ] at he;refine⟨_,I,q _ _ ax ?_⟩;rw[he];exact⟨a,I,aq,by simpa using ay⟩
end
set_option maxHeartbeats 8000000
abbrev E7:Stmt:=top 62
abbrev E8:Stmt:=top 63
def qY (H:ap) (x:V):Option (List bJ)->Prop
 |none=>x=.a3
 |some ab=>∃a,x=.ref a/\lK H a ab
def yc.lv {H Z:ap}{r:V}{o:Option (List bJ)}(h:yc H Z r o):qY Z r o:=by
 cases o with
 |none=>exact h
 |some ab=>obtain⟨a,e,_,ay⟩:=h;exact⟨a,e,ay⟩
def qY.same {H Z:ap}{r:V}{o:Option (List bJ)}(h:qY H r o) (e:ba H Z):qY Z r o:=by
 cases o with
 |none=>exact h
 |some ab=>obtain⟨a,am,ay⟩:=h;exact⟨a,am,ay.same e⟩
def yc.ne {H Z:ap}{r:V}{o:Option (List bJ)}{a:Addr}{u:jJ}(h:yc H Z r o) (aq:H a=some u):r≠.ref a:=by
 cases o with
 |none=>have e:r=.a3:=h;rw[e];intro z;cases z
 |some ab=>obtain⟨b,e,af,_⟩:=h;rw[e];intro z;injection z with z;rw[z,aq] at af;cases af
def lK.other {H:ap}{a b:Addr}{ab:List bJ}{xs ys:br}(h:lK H b ab) (e0:b≠a) (aq:H a=some (.lst xs)):lK (upd H a (.lst ys)) b ab:=by
 obtain⟨aG,ag,ae⟩:=h;refine⟨aG,by rw[cj e0];exact ag,Paired.rY ae λp cF ar=>?_⟩;rw[cj (AK ar aq (by intro z;cases z))];exact ar
def qY.other {H:ap}{a:Addr}{x:V}{o:Option (List bJ)}{xs ys:br}(h:qY H x o) (e0:x≠.ref a) (aq:H a=some (.lst xs)):qY (upd H a (.lst ys)) x o:=by
 cases o with
 |none=>exact h
 |some ab=>obtain⟨b,e,ay⟩:=h;subst e;exact⟨b,I,ay.other (λz=>e0 (by rw[z])) aq⟩
def lL (l:bh):V:=match nD l with|none=>.a3|some n=>.int (n:Nat)
def qZ (a:Addr) (H:ap) (p:Addr) (r:oD):Prop:=∃x,H p=some (.tup [.int (r.1:Nat),lL r.2.1,x])/\qY H x r.2.2/\x≠.ref a
def sa (a:Addr) (H:ap) (eD:List oD):Prop:=∃aG:gd,H a=some (.lst (aG.map V.ref))/\Paired (qZ a H) aG eD
def qZ.same {a:Addr}{H Z:ap}{p:Addr}{r:oD}(h:qZ a H p r) (e:ba H Z):qZ a Z p r:=by
 obtain⟨x,ag,ae,aW⟩:=h;exact⟨x,e _ _ ag,ae.same e,aW⟩
def sa.same {a:Addr}{H Z:ap}{eD:List oD}(h:sa a H eD) (e:ba H Z):sa a Z eD:=by
 obtain⟨aG,ag,ae⟩:=h;exact⟨aG,e _ _ ag,Paired.rY ae λp r ar=>qZ.same ar e⟩
def sa.push {a:Addr}{H:ap}{q:Addr}{eD:List oD}{r:oD}(h:sa a H eD) (aD:qZ a H q r):∃aG:gd,H a=some (.lst (aG.map V.ref))/\aG.length=eD.length/\sa a (upd H a (.lst (aG.map V.ref++[.ref q]))) (eD++[r]):=by
 obtain⟨aG,ag,ae⟩:=h;have up:∀p r,qZ a H p r->qZ a (upd H a (.lst (aG.map V.ref++[.ref q]))) p r:=λp r ⟨x,am,aE,bq⟩=>⟨x,by rw[cj (AK am ag (by intro z;cases z))];exact am,aE.other bq ag,bq⟩;refine⟨aG,ag,Paired.len ae,aG++[q],by rw[b',vx];rfl,?_⟩;exact Paired.snoc (Paired.rY ae up) (up q r aD)
section
variable {X:a8}
def Sd:g5:=λx y H Q=>∃(o:Option (List bJ)) (b:Addr),qY H x o/\y=.ref b/\H b=some (.lst [])/\Q (.aM (!decide (o=some []))) H
def Se {k:Nat}(al:dj k X.A):eX X (compareOp .NotEq) Sd:=by
 intro ac s aa H x y v u Q J a0 bj h;obtain⟨o,b,ak,rfl,af,q⟩:=h;cases bj;have bY:X.A.units < cLine:=al.QU;obtain⟨_,abP,nb,Xy,gH⟩:=(show gB X.prog X.w H s.heap b (.lst []) from J.bA b _ af);cases Xy;have kq:s.heap.IsList b ([]:e3).toArray:=⟨_,gH,I,nb,I⟩;cases o with
 |none=>
  have ex:x=.a3:=ak;subst ex;cases a0;exact SeqAt.RcNeAt.none_list kq bY _ _ _ _ ⟨.aM true,H,J,I,q⟩
 |some ab=>
  obtain⟨a,rfl,aG,ag,ae⟩:=ak;cases a0;obtain⟨_,Hw,Hx,Hy,cX⟩:=(show gB X.prog X.w H s.heap a (.lst (aG.map V.ref)) from J.bA a _ ag);have On:s.heap.IsList a Hw.toArray:=⟨_,cX,I,Hx,I⟩;have dT:Hw.length=ab.length:=by rw[<-b4.length Hy,eV];exact Paired.len ae
  cases ab with
  |nil=>
   have dD:Hw=[]:=oC dT;subst dD;refine DO (e:=λ_=>true) On kq rfl bY (λj ag _=>absurd ag (by simp)) _ _ _ _ ?_;exact⟨.aM false,H,J,I,q⟩
  |cons cF r=>
   refine SeqAt.RcNeAt.lists_lengths On kq ?_ bY _ _ _ _ ⟨.aM true,H,J,I,?_⟩
   ·simp only[List.size_toArray,dT];simp
   ·have e:(!decide ((some (cF::r):Option (List bJ))=some []))=true:=by simp
    rw[e] at q;exact q
end
structure E9 (K:aJ) (mg:Str->cn):Prop where
 g:pS K mg
 sb:∃t,mg "BLANKS_OF_BLOCK"=some (.int 4 t)
 ky:∃t,mg "MOST_BLOCKS"=some (.int 12 t)
 Sf:mg "enumerate"=none
def Sg (l:bh):((Txt.lstripChars (S l) (" ":Str)).length:Int)=(l.length:Int) - (blanks l:Nat):=by
 have a1:((" ":Str).cps.contains)=λc=>c == 32:=by
  funext c;show(#[32]:Array Nat).contains c=_;rw[mR];simp
 have hS:=JE l;have G9:PySem.stripLo ((" ":Str).cps.contains) true (S l)=blanks l:=by
  unfold PySem.stripLo;rw[a1,i1];rfl
 unfold Txt.lstripChars Txt.stripBy;by_cases cd:PySem.stripSame ((" ":Str).cps.contains) true false (S l)=true
 ·rw[b8 cd];have:blanks l=0:=by
   unfold PySem.stripSame at cd;rw[G9,jh] at cd;exact eq_of_beq cd.1
  rw[ek,this];omega
 ·rw[bP cd];unfold PySem.stripped;rw[G9];have e:PySem.stripHi ((" ":Str).cps.contains) false (S l) (blanks l)=(S l).length:=rfl;rw[e,K8,StrLaws.strSub_toList,i1,ek,rR,j6];omega
section
variable {P:Program}{w:World}{K:aJ}{mg:Str->cn}{base:Heap}{f:Addr}{as:FuncData}
def Lo:e6:=λvs H Q _=>∃l,vs=[.str (S l)]/\l.length<=100000/\Q (lL l) H
def E':cE ["row","blanks","blocks"] cD (bF E7):=⟨I,I,I,by decide +kernel,I,by decide +kernel,by decide +kernel⟩
def Sh (g2:E9 K mg) (F:b5 K "indent_of" "indent_of" E7 f as):bK P w K mg base dJ 1 f as cD Lo:=by
 have g:=g2.g;refine F.ok E' (λvs H Q E h=>?_) (λbk A outer s H vs Q E al h=>?_)
 ·obtain⟨l,rfl,_⟩:=h;rfl
 obtain⟨l,rfl,au,q⟩:=h;have hz:(S l).length<=sizeLine:=by rw[ek];exact small (by omega)
 refine⟨_,aX (jL (i:=1) E'.bp I (Or.inl I) (a5 kZ (e7 nN I g.jp nP (cg (ah 0) dc)) (e7 nN I g.jp nP (cg (hb lu PySem.F.slot_str_lstrip PySem.F.type_str_lstrip RK (ah 0) (cg aV dc)) dc)))) (aX (jL (i:=2) E'.bp I (Or.inl I) (a5 hW (ah 1) (lJ I g2.sb))) (aX (ck (jl.pt (ib (ey pP (a5 m1 (ah 2) (lJ I g2.sb)) (ah 1) (hX _)) (jK (ey kd (ah 2) (lJ I g2.ky) (hX _))))) (a9 (bE nH)) cA) (a9 (bE (ah 2))))),?_⟩;have e:=Sg l;have hS:=JE l;have uR:(Txt.lstripChars (S l) (" ":Str)).length<=sizeLine:=by
  have:(Txt.lstripChars (S l) (" ":Str)).length<=l.length:=by omega
  exact dW this (small (by omega))
 refine⟨_,I,_,I,hz,_,I,I,_,_,I,I,hz,_,I,uR,_,_,I,I,?_⟩;have aE:(((S l).length:Nat):Int) - ((Txt.lstripChars (S l) (" ":Str)).length:Nat)=((blanks l:Nat):Int):=by rw[e,ek];omega
 dsimp only;rw[aE];refine⟨_,I,_,_,I,I,⟨by decide,by decide⟩,?_⟩;refine⟨_,I,_,_,I,I,.inr ⟨by decide,by decide⟩,_,I,I,_,I,?_⟩;have eP:(!decide (V.int ((blanks l:Nat) / 4*4:Int)=V.int ((blanks l:Nat):Int)))=!decide (blanks l % 4=0):=by
  rw[Eh];congr 1;by_cases h:blanks l % 4=0
  ·rw[fv h,qB];omega
  ·rw[ew h,h8];omega
 show if(!decide (V.int ((blanks l:Nat) / 4*4:Int)=V.int ((blanks l:Nat):Int)))=true then _ else _
 rw[eP];refine gR (λam=>?_) (λam=>?_)
 ·have bm:¬blanks l % 4=0:=by simpa using am
  have:lL l=.a3:=by unfold lL nD;rw[bP (λz=>bm z.1)]
  rw[this] at q;exact q
 have bm:blanks l % 4=0:=by simpa using am
 refine⟨_,I,_,_,I,I,_,I,?_⟩;refine gR (λam=>?_) (λam=>?_)
 ·have Hz:¬blanks l<=48:=by have:=gP am;omega
  have:lL l=.a3:=by unfold lL nD;rw[bP (λz=>Hz z.2)]
  rw[this] at q;exact q
 ·have Hz:blanks l<=48:=by have:=nB am;omega
  have:lL l=.int ((blanks l:Nat) / 4:Int):=by
   unfold lL nD;rw[b8 ⟨bm,Hz⟩];show V.int (((blanks l / 4:Nat)):Int)=_;congr 1
  rw[this] at q;exact⟨_,I,q⟩
def Lp:e6:=λvs H Q _=>∃(z:Str) (rows:List (bh)),vs=[.str z]/\z.length<=100000/\Txt.split z ⟨#[10]⟩=rows.map S/\(∀l∈rows,l.length<=100000)/\rows.length<=100000/\
 ∀a Z,H a=none->ba H Z->sa a Z (rowsOf true 0 rows)->Q (.ref a) Z
def yd:cE ["text","rows","number","row","words"] ["text"] (bF E8):=⟨I,I,I,by decide +kernel,I,by decide +kernel,by decide +kernel⟩
def take_snoc {cC:Type}{xs:List cC}{i:Nat}{x:cC}(h:xs[i]?=some x):xs.take (i+1)=xs.take i++[x]:=by
 rw[Az,h];rfl
def Si (g2:E9 K mg) (F:b5 K "rows_of" "rows_of" E8 f as) (Xz:d7 P w K mg base "words_of" cD 4 Ln) (zC:d7 P w K mg base "indent_of" cD 1 Lo):bK P w K mg base dJ 5 f as ["text"] Lp:=by
 have g:=g2.g;refine F.ok yd (λvs H Q E h=>?_) (λbk A outer s H vs Q E al h=>?_)
 ·obtain⟨z,rows,rfl,_⟩:=h;rfl
 obtain⟨z,rows,rfl,hz,lg,qg,HA,q⟩:=h;refine⟨_,aX (jL (i:=1) yd.bp I (Or.inl I) (eL dc)) (aX (mo rV I (RI I g2.Sf (cg (hb lu vw DP EE (ah 0) (cg aV dc)) dc)) (pL I (kX (qN (i:=2) yd.bp I (Or.inl I)) (kX (qN (i:=3) yd.bp I (Or.inl I)) pK))) (aX (jL (i:=4) yd.bp I (Or.inl I) (k3 Xz al (bf _) I (cg (ah 3) dc))) (a9 (ck (ey (Se al) (ah 4) (eL dc) (hX _)) (a9 (gQ (hb pC pB qG oK (ah 1) (cg (cP (cg (ah 2) (cg (k3 zC al (by decide) I (cg (ah 3) dc)) (cg (ah 4) dc)))) dc)))) cA))))
  (a9 (bE (ah 1)))),?_⟩
 refine⟨fN _,λa aq=>?_⟩;refine⟨_,I,I,_,_,I,I,by decide,by rw[jH];omega,λb af=>?_⟩;have XA:(Txt.split z ("\n":Str)).map V.str=rows.map λl=>V.str (S l):=by
  have e:Txt.split z ("\n":Str)=rows.map S:=lg;rw[e,kS];rfl
 rw[XA];have XB:ba H (upd (upd H a (.lst [])) b (.lst (rows.map λl=>V.str (S l)))):=(cK aq _).trans (cK af _);have wv:a≠b:=by intro e;rw[<-e,b'] at af;cases af
 refine⟨b,I,⟨_,bg.of b'⟩,RJ (K:=K) (a:=b) (xs:=rows.map λl=>V.str (S l)) (λi aa aB=>∃l6 eQ fX:mi,aa=[some (.str z),some (.ref a),l6,eQ,fX]/\ba H aB/\aB b=some (.lst (rows.map λl=>V.str (S l)))/\sa a aB (rowsOf true 0 (rows.take i))) ⟨_,_,_,I,XB,b',[],by rw[cj wv,b'];rfl,.nil⟩ (λi aa aB _ ⟨_,_,_,_,_,zD,_⟩=>bg.of zD) ?_ ?_⟩
 ·rintro i y aa aB T aR ⟨l6,eQ,fX,rfl,aN,zD,wP⟩ de;obtain⟨l,HB,rfl⟩:∃l,rows[i]?=some l/\y=.str (S l):=by
   rw[rS] at aR;cases e:rows[i]? with
   |none=>rw[e] at aR;cases aR
   |some l=>rw[e] at aR;exact⟨l,I,(hB aR).symm⟩
  have Oo:l∈rows:=qE HB;have XC:i < rows.length:=(kP.mp HB).1;have dQ:=cK de (.tup [.int (i:Nat),.str (S l)]);have wS:=JF true l (rows.take i) 0;rw[<-take_snoc HB] at wS;have XD:0+(rows.take i).length=i:=by rw[rR];omega
  rw[XD] at wS;refine⟨T,_,I,dI.of b',I,_,_,I,_,_,I,I,?_⟩;refine⟨_,I,l,I,qg l Oo,λr a7 a2 HC=>?_⟩;refine⟨_,I,fN _,λc aw=>⟨words true l,c,HC.lv.same (cK aw _),I,b',_,I,?_⟩⟩;have uS:=(dQ.trans a2).trans (cK aw (.lst []));obtain⟨abQ,Oq,_⟩:=id wP;have e0:r≠.ref a:=HC.ne (dQ _ _ Oq);by_cases ay:words true l=some []
  ·rw[fv ay];rw[b8 ay,me] at wS;refine dr ⟨_,_,_,I,aN.trans uS,uS _ _ zD,?_⟩;rw[wS];exact wP.same uS
  ·rw[ew ay];rw[bP ay] at wS;refine fz ⟨_,I,.inl ⟨I,_,bg.of (uS _ _ Oq)⟩,_,I,_,I,l,I,qg l Oo,_,I,by show 3<=sizeLine;decide,λp ar=>?_⟩;have dp:=cK ar (.tup [.int (i:Nat),lL l,r]);have Os:qZ a (upd (upd a7 c (.lst [])) p (.tup [.int (i:Nat),lL l,r])) p (i,l,words true l):=⟨r,b',(HC.lv.same (cK aw _)).same dp,e0⟩;obtain⟨aG,ag,ae,aW⟩:=((wP.same uS).same dp).push Os;refine⟨a,_,_,I,I,ag,?_,_,_,_,I,?_,?_,?_⟩
   ·rw[eV,ae];have:=D4 true (rows.take i) 0;rw[rR] at this;exact DJ (dW this (Nat.min_le_left _ _)) (eG XC (small (by omega)))
   ·exact EM (aN.trans (uS.trans dp)) aq _
   ·rw[cj wv.symm];exact dp _ _ (uS _ _ zD)
   ·rw[wS];exact aW
 ·rintro aa aB ⟨l6,eQ,fX,rfl,aN,zD,wP⟩;rw[eV,DQ] at wP;exact⟨_,I,q a aB aq aN wP⟩
end
end GS
set_option maxHeartbeats 4000000
namespace bc
open PySem PySem.Spec PyProof.Rows L2
@[irreducible] def LE (X:a8) (e:Expr) (t:TE):Prop:=bU X e t
@[irreducible] def LT (X:a8) (e:Expr) (t:TT):Prop:=kV X e t
@[irreducible] def gy (X:a8) (e:Expr) (t:TT):Prop:=jl X e t
@[irreducible] def gD (X:a8) (aj:gY) (t:fi):Prop:=iX X aj t
@[irreducible] def pT (X:a8) (e:Option Expr) (t:tJ):Prop:=tK X e t
@[irreducible] def jq (X:a8) (e:Expr) (t:lE):Prop:=nJ X e t
@[irreducible] def pU (X:a8) (aj:gY) (t:vM):Prop:=tC X aj t
@[irreducible] def jM (X:a8) (cU e:Expr) (t:TI):Prop:=mn X cU e t
@[irreducible] def hP (X:a8) (st:Stmt) (t:gw):Prop:=j' X st t
@[irreducible] def ic (X:a8) (st:vi) (t:gw):Prop:=ka X st t
section
variable {X:a8}{e a b c o cU:Expr}{aj rest:gY}{cf lo aR:Option Expr}{st:Stmt}{wT:vi}{bw bu bH to:TE}{fT ri fU:TT}{hk uI:tJ}{t:fi}{aH us:gw}{qh:lE}{sR:vM}{f0:TI}{pos p bM apos gz:Pos}
def LE.mk (h:bU X e bw):LE X e bw:=by unfold LE;exact h
def LE.out (h:LE X e bw):bU X e bw:=by unfold LE at h;exact h
def LT.mk (h:kV X e fT):LT X e fT:=by unfold LT;exact h
def LT.out (h:LT X e fT):kV X e fT:=by unfold LT at h;exact h
def gy.mk (h:jl X e fT):gy X e fT:=by unfold gy;exact h
def gy.out (h:gy X e fT):jl X e fT:=by unfold gy at h;exact h
def gD.mk (h:iX X aj t):gD X aj t:=by unfold gD;exact h
def gD.out (h:gD X aj t):iX X aj t:=by unfold gD at h;exact h
def pT.mk (h:tK X cf hk):pT X cf hk:=by unfold pT;exact h
def pT.out (h:pT X cf hk):tK X cf hk:=by unfold pT at h;exact h
def jq.mk (h:nJ X e qh):jq X e qh:=by unfold jq;exact h
def jq.out (h:jq X e qh):nJ X e qh:=by unfold jq at h;exact h
def pU.mk (h:tC X aj sR):pU X aj sR:=by unfold pU;exact h
def pU.out (h:pU X aj sR):tC X aj sR:=by unfold pU at h;exact h
def jM.mk (h:mn X cU e f0):jM X cU e f0:=by unfold jM;exact h
def jM.out (h:jM X cU e f0):mn X cU e f0:=by unfold jM at h;exact h
def hP.mk (h:j' X st aH):hP X st aH:=by unfold hP;exact h
def hP.out (h:hP X st aH):j' X st aH:=by unfold hP at h;exact h
def ic.mk (h:ka X wT aH):ic X wT aH:=by unfold ic;exact h
def ic.out (h:ic X wT aH):ka X wT aH:=by unfold ic at h;exact h
def aO {i j}:LE X (.Constant (.int i) j pos) (jm (.int i)):=.mk L2.aO
def kW {b j}:LE X (.Constant (.bool b) j pos) (jm (.aM b)):=.mk L2.kW
def nH {j}:LE X (.Constant .none j pos) (jm .a3):=.mk L2.nH
def aV {x j}:LE X (.Constant (.str x) j pos) (jm (.str x)):=.mk L2.aV
def ah (i) {x}(dx:autoParam (X.N[i]?=some x) dl) (aK:autoParam (tz X.env.scope x) zza) (hd:autoParam (e4 x) Cl) (gT:autoParam ((x == ("__classdict__":Str))=false) Cl):LE X (.Name x pos) (xW i):=.mk (L2.ah i dx aK hd gT)
def iY {x v u}(a1:eH X x) (aQ:X.mg x=some u) (r:RelV v u) (hd:autoParam (e4 x) Cl):LE X (.Name x pos) (jm v):=.mk (L2.iY a1 aQ r hd)
def oG {x v u}(a1:eH X x) (aQ:X.mg x=none) (aK:bootBuiltins x=some u) (r:RelV v u) (aP:autoParam (x≠"__name__") Cl) (hd:autoParam (e4 x) Cl):LE X (.Name x pos) (jm v):=.mk (L2.oG a1 aQ aK r aP hd)
def lJ {x z}(a1:eH X x) (aQ:∃t,X.mg x=some (.int z t)) (hd:autoParam (e4 x) Cl):LE X (.Name x pos) (jm (.int z)):=.mk (GS.lJ a1 aQ hd)
def qX {x xs}(a1:eH X x) (aQ:GS.qW X.K X.mg x xs) (hd:autoParam (e4 x) Cl):LE X (.Name x pos) (GS.K6 X.K xs):=.mk (GS.qX a1 aQ hd)
def a5 {op r}(a':eX X (binaryOp op) r) (aq:LE X a bu) (af:LE X b bH):LE X (.BinOp a op b pos) (lG r bu bH):=.mk (L2.a5 a' aq.out af.out)
def mZ {op r}(a':AO X (unaryOp op) r) (aq:LE X a bu):LE X (.UnaryOp op a pos) (J7 r bu):=.mk (L2.mZ a' aq.out)
def mq {op r}(a':eX X (compareOp op) r) (aq:LE X a bu) (af:LE X b bH) (aQ:behindInMarks op b=false):LE X (.Compare a [op] [b] pos) (lG r bu bH):=.mk (L2.mq a' aq.out af.out aQ)
def oH {op}(h:LE X a bw):LE X (.BoolOp op [a] pos) bw:=.mk (L2.oH h.out)
def qL (aq:LE X a bu) (af:LE X (.BoolOp .And (b::rest) pos) bH):LE X (.BoolOp .And (a::b::rest) pos) (JP bu bH):=.mk (L2.qL aq.out af.out)
def mY (aw:LT X c fT) (aq:LE X a bu) (af:LE X b bH):LE X (.IfExp c a b pos) (JQ fT bu bH):=.mk (L2.mY aw.out aq.out af.out)
def gj {r}(al:vU X r) (aq:LE X a bu) (af:LE X b bH) (ax:Ew b):LE X (.Subscript a b pos) (lG r bu bH):=.mk (L2.gj al aq.out af.out ax)
def vT:pT X none Ku:=.mk L2.vT
def m3 (h:LE X e bw):pT X (some e) (Kv bw):=.mk (L2.m3 h.out)
def qQ {r}(al:x6 X r) (he:LE X e bw) (au:pT X lo hk) (bY:pT X aR uI):LE X (.Subscript e (.Slice lo aR none bM) pos) (Kw r bw hk uI):=.mk (L2.qQ al he.out au.out bY.out)
def dc:gD X [] lH:=.mk L2.dc
def cg (aq:LE X e bw) (al:gD X aj t) (ax:autoParam (gi X e aj) dl):gD X (e::aj) (m2 bw t):=.mk (L2.cg aq.out al.out ax)
def eL (h:gD X aj t):LE X (.List aj pos) (Ki t):=.mk (L2.eL h.out)
def cP {k}(h:gD X aj t):LE X (.Tuple aj k pos) (Kh t):=.mk (L2.cP h.out)
def e7 {x id r}(aw:kc X (.builtin id) r) (a1:eH X x) (aQ:X.mg x=none) (aK:bootBuiltins x=some (.builtin id)) (aq:gD X (e::aj) t) (aP:autoParam (x≠"__name__") Cl) (eN:autoParam (e4 x) Cl) (he:autoParam (gi X e aj) dl) (hpl:autoParam (iW X pos aj) dl):LE X (.Call (.Name x p) (e::aj) [] pos) (AU r t):=.mk (L2.e7 aw a1 aQ aK aq.out aP eN he hpl)
def ke {x T r}(aw:kc X (.type T) r) (a1:eH X x) (aQ:X.mg x=none) (aK:bootBuiltins x=some (.type T)) (aq:gD X (e::aj) t) (aP:autoParam (x≠"__name__") Cl) (eN:autoParam (e4 x) Cl) (he:autoParam (gi X e aj) dl) (hpl:autoParam (iW X pos aj) dl):LE X (.Call (.Name x p) (e::aj) [] pos) (AU r t):=.mk (L2.ke aw a1 aQ aK aq.out aP eN he hpl)
def hb {T id name r}(n9:PlainAttrs T) (slot:Slot T name id) (qc:typeOf (.builtin id)=pure (.type "method_descriptor")) (aQ:qR X id r) (a':LE X o to) (aq:gD X (e::aj) t) (n':autoParam (attributeBase o name X.env (eval o X.env)=eval o X.env) dl) (GT:autoParam (((backTo gz (starEach (e::aj) X.env)).all (λx=>!x.1)&&(backToKw gz (keywordEach [] X.env)).all (λx=>x.1.isSome)&&decide ((e::aj).length+([]:rL).length+(if([]:rL).isEmpty then 0 else 1) < 30))=true) dl)
  (rm:autoParam ((apos.endLine == gz.line)=true) dl) (ax:autoParam (gi X e aj) dl) (G5:autoParam (iW X gz aj) dl):
  LE X (.Call (.Attribute o name apos) (e::aj) [] gz) (KL X.K T r to t):=.mk (L2.hb n9 slot qc aQ a'.out aq.out n' GT rm ax G5)
def vW {T id name r}(n9:PlainAttrs T) (slot:Slot T name id) (qc:typeOf (.builtin id)=pure (.type "method_descriptor")) (aQ:qR X id r) (a':LE X o to) (n':autoParam (attributeBase o name X.env (eval o X.env)=eval o X.env) dl) (rm:autoParam ((apos.endLine == gz.line)=true) dl):LE X (.Call (.Attribute o name apos) [] [] gz) (KJ X.K T r to):=.mk (L2.vW n9 slot qc aQ a'.out n' rm)
def k3 {name aG k k' sp}(F:GS.d7 X.prog X.w X.K X.mg X.base name aG k sp) (al:dj k' X.A) (aU:k<=k') (a1:eH X name) (aq:gD X (e::aj) t) (eN:autoParam (e4 name) Cl) (he:autoParam (gi X e aj) dl) (hpl:autoParam (iW X pos aj) dl):LE X (.Call (.Name name p) (e::aj) [] pos) (r7 sp [] oL t):=.mk (GS.k3 F al aU a1 aq.out eN he hpl)
def EJ {name aG k k' sp}(F:GS.d7 X.prog X.w X.K X.mg X.base name aG k sp) (al:dj k' X.A) (aU:k<=k') (a1:eH X name) (eN:autoParam (e4 name) Cl):LE X (.Call (.Name name p) [] [] pos) (r7 sp [] oL lH):=.mk (GS.EJ F al aU a1 eN)
def ey {op r}(a':eX X (compareOp op) r) (aq:LE X a bu) (af:LE X b bH) (aQ:behindInMarks op b=false):LT X (.Compare a [op] [b] pos) (Ej (lG r bu bH)):=.mk (L2.ey a' aq.out af.out aQ)
def hD (h:LE X e bw) (he:autoParam (∀whole,isTrue e X.env whole=(do let v <-whole;standAt e.pos;holding [v] (truthy v))) Tm):LT X e (AN bw):=.mk (L2.hD h.out he)
def nI (aq:LT X a fT):LT X (.UnaryOp .Not a pos) (hO fT):=.mk (L2.nI aq.out)
def kz (aq:LT X a fT):gy X (.BoolOp .And [a] pos) fT:=.mk (L2.kz aq.out)
def jK (aq:LT X a fT):gy X (.BoolOp .Or [a] pos) fT:=.mk (L2.jK aq.out)
def kb (aq:LT X a fT) (af:gy X (.BoolOp .And (b::rest) pos) ri):gy X (.BoolOp .And (a::b::rest) pos) (JN fT ri):=.mk (L2.kb aq.out af.out)
def ib (aq:LT X a fT) (af:gy X (.BoolOp .Or (b::rest) pos) ri):gy X (.BoolOp .Or (a::b::rest) pos) (JO fT ri):=.mk (L2.ib aq.out af.out)
def gy.pt (h:gy X e fT):LT X e fT:=.mk (L2.jl.pt h.out)
def qN {i x}(dx:X.N.Nodup) (aR:X.N[i]?=some x) (ak:Loc X.env.scope x) (bl:autoParam (X.fn x=true\/X.env.scope.names.lookup x=some .local) KK):jq X (.Name x pos) (qM i):=.mk (L2.qN dx aR ak bl)
def pK:pU X [] JZ:=.mk L2.pK
def kX (ag:jq X e qh) (ae:pU X aj sR) (ax:autoParam ((assignEach (e::aj) X.env).map (·.2)=assign e X.env::(assignEach aj X.env).map (·.2)) dl):pU X (e::aj) (D' qh sR):=.mk (L2.kX ag.out ae.out ax)
def pL {k n}(aw:X.calm=true) (h:pU X aj sR) (aP:autoParam ((assignEach aj X.env).length=n) dl) (iK:autoParam ((assignEach aj X.env).findIdx? (·.1)=none) dl):jq X (.Tuple aj k pos) (Ea X.K n sR):=.mk (L2.pL aw h.out aP iK)
def pO (au:LE X e bw):jM X cU e (J3 X.K bw):=.mk (L2.pO au.out)
def r4 (au:LE X e bw):jM X cU e (J4 X.K bw):=.mk (L2.r4 au.out)
def qV (au:LE X e bw):jM X cU e (K3 bw):=.mk (L2.qV au.out)
def oI (a1:eH X "range") (aQ:X.mg "range"=none) (aq:gD X [a] t) (ax:autoParam (starEach [a] X.env=[(false,eval a X.env)]) dl):jM X cU (.Call (.Name "range" p) [a] [] pos) (J5 t):=.mk (L2.oI a1 aQ aq.out ax)
def bE (he:LE X e bw):hP X (.Return (some e) pos) (JU bw):=.mk (L2.bE he.out)
def vL:hP X (.Return none pos) JV:=.mk L2.vL
def gQ (he:LE X e bw) (ax:autoParam (swapsWith e none pos.line X.env=pure false) dl):hP X (.Expr e pos) (JT bw):=.mk (L2.gQ he.out ax)
def jL {i x pos'}(dx:X.N.Nodup) (aR:X.N[i]?=some x) (ak:Loc X.env.scope x) (he:LE X e bw) (ax:autoParam (swapsWith e (some (.Name x pos')) pos.line X.env=pure false) dl) (bl:autoParam (X.fn x=true\/X.env.scope.names.lookup x=some .local) KK):hP X (.Assign [.Name x pos'] e pos) (xX bw (qM i)):=.mk (L2.jL dx aR ak he.out ax bl)
def pM (he:LE X e bw) (a1:jq X cU qh) (ax:autoParam (swapsWithSole [cU] e pos.line X.env=pure false) dl) (ay:autoParam (swappedStores [cU] e X.env=pure none) dl) (ag:autoParam ((assignEach [cU] X.env).map (·.2)=[assign cU X.env]) dl):hP X (.Assign [cU] e pos) (xX bw qh):=.mk (L2.pM he.out a1.out ax ay ag)
def ck {a b}(aw:LT X c fU) (aq:ic X a aH) (af:ic X b us):hP X (.If c a b pos) (JW fU aH us):=.mk (L2.ck aw.out aq.out af.out)
def nK {body}(ar:PassesOwn (model X.prog X.w) X.A X.env X.cR) (aw:LT X c fU) (af:ic X body aH):hP X (.While c body [] pos) (Eb fU aH):=.mk (L2.nK ar aw.out af.out)
def mo {iter body}(ar:PassesOwn (model X.prog X.w) X.A X.env X.cR) (aw:X.calm=true) (aR:jM X cU iter f0) (a1:jq X cU qh) (af:ic X body aH) (ax:autoParam (∀x,foldedSetIterable iter X.env x=pure x) Tm):hP X (.For cU iter body [] pos) (J6 f0 qh aH):=.mk (L2.mo ar aw aR.out a1.out af.out ax)
def oM {t'}(h:hP X st aH) (aR:∀D aa H,t' D aa H->aH D aa H):hP X st t':=.mk λac s aa H D J q=>h.out ac s aa H D J (aR D aa H q)
def cA:ic X [] JS:=.mk L2.cA
def aX (ag:hP X st aH) (ae:ic X wT us):ic X (st::wT) (D9 aH us):=.mk (L2.aX ag.out ae.out)
def a9 (ag:hP X st aH):ic X [st] aH:=.mk (L2.a9 ag.out)
end
end bc
namespace L2
open PySem PySem.Spec PyProof.Rows
def b5.ye {P w K mg base x ce st f as N aG k sp}(F:b5 K x ce st f as) (S:cE N aG (bF st)) (len:∀vs H Q E,sp vs H Q E->vs.length=aG.length) (pa:∀bk A outer s H vs Q E,dj k (A.deeper (envOfC ce (bF st) s.hz f bk))->sp vs H Q E->∃t,bc.ic (fj dJ P w K mg base N ce (bF st) f bk A outer s H E).r2 (lI st) t/\t { c4:=λ_ Z=>Q .a3 Z,lz:=Q } (start N vs) H):bK P w K mg base dJ (k+1) f as aG sp:=
 F.ok S len λbk A outer s H vs Q E al h=>let ⟨t,ag,ae⟩:=pa bk A outer s H vs Q E al h;⟨t,ag.out,ae⟩
end L2
namespace L2
open PySem PySem.Spec PyProof.Rows GS
def Sj:bootBuiltins "reversed"=some (.type "reversed"):=by decide +kernel
section
variable {X:a8}
end
end L2
namespace GS
open PySem L2 PyProof.Rows
inductive D where
 |a3|aM (b:Bool)|int (i:Int)|str (x:Str)|tup (xs:List D)
abbrev d8:=List D
mutual
def At (K:aJ) (H:ap):D->V->Prop
 |.a3,v=>v=.a3
 |.aM b,v=>v=.aM b
 |.int i,v=>v=.int i
 |.str x,v=>v=.str x
 |.tup ds,v=>∃p vs,v=.ref p/\dI K H p vs/\bB K H ds vs
def bB (K:aJ) (H:ap):d8->br->Prop
 |[],vs=>vs=[]
 |d::ds,vs=>∃v r,vs=v::r/\At K H d v/\bB K H ds r
end
section
variable {K:aJ}{H Z:ap}
def eI {ds v}:At K H (.tup ds) v↔∃p vs,v=.ref p/\dI K H p vs/\bB K H ds vs:=by rw[At]
def f5 {vs}:bB K H [] vs↔vs=[]:=by rw[bB]
def fQ {d ds vs}:bB K H (d::ds) vs↔∃v r,vs=v::r/\At K H d v/\bB K H ds r:=by rw[bB]
def kA {v}:At K H .a3 v↔v=.a3:=by rw[At]
def ie {b v}:At K H (.aM b) v↔v=.aM b:=by rw[At]
def hg {i v}:At K H (.int i) v↔v=.int i:=by rw[At]
def cz {x v}:At K H (.str x) v↔v=.str x:=by rw[At]
def ba.Sk {a xs}(e:ba H Z) (h:dI K H a xs):dI K Z a xs:=by
 rcases h with (h|⟨o,h⟩)|h
 ·exact .inl (.inl (e _ _ h))
 ·exact .inl (.inr ⟨o,e _ _ h⟩)
 ·exact .inr h
mutual
theorem At.same (e:ba H Z):∀d v,At K H d v->At K Z d v
 |.a3,_,h=>kA.mpr (kA.mp h)
 |.aM _,_,h=>ie.mpr (ie.mp h)
 |.int _,_,h=>hg.mpr (hg.mp h)
 |.str _,_,h=>cz.mpr (cz.mp h)
 |.tup ds,_,h=>by
  obtain⟨p,vs,rfl,ag,ae⟩:=eI.mp h;exact eI.mpr ⟨p,vs,I,ba.Sk e ag,bB.same e ds vs ae⟩
theorem bB.same (e:ba H Z):∀ds vs,bB K H ds vs->bB K Z ds vs
 |[],_,h=>f5.mpr (f5.mp h)
 |d::ds,_,h=>by
  obtain⟨v,r,rfl,ag,ae⟩:=fQ.mp h;exact fQ.mpr ⟨v,r,I,At.same e d v ag,bB.same e ds r ae⟩
end
theorem bB.len:∀{ds vs},bB K H ds vs->vs.length=ds.length
 |[],_,h=>by rw[f5.mp h];rfl
 |d::ds,_,h=>by
  obtain⟨v,r,rfl,_,ae⟩:=fQ.mp h;rw[en,en,bB.len ae]
theorem bB.get:∀{ds vs}{i:Nat} {d},bB K H ds vs->ds[i]?=some d->∃v,vs[i]?=some v/\At K H d v
 |[],_,i,d,_,e=>by simp at e
 |HD::ds,_,0,d,h,e=>by
  obtain⟨v,r,rfl,ag,_⟩:=fQ.mp h;have:HD=d:=by simpa using e
  subst this;exact⟨v,I,ag⟩
 |HD::ds,_,i+1,d,h,e=>by
  obtain⟨v,r,rfl,_,ae⟩:=fQ.mp h;obtain⟨u,am,aE⟩:=bB.get ae (by simpa using e);exact⟨u,by simpa using am,aE⟩
theorem bB.append:∀{ds aj vs ab},bB K H ds vs->bB K H aj ab->bB K H (ds++aj) (vs++ab)
 |[],_,_,_,h,h'=>by rw[f5.mp h];exact h'
 |d::ds,_,_,_,h,h'=>by
  obtain⟨v,r,rfl,ag,ae⟩:=fQ.mp h;exact fQ.mpr ⟨v,_,I,ag,bB.append ae h'⟩
end
section
variable {X:a8}{ac:eU}{aa:L2.St}{H:ap}{s:Shared}
mutual
theorem At.one (J:Inv X ac aa H s):∀d e v,At X.K H d v->At X.K H e v->d=e
 |.a3,e,v,h,h'=>by
  rw[kA.mp h] at h';cases e with
  |a3=>rfl
  |tup ds=>obtain⟨p,vs,z,_⟩:=eI.mp h';cases z
  |aM b=>cases ie.mp h'
  |int i=>cases hg.mp h'
  |str x=>cases cz.mp h'
 |.aM b,e,v,h,h'=>by
  rw[ie.mp h] at h';cases e with
  |aM c=>cases ie.mp h';rfl
  |tup ds=>obtain⟨p,vs,z,_⟩:=eI.mp h';cases z
  |a3=>cases kA.mp h'
  |int i=>cases hg.mp h'
  |str x=>cases cz.mp h'
 |.int i,e,v,h,h'=>by
  rw[hg.mp h] at h';cases e with
  |int c=>cases hg.mp h';rfl
  |tup ds=>obtain⟨p,vs,z,_⟩:=eI.mp h';cases z
  |a3=>cases kA.mp h'
  |aM i=>cases ie.mp h'
  |str x=>cases cz.mp h'
 |.str x,e,v,h,h'=>by
  rw[cz.mp h] at h';cases e with
  |str c=>cases cz.mp h';rfl
  |tup ds=>obtain⟨p,vs,z,_⟩:=eI.mp h';cases z
  |a3=>cases kA.mp h'
  |aM i=>cases ie.mp h'
  |int x=>cases hg.mp h'
 |.tup ds,e,v,h,h'=>by
  obtain⟨p,vs,rfl,ag,ae⟩:=eI.mp h;cases e with
  |tup aj=>
   obtain⟨q,ab,z,g1,g2⟩:=eI.mp h';cases z;have am:=J.JR ag g1;subst am;rw[bB.one J ds aj vs ae g2]
  |a3=>cases kA.mp h'
  |aM i=>cases ie.mp h'
  |int x=>cases hg.mp h'
  |str x=>cases cz.mp h'
theorem bB.one (J:Inv X ac aa H s):∀ds aj vs,bB X.K H ds vs->bB X.K H aj vs->ds=aj
 |[],[],_,_,_=>rfl
 |[],_::_,_,h,h'=>by
  rw[f5.mp h] at h';obtain⟨v,r,z,_⟩:=fQ.mp h';cases z
 |d::ds,[],_,h,h'=>by
  rw[f5.mp h'] at h;obtain⟨v,r,z,_⟩:=fQ.mp h;cases z
 |d::ds,e::aj,_,h,h'=>by
  obtain⟨v,r,rfl,ag,ae⟩:=fQ.mp h;obtain⟨gl,fG,z,g1,g2⟩:=fQ.mp h';cases z;rw[At.one J d e v ag g1,bB.one J ds aj r ae g2]
end
end
mutual
def cx:D->D->Bool
 |.a3,e=>match e with
  |.a3=>true
  |_=>false
 |.aM a,e=>match e with
  |.aM b=>a == b
  |.int b=>(if a then 1 else 0) == b
  |_=>false
 |.int a,e=>match e with
  |.aM b=>a == (if b then 1 else 0)
  |.int b=>a == b
  |_=>false
 |.str a,e=>match e with
  |.str b=>a == b
  |_=>false
 |.tup xs,e=>match e with
  |.tup ys=>iE xs ys
  |_=>false
def iE:d8->d8->Bool
 |[],[]=>true
 |x::xs,y::ys=>cx x y&&iE xs ys
 |_,_=>false
end
mutual
def c2:D->Nat
 |.tup xs=>fk xs+1
 |_=>0
def fk:d8->Nat
 |[]=>0
 |x::xs=>max (c2 x) (fk xs)
end
def Fb:c2 .a3=0:=by rw[c2]<;>nofun
def Fc (b):c2 (.aM b)=0:=by rw[c2]<;>nofun
def Fd (i):c2 (.int i)=0:=by rw[c2]<;>nofun
def Fe (x):c2 (.str x)=0:=by rw[c2]<;>nofun
theorem Ff:∀{ds}{i:Nat} {d},ds[i]?=some d->c2 d<=fk ds
 |[],i,d,e=>by simp at e
 |x::xs,0,d,e=>by
  have:x=d:=by simpa using e
  subst this;rw[fk];exact Nat.le_max_left ..
 |x::xs,i+1,d,e=>by
  have:=Ff (ds:=xs) (i:=i) (d:=d) (by simpa using e);rw[fk];exact dW this (Nat.le_max_right ..)
mutual
theorem Fg:∀d:D,cx d d=true
 |.a3=>rfl
 |.aM b=>by rw[cx];exact vy b
 |.int i=>by rw[cx];exact vy i
 |.str x=>by rw[cx];exact vy x
 |.tup xs=>by rw[cx];exact Fh xs
theorem Fh:∀ds:d8,iE ds ds=true
 |[]=>by rw[iE]
 |d::ds=>by rw[iE,Fg d,Fh ds];rfl
end
theorem Lq:∀ds aj,iE ds aj=true↔ds.length=aj.length/\∀(j:Nat) d e,ds[j]?=some d->aj[j]?=some e->cx d e=true
 |[],[]=>by rw[iE];simp
 |[],e::aj=>by
  have h:iE [] (e::aj)=false:=by rw[iE]<;>nofun
  rw[h];simp
 |d::ds,[]=>by
  have h:iE (d::ds) []=false:=by rw[iE]<;>nofun
  rw[h];simp
 |d::ds,e::aj=>by
  rw[iE,jh,Lq ds aj];constructor
  ·rintro⟨ag,ae,aW⟩;refine⟨by simp[ae],λj d' db a b=>?_⟩;cases j with
   |zero=>
    have am:d=d':=by simpa using a
    have aE:e=db:=by simpa using b
    subst am aE;exact ag
   |succ j=>exact aW j d' db (by simpa using a) (by simpa using b)
  ·rintro⟨ag,ae⟩;exact⟨ae 0 d e I I,by simpa using ag,λj d' db a b=>ae (j+1) d' db (by simpa using a) (by simpa using b)⟩
def Lr (ds aj:d8):((List.range (min ds.length aj.length)).all (λj=>cx (ds.getD j .a3) (aj.getD j .a3))&&ds.length == aj.length)=iE ds aj:=by
 rw[mR,jh,Lq,eW,qB];constructor
 ·rintro⟨ag,ae⟩;refine⟨ae,λj d e a b=>?_⟩;have c':j < ds.length:=(kP.mp a).1;have:=ag j (oA.mpr co);rw[mh,mh,a,b] at this;exact this
 ·rintro⟨ag,ae⟩;refine⟨λj c'=>?_,ag⟩;have wr:=oA.mp c';have a:ds[j]?=some ds[j]:=iB co;have b:aj[j]?=some aj[j]:=iB co;rw[mh,mh,a,b];exact ae j _ _ a b
section
variable {X:a8}{ac:eU}{aa:L2.St}{H:ap}{s:Shared}
inductive oN (X:a8) (H:ap) (s:Shared):D->Value->Prop
 |a3:oN X H s .a3 .none
 |aM b:oN X H s (.aM b) (.bool b)
 |int b t:oN X H s (.int b) (.int b t)
 |str b t:oN X H s (.str b) (.str b t)
 |tup {ds p vs aL}:IsTup s.heap p aL.toArray->bB X.K H ds vs->b4 vs aL->oN X H s (.tup ds) (.ref p)
def oN.of {d x u}(J:Inv X ac aa H s) (h:At X.K H d x) (r:RelV x u):oN X H s d u:=by
 cases d with
 |a3=>cases kA.mp h;cases r;exact .a3
 |aM b=>cases ie.mp h;cases r;exact .aM b
 |int b=>cases hg.mp h;obtain⟨t,rfl⟩:=r;exact .int b t
 |str b=>cases cz.mp h;obtain⟨t,rfl⟩:=r;exact .str b t
 |tup ds=>
  obtain⟨p,vs,rfl,ag,ae⟩:=eI.mp h;cases r;obtain⟨aL,cI,bO,_⟩:=J.tuple ag;exact .tup bO ae cI
def Ls {A d e u v}(a:oN X H s d u) (b:oN X H s e v) (ae:A.units < cLine) (n:¬((∃x,d=.tup x)/\∃x,e=.tup x)):SeqAt.EqAt A s u v (cx d e):=by
 cases a with
 |a3=>
  cases b with
  |a3=>exact SeqAt.EqAt.same _
  |aM _=>exact SeqAt.EqAt.none_bool _
  |int _ _=>exact SeqAt.EqAt.none_int _ _
  |str _ _=>exact SeqAt.EqAt.none_str _ _
  |tup h _ _=>exact SeqAt.EqAt.none_tuple h ae
 |aM _=>
  cases b with
  |a3=>exact SeqAt.EqAt.bool_none _
  |aM _=>exact SeqAt.EqAt.bool_bool _ _
  |int _ _=>exact SeqAt.EqAt.bool_int _ _ _
  |str _ _=>exact SeqAt.EqAt.bool_str _ _ _
  |tup h _ _=>exact SeqAt.EqAt.bool_tuple _ h ae
 |int _ _=>
  cases b with
  |a3=>exact SeqAt.EqAt.int_none _ _
  |aM _=>exact SeqAt.EqAt.int_bool _ _ _
  |int _ _=>exact SeqAt.EqAt.int_int _ _ _ _
  |str _ _=>exact Dy _ _ _ _
  |tup h _ _=>exact SeqAt.EqAt.int_tuple _ _ h ae
 |str _ _=>
  cases b with
  |a3=>exact SeqAt.EqAt.str_none _ _
  |aM _=>exact SeqAt.EqAt.str_bool _ _ _
  |int _ _=>exact Dz _ _ _ _
  |str _ _=>exact SeqAt.EqAt.str_str _ _ _ _
  |tup h _ _=>exact SeqAt.EqAt.str_tuple _ _ h ae
 |tup h _ _=>
  cases b with
  |a3=>exact SeqAt.EqAt.tuple_none h ae
  |aM _=>exact SeqAt.EqAt.tuple_bool _ h ae
  |int _ _=>exact SeqAt.EqAt.tuple_int _ _ h ae
  |str _ _=>exact SeqAt.EqAt.tuple_str _ _ h ae
  |tup=>exact(n ⟨⟨_,I⟩,_,I⟩).elim
def Lu (J:Inv X ac aa H s):∀n d e A x y u v,c2 d<=n->RelV x u->RelV y v->At X.K H d x->At X.K H e y->A.units+n < cLine->SeqAt.EqAt A s u v (cx d e):=by
 intro n
 induction n with
 |zero=>exact λd e A x y u v hd a0 bj ak aT bY=>Ls (.of J ak a0) (.of J aT bj) co λ⟨⟨_,z⟩,_⟩=>by rw[z,c2] at hd;omega
 |succ n ih=>
  intro d e A x y u v hd a0 bj ak aT bY;cases d with
  |tup ds=>
   obtain⟨p,vs,rfl,ag,ae⟩:=eI.mp ak;cases a0;obtain⟨aL,cI,bO,_⟩:=J.tuple ag;by_cases he:∃x,e=.tup x
   case neg=>exact Ls (.of J ak (show RelV (.ref p) (.ref p) from I)) (.of J aT bj) co λz=>he z.2
   obtain⟨aj,rfl⟩:=he;obtain⟨q,ab,rfl,g1,g2⟩:=eI.mp aT;cases bj;obtain⟨iO,jU,aD,_⟩:=J.tuple g1;rw[cx];by_cases w0:p=q
   ·subst w0;have am:=At.one J (.tup ds) (.tup aj) (.ref p) ak aT;injection am with aE;rw[aE,Fh];exact SeqAt.EqAt.same _
   ·have eJ:aL.length=ds.length:=by rw[<-cI.length];exact bB.len ae
    have it:iO.length=aj.length:=by rw[<-jU.length];exact bB.len g2
    have R:=SeqAt.RcAt.tuples (A:=A) (s:=s) (e:=λj=>cx (ds.getD j .a3) (aj.getD j .a3)) (show s.heap.IsTuple p aL.toArray from bO) (show s.heap.IsTuple q iO.toArray from aD) co (λj cB cN=>by
     have HE:j < ds.length:=by simpa[eJ] using cB
     have HF:j < aj.length:=by simpa[it] using cN
     have a:ds[j]?=some ds[j]:=iB HE;have b:aj[j]?=some aj[j]:=iB HF;obtain⟨w1,ex,qf⟩:=bB.get ae a;obtain⟨sP,c1,zh⟩:=bB.get g2 b;obtain⟨ec,uT,fc⟩:=cI.get ex;obtain⟨gl,fd,HG⟩:=jU.get c1;have bq:aL.toArray[j]=ec:=by
      have:aL[j]?=some ec:=uT;have:=(kP.mp this).2
      simpa using this
     have bX:iO.toArray[j]=gl:=by
      have:iO[j]?=some gl:=fd;have:=(kP.mp this).2
      simpa using this
     rw[bq,bX,mh,mh,a,b];have XE:c2 ds[j]<=n:=by
      have:=Ff a;rw[c2] at hd;omega
     exact ih ds[j] aj[j] A.in1 w1 sP ec gl XE fc HG qf zh (by show A.units+1+n < cLine;omega))
    have dG:((List.range (min aL.toArray.size iO.toArray.size)).all (λj=>cx (ds.getD j .a3) (aj.getD j .a3))&&aL.toArray.size == iO.toArray.size)=iE ds aj:=by
     have cG:aL.toArray.size=ds.length:=by rw[gu,eJ]
     have cY:iO.toArray.size=aj.length:=by rw[gu,it]
     rw[cG,cY];exact Lr ds aj
    rw[dG] at R;exact SeqAt.EqAt.of_refs w0 R
  |a3=>exact ih .a3 e A x y u v (by rw[Fb];exact fN _) a0 bj ak aT co
  |aM a=>exact ih (.aM a) e A x y u v (by rw[Fc];exact fN _) a0 bj ak aT co
  |int a=>exact ih (.int a) e A x y u v (by rw[Fd];exact fN _) a0 bj ak aT co
  |str a=>exact ih (.str a) e A x y u v (by rw[Fe];exact fN _) a0 bj ak aT co
end
section
variable {K:aJ}{H:ap}
def At.new {p ds vs}(ar:H p=none) (h:bB K H ds vs):At K (upd H p (.tup vs)) (.tup ds) (.ref p):=
 eI.mpr ⟨p,vs,I,dI.of b',bB.same (cK ar _) ds vs h⟩
def At.Sl {ds v}{i:Nat} {d}(h:At K H (.tup ds) v) (aR:ds[i]?=some d):∃p vs w,v=.ref p/\dI K H p vs/\k1 vs (i:Int)=some w/\At K H d w:=by
 obtain⟨p,vs,rfl,ag,ae⟩:=eI.mp h;obtain⟨w,e,ay⟩:=bB.get ae aR;exact⟨p,vs,w,I,ag,iD e,ay⟩
end
section
variable {X:a8}{ac:eU}{aa:L2.St}{H:ap}{s:Shared}
def A6 (J:Inv X ac aa H s) {ds aj vs ab aL iO A n}(cI:b4 vs aL) (jU:b4 ab iO) (ae:bB X.K H ds vs) (g2:bB X.K H aj ab) (hd:fk ds<=n) (bY:A.units+n < cLine):∀j (cB:j < aL.toArray.size) (cN:j < iO.toArray.size),SeqAt.EqAt A s aL.toArray[j] iO.toArray[j] (cx (ds.getD j .a3) (aj.getD j .a3)):=by
 intro j cB cN;have eJ:aL.length=ds.length:=by rw[<-cI.length];exact bB.len ae
 have it:iO.length=aj.length:=by rw[<-jU.length];exact bB.len g2
 have HE:j < ds.length:=by simpa[eJ] using cB
 have HF:j < aj.length:=by simpa[it] using cN
 have a:ds[j]?=some ds[j]:=iB HE;have b:aj[j]?=some aj[j]:=iB HF;obtain⟨w1,ex,qf⟩:=bB.get ae a;obtain⟨sP,c1,zh⟩:=bB.get g2 b;obtain⟨ec,uT,fc⟩:=cI.get ex;obtain⟨gl,fd,HG⟩:=jU.get c1;have bq:aL.toArray[j]=ec:=by
  have:=(kP.mp uT).2
  simpa using this
 have bX:iO.toArray[j]=gl:=by
  have:=(kP.mp fd).2
  simpa using this
 rw[bq,bX,mh,mh,a,b];exact Lu J n ds[j] aj[j] A w1 sP ec gl (dW (Ff a) hd) fc HG qf zh bY
def Lv {ds aj vs ab aL iO}(cI:b4 vs aL) (jU:b4 ab iO) (ae:bB X.K H ds vs) (g2:bB X.K H aj ab):((List.range (min aL.toArray.size iO.toArray.size)).all (λj=>cx (ds.getD j .a3) (aj.getD j .a3))&&aL.toArray.size == iO.toArray.size)=iE ds aj:=by
 have cG:aL.toArray.size=ds.length:=by rw[gu,<-cI.length];exact bB.len ae
 have cY:iO.toArray.size=aj.length:=by rw[gu,<-jU.length];exact bB.len g2
 rw[cG,cY];exact Lr ds aj
def Sm {A d e u v}(a:oN X H s d u) (b:oN X H s e v) (ae:A.units < cLine) (n:¬((∃x,d=.tup x)/\∃x,e=.tup x)):SeqAt.RcAt A s u v (cx d e):=by
 cases a with
 |a3=>
  cases b with
  |a3=>exact SeqAt.RcAt.none_none
  |aM _=>exact SeqAt.RcAt.none_bool _
  |int _ _=>exact SeqAt.RcAt.none_int _ _
  |str _ _=>exact SeqAt.RcAt.none_str _ _
  |tup h _ _=>exact SeqAt.RcAt.none_tuple h ae
 |aM _=>
  cases b with
  |a3=>exact SeqAt.RcAt.bool_none _
  |aM _=>exact SeqAt.RcAt.bool_bool _ _
  |int _ _=>exact SeqAt.RcAt.bool_int _ _ _
  |str _ _=>exact SeqAt.RcAt.bool_str _ _ _
  |tup h _ _=>exact SeqAt.RcAt.bool_tuple _ h ae
 |int _ _=>
  cases b with
  |a3=>exact SeqAt.RcAt.int_none _ _
  |aM _=>exact SeqAt.RcAt.int_bool _ _ _
  |int _ _=>exact SeqAt.RcAt.int_int _ _ _ _
  |str _ _=>exact SeqAt.RcAt.int_str _ _ _ _
  |tup h _ _=>exact SeqAt.RcAt.int_tuple _ _ h ae
 |str _ _=>
  cases b with
  |a3=>exact SeqAt.RcAt.str_none _ _
  |aM _=>exact SeqAt.RcAt.str_bool _ _ _
  |int _ _=>exact SeqAt.RcAt.str_int _ _ _ _
  |str _ _=>exact SeqAt.RcAt.str_str _ _ _ _
  |tup h _ _=>exact SeqAt.RcAt.str_tuple _ _ h ae
 |tup h _ _=>
  cases b with
  |a3=>exact SeqAt.RcAt.tuple_none h ae
  |aM _=>exact SeqAt.RcAt.tuple_bool _ h ae
  |int _ _=>exact SeqAt.RcAt.tuple_int _ _ h ae
  |str _ _=>exact SeqAt.RcAt.tuple_str _ _ h ae
  |tup=>exact(n ⟨⟨_,I⟩,_,I⟩).elim
def Sn (J:Inv X ac aa H s) (d e A x y u v) (a0:RelV x u) (bj:RelV y v) (ak:At X.K H d x) (aT:At X.K H e y) (bY:A.units+c2 d < cLine):SeqAt.RcAt A s u v (cx d e):=by
 by_cases he:(∃x,d=.tup x)/\∃x,e=.tup x
 case neg=>exact Sm (.of J ak a0) (.of J aT bj) co he
 obtain⟨⟨ds,rfl⟩,aj,rfl⟩:=he;rw[c2] at bY;obtain⟨p,vs,rfl,ag,ae⟩:=eI.mp ak;cases a0;obtain⟨aL,cI,bO,_⟩:=J.tuple ag;obtain⟨q,ab,rfl,g1,g2⟩:=eI.mp aT;cases bj;obtain⟨iO,jU,aD,_⟩:=J.tuple g1;have R:=SeqAt.RcAt.tuples (A:=A) (s:=s) (e:=λj=>cx (ds.getD j .a3) (aj.getD j .a3)) (show s.heap.IsTuple p aL.toArray from bO) (show s.heap.IsTuple q iO.toArray from aD) co
  (A6 J (A:=A.in1) (n:=fk ds) cI jU ae g2 (bf _) (by show A.units+1+fk ds < cLine;omega))
 rw[Lv cI jU ae g2] at R;rw[cx];exact R
end
section
variable {X:a8}
inductive Lw (X:a8) (x:V) (y:V) (H:ap) (Q:bz):Prop
 |mk d e:At X.K H d x->At X.K H e y->c2 d<=60->Q (.aM (cx d e)) H->Lw X x y H Q
def A7 {k}(al:dj k X.A):eX X (compareOp .Eq) (Lw X):=by
 intro ac s aa H x y v u Q J a0 bj h;obtain⟨d,e,ak,aT,hd,q⟩:=h;exact Sn J d e X.A x y v u a0 bj ak aT (by have:=al.units;omega) _ _ _ _ ⟨.aM _,H,J,I,q⟩
end
section
variable {X:a8}{ac:eU}{aa:L2.St}{H:ap}{s:Shared}
def So (J:Inv X ac aa H s) (d e A x y u v) (a0:RelV x u) (bj:RelV y v) (ak:At X.K H d x) (aT:At X.K H e y) (bY:A.units+c2 d < cLine):SeqAt.RcNeAt A s u v (!cx d e):=by
 cases d with
 |tup ds=>
  rw[c2] at bY;obtain⟨p,vs,rfl,ag,ae⟩:=eI.mp ak;cases a0;obtain⟨aL,cI,bO,_⟩:=J.tuple ag;cases e with
  |a3=>have c1:=kA.mp aT;subst c1;cases bj;exact SeqAt.RcNeAt.tuple_none bO co
  |aM b=>have c1:=ie.mp aT;subst c1;cases bj;exact SeqAt.RcNeAt.tuple_bool b bO co
  |int b=>have c1:=hg.mp aT;subst c1;obtain⟨t,rfl⟩:=bj;exact SeqAt.RcNeAt.tuple_int b t bO co
  |str b=>have c1:=cz.mp aT;subst c1;obtain⟨t,rfl⟩:=bj;exact SeqAt.RcNeAt.tuple_str b t bO co
  |tup aj=>
   obtain⟨q,ab,rfl,g1,g2⟩:=eI.mp aT;cases bj;obtain⟨iO,jU,aD,_⟩:=J.tuple g1;have R:=SeqAt.RcNeAt.tuples (A:=A) (s:=s) (e:=λj=>cx (ds.getD j .a3) (aj.getD j .a3)) (show s.heap.IsTuple p aL.toArray from bO) (show s.heap.IsTuple q iO.toArray from aD) co
    (A6 J (A:=A.in1) (n:=fk ds) cI jU ae g2 (bf _) (by show A.units+1+fk ds < cLine;omega))
   rw[Lv cI jU ae g2] at R;rw[cx];exact R
 |a3=>
  rw[Fb] at bY;have ex:=kA.mp ak;subst ex;cases a0;cases e with
  |a3=>have c1:=kA.mp aT;subst c1;cases bj;exact SeqAt.RcNeAt.none_none
  |aM b=>have c1:=ie.mp aT;subst c1;cases bj;exact SeqAt.RcNeAt.none_bool b
  |int b=>have c1:=hg.mp aT;subst c1;obtain⟨t,rfl⟩:=bj;exact SeqAt.RcNeAt.none_int b t
  |str b=>have c1:=cz.mp aT;subst c1;obtain⟨t,rfl⟩:=bj;exact SeqAt.RcNeAt.none_str b t
  |tup aj=>
   obtain⟨p,vs,rfl,ag,_⟩:=eI.mp aT;cases bj;obtain⟨aL,cI,bO,_⟩:=J.tuple ag;exact SeqAt.RcNeAt.none_tuple bO co
 |aM a=>
  rw[Fc] at bY;have ex:=ie.mp ak;subst ex;cases a0;cases e with
  |a3=>have c1:=kA.mp aT;subst c1;cases bj;exact SeqAt.RcNeAt.bool_none a
  |aM b=>have c1:=ie.mp aT;subst c1;cases bj;exact SeqAt.RcNeAt.bool_bool a b
  |int b=>have c1:=hg.mp aT;subst c1;obtain⟨t,rfl⟩:=bj;exact SeqAt.RcNeAt.bool_int a b t
  |str b=>have c1:=cz.mp aT;subst c1;obtain⟨t,rfl⟩:=bj;exact SeqAt.RcNeAt.bool_str a b t
  |tup aj=>
   obtain⟨p,vs,rfl,ag,_⟩:=eI.mp aT;cases bj;obtain⟨aL,cI,bO,_⟩:=J.tuple ag;exact SeqAt.RcNeAt.bool_tuple a bO co
 |int a=>
  rw[Fd] at bY;have ex:=hg.mp ak;subst ex;obtain⟨t',rfl⟩:=a0;cases e with
  |a3=>have c1:=kA.mp aT;subst c1;cases bj;exact SeqAt.RcNeAt.int_none a t'
  |aM b=>have c1:=ie.mp aT;subst c1;cases bj;exact SeqAt.RcNeAt.int_bool a t' b
  |int b=>have c1:=hg.mp aT;subst c1;obtain⟨t,rfl⟩:=bj;exact SeqAt.RcNeAt.int_int a t' b t
  |str b=>have c1:=cz.mp aT;subst c1;obtain⟨t,rfl⟩:=bj;exact SeqAt.RcNeAt.int_str a t' b t
  |tup aj=>
   obtain⟨p,vs,rfl,ag,_⟩:=eI.mp aT;cases bj;obtain⟨aL,cI,bO,_⟩:=J.tuple ag;exact SeqAt.RcNeAt.int_tuple a t' bO co
 |str a=>
  rw[Fe] at bY;have ex:=cz.mp ak;subst ex;obtain⟨t',rfl⟩:=a0;cases e with
  |a3=>have c1:=kA.mp aT;subst c1;cases bj;exact SeqAt.RcNeAt.str_none a t'
  |aM b=>have c1:=ie.mp aT;subst c1;cases bj;exact SeqAt.RcNeAt.str_bool a t' b
  |int b=>have c1:=hg.mp aT;subst c1;obtain⟨t,rfl⟩:=bj;exact SeqAt.RcNeAt.str_int a t' b t
  |str b=>have c1:=cz.mp aT;subst c1;obtain⟨t,rfl⟩:=bj;exact SeqAt.RcNeAt.str_str a t' b t
  |tup aj=>
   obtain⟨p,vs,rfl,ag,_⟩:=eI.mp aT;cases bj;obtain⟨aL,cI,bO,_⟩:=J.tuple ag;exact SeqAt.RcNeAt.str_tuple a t' bO co
end
section
variable {X:a8}
inductive Lx (X:a8) (x:V) (y:V) (H:ap) (Q:bz):Prop
 |mk d e:At X.K H d x->At X.K H e y->c2 d<=60->Q (.aM (!cx d e)) H->Lx X x y H Q
def Ly {k}(al:dj k X.A):eX X (compareOp .NotEq) (Lx X):=by
 intro ac s aa H x y v u Q J a0 bj h;obtain⟨d,e,ak,aT,hd,q⟩:=h;exact So J d e X.A x y v u a0 bj ak aT (by have:=al.units;omega) _ _ _ _ ⟨.aM _,H,J,I,q⟩
end
mutual
def toPy:D->PyData
 |.a3=>.none
 |.aM b=>.bool b
 |.int i=>.int i
 |.str x=>.str x
 |.tup xs=>.tuple (hY xs)
def hY:d8->List PyData
 |[]=>[]
 |x::xs=>toPy x::hY xs
end
mutual
theorem Fi:∀d:D,(toPy d).depth<=c2 d+1
 |.a3=>by rw[toPy,Fb];simp[PyData.depth]
 |.aM b=>by rw[toPy,Fc];simp[PyData.depth]
 |.int i=>by rw[toPy,Fd];simp[PyData.depth]
 |.str x=>by rw[toPy,Fe];simp[PyData.depth]
 |.tup xs=>by
  have:=Lz xs;rw[toPy,c2];show PyData.depthAll (hY xs)+1<=_;omega
theorem Lz:∀ds:d8,PyData.depthAll (hY ds)<=fk ds+1
 |[]=>by rw[hY];simp[PyData.depthAll]
 |d::ds=>by
  have ag:=Fi d;have ae:=Lz ds;rw[hY,fk];show max (toPy d).depth (PyData.depthAll (hY ds))<=_;omega
end
mutual
theorem Fj:∀d:D,(toPy d).hasDict=false
 |.a3=>by rw[toPy];rfl
 |.aM b=>by rw[toPy];rfl
 |.int i=>by rw[toPy];rfl
 |.str x=>by rw[toPy];rfl
 |.tup xs=>by
  rw[toPy];show PyData.hasDictAll (hY xs)=false;exact LA xs
theorem LA:∀ds:d8,PyData.hasDictAll (hY ds)=false
 |[]=>by rw[hY];rfl
 |d::ds=>by
  rw[hY];show((toPy d).hasDict||PyData.hasDictAll (hY ds))=false;rw[Fj d,LA ds];rfl
end
section
variable {X:a8}{ac:eU}{aa:L2.St}{H:ap}{s:Shared}
mutual
theorem Fk (J:Inv X ac aa H s):∀d x u,RelV x u->At X.K H d x->∃ro,Reads s.heap u (toPy d) ro
 |.a3,x,u,r,h=>by have e:=kA.mp h;subst e;cases r;rw[toPy];exact⟨_,.none⟩
 |.aM b,x,u,r,h=>by have e:=ie.mp h;subst e;cases r;rw[toPy];exact⟨_,.bool b⟩
 |.int i,x,u,r,h=>by have e:=hg.mp h;subst e;obtain⟨t,rfl⟩:=r;rw[toPy];exact⟨_,.int i t⟩
 |.str y,x,u,r,h=>by have e:=cz.mp h;subst e;obtain⟨t,rfl⟩:=r;rw[toPy];exact⟨_,.str y t⟩
 |.tup ds,x,u,r,h=>by
  obtain⟨p,vs,rfl,ag,ae⟩:=eI.mp h;cases r;obtain⟨aL,cI,bO,_⟩:=J.tuple ag;obtain⟨o,am,aE,n,bq⟩:=(show IsTup s.heap p aL.toArray from bO);obtain⟨ro,Hy⟩:=LB J ds vs aL cI ae;rw[toPy];exact⟨_,.tuple am aE bq (by simpa using Hy)⟩
theorem LB (J:Inv X ac aa H s):∀ds vs aL,b4 vs aL->bB X.K H ds vs->∃ro,ReadsAll s.heap aL (hY ds) ro
 |[],vs,aL,r,h=>by have e:=f5.mp h;subst e;cases r;rw[hY];exact⟨_,.nil⟩
 |d::ds,vs,aL,r,h=>by
  obtain⟨v,Oa,rfl,ag,ae⟩:=fQ.mp h;cases r with
  |cons bR dL=>
   obtain⟨ro,x⟩:=Fk J d v _ bR ag;obtain⟨bs,y⟩:=LB J ds Oa _ dL ae;rw[hY];exact⟨_,.cons x y⟩
end
end
section
variable {X:a8}
def LC {k}(al:dj k X.A):kc X (.builtin "repr") (λxs H Q=>∃x ds,xs=[x]/\At X.K H (.tup ds) x/\(toPy (.tup ds)).showable=true/\c2 (.tup ds)<=40/\(toPy (.tup ds)).shown.length<=sizeLine/\Q (.str (toPy (.tup ds)).shown) H):=by
 intro ac s aa H xs us Q J r h;obtain⟨x,ds,rfl,ak,ax,hd,hz,q⟩:=h;obtain⟨u,rfl,fc⟩:=vals1 r;obtain⟨ro,aC⟩:=Fk J (.tup ds) x u fc ak;obtain⟨p,vs,rfl,_⟩:=eI.mp ak;cases fc;have XF:=Fi (.tup ds);exact repr_of_reads' aC ax (λz=>by rw[Fj] at z;cases z) al.x2 (by have:=al.units;omega) (λb o e=>e) (λh' u cS cZ=>⟨.str _,H,J.kept cZ,⟨_,I⟩,q⟩) hz
def Sp {ac aa H s}(J:Inv X ac aa H s) {d x v}(a0:RelV x v) (ak:At X.K H d x) {ds xs aL}(aq:bB X.K H ds xs) (cI:b4 xs aL) (A:Around) (bY:∀e∈ds,A.units+c2 e < cLine):∃f:Value->Bool,(∀u∈aL,SeqAt.EqAt A s u v (f u))/\aL.any f=ds.any λe=>cx e d:=by
 classical
 have fact:∀(i:Nat) (u:Value),aL[i]?=some u->∃e y,ds[i]?=some e/\RelV y u/\At X.K H e y:=λi u bY=>by
  have aR:i < aL.length:=(kP.mp bY).1;have ag:=cI.length;have ae:=aq.len;obtain⟨e,he⟩:∃e,ds[i]?=some e:=⟨ds[i]'co,bZ⟩;obtain⟨y,aT,oe⟩:=aq.get he;obtain⟨ec,qi,fc⟩:=cI.get aT;rw[bY] at qi;cases qi;exact⟨e,y,he,fc,oe⟩
 have val:∀(i:Nat) (u:Value) (e:D),aL[i]?=some u->ds[i]?=some e->(decide (∃(j:Nat) (db:D),aL[j]?=some u/\ds[j]?=some db/\cx db d=true))=cx e d:=λi u e bY he=>by
  rw[mR,decide_eq_true_eq];constructor
  ·rintro⟨j,db,c',HH,h⟩;obtain⟨am,CM,cB,cN,eS⟩:=fact i u bY;obtain⟨aE,CN,eJ,it,w2⟩:=fact j u c';rw[he] at cB;cases cB;rw[HH] at eJ;cases eJ;have c1:=RelV.inj cN it;subst c1;have:=At.one J _ _ _ eS w2;rw[this];exact h
  ·exact λh=>⟨i,e,bY,he,h⟩
 refine⟨λu=>decide (∃(j:Nat) (db:D),aL[j]?=some u/\ds[j]?=some db/\cx db d=true),λu qi=>?_,?_⟩
 ·obtain⟨i,aR⟩:=DR.mp qi;obtain⟨e,y,he,bj,aT⟩:=fact i u aR;dsimp only;rw[val i u e aR he];exact Lu J (c2 e) e d A y x u v (bf _) bj a0 aT ak (bY e (qE he))
 ·rw[mR,tg,tg];constructor
  ·rintro⟨u,qi,h⟩;obtain⟨i,aR⟩:=DR.mp qi;obtain⟨e,y,he,bj,aT⟩:=fact i u aR;rw[val i u e aR he] at h;exact⟨e,qE he,h⟩
  ·rintro⟨e,he,h⟩;obtain⟨i,aR⟩:=DR.mp he;obtain⟨y,aT,_⟩:=aq.get aR;obtain⟨u,qi,_⟩:=cI.get aT;exact⟨u,qE qi,by rw[val i u e qi aR];exact h⟩
inductive LD (X:a8) (neg:Bool) (x:V) (y:V) (H:ap) (Q:bz):Prop
 |mk d ds:At X.K H d x->At X.K H (.tup ds) y->(∀e∈ds,c2 e<=60)->(Q (.aM (if neg then !(ds.any λe=>cx e d) else ds.any λe=>cx e d)) H)->LD X neg x y H Q
def yf:D->String
 |.a3=>"NoneType" |.aM _=>"bool" |.int _=>"int" |.str _=>"str" |.tup _=>"tuple"
def Sq {ac aa H s x u d}(J:Inv X ac aa H s) (a0:RelV x u) (ak:At X.K H d x):∃HI,PySem.W.KitX X.K u (.type (yf d)) HI/\HI s.heap/\u≠Value.builtin "__main__.__loader__#opaque":=by
 cases d with
 |a3=>rw[kA.mp ak] at a0;cases (show u=Value.none from a0);exact⟨_,PySem.W.kitx_none,True.intro,(λz=>nomatch z)⟩
 |aM y=>rw[ie.mp ak] at a0;cases (show u=Value.bool y from a0);exact⟨_,PySem.W.kitx_bool,True.intro,(λz=>nomatch z)⟩
 |int i=>rw[hg.mp ak] at a0;obtain⟨t,q⟩:=(show ∃t,u=Value.int i t from a0);cases q;exact⟨_,PySem.W.kitx_int,True.intro,(λz=>nomatch z)⟩
 |str y=>rw[cz.mp ak] at a0;obtain⟨t,q⟩:=(show ∃t,u=Value.str y t from a0);cases q;exact⟨_,PySem.W.kitx_str,True.intro,(λz=>nomatch z)⟩
 |tup ds=>
  obtain⟨p,vs,rfl,aD,_⟩:=eI.mp ak;cases (show u=Value.ref p from a0);obtain⟨aL,_,⟨o,ag,ae,_⟩,_⟩:=J.tuple aD;exact⟨_,PySem.W.kitx_tuple,⟨o,ag,ae⟩,(λz=>nomatch z)⟩
inductive LF (K:aJ) (xs:br) (H:ap) (Q:bz):Prop
 |mk x T d b:xs=[x,.ty T]->At K H d x->PySem.W.kitOne K (.type (yf d)) (.type T)=some b->Q (.aM b) H->LF K xs H Q
def A8:kc X (.builtin "isinstance") (LF X.K):=by
 intro ac s aa H xs us Q J r h;obtain⟨x,T,d,b,rfl,ak,aU,q⟩:=h;obtain⟨u,jT,rfl,bR,dL⟩:=vals2 r;cases dL;obtain⟨HI,XG,mE,ne⟩:=Sq J bR ak;exact nz XG J.ep mE aU ne λcS=>⟨.aM b,H,J.tok _,I,q⟩
end
end GS
namespace GS
open PySem PySem.Builtin PyProof.Rows L2
open AutoSeq1 (wpAny_loadPart')
section
variable {X:a8}
inductive LG (K:aJ) (x y:V) (H:ap) (Q:bz):Prop
 |mk a b xs:x=.ref a->y=.ref b->bg K H a xs->bg K H b []->Q (.aM xs.isEmpty) H->LG K x y H Q
def Fl {k}(al:dj k X.A):eX X (compareOp .Eq) (LG X.K):=by
 intro ac s aa H x y v u Q J a0 bj h;obtain⟨a,b,xs,rfl,rfl,aq,af,q⟩:=h;cases a0;cases bj;obtain⟨aL,bR,aS,hK⟩:=J.list aq;obtain⟨qd,dL,bM,cW⟩:=J.list af;cases dL;have bY:X.A.units < cLine:=Nat.lt_of_succ_lt (AY al);cases bR with
 |nil=>exact SeqAt.eq_listAt (e:=λ_=>true) aS.isList bM.isList rfl bY (λj ag _=>absurd ag bZ) (fy J q I)
 |cons _ _=>exact SeqAt.eq_list_lengthsAt aS.isList bM.isList bZ bY (fy J q I)
inductive LH (K:aJ) (x y:V) (H:ap) (Q:bz):Prop
 |mk a b xs:x=.ref a->y=.ref b->bg K H a xs->bg K H b []->Q (.aM (!xs.isEmpty)) H->LH K x y H Q
def LI {k}(al:dj k X.A):eX X (compareOp .NotEq) (LH X.K):=by
 intro ac s aa H x y v u Q J a0 bj h;obtain⟨a,b,xs,rfl,rfl,aq,af,q⟩:=h;cases a0;cases bj;obtain⟨aL,bR,aS,hK⟩:=J.list aq;obtain⟨qd,dL,bM,cW⟩:=J.list af;cases dL;have bY:X.A.units < cLine:=Nat.lt_of_succ_lt (AY al);cases bR with
 |nil=>exact DO (e:=λ_=>true) aS.isList bM.isList rfl bY (λj ag _=>absurd ag bZ) _ _ _ _ (fy J q I)
 |cons _ _=>exact SeqAt.RcNeAt.lists_lengths aS.isList bM.isList bZ bY _ _ _ _ (fy J q I)
end
end GS
namespace GS
open PySem PySem.Builtin PyProof.Rows L2
section
variable {X:a8}
inductive LJ (K:aJ) (x:V) (y:V) (H:ap) (Q:bz):Prop
 |mk ds aj:At K H (.tup ds) x->At K H (.tup aj) y->ds.length+aj.length<=sizeLine->(∀r Z,ba H Z->At K Z (.tup (ds++aj)) r->Q r Z)->LJ K x y H Q
def LK:eX X (binaryOp .Add) (LJ X.K):=by
 intro ac s aa H x y v u Q J a0 bj h;obtain⟨ds,aj,ak,aT,hz,q⟩:=h;obtain⟨a,xs,rfl,aq,ei⟩:=eI.mp ak;obtain⟨b,ys,rfl,af,g8⟩:=eI.mp aT;cases a0;cases bj;have eJ:=ei.len;have it:=g8.len;obtain⟨aL,bR,aS,_⟩:=J.tuple aq;obtain⟨qd,dL,bM,_⟩:=J.tuple af;have w2:=bR.length;have Ot:=dL.length;by_cases ag:aL=[]
 ·subst ag;cases bR;have am:ds=[]:=by cases ds with|nil=>rfl|cons _ _=>simp at eJ
  subst am;obtain⟨⟨CO,eg,zE,sl⟩,a',aw,n,hd⟩:=id aS;obtain⟨⟨abR,CG,abS,CH⟩,rl,n8,cH,qa⟩:=id bM;simp only at aw hd n8 qa;subst aw hd n8 qa;exact concat_meets ⟨_,a',I⟩ ⟨_,rl,I⟩ noFill_tuple_add seq_tuple_add DF DG (DH _ _) (tuple_addW0 a b _ qd.toArray n cH eg CG sl CH bZ) ⟨a',rl,.ref b,H,J,I,q _ H (ba.refl H) aT⟩
 ·refine i0.Q4 aS bM ag (λz=>⟨.ref a,H,J,I,q _ H (ba.refl H) ?_⟩) (λz=>?_) co
  ·have aE:aj=[]:=by
    subst z;cases aj with
    |nil=>rfl
    |cons d r=>exact absurd (Ot.symm.trans it) bZ
   rw[aE,me];exact ak
  ·refine⟨.ref s.hz,_,J.laid (t':=s.toks) (o:=.tup (xs++ys)) (λb c7 q=>ej _ q) (bf _) ⟨by rw[cy];omega,_,bR.append dL,IsTup.new _ _⟩,I,?_⟩;have aP:=J.bA.fresh (bf s.hz);exact q _ _ (cK aP _) (At.new aP (ei.append g8))
end
end GS
namespace GS
open PySem PySem.Spec PySem.Builtin PyProof.Rows L2
open PySem.SeqAt
open PySem.MeetsSeq PySem.MeetsSeq2 PySem.MeetsSeq3
def Sr {prog w A E s t sl items dP ja lo aR Q}(bO:IsTup s.heap t items) (ax:s.heap.IsSliceOf sl dP ja .none) (pl:IsPart dP lo) (lW:IsPart ja aR) (ay:i0.d1 items.size 0 lo=0/\i0.d1 items.size items.size aR=items.size) (h:Q (.ref t) s):wpAny (model prog w) A (getItem (.ref t) (.ref sl)) Q E s:=by
 obtain⟨os,uH,mG,sK⟩:=id ax;have GM:s.TypeIs (.ref sl) "slice":=⟨os,uH,mG⟩;unfold getItem
 try with_reducible refine md ?_
 first|refine a4 (b3 ?_)|skip
 refine a4 (wpAny_sequenceKey bO.typeIs dU ?_);refine a4 (wpAny_callSpecial?_slot (name:=Str.ofString "__getitem__") bO.typeIs tk (wpAny_call_entry tk bO.typeIs entry_tuple_getitem ?_ (args_tuple_getitem _ _)));show wpAny _ _ (Builtin.Tuple.tupleItemsOf (.ref t) >>= _) _ _ s;refine a4 (tupleItemsOf_ bO ?_);refine a4 (wpAny_typeOf GM ?_);rw[b8 dU];refine a4 (i0.Kt ax pl lW ?_);rw[ay.1,ay.2];show wpAny _ _ (if(((0:Nat):Int) == 0&&(1:Int) == 1&&(items.size - 0) == items.size)=true then _ else _) _ _ s;rw[b8 bZ];refine a4 ?_;unfold Builtin.Tuple.tupleIsExact;refine a4 (wpAny_typeOf bO.typeIs (b3 ?_));rw[b8 dU];exact a4 (wpAny_rule (b3 ⟨_,I,b3 h⟩))
def cutD (ds:d8) (lo aR:iU):d8:=(ds.drop (i0.d1 ds.length 0 lo)).take (i0.d1 ds.length ds.length aR - i0.d1 ds.length 0 lo)
section
variable {X:a8}{K:aJ}{H:ap}
theorem bB.drop:∀n {ds vs},bB K H ds vs->bB K H (ds.drop n) (vs.drop n)
 |0,_,_,h=>h
 |n+1,[],vs,h=>by rw[f5.mp h];exact f5.mpr rfl
 |n+1,d::ds,vs,h=>by
  obtain⟨v,r,rfl,ag,ae⟩:=fQ.mp h;exact bB.drop n ae
theorem bB.take:∀n {ds vs},bB K H ds vs->bB K H (ds.take n) (vs.take n)
 |0,_,_,h=>f5.mpr rfl
 |n+1,[],vs,h=>by rw[f5.mp h];exact f5.mpr rfl
 |n+1,d::ds,vs,h=>by
  obtain⟨v,r,rfl,ag,ae⟩:=fQ.mp h;exact fQ.mpr ⟨v,r.take n,I,ag,bB.take n ae⟩
inductive LL (K:aJ) (x:V) (lo:iU) (aR:iU) (H:ap) (Q:bz):Prop
 |mk ds:At K H (.tup ds) x->(∀r Z,ba H Z->At K Z (.tup (cutD ds lo aR)) r->Q r Z)->LL K x lo aR H Q
def Ss:x6 X (LL X.K):=by
 intro ac s aa H x v dP ja lo aR sl Q J a0 ax pl lW h;obtain⟨ds,ak,q⟩:=h;obtain⟨a,xs,rfl,aD,ei⟩:=eI.mp ak;have og:=ei.len;by_cases ay:i0.d1 xs.length 0 lo=0/\i0.d1 xs.length xs.length aR=xs.length
 ·cases a0;obtain⟨aL,r,bO,hz⟩:=J.tuple aD;have dT:aL.toArray.size=xs.length:=by rw[gu];exact r.length.symm
  refine⟨"tuple",_,tk.lookup,bO.typeIs,?_⟩;refine Sr bO ax pl lW (by rw[dT];exact ay) ⟨.ref a,H,J,I,q _ H (ba.refl H) ?_⟩;have e:cutD ds lo aR=ds:=by
   unfold cutD;rw[<-og,ay.1,ay.2,og];simp
  rw[e];exact ak
 ·refine Rc ac s aa H _ v dP ja lo aR sl Q J a0 ax pl lW ⟨a,xs,I,aD,ay,λp ar=>q _ _ (cK ar _) (At.new ar ?_)⟩;unfold cutD x7;rw[<-og];exact bB.take _ (bB.drop _ ei)
end
end GS
namespace GS
open PySem
def dt:bJ:=.mark [40]
def dR:bJ:=.mark [41]
def nQ:bJ:=.mark [44]
def gE:bJ:=.mark [46]
def k4:bJ:=.mark [45]
def hO:bJ:=.ee [110,111,116]
def q0:List bJ:=[.ee [111,114]]
def sd:List bJ:=[.ee [97,110,100]]
def m5:List bJ:=[.mark [60],.mark [60,61],.mark [62],.mark [62,61],.mark [61,61],.mark [33,61]]
def se:List bJ:=[.mark [43],.mark [45]]
def sf:List bJ:=[.mark [42],.mark [47,47],.mark [38],.mark [124]]
def jr:bJ->D
 |.name l=>.str (S l)
 |.ee l=>.str (S l)
 |.num l=>.int ((NumText.digitsVal l:Nat):Int)
 |.text l=>.str (S l)
 |.mark l=>.str (S l)
def ez:bJ->Str
 |.name _=>"name"
 |.ee _=>"told"
 |.num _=>"number"
 |.text _=>"text"
 |.mark _=>"mark"
def dK (w:bJ):D:=.tup [.str (ez w),jr w]
abbrev bL:=D×Nat×Nat
def k5 (x:bL):D:=.tup [x.1,.int (x.2.1:Nat),.int (x.2.2:Nat)]
def ig (l:List bL):Nat:=l.foldr (λx m=>max x.2.1 m) 0
def mu (l:List bL):Nat:=l.foldr (λx m=>x.2.2+m) 0
def dX (t:D) (l:List bL):Option bL:=if 12 < 1+ig l\/60 < 1+mu l then none else some (t,1+ig l,1+mu l)
abbrev cq (cC:Type):=List bJ->Option (cC×List bJ)
def pairF (kind:Str) (l:bL) (inner:cq bL):cq bL
 |[]=>none
 |w::r=>(inner r).bind λy=>(dX (.tup [.str kind,jr w,l.1,y.1.1]) [l,y.1]).map λt=>(t,y.2)
def hE (kind:Str) (sg:List bJ) (inner:cq bL):Nat->bL->cq bL
 |0,l,ab=>some (l,ab)
 |n+1,l,ab=>if ab.head?.any (sg.contains ·)=true then(pairF kind l inner ab).bind λy=>hE kind sg inner n y.1 y.2 else some (l,ab)
def lM (kind:Str) (sg:List bJ) (inner:cq bL):cq bL:=λab=>(inner ab).bind λy=>hE kind sg inner y.2.length y.1 y.2
def kB (kind:Str):Nat->bL->Option bL
 |0,x=>some x
 |n+1,x=>(dX (.tup [.str kind,x.1]) [x]).bind (kB kind n)
def kf (kind:Str) (cF:bJ) (inner:cq bL):cq bL:=λab=>(inner (ab.dropWhile (· == cF))).bind λy=>(kB kind (ab.takeWhile (· == cF)).length y.1).map λt=>(t,y.2)
def v9 (inner:cq bL):cq bL:=λab=>(inner ab).bind λy=>if y.2.head?.any (m5.contains ·)=true then pairF "two" y.1 inner y.2 else some y
def nR {cC:Type}(x:cC):List bJ->Option (cC×List bJ)
 |[]=>none
 |c::r=>if c=dR then some (x,r) else none
def mv {cC:Type}(m:Nat) (inner:cq cC):cq cC
 |[]=>none
 |w::r=>if w=dt then(if m=0 then none else(inner r).bind λy=>nR y.1 y.2) else none
def jN (inner:cq bL):Nat->List bL->cq (List bL)
 |0,l,ab=>some (l,ab)
 |n+1,l,ab=>if ab.head?=some nQ then(inner ab.tail).bind λy=>jN inner n (l++[y.1]) y.2 else some (l,ab)
def tU (inner:cq bL):cq (List bL):=λab=>(inner ab).bind λy=>jN inner y.2.length [y.1] y.2
def oO (inner:cq bL):cq (List bL):=λab=>if ab.head?=some dR then some ([],ab) else tU inner ab
def tV (m most:Nat) (inner:cq bL):cq (List bL):=λab=>(mv m (oO inner) ab).bind λy=>if most < y.1.length then none else some y
def jt:bJ->Option D
 |.ee l=>if l=[84,114,117,101] then some (.tup [.str "truth",.aM true]) else if l=[70,97,108,115,101] then some (.tup [.str "truth",.aM false]) else if l=[78,111,110,101] then some (.tup [.str "none"]) else none
 |.mark _=>none
 |w=>some (dK w)
def m6 (m:Nat) (inner:cq bL):cq bL
 |[]=>none
 |w::r=>if w=dt then mv m inner (w::r) else(jt w).bind λd=>(dX d []).map λt=>(t,r)
def oP (m:Nat) (inner:cq bL) (l:bL):cq bL:=λab=>(tV m 4 inner ab).bind λy=>(dX (.tup [.str "call",l.1,.tup (y.1.map (·.1))]) (l::y.1)).map λt=>(t,y.2)
def sh (l:bL):cq bL
 |.name x::r=>(dX (.tup [.str "field",l.1,.str (S x)]) [l]).map λt=>(t,r)
 |_=>none
def hZ (m:Nat) (inner:cq bL):Nat->bL->cq bL
 |0,l,ab=>some (l,ab)
 |n+1,l,ab=>if ab.head?=some gE then(sh l ab.tail).bind λy=>hZ m inner n y.1 y.2 else if ab.head?=some dt then(oP m inner l ab).bind λy=>hZ m inner n y.1 y.2 else some (l,ab)
def pV (m:Nat) (inner:cq bL):cq bL:=λab=>(m6 m inner ab).bind λy=>hZ m inner y.2.length y.1 y.2
def tW (m:Nat) (i:cq bL):cq bL:=kf "minus" k4 (pV m i)
def tX (m:Nat) (i:cq bL):cq bL:=lM "two" sf (tW m i)
def sumF (m:Nat) (i:cq bL):cq bL:=lM "two" se (tX m i)
def Fm (m:Nat) (i:cq bL):cq bL:=v9 (sumF m i)
def tY (m:Nat) (i:cq bL):cq bL:=kf "not" hO (Fm m i)
def si (m:Nat) (i:cq bL):cq bL:=lM "both" sd (tY m i)
def v' (m:Nat) (i:cq bL):cq bL:=lM "both" q0 (si m i)
def i2:Nat->cq bL
 |0=>v' 0 λ_=>none
 |m+1=>v' (m+1) (i2 m)
def du:Nat->cq bL
 |0=>λ_=>none
 |m+1=>i2 m
theorem LM:∀m,i2 m=v' m (du m)
 |0=>rfl
 |_+1=>rfl
def gF {cC:Type}(bo:cq cC):Prop:=∀ab x r,bo ab=some (x,r)->r.length < ab.length
def wa {cC:Type}(bo:cq cC):Prop:=∀ab x r,bo ab=some (x,r)->r.length<=ab.length
def bd {cC kw:Type}{o:Option cC}{f:cC->Option kw}{y:kw}(h:o.bind f=some y):∃a,o=some a/\f a=some y:=Option.bind_eq_some_iff.mp h
def wb {cC kw:Type}{o:Option cC}{f:cC->kw}{y:kw}(h:o.map f=some y):∃a,o=some a/\f a=y:=Option.map_eq_some_iff.mp h
def gF.sl {cC:Type}{bo:cq cC}(h:gF bo):wa bo:=λab x r e=>xB (h ab x r e)
def Fn {k l i}(h:gF i):gF (pairF k l i):=λab x r e=>by
 cases ab with
 |nil=>cases e
 |cons w t=>
  obtain⟨⟨a,t'⟩,ag,ae⟩:=bd e
  try dsimp only at ae
  obtain⟨b,_,aW⟩:=wb ae;cases aW;have:=h _ _ _ ag;rw[en];omega
theorem LN {k sg i}(h:gF i):∀n l,wa (hE k sg i n l)
 |0,l=>λab x r e=>by cases e;exact bf _
 |n+1,l=>λab x r e=>by
  unfold hE at e;split at e
  ·obtain⟨⟨a,t'⟩,ag,ae⟩:=bd e
   try dsimp only at ae
   have:=Fn h _ _ _ ag;have:=LN h n a _ _ _ ae;omega
  ·cases e;exact bf _
def pW {k sg i}(h:gF i):gF (lM k sg i):=λab x r e=>by
 obtain⟨⟨a,t'⟩,ag,ae⟩:=bd e
 try dsimp only at ae
 have:=h _ _ _ ag;have:=LN h _ _ _ _ _ ae;omega
def sj {k cF i}(h:gF i):gF (kf k cF i):=λab x r e=>by
 obtain⟨⟨a,t'⟩,ag,ae⟩:=bd e
 try dsimp only at ae
 obtain⟨b,_,aW⟩:=wb ae;cases aW;have:=h _ _ _ ag;have:=(List.dropWhile_sublist (l:=ab) (· == cF)).length_le;omega
def Fo {i}(h:gF i):gF (v9 i):=λab x r e=>by
 obtain⟨⟨a,t'⟩,ag,ae⟩:=bd e
 try dsimp only at ae
 have:=h _ _ _ ag;split at ae
 ·have:=Fn h _ _ _ ae;omega
 ·cases ae;exact this
def LO {cC m}{i:cq cC}(h:wa i):gF (mv m i):=λab x r e=>by
 cases ab with
 |nil=>cases e
 |cons w t=>
  have e:(if w=dt then(if m=0 then none else(i t).bind λy=>nR y.1 y.2) else none)=some (x,r):=e;split at e
  ·split at e
   ·cases e
   ·obtain⟨⟨a,t'⟩,ag,ae⟩:=bd e
    try dsimp only at ae
    have:=h _ _ _ ag;cases t' with
    |nil=>cases ae
    |cons c gr=>
     have ae:(if c=dR then some (a,gr) else none)=some (x,r):=ae;split at ae
     ·cases ae;rw[en] at this⊢;omega
     ·cases ae
  ·cases e
theorem LP {i}(h:gF i):∀n l,wa (jN i n l)
 |0,l=>λab x r e=>by cases e;exact bf _
 |n+1,l=>λab x r e=>by
  unfold jN at e;split at e
  ·obtain⟨⟨a,t'⟩,ag,ae⟩:=bd e
   try dsimp only at ae
   have:=h _ _ _ ag;have:=LP h n _ _ _ _ ae;rw[xM] at *;omega
  ·cases e;exact bf _
def Su {i}(h:gF i):wa (oO i):=λab x r e=>by
 unfold oO at e;split at e
 ·cases e;exact bf _
 ·obtain⟨⟨a,t'⟩,ag,ae⟩:=bd e
  try dsimp only at ae
  have:=h _ _ _ ag;have:=LP h _ _ _ _ _ ae;omega
def Sv {m most i}(h:gF i):gF (tV m most i):=λab x r e=>by
 obtain⟨⟨a,t'⟩,ag,ae⟩:=bd e
 try dsimp only at ae
 split at ae
 ·cases ae
 ·cases ae;exact LO (Su h) _ _ _ ag
def Sw {m i}(h:gF i):gF (m6 m i):=λab x r e=>by
 cases ab with
 |nil=>cases e
 |cons w t=>
  have e:(if w=dt then mv m i (w::t) else(jt w).bind λd=>(dX d []).map λt'=>(t',t))=some (x,r):=e;split at e
  ·exact LO h.sl _ _ _ e
  ·obtain⟨d,_,ae⟩:=bd e;obtain⟨b,_,aW⟩:=wb ae;cases aW;exact pz _
def LQ {m i l}(h:gF i):gF (oP m i l):=λab x r e=>by
 obtain⟨⟨a,t'⟩,ag,ae⟩:=bd e
 try dsimp only at ae
 obtain⟨b,_,aW⟩:=wb ae;cases aW;exact Sv h _ _ _ ag
def LR {l}:gF (sh l):=λab x r e=>by
 unfold sh at e;split at e
 ·obtain⟨b,_,aW⟩:=wb e;cases aW;exact pz _
 ·cases e
theorem Fp {m i}(h:gF i):∀n l,wa (hZ m i n l)
 |0,l=>λab x r e=>by cases e;exact bf _
 |n+1,l=>λab x r e=>by
  unfold hZ at e;split at e
  ·obtain⟨⟨a,t'⟩,ag,ae⟩:=bd e
   try dsimp only at ae
   have:=LR _ _ _ ag;have:=Fp h n _ _ _ _ ae;rw[xM] at *;omega
  ·split at e
   ·obtain⟨⟨a,t'⟩,ag,ae⟩:=bd e
    try dsimp only at ae
    have:=LQ h _ _ _ ag;have:=Fp h n _ _ _ _ ae;omega
   ·cases e;exact bf _
def yg {m i}(h:gF i):gF (pV m i):=λab x r e=>by
 obtain⟨⟨a,t'⟩,ag,ae⟩:=bd e
 try dsimp only at ae
 have:=Sw h _ _ _ ag;have:=Fp h _ _ _ _ _ ae;omega
def LS {m i}(h:gF i):gF (v' m i):=pW (pW (sj (Fo (pW (pW (sj (yg h)))))))
theorem yh:∀m,gF (i2 m)
 |0=>LS λab x r e=>by cases e
 |m+1=>LS (yh m)
theorem yi {k sg i}(h:gF i):∀n bv l ab,ab.length<=n->ab.length<=bv->hE k sg i n l ab=hE k sg i bv l ab
 |0,0,_,_,_,_=>rfl
 |0,bv+1,l,ab,ag,_=>by
  have:ab=[]:=oC (by omega);subst this;rfl
 |n+1,0,l,ab,_,ae=>by
  have:ab=[]:=oC (by omega);subst this;rfl
 |n+1,bv+1,l,ab,ag,ae=>by
  unfold hE;split
  ·cases e:pairF k l i ab with
   |none=>rfl
   |some y=>
    have:=Fn h _ _ _ e;exact yi h n bv y.1 y.2 (by omega) (by omega)
  ·rfl
theorem A9 {m i}(h:gF i):∀n bv l ab,ab.length<=n->ab.length<=bv->hZ m i n l ab=hZ m i bv l ab
 |0,0,_,_,_,_=>rfl
 |0,bv+1,l,ab,ag,_=>by
  have:ab=[]:=oC (by omega);subst this;rfl
 |n+1,0,l,ab,_,ae=>by
  have:ab=[]:=oC (by omega);subst this;rfl
 |n+1,bv+1,l,ab,ag,ae=>by
  unfold hZ;split
  ·cases e:sh l ab.tail with
   |none=>rfl
   |some y=>
    have:=LR _ _ _ e;rw[xM] at this;exact A9 h n bv y.1 y.2 (by omega) (by omega)
  ·split
   ·cases e:oP m i l ab with
    |none=>rfl
    |some y=>
     have:=LQ h _ _ _ e;exact A9 h n bv y.1 y.2 (by omega) (by omega)
   ·rfl
theorem LU {i}(h:gF i):∀n bv l ab,ab.length<=n->ab.length<=bv->jN i n l ab=jN i bv l ab
 |0,0,_,_,_,_=>rfl
 |0,bv+1,l,ab,ag,_=>by
  have:ab=[]:=oC (by omega);subst this;rfl
 |n+1,0,l,ab,_,ae=>by
  have:ab=[]:=oC (by omega);subst this;rfl
 |n+1,bv+1,l,ab,ag,ae=>by
  unfold jN;split
  ·cases e:i ab.tail with
   |none=>rfl
   |some y=>
    have:=h _ _ _ e;rw[xM] at this;exact LU h n bv _ y.2 (by omega) (by omega)
  ·rfl
theorem LV {k}:∀n x,kB k (n+1) x=(kB k n x).bind λy=>dX (.tup [.str k,y.1]) [y]
 |0,x=>by show(dX _ _).bind (kB k 0)=dX (.tup [.str k,x.1]) [x];cases dX (.tup [.str k,x.1]) [x]<;>rfl
 |n+1,x=>by
  show(dX (.tup [.str k,x.1]) [x]).bind (kB k (n+1))=((dX (.tup [.str k,x.1]) [x]).bind (kB k n)).bind _;cases dX (.tup [.str k,x.1]) [x] with
  |none=>rfl
  |some y=>exact LV n y
def LW {k cF i ab}:kf k cF i (cF::ab)=(kf k cF i ab).bind λy=>(dX (.tup [.str k,y.1.1]) [y.1]).map λt=>(t,y.2):=by
 unfold kf;rw[List.dropWhile_cons_of_pos (by simp),List.takeWhile_cons_of_pos (by simp),en];cases i (ab.dropWhile (· == cF)) with
 |none=>rfl
 |some y=>
  show(kB k ((ab.takeWhile (· == cF)).length+1) y.1).map _=((kB k (ab.takeWhile (· == cF)).length y.1).map _).bind _;rw[LV];cases kB k (ab.takeWhile (· == cF)).length y.1<;>rfl
def LX {k cF i ab}(h:ab.head?≠some cF):kf k cF i ab=i ab:=by
 have am:ab.dropWhile (· == cF)=ab/\(ab.takeWhile (· == cF)).length=0:=by
  cases ab with
  |nil=>exact⟨I,I⟩
  |cons w r=>
   have:¬(w == cF)=true:=λz=>h (by rw[eq_of_beq z];rfl);exact⟨List.dropWhile_cons_of_neg this,by rw[qA,bP this];rfl⟩
 unfold kf;rw[am.1,am.2];cases i ab<;>rfl
mutual
inductive gk:Nat->D->Nat->Nat->Nat->List bJ->Prop
 |leaf l w d:jt w=some d->gk l d 1 1 0 [w]
 |oQ l d a p n aH:gk 0 d a p n aH->gk l d a p (n+1) (dt::(aH++[dR]))
 |fld l d a p n aH x:gk 8 d a p n aH->gk l (.tup [.str "field",d,.str (S x)]) (1+a) (1+p) n (aH++[gE,.name x])
 |call l d a p n aH ds be av bv cV:gk 8 d a p n aH->tZ ds be av bv cV->ds.length<=4->gk l (.tup [.str "call",d,.tup ds]) (1+max a be) (1+(p+av)) (max n (bv+1)) (aH++(dt::(cV++[dR])))
 |gx l d a p n aH:l<=7->gk 7 d a p n aH->gk l (.tup [.str "minus",d]) (1+a) (1+p) n (k4::aH)
 |wc l s d a p n aH d' be av bv cV:l<=6->sf.contains s=true->gk 6 d a p n aH->gk 7 d' be av bv cV->gk l (.tup [.str "two",jr s,d,d']) (1+max a be) (1+(p+av)) (max n bv) (aH++(s::cV))
 |sum l s d a p n aH d' be av bv cV:l<=5->se.contains s=true->gk 5 d a p n aH->gk 6 d' be av bv cV->gk l (.tup [.str "two",jr s,d,d']) (1+max a be) (1+(p+av)) (max n bv) (aH++(s::cV))
 |cmp l s d a p n aH d' be av bv cV:l<=4->m5.contains s=true->gk 5 d a p n aH->gk 5 d' be av bv cV->gk l (.tup [.str "two",jr s,d,d']) (1+max a be) (1+(p+av)) (max n bv) (aH++(s::cV))
 |fC l d a p n aH:l<=3->gk 3 d a p n aH->gk l (.tup [.str "not",d]) (1+a) (1+p) n (hO::aH)
 |and l s d a p n aH d' be av bv cV:l<=2->sd.contains s=true->gk 2 d a p n aH->gk 3 d' be av bv cV->gk l (.tup [.str "both",jr s,d,d']) (1+max a be) (1+(p+av)) (max n bv) (aH++(s::cV))
 |or l s d a p n aH d' be av bv cV:l<=1->q0.contains s=true->gk 1 d a p n aH->gk 2 d' be av bv cV->gk l (.tup [.str "both",jr s,d,d']) (1+max a be) (1+(p+av)) (max n bv) (aH++(s::cV))
inductive tZ:d8->Nat->Nat->Nat->List bJ->Prop
 |nil:tZ [] 0 0 0 []
 |one d a p n aH:gk 0 d a p n aH->tZ [d] a p n aH
 |cons d a p n aH ds be av bv cV:gk 0 d a p n aH->tZ ds be av bv cV->ds≠[]->tZ (d::ds) (max a be) (p+av) (max n bv) (aH++(nQ::cV))
end
def cont (l:Nat):List bJ:=[gE,dt]++(if l<=6 then sf else [])++(if l<=5 then se else [])++(if l<=4 then m5 else [])++(if l<=2 then sd else [])++(if l<=1 then q0 else [])
def St (l:Nat) (r:List bJ):Prop:=r.head?.any ((cont l).contains ·)=false
def St.no {l r}{sg:List bJ}(h:St l r) (ax:sg.all ((cont l).contains ·)=true):r.head?.any (sg.contains ·)=false:=by
 cases e:r.head? with
 |none=>rfl
 |some w=>
  unfold St at h;rw[e] at h;have h:(cont l).contains w=false:=h;show sg.contains w=false;rw[Bool.eq_false_iff];intro ay;have:=eW.mp ax w (vB.mp ay);rw[h] at this;cases this
def St.mono {l pf r}(h:St l r) (ax:(cont pf).all ((cont l).contains ·)=true):St pf r:=St.no h ax
def sk {k sg i n l ab}(h:ab.head?.any (sg.contains ·)=false):hE k sg i n l ab=some (l,ab):=by
 cases n with
 |zero=>rfl
 |succ n=>unfold hE;rw[h];rfl
def Sx {m i n l ab}(h:St 7 ab):hZ m i n l ab=some (l,ab):=by
 cases n with
 |zero=>rfl
 |succ n=>
  have ag:ab.head?≠some gE:=λz=>by unfold St at h;rw[z] at h;revert h;decide +kernel
  have ae:ab.head?≠some dt:=λz=>by unfold St at h;rw[z] at h;revert h;decide +kernel
  unfold hZ;rw[bP ag,bP ae]
def Op (m:Nat) (l:Nat) (T:bL) (aH:List bJ):Prop:=match l with
 |0=>∀r,St 2 r->v' m (du m) (aH++r)=hE "both" q0 (si m (du m)) r.length T r
 |1=>∀r,St 2 r->v' m (du m) (aH++r)=hE "both" q0 (si m (du m)) r.length T r
 |2=>∀r,St 3 r->si m (du m) (aH++r)=hE "both" sd (tY m (du m)) r.length T r
 |3=>∀r,St 3 r->tY m (du m) (aH++r)=some (T,r)
 |4=>∀r,St 4 r->Fm m (du m) (aH++r)=some (T,r)
 |5=>∀r,St 6 r->sumF m (du m) (aH++r)=hE "two" se (tX m (du m)) r.length T r
 |6=>∀r,St 7 r->tX m (du m) (aH++r)=hE "two" sf (tW m (du m)) r.length T r
 |7=>∀r,St 7 r->tW m (du m) (aH++r)=some (T,r)
 |_=>∀r,pV m (du m) (aH++r)=hZ m (du m) r.length T r
structure kg (l:Nat) (aH:List bJ):Prop where
 ne:aH≠[]
 fC:4<=l->aH.head?≠some hO
 gx:8<=l->aH.head?≠some k4
 cl:aH.head?≠some dR
def wd {aH r:List bJ}(h:aH≠[]):(aH++r).head?=aH.head?:=by
 cases aH with
 |nil=>exact absurd rfl h
 |cons=>rfl
section
variable {m:Nat}{T:bL}{aH:List bJ}
def Sy (h:Op m 8 T aH) (hd:kg 8 aH):Op m 7 T aH:=λr al=>by
 show kf "minus" k4 _ (aH++r)=_;rw[LX (by rw[wd hd.ne];exact hd.gx (by decide)),h r,Sx al]
def Sz (h:Op m 7 T aH):Op m 6 T aH:=λr al=>by
 show(tW m (du m) (aH++r)).bind _=_;rw[h r al];rfl
def SA (h:Op m 6 T aH):Op m 5 T aH:=λr al=>by
 show(tX m (du m) (aH++r)).bind _=_;rw[h r (al.mono (by decide +kernel)),sk (al.no (by decide +kernel))];rfl
def SD (h:Op m 5 T aH):Op m 4 T aH:=λr al=>by
 show(sumF m (du m) (aH++r)).bind _=_;rw[h r (al.mono (by decide +kernel)),sk (al.no (by decide +kernel))];show(if r.head?.any (m5.contains ·)=true then _ else _)=_;rw[al.no (sg:=m5) (by decide +kernel)];rfl
def SE (h:Op m 4 T aH) (hd:aH≠[]/\aH.head?≠some hO):Op m 3 T aH:=λr al=>by
 show kf "not" hO _ (aH++r)=_;rw[LX (by rw[wd hd.1];exact hd.2),h r (al.mono (by decide +kernel))]
def SF (h:Op m 3 T aH):Op m 2 T aH:=λr al=>by
 show(tY m (du m) (aH++r)).bind _=_;rw[h r al];rfl
def LY (h:Op m 2 T aH):Op m 1 T aH:=λr al=>by
 show(si m (du m) (aH++r)).bind _=_;rw[h r (al.mono (by decide +kernel)),sk (al.no (by decide +kernel))];rfl
def LZ (h:Op m 1 T aH):Op m 0 T aH:=h
theorem Op.SG (h:Op m 1 T aH):∀l,l<=1->Op m l T aH
 |0,_=>LZ h
 |1,_=>h
theorem Op.to2 (h:Op m 2 T aH):∀l,l<=2->Op m l T aH
 |0,_=>LZ (LY h)
 |1,_=>LY h
 |2,_=>h
def Op.to3 (h:Op m 3 T aH) (l:Nat) (au:l<=3):Op m l T aH:=by
 by_cases e:l=3
 ·subst e;exact h
 ·exact(SF h).to2 l (by omega)
def Op.L0 (h:Op m 4 T aH) (hd:aH≠[]/\aH.head?≠some hO) (l:Nat) (au:l<=4):Op m l T aH:=by
 by_cases e:l=4
 ·subst e;exact h
 ·exact(SE h hd).to3 l (by omega)
def Op.L1 (h:Op m 5 T aH) (hd:aH≠[]/\aH.head?≠some hO) (l:Nat) (au:l<=5):Op m l T aH:=by
 by_cases e:l=5
 ·subst e;exact h
 ·exact(SD h).L0 hd l (by omega)
def Op.L3 (h:Op m 6 T aH) (hd:aH≠[]/\aH.head?≠some hO) (l:Nat) (au:l<=6):Op m l T aH:=by
 by_cases e:l=6
 ·subst e;exact h
 ·exact(SA h).L1 hd l (by omega)
def Op.L4 (h:Op m 7 T aH) (hd:aH≠[]/\aH.head?≠some hO) (l:Nat) (au:l<=7):Op m l T aH:=by
 by_cases e:l=7
 ·subst e;exact h
 ·exact(Sz h).L3 hd l (by omega)
def Op.A' (h:Op m 8 T aH) (hd:kg 8 aH) (l:Nat):Op m l T aH:=by
 by_cases e:l<=7
 ·exact(Sy h hd).L4 ⟨hd.ne,hd.fC (by decide)⟩ l e
 ·obtain⟨j,rfl⟩:∃j,l=j+8:=⟨l - 8,by omega⟩;exact h
end
theorem we:∀m,gF (du m)
 |0=>λab x r e=>by cases e
 |m+1=>yh m
def Fq {t a p d}(aq:1+a<=12) (ar:1+p<=60):dX t [(d,a,p)]=some (t,1+a,1+p):=by
 unfold dX;have am:ig [((d,a,p):bL)]=a:=by show max a 0=a;omega
 have aE:mu [((d,a,p):bL)]=p:=rfl;rw[am,aE,bP (by omega)]
def yj {t a p d be av d'}(aq:1+max a be<=12) (ar:1+(p+av)<=60):dX t [(d,a,p),(d',be,av)]=some (t,1+max a be,1+(p+av)):=by
 unfold dX;have am:ig [((d,a,p):bL),(d',be,av)]=max a be:=by show max a (max be 0)=_;omega
 have aE:mu [((d,a,p):bL),(d',be,av)]=p+av:=rfl;rw[am,aE,bP (by omega)]
def Op.full {m T aH r}(h:Op m 0 T aH) (al:St 1 r):i2 m (aH++r)=some (T,r):=by
 rw[LM];exact(h r (al.mono (by decide +kernel))).trans (sk (al.no (by decide +kernel)))
def SH {cC m}{i:cq cC} (w r):mv m i (w::r)=if w=dt then(if m=0 then none else(i r).bind λy=>nR y.1 y.2) else none:=rfl
def SI {cC}{x:cC} (w r):nR x (w::r)=if w=dR then some (x,r) else none:=rfl
def SJ {m i} (w r):m6 m i (w::r)=if w=dt then mv m i (w::r) else(jt w).bind λd=>(dX d []).map λt=>(t,r):=rfl
def L5 {cC m}{i:cq cC} {ab}(h:m≠0):mv m i (dt::ab)=(i ab).bind λy=>nR y.1 y.2:=by rw[SH,b8 I,bP h]
def L6 {cC}{x:cC} {r}:nR x (dR::r)=some (x,r):=by rw[SI,b8 rfl]
def L7 {m}(h:m≠0):du m=i2 (m - 1):=by
 cases m with
 |zero=>exact absurd rfl h
 |succ m=>rfl
def Ba {k sg i n l T ab r x s}(ax:sg.contains s=true) (h:i ab=some (x,r)) (hz:dX (.tup [.str k,jr s,l.1,x.1]) [l,x]=some T):hE k sg i (n+1) l (s::ab)=hE k sg i n T r:=by
 show(if sg.contains s=true then(pairF k l i (s::ab)).bind _ else _)=_;rw[b8 ax];show((i ab).bind λy=>(dX (.tup [.str k,jr s,l.1,y.1.1]) [l,y.1]).map λt=>(t,y.2)).bind _=_;rw[h];show((dX (.tup [.str k,jr s,l.1,x.1]) [l,x]).map λt=>(t,r)).bind _=_;rw[hz];rfl
def yk {sg:List bJ} {l s ab}(h:sg.contains s=true) (aw:sg.all (λw=>!(cont l).contains w)=true):St l (s::ab):=by
 have:=eW.mp aw s (vB.mp h);show(cont l).contains s=false
 simpa using this
def sm {l aH cV}(h:kg l aH):kg l (aH++cV):=⟨by simp[h.ne],λz=>by rw[wd h.ne];exact h.fC z,λz=>by rw[wd h.ne];exact h.gx z,by rw[wd h.ne];exact h.cl⟩
def kg.le {l pf aH}(h:kg l aH) (e:pf<=l):kg pf aH:=⟨h.ne,λz=>h.fC (by omega),λz=>h.gx (by omega),h.cl⟩
def SK {i n l ab}(h:ab.head?≠some nQ):jN i n l ab=some (l,ab):=by
 cases n with
 |zero=>rfl
 |succ n=>unfold jN;rw[bP h]
def L8 (m:Nat) (ds:d8) (aH:List bJ) (Ts:List bL):Prop:=(ds=[]/\(aH=[]/\Ts=[]))\/(ds≠[]/\kg 0 aH/\∀pre r k,(aH++dR::r).length<=k->((i2 m (aH++dR::r)).bind λy=>jN (i2 m) k (pre++[y.1]) y.2)=some (pre++Ts,dR::r))
def SM {m ds aH Ts}(h:L8 m ds aH Ts) (r:List bJ):oO (i2 m) (aH++dR::r)=some (Ts,dR::r):=by
 rcases h with ⟨_,rfl,rfl⟩|⟨_,hd,h⟩
 ·show(if some dR=some dR then _ else _)=_;rw[b8 rfl];rfl
 ·unfold oO;rw[bP (by rw[wd hd.ne];exact hd.cl)];have:=h [] r (aH++dR::r).length (bf _);unfold tU;cases e:i2 m (aH++dR::r) with
  |none=>rw[e] at this;cases this
  |some y=>
   rw[e] at this;have this:jN (i2 m) (aH++dR::r).length ([]++[y.1]) y.2=some ([]++Ts,dR::r):=this;have au:=yh m _ _ _ e;show jN (i2 m) y.2.length [y.1] y.2=_;rw[LU (yh m) _ (aH++dR::r).length _ _ (bf _) (by omega)];exact this
mutual
theorem ju:∀{l d a p n aH},gk l d a p n aH->∀m,n<=m->a<=12->p<=60->kg l aH/\Op m l (d,a,p) aH
 |l,_,_,_,_,_,.leaf _ w d ay,m,_,_,_=>by
  have bS:∀z,jt z=none->([w]:List bJ).head?≠some z:=λz hz e=>by
   have e:w=z:=hB e;rw[e,hz] at ay;cases ay
  have hd:kg 8 [w]:=⟨by simp,λ_=>bS _ (by decide +kernel),λ_=>bS _ I,bS _ I⟩;have a':Op m 8 (d,1,1) [w]:=λr=>by
   show(m6 m (du m) (w::r)).bind _=_;have e:m6 m (du m) (w::r)=some ((d,1,1),r):=by
    show(if w=dt then _ else(jt w).bind _)=_;rw[bP λz=>bS dt I (by rw[z];rfl),ay];rfl
   rw[e];rfl
  exact⟨⟨hd.ne,λ_=>hd.fC (by decide),λ_=>hd.gx (by decide),hd.cl⟩,a'.A' hd l⟩
 |l,_,_,_,_,_,.oQ _ d a p n aH h,m,aP,aq,ar=>by
  have aQ:m≠0:=by omega
  obtain⟨_,o⟩:=ju h (m - 1) (by omega) aq ar;have hd:kg 8 (dt::(aH++[dR])):=⟨by simp,λ_=>(by show some dt≠some hO;decide +kernel),λ_=>(by show some dt≠some k4;decide +kernel),(by show some dt≠some dR;decide +kernel)⟩;have a':Op m 8 (d,a,p) (dt::(aH++[dR])):=λr=>by
   show(m6 m (du m) (dt::((aH++[dR])++r))).bind _=_;have e:m6 m (du m) (dt::((aH++[dR])++r))=some ((d,a,p),r):=by
    rw[SJ,b8 I,L5 aQ,L7 aQ,hU];show(i2 (m - 1) (aH++dR::r)).bind _=_;rw[o.full (by show(cont 1).contains dR=false;decide +kernel)];exact L6
   rw[e];rfl
  exact⟨⟨hd.ne,λ_=>hd.fC (by decide),λ_=>hd.gx (by decide),hd.cl⟩,a'.A' hd l⟩
 |l,_,_,_,_,_,.fld _ d a p n aH x h,m,aP,aq,ar=>by
  obtain⟨hd,o⟩:=ju h m aP (by omega) (by omega);have ge:kg 8 (aH++[gE,.name x]):=sm hd;have a':Op m 8 (.tup [.str "field",d,.str (S x)],1+a,1+p) (aH++[gE,.name x]):=λr=>by
   rw[hU,(show Op m 8 (d,a,p) aH from o) _];show hZ m (du m) (r.length+2) (d,a,p) (gE::.name x::r)=_;show(if some gE=some gE then(sh (d,a,p) (.name x::r)).bind _ else _)=_;rw[b8 rfl];show((dX (.tup [.str "field",d,.str (S x)]) [(d,a,p)]).map _).bind _=_;rw[Fq aq ar];exact A9 (we m) _ _ _ _ (mf _) (bf _)
  exact⟨⟨ge.ne,λ_=>ge.fC (by decide),λ_=>ge.gx (by decide),ge.cl⟩,a'.A' ge l⟩
 |l,_,_,_,_,_,.call _ d a p n aH ds be av bv cV h au bm,m,aP,aq,ar=>by
  have aQ:m≠0:=by omega
  obtain⟨hd,o⟩:=ju h m (by omega) (by omega) (by omega);obtain⟨Ts,am,aE,bq,XH⟩:=L9 au (m - 1) (by omega) (by omega) (by omega);have bX:=SM XH;have ge:kg 8 (aH++(dt::(cV++[dR]))):=sm hd;have a':Op m 8 (.tup [.str "call",d,.tup ds],1+max a be,1+(p+av)) (aH++(dt::(cV++[dR]))):=λr=>by
   rw[hU,(show Op m 8 (d,a,p) aH from o) _];have hl:(dt::(cV++[dR]))++r=dt::(cV++dR::r):=by simp
   rw[hl];have h4:oP m (du m) (d,a,p) (dt::(cV++dR::r))=some ((.tup [.str "call",d,.tup ds],1+max a be,1+(p+av)),r):=by
    show((mv m (oO (du m)) (dt::(cV++dR::r))).bind _).bind _=_;rw[L5 aQ,L7 aQ,bX r];show((nR Ts (dR::r)).bind _).bind _=_;rw[L6];show(if 4 < Ts.length then none else some (Ts,r)).bind _=_;have dT:Ts.length=ds.length:=by rw[<-am,eV]
    rw[bP (by omega)];show(dX (.tup [.str "call",d,.tup (Ts.map (·.1))]) ((d,a,p)::Ts)).map _=_;rw[am];unfold dX;have d3:ig ((d,a,p)::Ts)=max a be:=by show max a (ig Ts)=_;rw[aE]
    have im:mu ((d,a,p)::Ts)=p+av:=by show p+mu Ts=_;rw[bq]
    rw[d3,im,bP (by omega)];rfl
   show hZ m (du m) ((cV++dR::r).length+1) (d,a,p) (dt::(cV++dR::r))=_;show(if some dt=some gE then _ else if some dt=some dt then(oP m (du m) (d,a,p) (dt::(cV++dR::r))).bind _ else _)=_;rw[bP (by decide +kernel),b8 I,h4];exact A9 (we m) _ _ _ _ (by show r.length<=_;rw[cy,en];omega) (bf _)
  exact⟨⟨ge.ne,λ_=>ge.fC (by decide),λ_=>ge.gx (by decide),ge.cl⟩,a'.A' ge l⟩
 |l,_,_,_,_,_,.gx _ d a p n aH au h,m,aP,aq,ar=>by
  obtain⟨hd,o⟩:=ju h m aP (by omega) (by omega);have a':Op m 7 (.tup [.str "minus",d],1+a,1+p) (k4::aH):=λr al=>by
   show kf "minus" k4 _ (k4::(aH++r))=_;rw[LW];show(tW m (du m) (aH++r)).bind _=_;rw[(show Op m 7 (d,a,p) aH from o) r al];show(dX (.tup [.str "minus",d]) [(d,a,p)]).map _=_;rw[Fq aq ar];rfl
  have bS:(k4::aH).head?≠some hO:=by show some k4≠some hO;decide +kernel
  exact⟨⟨by simp,λ_=>bS,λz=>by omega,by show some k4≠some dR;decide +kernel⟩,a'.L4 ⟨by simp,bS⟩ l au⟩
 |l,_,_,_,_,_,.wc _ s d a p n aH d' be av bv cV au ax h h',m,aP,aq,ar=>by
  obtain⟨hd,o⟩:=ju h m (by omega) (by omega) (by omega);obtain⟨_,c0⟩:=ju h' m (by omega) (by omega) (by omega);have ge:kg 6 (aH++(s::cV)):=sm hd;have a':Op m 6 (.tup [.str "two",jr s,d,d'],1+max a be,1+(p+av)) (aH++(s::cV)):=λr al=>by
   rw[hU,ku,(show Op m 6 (d,a,p) aH from o) _ (yk ax (by decide +kernel))];show hE "two" sf (tW m (du m)) ((cV++r).length+1) (d,a,p) (s::(cV++r))=_;rw[Ba ax ((show Op m 7 (d',be,av) cV from c0) r al) (yj aq ar)];exact yi (sj (yg (we m))) _ _ _ _ (by rw[cy];omega) (bf _)
  exact⟨ge.le au,a'.L3 ⟨ge.ne,ge.fC (by decide)⟩ l au⟩
 |l,_,_,_,_,_,.sum _ s d a p n aH d' be av bv cV au ax h h',m,aP,aq,ar=>by
  obtain⟨hd,o⟩:=ju h m (by omega) (by omega) (by omega);obtain⟨_,c0⟩:=ju h' m (by omega) (by omega) (by omega);have ge:kg 5 (aH++(s::cV)):=sm hd;have a':Op m 5 (.tup [.str "two",jr s,d,d'],1+max a be,1+(p+av)) (aH++(s::cV)):=λr al=>by
   rw[hU,ku,(show Op m 5 (d,a,p) aH from o) _ (yk ax (by decide +kernel))];show hE "two" se (tX m (du m)) ((cV++r).length+1) (d,a,p) (s::(cV++r))=_;have e:tX m (du m) (cV++r)=some ((d',be,av),r):=((show Op m 6 (d',be,av) cV from c0) r (al.mono (by decide +kernel))).trans (sk (al.no (by decide +kernel)));rw[Ba ax e (yj aq ar)];exact yi (pW (sj (yg (we m)))) _ _ _ _ (by rw[cy];omega) (bf _)
  exact⟨ge.le au,a'.L1 ⟨ge.ne,ge.fC (by decide)⟩ l au⟩
 |l,_,_,_,_,_,.cmp _ s d a p n aH d' be av bv cV au ax h h',m,aP,aq,ar=>by
  obtain⟨hd,o⟩:=ju h m (by omega) (by omega) (by omega);obtain⟨_,c0⟩:=ju h' m (by omega) (by omega) (by omega);have ge:kg 4 (aH++(s::cV)):=sm (hd.le (by decide));have a':Op m 4 (.tup [.str "two",jr s,d,d'],1+max a be,1+(p+av)) (aH++(s::cV)):=λr al=>by
   have st:St 5 (s::(cV++r)):=yk ax (by decide +kernel);have am:sumF m (du m) ((aH++(s::cV))++r)=some ((d,a,p),s::(cV++r)):=by
    rw[hU,ku];exact((show Op m 5 (d,a,p) aH from o) _ (st.mono (by decide +kernel))).trans (sk (st.no (by decide +kernel)))
   have aE:sumF m (du m) (cV++r)=some ((d',be,av),r):=((show Op m 5 (d',be,av) cV from c0) r (al.mono (by decide +kernel))).trans (sk (al.no (by decide +kernel)));show(sumF m (du m) ((aH++(s::cV))++r)).bind _=_;rw[am];show(if m5.contains s=true then pairF "two" (d,a,p) (sumF m (du m)) (s::(cV++r)) else _)=_;rw[b8 ax];show(sumF m (du m) (cV++r)).bind _=_;rw[aE];show(dX (.tup [.str "two",jr s,d,d']) [(d,a,p),(d',be,av)]).map _=_;rw[yj aq ar];rfl
  exact⟨ge.le au,a'.L0 ⟨ge.ne,ge.fC (by decide)⟩ l au⟩
 |l,_,_,_,_,_,.fC _ d a p n aH au h,m,aP,aq,ar=>by
  obtain⟨hd,o⟩:=ju h m aP (by omega) (by omega);have a':Op m 3 (.tup [.str "not",d],1+a,1+p) (hO::aH):=λr al=>by
   show kf "not" hO _ (hO::(aH++r))=_;rw[LW];show(tY m (du m) (aH++r)).bind _=_;rw[(show Op m 3 (d,a,p) aH from o) r al];show(dX (.tup [.str "not",d]) [(d,a,p)]).map _=_;rw[Fq aq ar];rfl
  exact⟨⟨by simp,λz=>by omega,λz=>by omega,by show some hO≠some dR;decide +kernel⟩,a'.to3 l au⟩
 |l,_,_,_,_,_,.and _ s d a p n aH d' be av bv cV au ax h h',m,aP,aq,ar=>by
  obtain⟨hd,o⟩:=ju h m (by omega) (by omega) (by omega);obtain⟨_,c0⟩:=ju h' m (by omega) (by omega) (by omega);have ge:kg 2 (aH++(s::cV)):=sm hd;have a':Op m 2 (.tup [.str "both",jr s,d,d'],1+max a be,1+(p+av)) (aH++(s::cV)):=λr al=>by
   rw[hU,ku,(show Op m 2 (d,a,p) aH from o) _ (yk ax (by decide +kernel))];show hE "both" sd (tY m (du m)) ((cV++r).length+1) (d,a,p) (s::(cV++r))=_;rw[Ba ax ((show Op m 3 (d',be,av) cV from c0) r al) (yj aq ar)];exact yi (sj (Fo (pW (pW (sj (yg (we m))))))) _ _ _ _ (by rw[cy];omega) (bf _)
  exact⟨ge.le au,a'.to2 l au⟩
 |l,_,_,_,_,_,.or _ s d a p n aH d' be av bv cV au ax h h',m,aP,aq,ar=>by
  obtain⟨hd,o⟩:=ju h m (by omega) (by omega) (by omega);obtain⟨_,c0⟩:=ju h' m (by omega) (by omega) (by omega);have ge:kg 1 (aH++(s::cV)):=sm hd;have a':Op m 1 (.tup [.str "both",jr s,d,d'],1+max a be,1+(p+av)) (aH++(s::cV)):=λr al=>by
   rw[hU,ku,(show Op m 1 (d,a,p) aH from o) _ (yk ax (by decide +kernel))];show hE "both" q0 (si m (du m)) ((cV++r).length+1) (d,a,p) (s::(cV++r))=_;have e:si m (du m) (cV++r)=some ((d',be,av),r):=((show Op m 2 (d',be,av) cV from c0) r (al.mono (by decide +kernel))).trans (sk (al.no (by decide +kernel)));rw[Ba ax e (yj aq ar)];exact yi (pW (sj (Fo (pW (pW (sj (yg (we m)))))))) _ _ _ _ (by rw[cy];omega) (bf _)
  exact⟨ge.le au,a'.SG l au⟩
theorem L9:∀{ds a p n aH},tZ ds a p n aH->∀m,n<=m->a<=12->p<=60->∃Ts:List bL,Ts.map (·.1)=ds/\ig Ts=a/\mu Ts=p/\L8 m ds aH Ts
 |_,_,_,_,_,.nil,m,_,_,_=>⟨[],I,I,I,.inl ⟨I,I,I⟩⟩
 |_,_,_,_,_,.one d a p n aH h,m,aP,aq,ar=>by
  obtain⟨hd,o⟩:=ju h m aP aq ar;refine⟨[(d,a,p)],I,(by show max a 0=a;omega),I,.inr ⟨by simp,hd,λpre r k aU=>?_⟩⟩;rw[o.full (by show(cont 1).contains dR=false;decide +kernel)];exact SK (by show some dR≠some nQ;decide +kernel)
 |_,_,_,_,_,.cons d a p n aH ds be av bv cV h au e0,m,aP,aq,ar=>by
  obtain⟨hd,o⟩:=ju h m (by omega) (by omega) (by omega);obtain⟨Ts,am,aE,bq,bX⟩:=L9 au m (by omega) (by omega) (by omega);refine⟨(d,a,p)::Ts,by rw[kR,am],(by show max a (ig Ts)=_;rw[aE]),(by show p+mu Ts=_;rw[bq]),.inr ⟨by simp,sm hd,λpre r k aU=>?_⟩⟩;rcases bX with ⟨z,_⟩|⟨_,qa,bX⟩
  ·exact absurd z e0
  rw[hU,ku,o.full (by show(cont 1).contains nQ=false;decide +kernel)];show jN (i2 m) k (pre++[(d,a,p)]) (nQ::(cV++dR::r))=_;simp only[List.length_append,List.length_cons] at aU;obtain⟨k',rfl⟩:∃j,k=j+1:=⟨k - 1,by omega⟩;show(if some nQ=some nQ then(i2 m (cV++dR::r)).bind λy=>jN (i2 m) k' (pre++[(d,a,p)]++[y.1]) y.2 else _)=_;rw[b8 I,bX (pre++[(d,a,p)]) r k' (by simp only[List.length_append,List.length_cons];omega)];simp
end
def iF (r:bh):Prop:=∀c,r.head?=some c->dk c=false
def cT (A:bh->Prop) (cs:bh) (ab:List bJ):Prop:=∀r,A r->words true (cs++r)=(words true r).map (ab++·)
def cT.dE {A B cs ab fs hL}(h:cT A cs ab) (h':cT B fs hL) (k:∀r,B r->A (fs++r)):cT B (cs++fs) (ab++hL):=λr al=>by
 rw[hU,h _ (k r al),h' r al,Option.map_map];congr 1;funext x;simp
def cT.nil (A):cT A [] []:=λr _=>by rw[DI];cases words true r<;>rfl
def cT.blank (A) (n:Nat):cT A (List.replicate n 32) []:=λr _=>by
 induction n with
 |zero=>rw[List.replicate_zero,DI];cases words true r<;>rfl
 |succ n ih=>rw[mT,ku,D2];exact ih
def cT.weak {A B cs ab}(h:cT A cs ab) (k:∀r,B r->A r):cT B cs ab:=λr al=>h r (k r al)
def SN {c}(h:dk c=true):c≠35/\c≠32/\c≠34:=by
 refine⟨?_,?_,?_⟩<;>(intro z;subst z;revert h;decide)
def cT.word {cs w}(e0:cs≠[]) (aq:cs.all dk=true) (ay:fh true cs=some w):cT iF cs [w]:=λr al=>by
 cases cs with
 |nil=>exact absurd rfl e0
 |cons c t=>
  have aw:dk c=true:=by rw[px,jh] at aq;exact aq.1
  obtain⟨ag,ae,aW⟩:=SN aw;have cp:fe ((c::t)++r)=(c::t).length:=by
   rw[ku,pF,bP aW,b8 aw,<-ku];have:((c::t)++r).takeWhile dk=c::t:=by
    rw[List.takeWhile_append_of_pos (λx ak=>eW.mp aq x ak)];cases r with
    |nil=>simp
    |cons d r=>
     have:=al d rfl;rw[qA,this];simp
   rw[this]
  have am:((c::t)++r).take (fe ((c::t)++r))=c::t:=by rw[cp,List.take_left]
  have aE:((c::t)++r).drop (fe ((c::t)++r))=r:=by rw[cp,List.drop_left]
  have:=vG (chk:=true) (c:=c) (t:=t++r) (w:=w) ag ae (by rw[<-ku,am];exact ay);rw[<-ku,aE] at this;exact this
def cT.short {c}(h:nC [c]=true) (ay:fh true [c]=some (.mark [c])) (aw:c≠34/\c≠35/\c≠32/\dk c=false):cT (λr=>∀d,r.head?=some d->gg [c,d]=false) [c] [.mark [c]]:=λr al=>by
 have cp:fe (c::r)=1:=by
  rw[pF,bP aw.1,bP (by rw[aw.2.2.2];exact gf)];cases r with
  |nil=>
   have:gg [c]=false:=by
    unfold gg pE;simp[code]
   rw[bP (by rw[show List.take 2 [c]=[c] from I,this];exact gf)]
  |cons d r=>rw[bP (by rw[show List.take 2 (c::d::r)=[c,d] from I,al d rfl];exact gf)]
 have:=vG (chk:=true) (c:=c) (t:=r) (w:=.mark [c]) aw.2.1 aw.2.2.1 (by rw[cp];exact ay);rw[cp] at this;exact this
def cT.long {c d}(h:gg [c,d]=true) (ay:fh true [c,d]=some (.mark [c,d])) (aw:c≠34/\c≠35/\c≠32/\dk c=false):cT (λ_=>True) [c,d] [.mark [c,d]]:=λr _=>by
 have cp:fe (c::d::r)=2:=by
  rw[pF,bP aw.1,bP (by rw[aw.2.2.2];exact gf),b8 (by rw[show List.take 2 (c::d::r)=[c,d] from rfl];exact h)]
 have:=vG (chk:=true) (c:=c) (t:=d::r) (w:=.mark [c,d]) aw.2.1 aw.2.2.1 (by rw[cp];exact ay);rw[cp] at this;exact this
def cT.text {s:bh}(h:∀c∈s,c≠34) (al:s.all inR=true) (au:s.length<=40):cT (λ_=>True) (34::(s++[34])) [.text s]:=λr _=>by
 have CP:(s++34::r).findIdx? (· == 34)=some s.length:=by
  induction s with
  |nil=>rfl
  |cons c s ih=>
   have aw:(c == 34)=false:=h8.mpr (h c jG);rw[ku,List.findIdx?_cons,aw];rw[ih (λx ak=>h x (j4 _ ak)) (by rw[px,jh] at al;exact al.2) (by rw[en] at au;omega)];rfl
 have hl:(34::(s++[34]))++r=34::(s++34::r):=by simp
 have cp:fe (34::(s++34::r))=s.length+2:=by
  rw[pF,b8 I,CP]
 have l5:(34::(s++34::r)).take (s.length+2)=34::(s++[34]):=by
  rw[<-hl,List.take_left' (by simp)]
 have eP:(34::(s++34::r)).drop (s.length+2)=r:=by
  rw[<-hl,List.drop_left' (by simp)]
 have ay:fh true (34::(s++[34]))=some (.text s):=by
  unfold fh;have d5:ji (34::(s++[34]))=false:=by
   unfold ji qH;rw[List.any_eq_false];intro y aT;rw[mU] at aT;obtain⟨z,hz,rfl⟩:=aT;simp only[List.mem_cons,List.not_mem_nil,or_false] at hz;intro aD;have aD:=eq_of_beq aD;rcases hz with rfl|rfl|rfl|rfl|rfl|rfl|rfl|rfl|rfl|rfl|rfl|rfl|rfl|rfl|rfl|rfl|rfl|rfl|rfl|rfl|rfl|rfl|rfl|rfl|rfl|rfl|rfl<;>(have:=fM List.head? aD;revert this;simp[code])
  have gr:g0 (34::(s++[34]))=false:=by
   unfold g0;have:hp hC (34::(s++[34]))=false:=rfl;rw[this];simp
  have gb:jj (34::(s++[34]))=false:=by
   unfold jj;have:(34::(s++[34])).all ho=false:=by rw[px];rfl
   rw[this];simp
  have nf:kx true (34::(s++[34]))=true:=by
   unfold kx;have cG:(34::(s++[34])).all inR=true:=by rw[px,fY,al];rfl
   have cY:(34::(s++[34])).getLast?=some 34:=by rw[<-ku,List.getLast?_append];rfl
   have jy:(34::(s++[34])).length=s.length+2:=by simp
   rw[cG,cY,jy,fv (by omega:2<=s.length+2),fv (by omega:s.length+2<=42)];rfl
  rw[d5,gr,gb,nf];show some (bJ.text ((s++[34]).dropLast))=_;rw[List.dropLast_concat]
 have:=vG (chk:=true) (c:=34) (t:=s++34::r) (w:=.text s) (by decide) (by decide) (by rw[cp,l5];exact ay);rw[cp,eP] at this;rw[hl];exact this
abbrev aM (g:Nat):bh:=List.replicate g 32
def oS:List (bh):=[[43],[45],[42],[47,47],[38],[124],[60],[60,61],[62],[62,61],[61,61],[33,61]]
def q1 (x:bh):Nat:=if x=[43]\/x=[45] then 5 else if x=[42]\/x=[47,47]\/x=[38]\/x=[124] then 6 else 4
def q2:Bool->bh
 |true=>[97,110,100]
 |false=>[111,114]
inductive yl:bh->bJ->Prop
 |word cs w:cs≠[]->cs.all dk=true->fh true cs=some w->yl cs w
 |text s:(∀c∈s,c≠34)->s.all inR=true->s.length<=40->yl (34::(s++[34])) (.text s)
mutual
inductive e9:Nat->D->Nat->Nat->Nat->bh->Prop
 |leaf l cs w d:yl cs w->jt w=some d->e9 l d 1 1 0 cs
 |oQ l d a p n cs g g':e9 0 d a p n cs->e9 l d a p (n+1) ([40]++(aM g++(cs++(aM g'++[41]))))
 |fld l d a p n cs x:e9 8 d a p n cs->g0 x=true->e9 l (.tup [.str "field",d,.str (S x)]) (1+a) (1+p) n (cs++([46]++x))
 |call l d a p n cs ds be av bv fs:e9 8 d a p n cs->q3 ds be av bv fs->ds.length<=4->e9 l (.tup [.str "call",d,.tup ds]) (1+max a be) (1+(p+av)) (max n (bv+1)) (cs++([40]++(fs++[41])))
 |gx l d a p n cs:l<=7->e9 7 d a p n cs->e9 l (.tup [.str "minus",d]) (1+a) (1+p) n ([45]++cs)
 |fC l d a p n cs:l<=3->e9 3 d a p n cs->e9 l (.tup [.str "not",d]) (1+a) (1+p) n ([110,111,116]++(aM 1++cs))
 |two l x d a p n cs d' be av bv fs g g':x∈oS->l<=q1 x->e9 (if q1 x=4 then 5 else q1 x) d a p n cs->e9 (q1 x+1) d' be av bv fs->e9 l (.tup [.str "two",.str (S x),d,d']) (1+max a be) (1+(p+av)) (max n bv) (cs++(aM g++(x++(aM g'++fs))))
 |both l b d a p n cs d' be av bv fs:l<=1+b.toNat->e9 (1+b.toNat) d a p n cs->e9 (2+b.toNat) d' be av bv fs->e9 l (.tup [.str "both",.str (S (q2 b)),d,d']) (1+max a be) (1+(p+av)) (max n bv) (cs++(aM 1++(q2 b++(aM 1++fs))))
inductive q3:d8->Nat->Nat->Nat->bh->Prop
 |nil:q3 [] 0 0 0 []
 |one d a p n cs:e9 0 d a p n cs->q3 [d] a p n cs
 |cons d a p n cs ds be av bv fs:e9 0 d a p n cs->q3 ds be av bv fs->ds≠[]->q3 (d::ds) (max a be) (p+av) (max n bv) (cs++([44]++(aM 1++fs)))
end
def Fs (c:Nat):Bool:=dk c||c == 34||c == 40||c == 45
def t2 (cs:bh):Prop:=∃c t,cs=c::t/\Fs c=true
def t2.dE {a}(h:t2 a) (b):t2 (a++b):=by obtain⟨c,t,rfl,aw⟩:=h;exact⟨c,t++b,I,aw⟩
def lN (r:bh):Prop:=∀d,r.head?=some d->d≠61/\d≠47
def SO {c}(h:Fs c=true):c≠61/\c≠47:=by
 refine⟨?_,?_⟩<;>(intro z;subst z;revert h;decide)
def lN.wg {cs}(h:t2 cs) (r):lN (cs++r):=by
 obtain⟨c,t,rfl,aw⟩:=h;intro d hd;cases hd;exact SO aw
theorem lN.aM {cs}(h:lN cs):∀g,lN (GS.aM g++cs)
 |0=>h
 |g+1=>λd hd=>by cases hd;decide
def SP {c d}(h:d≠61/\d≠47):gg [c,d]=false:=by
 unfold gg pE;simp only[List.map_cons,List.map_nil,List.any_cons,List.any_nil,Bool.or_false,Bool.or_eq_false_iff];refine⟨?_,?_,?_,?_,?_,?_,?_,?_⟩ <;>
  (apply h8.mpr;intro z;have:=fM (λl=>l[1]?) z;simp[code] at this;omega)
def cT.Ft {c}(h:nC [c]=true) (ay:fh true [c]=some (.mark [c])) (aw:c≠34/\c≠35/\c≠32/\dk c=false):cT lN [c] [.mark [c]]:=
 (cT.short h ay aw).weak λr al d hd=>SP (al d hd)
def SQ {d} (c) (h:c=40\/c=41\/c=44\/c=46):gg [c,d]=false:=by
 unfold gg pE;simp only[List.map_cons,List.map_nil,List.any_cons,List.any_nil,Bool.or_false,Bool.or_eq_false_iff];refine⟨?_,?_,?_,?_,?_,?_,?_,?_⟩ <;>
  (apply h8.mpr;intro z;have:=fM (λl=>l[0]?) z;simp[code] at this;omega)
def q4 (c) (h:c=40\/c=41\/c=44\/c=46):cT (λ_=>True) [c] [.mark [c]]:=by
 refine cT.weak (A:=λr=>∀d,r.head?=some d->gg [c,d]=false) ?_ λr _ d _=>SQ c h;rcases h with rfl|rfl|rfl|rfl<;>exact cT.short (by decide) (by decide) (by decide)
def SR {x}(h:x∈oS):cT lN x [.mark x]/\(∀r,iF (x++r)):=by
 simp only[oS,List.mem_cons,List.not_mem_nil,or_false] at h;rcases h with rfl|rfl|rfl|rfl|rfl|rfl|rfl|rfl|rfl|rfl|rfl|rfl <;>
  refine⟨?_,λr d hd=>by cases hd;decide⟩ <;>
  first
  |exact cT.Ft (by decide) (by decide) (by decide)
  |exact(cT.long (by decide) (by decide) (by decide)).weak λ_ _=>trivial
theorem iF.aM {cs}(h:iF cs):∀g,iF (GS.aM g++cs)
 |0=>h
 |g+1=>λd hd=>by cases hd;decide
def L' {cs w}(h:yl cs w):cT iF cs [w]/\t2 cs:=by
 cases h with
 |word _ _ ag ae aW=>
  refine⟨cT.word ag ae aW,?_⟩;cases cs with
  |nil=>exact absurd rfl ag
  |cons c t=>
   rw[px,jh] at ae;exact⟨c,t,I,by unfold Fs;rw[ae.1];rfl⟩
 |text s ag ae aW=>exact⟨(cT.text ag ae aW).weak λ_ _=>trivial,34,_,I,by decide⟩
def k6 {c}(h:dk c=false) (r):iF (c::r):=λd hd=>by cases hd;exact h
mutual
theorem m7:∀{l d a p n cs},e9 l d a p n cs->t2 cs/\∃ab,gk l d a p n ab/\cT iF cs ab
 |_,_,_,_,_,_,.leaf l cs w d h ax=>⟨(L' h).2,[w],.leaf l w d ax,(L' h).1⟩
 |_,_,_,_,_,_,.oQ l d a p n cs g g' h=>by
  obtain⟨af,ab,ar,au⟩:=m7 h;refine⟨⟨40,_,I,by decide⟩,_,.oQ l d a p n ab ar,?_⟩;exact(q4 40 (.inl I)).dE ((cT.blank (λ_=>True) g).dE (au.dE ((cT.blank (λ_=>True) g').dE ((q4 41 (.inr (.inl I))).weak λ_ _=>trivial) λ_ _=>trivial) λr _=>by rw[hU];exact iF.aM (k6 I _) g') λ_ _=>trivial) λ_ _=>trivial
 |_,_,_,_,_,_,.fld l d a p n cs x h ak=>by
  obtain⟨af,ab,ar,au⟩:=m7 h;refine⟨af.dE _,_,.fld l d a p n ab x ar,?_⟩;have aP:=ak;cases x with
  |nil=>exact absurd ak (by decide)
  |cons c t=>
   obtain⟨_,aE,_,bX⟩:=JD ak;have fH:fh true (c::t)=some (.name (c::t)):=by unfold fh;rw[bX,aP];rfl
   exact au.dE ((q4 46 (.inr (.inr (.inr I)))).dE (cT.word (by simp) aE fH) λ_ _=>trivial) λr _=>k6 rfl _
 |_,_,_,_,_,_,.call l d a p n cs ds be av bv fs h h' aU=>by
  obtain⟨af,ab,ar,au⟩:=m7 h;obtain⟨hL,h5,io⟩:=Ma h';refine⟨af.dE _,_,.call l d a p n ab ds be av bv hL ar h5 aU,?_⟩;exact au.dE ((q4 40 (.inl I)).dE (io.dE ((q4 41 (.inr (.inl I))).weak λ_ _=>trivial) λr _=>k6 I _) λ_ _=>trivial) λr _=>k6 rfl _
 |_,_,_,_,_,_,.gx l d a p n cs hS h=>by
  obtain⟨af,ab,ar,au⟩:=m7 h;refine⟨⟨45,_,I,by decide⟩,_,.gx l d a p n ab hS ar,?_⟩;exact(cT.Ft (c:=45) (by decide) (by decide) (by decide)).dE au λr _=>lN.wg af r
 |_,_,_,_,_,_,.fC l d a p n cs hS h=>by
  obtain⟨af,ab,ar,au⟩:=m7 h;refine⟨⟨110,_,I,by decide⟩,_,.fC l d a p n ab hS ar,?_⟩;exact(cT.word (cs:=[110,111,116]) (w:=hO) (by decide) (by decide) (by decide)).dE ((cT.blank (λ_=>True) 1).dE au λ_ _=>trivial) λr _=>k6 rfl _
 |_,_,_,_,_,_,.two l x d a p n cs d' be av bv fs g g' ak hS h h'=>by
  obtain⟨af,ab,ar,au⟩:=m7 h;obtain⟨uP,hL,h5,io⟩:=m7 h';obtain⟨az,aN⟩:=SR ak;have HJ:cT iF (cs++(aM g++(x++(aM g'++fs)))) (ab++([]++([.mark x]++([]++hL)))):=
   au.dE ((cT.blank (λ_=>True) g).dE (az.dE ((cT.blank (λ_=>True) g').dE io λ_ _=>trivial) λr _=>by rw[hU];exact lN.aM (lN.wg uP r) g') λ_ _=>trivial) λr _=>by rw[hU,hU];exact iF.aM (aN _) g
  refine⟨af.dE _,ab++(.mark x::hL),?_,HJ⟩;simp only[oS,List.mem_cons,List.not_mem_nil,or_false] at ak;rcases ak with rfl|rfl|rfl|rfl|rfl|rfl|rfl|rfl|rfl|rfl|rfl|rfl
  ·exact .sum l (.mark [43]) d a p n ab d' be av bv hL hS (by decide) ar h5
  ·exact .sum l (.mark [45]) d a p n ab d' be av bv hL hS (by decide) ar h5
  ·exact .wc l (.mark [42]) d a p n ab d' be av bv hL hS (by decide) ar h5
  ·exact .wc l (.mark [47,47]) d a p n ab d' be av bv hL hS (by decide) ar h5
  ·exact .wc l (.mark [38]) d a p n ab d' be av bv hL hS (by decide) ar h5
  ·exact .wc l (.mark [124]) d a p n ab d' be av bv hL hS (by decide) ar h5
  ·exact .cmp l (.mark [60]) d a p n ab d' be av bv hL hS (by decide) ar h5
  ·exact .cmp l (.mark [60,61]) d a p n ab d' be av bv hL hS (by decide) ar h5
  ·exact .cmp l (.mark [62]) d a p n ab d' be av bv hL hS (by decide) ar h5
  ·exact .cmp l (.mark [62,61]) d a p n ab d' be av bv hL hS (by decide) ar h5
  ·exact .cmp l (.mark [61,61]) d a p n ab d' be av bv hL hS (by decide) ar h5
  ·exact .cmp l (.mark [33,61]) d a p n ab d' be av bv hL hS (by decide) ar h5
 |_,_,_,_,_,_,.both l b d a p n cs d' be av bv fs hS h h'=>by
  obtain⟨af,ab,ar,au⟩:=m7 h;obtain⟨uP,hL,h5,io⟩:=m7 h';have HJ:∀x,cT iF x [.ee x]->cT iF (cs++(aM 1++(x++(aM 1++fs)))) (ab++([]++([.ee x]++([]++hL)))):=λx az=>
   au.dE ((cT.blank (λ_=>True) 1).dE (az.dE ((cT.blank (λ_=>True) 1).dE io λ_ _=>trivial) λr _=>k6 I _) λ_ _=>trivial) λr _=>k6 rfl _
  refine⟨af.dE _,ab++(.ee (q2 b)::hL),?_,HJ _ ?_⟩
  ·cases b
   ·exact .or l (.ee [111,114]) d a p n ab d' be av bv hL hS (by decide) ar h5
   ·exact .and l (.ee [97,110,100]) d a p n ab d' be av bv hL hS (by decide) ar h5
  ·cases b<;>exact cT.word (by decide) (by decide) (by decide)
theorem Ma:∀{ds a p n cs},q3 ds a p n cs->∃ab,tZ ds a p n ab/\cT iF cs ab
 |_,_,_,_,_,.nil=>⟨[],.nil,cT.nil _⟩
 |_,_,_,_,_,.one d a p n cs h=>by
  obtain⟨_,ab,ar,au⟩:=m7 h;exact⟨ab,.one d a p n ab ar,au⟩
 |_,_,_,_,_,.cons d a p n cs ds be av bv fs h h' e0=>by
  obtain⟨_,ab,ar,au⟩:=m7 h;obtain⟨hL,h5,io⟩:=Ma h';refine⟨_,.cons d a p n ab ds be av bv hL ar h5 e0,?_⟩;exact au.dE ((q4 44 (.inr (.inr (.inl I)))).dE ((cT.blank (λ_=>True) 1).dE io λ_ _=>trivial) λ_ _=>trivial) λr _=>k6 rfl _
end
def e9.low {l pf d a p n cs}(h:e9 l d a p n cs) (au:pf<=l):e9 pf d a p n cs:=by
 cases h with
 |leaf _ _ w _ ag ae=>exact .leaf _ _ w _ ag ae
 |oQ _ _ _ _ n cs g g' ag=>exact .oQ _ _ _ _ n cs g g' ag
 |fld _ d a p _ cs x ag ae=>exact .fld _ d a p _ cs x ag ae
 |call _ d a p n cs ds be av bv fs ag ae aW=>exact .call _ d a p n cs ds be av bv fs ag ae aW
 |gx _ d a p _ cs ag ae=>exact .gx _ d a p _ cs (by omega) ae
 |fC _ d a p _ cs ag ae=>exact .fC _ d a p _ cs (by omega) ae
 |two _ x d a p n cs d' be av bv fs g g' ag ae aW bm=>exact .two _ x d a p n cs d' be av bv fs g g' ag (by omega) aW bm
 |both _ b d a p n cs d' be av bv fs ag ae aW=>exact .both _ b d a p n cs d' be av bv fs (by omega) ae aW
end GS
namespace L2
open PySem PySem.Spec PyProof.Rows
section
variable {κ:Type} [DecidableEq κ]
def nS (bG:List (κ×V)) (k:κ):mi:=(bG.find? λgW=>decide (gW.1=k)).map (·.2)
def putK (bG:List (κ×V)) (k:κ) (v:V):List (κ×V):=
 if(bG.any λgW=>decide (gW.1=k))=true then bG.map (λgW=>if gW.1=k then(gW.1,v) else gW) else bG++[(k,v)]
def Mb {p:κ×V}{r:List (κ×V)}{k:κ}(e:p.1=k):nS (p::r) k=some p.2:=by simp[nS,List.find?_cons,e]
def Mc {p:κ×V}{r:List (κ×V)}{k:κ}(e:¬p.1=k):nS (p::r) k=nS r k:=by simp[nS,List.find?_cons,e]
def SS (bG) (k:κ) (v):(putK bG k v).length<=bG.length+1:=by
 unfold putK;split
 ·rw[eV];omega
 ·rw[cy,en,List.length_nil];omega
def jI.getD {o u d d'}(r:jI o u) (aC:RelV d d'):RelV (o.getD d) (u.getD d'):=by
 cases o with
 |none=>cases u with
  |none=>exact aC
  |some _=>exact(show False from r).elim
 |some _=>cases u with
  |none=>exact(show False from r).elim
  |some _=>exact r
def hV.val {bG:List (κ×V)}{vs:List (κ×Value)}(r:hV bG vs) (k:κ):jI (nS bG k) (valueAt vs k):=by
 unfold hV at r
 induction r with
 |nil=>exact True.intro
 |@cons p q aG jY h t ih=>
  obtain⟨ag,ae⟩:=h;by_cases e:p.1=k
  ·have db:q.1=k:=ag.symm.trans e;have b:valueAt (q::jY) k=some q.2:=by simp[valueAt,List.find?_cons,db]
   rw[Mb e,b];exact ae
  ·have db:¬q.1=k:=λz=>e (ag.trans z);have b:valueAt (q::jY) k=valueAt jY k:=by simp[valueAt,List.find?_cons,db]
   rw[Mc e,b];exact ih
def hV.any {bG vs}(r:hV bG vs) (k:κ):(bG.any λgW=>decide (gW.1=k))=vs.any λgW=>decide (gW.1=k):=by
 unfold hV at r
 induction r with
 |nil=>rfl
 |cons h t ih=>rw[As,As,ih,h.1]
def hV.SU {bG vs}(r:hV bG vs) (k:κ) {y u}(bj:RelV y u):hV (bG.map λgW=>if gW.1=k then(gW.1,y) else gW) (vs.map λgW=>if gW.1=k then(gW.1,u) else gW):=by
 unfold hV at r⊢
 induction r with
 |nil=>exact .nil
 |@cons p q aG jY h t ih=>
  rw[kR,kR];refine .cons ?_ ih;obtain⟨ag,ae⟩:=h;by_cases e:p.1=k
  ·rw[b8 e,b8 (ag.symm.trans e)];exact⟨ag,bj⟩
  ·rw[bP e,bP (λz=>e (ag.trans z))];exact⟨ag,ae⟩
def hV.put {bG vs}(r:hV bG vs) (k:κ) {y u}(bj:RelV y u):hV (putK bG k y) (stored vs k u):=by
 unfold putK stored;rw[r.any k];by_cases e:(vs.any λgW=>decide (gW.1=k))=true
 ·rw[b8 e,b8 e];exact r.SU k bj
 ·rw[bP e,bP e];exact Paired.snoc r ⟨I,bj⟩
end
def Fu {P w k u}(r:RelV (eo k) u):(kT P w).is k u=true:=by
 cases k with
 |inl i=>obtain⟨t,e⟩:=(show ∃t,u=Value.int i t from r);subst e;exact Qh P w i t
 |inr x=>obtain⟨t,e⟩:=(show ∃t,u=Value.str x t from r);subst e;exact Qi P w x t
theorem Md {P w}:∀{hx us},b4 (hx.map eo) us->ItemsAre (kT P w) hx us
 |[],_,r=>by rw[List.map_nil] at r;cases r;exact .nil
 |k::hx,_,r=>by
  rw[kR] at r;cases r with
  |cons h t=>exact .cons (Fu h) (Md t)
abbrev KT (H:ap):List (List Key×V)->List (List Key×Addr×Value)->Prop:=Paired λp q=>p.1=q.1/\H q.2.1=some (.tup (p.1.map eo))/\RelV p.2 q.2.2
def KT.val {H bG xs}(r:KT H bG xs) (k:List Key):jI (nS bG k) ((atKey xs k).map (·.2)):=by
 induction r with
 |nil=>exact True.intro
 |@cons p q aG jY h t ih=>
  obtain⟨ag,_,ae⟩:=h;by_cases e:p.1=k
  ·have db:q.1=k:=ag.symm.trans e;have b:atKey (q::jY) k=some q.2:=by simp[atKey,List.find?_cons,db]
   rw[Mb e,b];exact ae
  ·have db:¬q.1=k:=λz=>e (ag.trans z);have b:atKey (q::jY) k=atKey jY k:=by simp[atKey,List.find?_cons,db]
   rw[Mc e,b];exact ih
section
variable {P:Program}{w:World}{H:ap}{h:Heap}{a:Addr}
def Me {u}(ok:gh P w H h) (e:mX H a u):gB P w H h a u:=e.ok ok
def Fv {bG}(ok:gh P w H h) (e:mX H a (.iV bG)):bG.length<=sizeLine/\(a == sysModules)=false/\∃vs,hV bG vs/\h.DictOf (kT P w) a vs:=
 show gB P w H h a (.iV bG) from Me ok e
def SV {bG}(ok:gh P w H h) (e:H a=some (.iV bG)):bG.length<=sizeLine/\(a == sysModules)=false/\∃vs,hV bG vs/\h.DictOf (kT P w) a vs:=Fv ok (.inl e)
def Mf {hx}(ok:gh P w H h) (e:H a=some (.tup (hx.map eo))):(tupleKind (kT P w)).is h hx a:=by
 obtain⟨_,aL,r,o,ag,ae,n,aW⟩:=(show gB P w H h a (.tup (hx.map eo)) from ok a _ e);exact⟨o,aL.toArray,n,ag,ae,aW,by simpa using Md r⟩
def Mg {bG}(ok:gh P w H h) (e:mX H a (.gv bG)):bG.length<=sizeLine/\(a == sysModules)=false/\∃xs,KT H bG xs/\h.DictOfH (tupleKind (kT P w)) a xs:=by
 obtain⟨z,y,xs,r,o,aj,cp,ag,ae,aW,bm,b7⟩:=(show gB P w H h a (.gv bG) from Me ok e);refine⟨z,y,xs,r,o,aj,cp,ag,ae,aW,bm,λx ak=>?_,b7⟩;have all:∀{l m},KT H l m->∀x∈m,(tupleKind (kT P w)).is h x.1 x.2.1:=by
  intro l m q
  induction q with
  |nil=>intro x ak;exact nomatch ak
  |@cons p q aG jY aD t ih=>
   intro x ak;rcases gZ.mp ak with e|ak
   ·subst e;exact Mf ok (by rw[<-aD.1];exact aD.2.1)
   ·exact ih x ak
 exact all r x ak
end
def wh (H:ap) (a:Addr) (y:V) (r:mi):Prop:=
 (∃bG k,mX H a (.iV bG)/\y=eo k/\r=nS bG k)\/∃bG k b,mX H a (.gv bG)/\y=.ref b/\H b=some (.tup (k.map eo))/\r=nS bG k
def wh.k {H a bG k}(e:H a=some (.iV bG)):wh H a (eo k) (nS bG k):=.inl ⟨bG,k,.inl e,I,I⟩
section
variable {X:a8}{ac:eU}{aa:St}{H:ap}{s:Shared}{a:Addr}{y v:V}{u r:Value}{o:mi}{A:Around}{E:Value->Shared->Prop}
def SW {h' t' c7}(J:Inv X ac aa H s) (mF:xT (H a)) (ax:Heap.SameBut a s.heap h') (he:∃q,h'.get? a=some q) (new:gB X.prog X.w (upd H a c7) h' a c7):Inv X ac aa (upd H a c7) { s with heap:=h',toks:=t' }:=
 J.write (x:=a) (e:=a) mF (.inl I) (λb q af z=>(ax.2 b af).trans z) he new
def SX {P w Z h' bG vs}(z:bG.length<=sizeLine) (hd:(a == sysModules)=false) (rel:hV bG vs) (eg:h'.DictOf (kT P w) a vs):gB P w Z h' a (.iV bG):=⟨z,hd,vs,rel,eg⟩
end
section
variable {X:a8}{ac:eU}{aa:St}{H:ap}{s:Shared}{a:Addr}{bG:List (Key×V)}{k:Key}{u:Value}{A:Around}{E:Value->Shared->Prop}
end
def Mh (i:Expr):Prop:=∀eC lb,subscripted i false eC lb=operate [eC,lb] (getItem eC lb)
def SY {prog w A E s env value slice pos T id Q}(au:typeLookup (.type T) "__getitem__"=pure (some (.builtin id))) (ax:Mh slice) (h:wpAny (model prog w) A (eval value env) (λo dn=>wpAny (model prog w) A (eval slice env) (λi la=>la.TypeIs o T/\wpAny (model prog w) A (getItem o i) Q E la) E dn) E s):
  wpAny (model prog w) A (eval (.Subscript value slice pos) env) Q E s:=by
 refine Subscript_ (fL h (λo dn jW=>fL jW (λi la uJ=>?_) λ_ _ x=>x) λ_ _ x=>x);obtain⟨de,uJ⟩:=uJ;unfold subscriptTail;refine a4 ?_;rw[getitemInPython_of_ne de.not_modules];refine a4 (wpAny_specialOf de au ?_);have fin:wpAny (model prog w) A (subscripted slice false o i) (λr qe=>wpAny (model prog w) A (letTemporaryGo value o r >>= λ_=>pure r) Q E qe) E la:=by
  rw[ax o i];exact wpAny_operating (fL uJ (λr qe zn=>a4 (wpAny_letTemporaryGo (b3 zn))) λ_ _ x=>x)
 first
  |exact b3 (a4 fin)
  |exact a4 (b3 (a4 fin))
  |exact a4 fin
section
variable {X:a8}{o i e value:Expr}{pos pos' CF:Pos}{l7 ty h0:TE}
end
section
variable {X:a8}{pos:Pos}
end
def Fw:List (TE×TE)->St->ap->(List (V×V)->ap->Prop)->Prop
 |[],_,H,Q=>Q [] H
 |(cS,h0)::r,aa,H,Q=>cS aa H λx ai=>h0 aa ai λy aB=>Fw r aa aB λaG a7=>Q ((x,y)::aG) a7
abbrev Mi:List (V×V)->List (Value×Value)->Prop:=Paired λp q=>RelV p.1 q.1/\RelV p.2 q.2
def t4 (X:a8) (pos:Pos) (keys:List (Option Expr)) (values:gY) (jz:List (TE×TE)):Prop:=
 ∀ac s aa H Q,Inv X ac aa H s->Fw jz aa H Q->
  dN X (evalPairs (pairTrees keys values X.env pos)) (λvs s'=>∃aG Z,Inv X ac aa Z s'/\Mi aG vs/\Q aG Z) X.cR s
def Bb {X pos}:t4 X pos [] [] []:=λac s aa H Q J h=>pairTrees_nil_walk ⟨[],H,J,.nil,h⟩
def pX {X pos k v hx vs cS h0 jz}(aU:bU X k cS) (aK:bU X v h0) (al:t4 X pos hx vs jz):t4 X pos (some k::hx) (v::vs) ((cS,h0)::jz):=λac s aa H Q J h=>
 pairTrees_cons_walk (bW (aU ac s aa H _ J h) λu az ⟨x,ai,a6,a0,aZ⟩=>bW (aK ac az aa ai _ a6 aZ) λdd aN ⟨y,aB,ci,bj,bn⟩=>bW (al ac aN aa aB _ ci bn) λab a2 ⟨aG,a7,eM,rel,dA⟩=>⟨(x,y)::aG,a7,eM,.cons ⟨a0,bj⟩ rel,dA⟩)
def t5 (bG more:List (Key×V)):List (Key×V):=more.foldl (λgJ gW=>putK gJ gW.1 gW.2) bG
def hV.merge:∀{more eD bG vs},hV more eD->hV bG vs->hV (t5 bG more) (merged vs eD):=by
 intro more eD bG vs r;unfold hV at r
 induction r generalizing bG vs with
 |nil=>intro q;exact q
 |@cons p q aG jY h t ih=>
  intro hm;have e:hV (putK bG p.1 p.2) (stored vs q.1 q.2):=by
   have:=hm.put p.1 h.2;rw[<-h.1];exact this
  exact ih e
theorem Mj:∀more bG,(t5 bG more).length<=bG.length+more.length
 |[],bG=>by show bG.length<=bG.length+0;omega
 |p::r,bG=>by
  have ag:=Mj r (putK bG p.1 p.2);have ae:=SS bG p.1 p.2;show(t5 (putK bG p.1 p.2) r).length<=_;rw[en];omega
theorem Mk {P w}:∀{bG ab},Mi (bG.map λgW=>(eo gW.1,gW.2)) ab->∃eD,Carries (kT P w) ab eD/\hV bG eD
 |[],_,r=>by rw[List.map_nil] at r;cases r;exact⟨[],True.intro,.nil⟩
 |p::bG,_,r=>by
  rw[kR] at r;cases r with
  |@cons a b ro bs h t=>
   obtain⟨eD,c,q⟩:=Mk (P:=P) (w:=w) t;obtain⟨b2,dM⟩:=b;exact⟨(p.1,dM)::eD,⟨Fu h.1,I,c⟩,.cons ⟨I,h.2⟩ q⟩
def Ml (jz:List (TE×TE)):TE:=λaa H Q=>∀p,H p=none->Fw jz aa (upd H p (.iV [])) λaG aB=>aB p=some (.iV [])/\∃bG:List (Key×V),aG=bG.map (λgW=>(eo gW.1,gW.2))/\bG.length<=15/\Q (.ref p) (upd aB p (.iV (t5 [] bG)))
def Bc {X pos keys values jz}(h:t4 X pos keys values jz) (nw:keys.all (·.isSome)=true) (au:keys.length=values.length) (cd:keys≠[]) (HK:keys.length<=15):bU X (.Dict keys values pos) (Ml jz):=by
 intro ac s aa H Q J q;have aP:=J.bA.fresh (bf s.hz);have a6:=J.laid (a:=s.hz) (o:=.iV []) (h':=s.heap.push { cls:=.type "dict",data:=.dict #[] }) (t':=s.toks) (λ_ _ q=>ej _ q) (bf _) (RD s.heap J.RC);refine wpAny_Dict_walk (knd:=kT X.prog X.w) nw au cd HK (bW (h ac _ aa _ _ a6 (q _ aP)) λab aN aD=>?_);obtain⟨aG,aB,ci,rel,e,bG,cp,lk,bn⟩:=aD;subst cp;obtain⟨eD,c,XI⟩:=Mk (P:=X.prog) (w:=X.w) rel;obtain⟨z,hd,abT,hm,eg⟩:=SV ci.bA e;cases hm;refine⟨eD,c,eg,λh' Ou ax=>⟨.ref s.hz,_,?_,I,bn⟩⟩;have hz:(t5 [] bG).length<=sizeLine:=by
  have ag:=Mj bG [];rw[List.length_nil] at ag;rw[jH];omega
 have he:∃q,h'.get? s.hz=some q:=let ⟨q,_,_,aD,_⟩:=Ou;⟨q,aD⟩;exact SW ci (by rw[e];exact True.intro) ax he (SX hz hd (XI.merge .nil) Ou)
structure Mm (X:a8) (o:Expr) (m:Str) (apos:Pos) (e f:Expr) (gz:Pos):Prop where
 base:attributeBase o m X.env (eval o X.env)=eval o X.env
 Fx:((backTo gz (starEach [e,f] X.env)).all (λx=>!x.1)&&(backToKw gz (keywordEach [] X.env)).all (λx=>x.1.isSome)&&decide (([e,f]:gY).length+([]:rL).length+(if([]:rL).isEmpty then 0 else 1) < 30))=true
 line:(apos.endLine == gz.line)=true
 S0:backTo gz (starEach [e,f] X.env)=[(false,eval e X.env),(false,eval f X.env)]
def Mn (H:ap) (a:Addr):Prop:=(∃bG,mX H a (.iV bG))\/∃bG,mX H a (.gv bG)
def S1 {X ac aa H s a}(J:Inv X ac aa H s) (d:Mn H a):s.TypeIs (.ref a) "dict"/\(∀b,Value.ref a=.ref b->∃c7,s.heap.get? b=some c7/\c7.dict=none)/\(a == sysModules)=false:=by
 rcases d with ⟨bG,e⟩|⟨bG,e⟩
 ·obtain⟨_,hd,vs,_,eg⟩:=Fv J.bA e;refine⟨eg.typeIs,λb q=>?_,hd⟩;cases q;obtain⟨c7,_,_,ag,ae,_⟩:=eg;exact⟨c7,ag,ae.2.1⟩
 ·obtain⟨_,hd,xs,_,eg⟩:=Mg J.bA e;refine⟨eg.typeIs,λb q=>?_,hd⟩;cases q;obtain⟨c7,_,_,ag,ae,_⟩:=eg;exact⟨c7,ag,ae.2.1⟩
section
variable {X:a8}{ac:eU}{aa:St}{H:ap}{s:Shared}{a:Addr}{y d:V}{u r:Value}{o:mi}{A:Around}{E:Value->Shared->Prop}
def S2 {Q}(bY:A.units+1 < cLine) (J:Inv X ac aa H s) (g:wh H a y o) (bj:RelV y u) (aC:RelV d r) (h:∀jT s',Inv X ac aa H s'->RelV (o.getD d) jT->Q jT s'):wpAny (model X.prog X.w) A (call (.builtin "dict.get") [.ref a,u,r]) Q E s:=by
 rcases g with ⟨bG,k,e,c1,l⟩|⟨bG,k,b,e,c1,gH,l⟩
 ·subst c1;obtain⟨z,hd,vs,rel,eg⟩:=Fv J.bA e;refine call_meetsIn DS eg.typeIs PySem.F.entry_dict_get (PySem.F.args_dict_get_3 _ _ _) (meets_dict_get_default (kT X.prog X.w) a (Fu bj) hd r) ⟨_,eg.mapOf,h _ _ (J.tok _) ?_⟩;rw[l];exact(rel.val k).getD aC
 ·subst c1;cases (show u=Value.ref b from bj);obtain⟨z,hd,xs,rel,eg⟩:=Mg J.bA e;refine call_meetsIn DS eg.typeIs PySem.F.entry_dict_get (PySem.F.args_dict_get_3 _ _ _) (meetsH_dict_get_default (tupleKind (kT X.prog X.w)) a b hd r) ⟨tupleKind_room_in1 bY,k,xs,Mf J.bA gH,eg,h _ _ (J.tok _) ?_⟩;rw[l];exact(rel.val k).getD aC
end
def Mo (l7 ty uU:TE):TE:=λaa H Q=>l7 aa H λx ai=>∃a,x=.ref a/\Mn ai a/\ty aa ai λy aB=>uU aa aB λz a7=>∃o,wh a7 a y o/\Q (o.getD z) a7
section
variable {X:a8}{o e f:Expr}{apos gz:Pos}{l7 ty uU:TE}
def Bd (bY:X.A.units+1 < cLine) (a':bU X o l7) (he:bU X e ty) (bl:bU X f uU) (m:Mm X o "get" apos e f gz):bU X (.Call (.Attribute o "get" apos) [e,f] [] gz) (Mo l7 ty uU):=by
 intro ac s aa H Q J h;refine wpAny_Call_method m.base m.Fx m.line PySem.F.plainAttrs_dict DS PySem.F.type_dict_get (bW (a' ac s aa H _ J h) λu az aD=>?_);obtain⟨x,ai,a6,a0,a,ex,d,aZ⟩:=aD;subst ex;obtain rfl:u=Value.ref a:=a0;obtain⟨d5,gr,_⟩:=S1 a6 d;refine⟨d5,gr,?_⟩;rw[m.S0];refine xJ rfl (Au (xF (bW (he ac az aa ai _ a6 aZ) λlb aN ⟨y,aB,ci,bj,bn⟩=>xF (bW (bl ac aN aa aB _ ci bn) λabU a2 ⟨z,a7,eM,HL,eC,g,dA⟩=>Calls.spliced_nil ?_))));exact S2 bY eM g bj HL λjT dp lw jU=>⟨_,a7,lw,jU,dA⟩
end
section
variable {X:a8}{ac:eU}{aa:St}{H:ap}{s:Shared}{a:Addr}{bG:List (Key×V)}{A:Around}{E:Value->Shared->Prop}
end
section
variable {X:a8}{ac:eU}{aa:St}{H:ap}{s:Shared}{a:Addr}{y:V}{u:Value}{A:Around}{E:Value->Shared->Prop}
end
section
variable {X:a8}{o e:Expr}{l7 ty:TE}{apos gz:Pos}
end
def ym (K:aJ) (a:Addr) (n:Nat):lF:=
 ⟨λi H=>i < n/\∃xs x,bg K H a xs/\xs[n - 1 - i]?=some x,λi H x Z=>Z=H/\∀xs,bg K H a xs->xs[n - 1 - i]?=some x,λi H=>i=n⟩
theorem S3 {P w K cU} (a bV n):Turn P w K cU (ym K a n) [bV] bV (λi h=>h.IsRevIter bV a ((n:Int) - 1 - (i:Nat))) where
 mem:=by simp
 obj:=λi h st b af=>by
  have e:b=bV:=by simpa using af
  subst e;obtain⟨o,e,c,d⟩:=st;exact⟨o,e,λv z=>by rw[d] at z;cases z⟩
 keep:=λi h h' st k=>st.at λo e=>k bV bZ o e
 item:=by
  intro X gp ay gG aw i ac s aa H E J bl st a1;subst gp ay gG;obtain⟨aR,xs,x,aD,ak⟩:=a1;obtain⟨aL,cI,p,hz⟩:=J.list aD;obtain⟨u,bY,fc⟩:=cI.get ak;obtain⟨gU,f1,f2,dy,hf,hj⟩:=bl bV bZ;have zy:(n:Int) - 1 - (i:Nat)=((n - 1 - i:Nat):Int):=by omega
  rw[zy] at st;refine wpAny_pyNext_rev_item st p.isList (x:=u) (by simpa using bY) λh' kH iZ=>?_;have a6:Inv X ac aa H { s with heap:=h' }:=J.turned (t':=s.toks) (λb o af e=>(iZ.2 b af).trans e) gU f1 dy hf hj;have rj:h'.IsRevIter bV a ((n:Int) - 1 - ((i+1:Nat):Int)):=by rw[show(n:Int) - 1 - ((i+1:Nat):Int)=((n - 1 - i:Nat):Int) - 1 by omega];exact kH
  obtain⟨o,e,c,d⟩:=id kH;exact⟨u,I,vN (s:={ s with heap:=h' }) e c d dU ⟨x,H,a6,fc,⟨I,λys aT=>by rw[J.D8 aT aD];exact ak⟩,rj,λb af=>(bl b af).1⟩⟩
 done:=by
  intro X gp ay gG aw i ac s aa H E J bl st a1;subst gp ay gG;obtain⟨gU,f1,f2,dy,hf,hj⟩:=bl bV bZ;have a1:i=n:=a1;rw[show(n:Int) - 1 - (i:Nat)=-1 by omega] at st;exact wpAny_pyNext_rev_end (J.ok.hd aw) st λh' gH=>⟨I,J.turned (t':=s.toks) (λb o af e=>gH b o af e) gU f1 dy hf hj⟩
 self:=λ_ _ _ _ _ st h=>wpAny_pyIter_revIter st h
inductive Mp (K:aJ) (vs:br) (H:ap) (R:lF->ap->Prop):Prop
 |mk a xs:vs=[.ref a]->bg K H a xs->R (ym K a xs.length) H->Mp K vs H R
def S4 (K:aJ) (bu:fi):TI:=λaa H R=>bu aa H λvs ai=>Mp K vs ai R
def S5 {X:a8}{cU a:Expr}{bu:fi}{p pos:Pos}(a1:eH X "reversed") (aQ:X.mg "reversed"=none) (aq:iX X [a] bu) (ax:autoParam (starEach [a] X.env=[(false,eval a X.env)]) dl):mn X cU (.Call (.Name "reversed" p) [a] [] pos) (S4 X.K bu):=by
 intro ac s aa H R J h;refine Call_ (tB J a1 aQ Sj (Al (bW (aq pos ac s aa H _ J h) λus az aD=>?_) ax I));obtain⟨vs,ai,a6,bR,a,xs,e,aD,q⟩:=aD;subst e;obtain⟨u,rfl,fc⟩:=vals1 bR;cases fc;obtain⟨aL,cI,pl,hz⟩:=a6.list aD;have au:aL.toArray.size=xs.length:=by rw[gu,cI.length]
 refine call_reversed_list pl.isList (wpAny_pyIter_revIter (l:=a) (i:=(aL.toArray.size:Int) - 1) ⟨_,hN _ I,I,I⟩ ?_);refine⟨az.hz,[az.hz],_,_,ai,I,a6.kept (t':=az.toks) λb o e=>ej _ e,S3 a _ xs.length,⟨_,hN _ I,I,?_⟩,λb af=>?_,q⟩
 ·rw[au,show(xs.length:Int) - 1 - ((0:Nat):Int)=(xs.length:Int) - 1 by omega];rfl
 have e:b=az.hz:=by simpa using af
 subst e;exact a6.tD (bf _) (a6.bA.fresh (bf _))
def S6 {K:aJ}{a:Addr}{x:V}{g:lE}{bH:gw}{D:Ends}{aa:St}{H:ap}(au:bg K H a [x]) (ax:g x aa H λip aB=>bH { D with c4:=D.c4,b0:=D.c4,j9:=D.c4 } ip aB):
  ∃W:Nat->Nat->St->ap->Prop,(∃m,W 0 m aa H)/\∀i m aa H,W i m aa H->
   ((ym K a [x].length).stop i H/\D.c4 aa H)\/((ym K a [x].length).go i H/\∃N:St->ap->Prop,(∀σ' Z,N σ' Z->∃c8,c8 < m/\W (i+1) c8 σ' Z)/\∀x Z,(ym K a [x].length).pN i H x Z->g x aa Z λip aB=>bH { D with c4:=N,b0:=N,j9:=D.c4 } ip aB):=by
 refine⟨λi m σ' Z=>(i=0/\m=1/\σ'=aa/\Z=H)\/(i=1/\m=0/\D.c4 σ' Z),⟨1,.inl ⟨I,I,I,I⟩⟩,?_⟩;rintro i m σ' Z (⟨rfl,rfl,rfl,rfl⟩|⟨rfl,rfl,q⟩)
 ·refine .inr ⟨⟨Nat.zero_lt_succ _,[x],x,au,I⟩,D.c4,λip aB q=>⟨0,by decide,.inr ⟨I,I,q⟩⟩,λy aB aT=>?_⟩;obtain⟨rfl,aT⟩:=aT;have:=aT [x] au;cases this;exact ax
 ·exact .inl ⟨I,q⟩
end L2
namespace bc
open PySem PyProof.Rows L2
section
variable {X:a8}{pos apos gz:Pos}{k v o e f a b c:Expr}{hx:List (Option Expr)}{vs:gY}{cS h0 l7 ty uU bu bH fU:TE}{jz:List (TE×TE)}
@[irreducible] def pY (X:a8) (pos:Pos) (hx:List (Option Expr)) (vs:gY) (jz:List (TE×TE)):Prop:=t4 X pos hx vs jz
def pY.mk (h:t4 X pos hx vs jz):pY X pos hx vs jz:=by unfold pY;exact h
def pY.out (h:pY X pos hx vs jz):t4 X pos hx vs jz:=by unfold pY at h;exact h
def Bb:pY X pos [] [] []:=.mk L2.Bb
def pX (aU:LE X k cS) (aK:LE X v h0) (al:pY X pos hx vs jz):pY X pos (some k::hx) (v::vs) ((cS,h0)::jz):=.mk (L2.pX aU.out aK.out al.out)
def Bc (h:pY X pos hx vs jz) (nw:autoParam (hx.all (·.isSome)=true) dl) (au:autoParam (hx.length=vs.length) dl) (cd:hx≠[]:=by simp) (HK:autoParam (hx.length<=15) Cl):LE X (.Dict hx vs pos) (Ml jz):=.mk (L2.Bc h.out nw au cd HK)
def Bd (bY:X.A.units+1 < cLine) (a':LE X o l7) (he:LE X e ty) (bl:LE X f uU) (m:Mm X o "get" apos e f gz:=by exact⟨I,I,I,I⟩):LE X (.Call (.Attribute o "get" apos) [e,f] [] gz) (Mo l7 ty uU):=.mk (L2.Bd bY a'.out he.out bl.out m)
end
end bc
namespace GS
open PySem PySem.Spec PyProof.Rows
section
variable {prog:Program}{w:World}{A:Around}{R:Result->Shared->Prop}{J:Addr}{fp zl:gd}{n:Nat}{P:Nat->Value->Prop}{St:Nat->Heap->Prop}
end
open L2
section
variable {X:a8}
end
end GS
namespace GS
open PySem PyProof.Rows L2
structure t6 (P:Program) (w:World) (K:aJ) (mg:Str->cn) (base:Heap) (name:Str) (C:Addr) (aG:dH) (k:Nat) (sp:e6):Prop where
 ex:∃f as,mg name=some (.ref C)/\vS K C f/\Binds K as aG []/\bK P w K mg base dJ k f as aG sp
end GS
namespace bc
open PySem PyProof.Rows L2
section
variable {X:a8}{e o value:Expr}{aj:gY}{f:Str}{pos pos' p apos:Pos}{bu h0 bw:TE}{t:fi}
def eZ (he:LE X e bu) (af:autoParam (attributeBase e f X.env (eval e X.env)=eval e X.env) dl):LE X (.Attribute e f pos) (Kf X.K bu f):=.mk (L2.eZ he.out af)
def k0 (aq:LE X o bu) (aK:LE X value h0) (ax:autoParam (swapsWith value (some (.Attribute o f pos')) pos.line X.env=pure false) dl):hP X (.Assign [.Attribute o f pos'] value pos) (Kg X.K bu h0 f):=.mk (L2.k0 aq.out aK.out ax)
def S7 {name C aG k k' sp}(M:GS.t6 X.prog X.w X.K X.mg X.base name C aG k sp) (al:dj (k'+1) X.A) (aU:k<=k') (a1:eH X name) (aq:gD X (e::aj) t) (eN:autoParam (e4 name) Cl) (he:autoParam (gi X e aj) dl) (hpl:autoParam (iW X pos aj) dl):LE X (.Call (.Name name p) (e::aj) [] pos) (AS C sp [] oL t):=by
 obtain⟨f,as,ag,ae,aW,bm⟩:=M.ex;exact .mk (L2.QX ae (bm.mono aU) al a1 ag aW .nil AW aq.out eN he hpl)
end
end bc
namespace PySem
section
variable {prog:Program}{w:World}{A:Around}{E:Value->Shared->Prop}{R:Result->Shared->Prop}{s:Shared}
def Mq (jZ:gY) (env:Env):Sem Bool:=forIn jZ true λc r=>if r=true then do let ok <-PySem.isTrue c env (eval c env);pure (ForInStep.yield ok) else pure (ForInStep.yield r)
def S8 {ir target iter jZ scope pos bV gJ env}(J:Nat->Shared->Prop)
  (o6:∀n s,J n s->wpAny (model prog w) A (pyNext bV) (λr dn=>match r with
   |none=>R (.ok .next) dn
   |some v=>wpAny (model prog w) A (letOwnedTupleGo target bV v) (λ_ la=>wpAny (model prog w) A (assign target env v) (λ_ qe=>wpAny (model prog w) A (Mq jZ env) (λb rp=>if b=true then wpAny (model prog w) A (eval ir env) (λx rp=>wpAny (model prog w) A (call (.builtin "list.append") [gJ,x]) (λ_ zm=>∃m,m < n/\J m zm) (notedBy (model prog w) A env λe s'=>R (.error e) s') rp) (notedBy (model prog w) A env λe s'=>R (.error e) s') rp else ∃m,m < n/\J m rp) (notedBy (model prog w) A env λe s'=>R (.error e) s') qe) (notedBy (model prog w) A env λe s'=>R (.error e) s') la) (notedBy (model prog w) A env λe s'=>R (.error e) s') dn) (notedBy (model prog w) A env λe s'=>R (.error e) s') s)
  (n:Nat) (h:J n s):
  codeAny (model prog w) A (.compLoop (.ListComp ir [⟨target,iter,jZ,0⟩] scope pos) 0 bV gJ env) R s:=by
 refine codeAny_loop rfl J (λn s kK=>?_) n h;show wpAny _ A ((compTurn (.ListComp ir [⟨target,iter,jZ,0⟩] scope pos) 0 bV gJ env).onRaise (λx=>do noteFrame x env;theTreesLotGoes x)) _ _ s;refine wpAny_noted ?_;rw[compTurn_list];refine a4 (rP (a4 (fL (o6 n s kK) (λr dn jW=>?_) λ_ _ h'=>h')));cases r with
 |none=>exact b3 jW
 |some v=>
  refine a4 (fL jW (λ_ la uJ=>a4 (fL uJ (λ_ qe zn=>?_) λ_ _ h'=>h')) λ_ _ h'=>h');refine a4 (fL zn (λb rp sM=>?_) λ_ _ h'=>h');cases b with
  |false=>
   rw[bP gf] at sM;exact j7 bZ (b3 ⟨I,sM⟩)
  |true=>
   rw[b8 rfl] at sM;exact rW bZ (a4 (a4 (fL sM (λx rp sM=>a4 (fL sM (λ_ zm Hd=>b3 (b3 ⟨I,Hd⟩)) λ_ _ h'=>h')) λ_ _ h'=>h')))
end
end PySem
namespace L2
open PySem PySem.Spec PyProof.Rows PySem.Builtin PySem.Builtin.Str
structure wi (X:a8) (scope:Scope) (cl:List (Str×Addr)) (Xs Nf:dH) (js:bh):Prop where
 EG:closureFor scope X.env=pure cl
 cell:∀y∈scope.names,y.2≠.cell
 kind:scope.kind=.function
 names:∀y∈scope.names,y.2=.local->scope.names.lookup y.1=some .local
 sub:∀y c,cl.lookup y=some c->X.env.cells.lookup y=some c
 has:∀y,((relabel scope X.env).names.lookup y=some .cell\/(relabel scope X.env).names.lookup y=some .free)->∃c,cl.lookup y=some c
 len:js.length=Nf.length
 frees:∀(j:Nat) y,Nf[j]?=some y->∃i,js[j]?=some i/\X.N[i]?=some y/\X.env.scope.names.lookup y=some .cell/\((relabel scope X.env).names.lookup y=some .cell\/(relabel scope X.env).names.lookup y=some .free)
def Be (X:a8) (jZ:gY) (fU:TT):Prop:=∀ac s aa H Q,Inv X ac aa H s->fU aa H Q->dN X (Mq jZ X.env) (D7 X ac aa Q) X.cR s
def t7:TT:=λ_ H Q=>Q true H
def so {X}:Be X [] t7:=λac s aa H Q J h=>wpAny_tests_nil ⟨H,J,h⟩
abbrev Bf (k:Nat) (js:bh) (cc:lF) (g:lE) (fU:TT) (bw:TE) (aa:St) (ai:ap) (Q:Addr->ap->Prop):Prop:=∃vs:br,(vs.length=js.length/\∀(j i:Nat),js[j]?=some i->∃v,vs[j]?=some v/\aa[i]?=some (some v))/\
 ∀D,ai D=none->∃W:Nat->Nat->br->ap->Prop,(∃m,W 0 m [] (upd ai D (.lst [])))/\∀i m ys H,W i m ys H->
  (cc.stop i H/\Q D H)\/(cc.go i H/\∀x Z (fq:List (mi)),fq.length=k->cc.pN i H x Z->g x (fq++vs.map some) Z λip aB=>∃zF,zF.length=k/\ip=zF++vs.map some/\fU ip aB λb a7=>if b=true then bw ip a7 λv b1=>b1 D=some (.lst ys)/\ys.length < sizeLine/\∃c8,c8 < m/\W (i+1) c8 (ys++[v]) (upd b1 D (.lst (ys++[v]))) else ∃c8,c8 < m/\W (i+1) c8 ys a7)
def Bg (k:Nat) (js:bh) (f0:TI) (g:lE) (fU:TT) (bw:TE):TE:=λaa H Q=>f0 aa H λcc ai=>Bf k js cc g fU bw aa ai λD H=>Q (.ref D) H
section
variable {X:a8}
def S9 {ac:eU}{aa:St}{H:ap}{s:Shared}{scope:Scope}{cl:List (Str×Addr)}{Xs Nf:dH}{js:bh}{vs:br}{fp:gd}{ag:Heap}{cS:Nat}{m:Str->cn}(K:wi X scope cl Xs Nf js) (J:Inv X ac aa H s) (rr:vs.length=js.length) (pc:∀(j i:Nat),js[j]?=some i->∃v,vs[j]?=some v/\aa[i]?=some (some v)) (bl:∀b∈fp,kY X ac H b) (cM:∀b∈fp,b < s.hz) (ns:ag.Ns s.hz m) (keep:∀b o,s.heap.get? b=some o->ag.get? b=some o):Inv (hr X scope cl s.hz (Xs++Nf) s H fp) [] (List.replicate Xs.length none++vs.map some) H { s with heap:=ag,toks:=cS }:=by
 refine⟨⟨J.ok.mod,K.kind,J.ok.glob,J.ok.blt,bf _,λy z c am aE=>J.ok.inj y z c (K.sub y c am) (K.sub z c aE),λy aT=>K.has y aT,λy c e _=>(Bool.noConfusion (show false=true from e)),J.ok.hd,J.ok.frames,.inl I,
  λb af=>⟨fw (cM b af),λy c e=>(bl b af).2.2.2.2.1 y c (K.sub y c e)⟩,J.bs,dW J.ok.ly J.oE,λb o e af=>?_,λb af z=>?_,J.stack,J.xV⟩,
  rfl,J.bare,ha.kept keep,⟨m,ns,λi y v am aE bq=>?_⟩,λy c e=>?_,J.bA.fresh (bf _),λy c e=>J.j8 y c (K.sub y c e),λp ar=>absurd (show p∈([]:eU) from ar) bZ,J.bA.kept keep,?_⟩
 ·rcases(bl b af).2.2.2.1 with z|z
  ·exact J.ok.qK b o e z
  ·exact absurd (eG (di e) (dW J.ok.ly z)) (j5 _)
 ·rcases gZ.mp (J.vI b z) with e|e
  ·exact(bl b af).2.1 e
  ·exact(bl b af).2.2.1 e
 ·by_cases aR:i < Xs.length
  ·rw[List.getElem?_append_left (by rw[oB];exact aR)] at aE;rw[Aq] at aE;split at aE<;>simp at aE
  ·obtain⟨j,rfl⟩:∃j,i=Xs.length+j:=⟨i - Xs.length,co⟩;have zo:Nf[j]?=some y:=by
    have Ov:(Xs++Nf)[Xs.length+j]?=some y:=am;rw[xI co] at Ov
    simpa using Ov
   have XJ:(vs.map some)[j]?=some (some v):=by
    rw[xI (by rw[oB];omega),oB] at aE
    simpa using aE
   obtain⟨nc,c',dx,aU,al⟩:=K.frees j y zo;obtain⟨gl,fo,ko⟩:=pc j nc c';have fd:v=gl:=by
    have uK:(vs.map some)[j]?=some (some v):=XJ;rw[rS,fo] at uK
    simpa using uK.symm
   subst fd;obtain⟨lc,uL,au⟩:=J.loc;obtain⟨u,r,l⟩:=au nc y v dx ko (.inr (.inl aU));refine⟨u,r,?_⟩;rcases l with ⟨eJ,_⟩|⟨_,c,aw,o,a',hd⟩
   ·have zp:X.env.scope.names.lookup y=some .local:=eJ;rw[aU] at zp;cases zp
   ·obtain⟨dF,n3⟩:=K.has y al;have h4:=K.sub y dF n3;rw[aw] at h4;cases h4;exact .inr ⟨al,c,n3,o,keep c o a',hd⟩
 ·obtain⟨v,o,a',hd⟩:=J.cell y c (K.sub y c e);exact⟨v,o,keep c o a',hd⟩
 ·show(List.replicate Xs.length none++vs.map some).length=(Xs++Nf).length;rw[cy,cy,oB,eV,rr,K.len]
def Mr {ir iter cU jZ pos p scope cl Xs Nf}{js:bh} {f0 g fU bw ac s aa H Q use QQ}(K:wi X scope cl Xs Nf js) (aw:X.calm=true) (aR:mn X cU iter f0) (a1:∀C s0 aI fp,nJ (hr X scope cl C (Xs++Nf) s0 aI fp) cU g) (zG:∀C s0 aI fp,Be (hr X scope cl C (Xs++Nf) s0 aI fp) jZ fU) (he:∀C s0 aI fp,bU (hr X scope cl C (Xs++Nf) s0 aI fp) ir bw) (ax:∀x,foldedSetIterable iter X.env x=pure x) (J:Inv X ac aa H s) (h:Bg Xs.length js f0 g fU bw aa H Q) (fin:∀(a2:Shared) d a7 fp {σ' Z s'},Inv X ac aa a7 a2->(∀b∈fp,kY X ac a7 b)->Inv (hr X scope cl a2.hz (Xs++Nf) a2 a7 fp) [] σ' Z s'->Q (.ref d) Z->compPost (model X.prog X.w) X.A X.cR use QQ (.ref d) a2.hz (.ok .next) s'):dN X (comprehension (.ListComp ir [⟨cU,iter,jZ,0⟩] scope pos) scope X.env p (newList []) false (eval iter X.env) use) QQ X.cR s:=by
 refine wpAny_comprehension_free (use:=use) rfl ax K.EG K.kind K.names (bW (aR ac s aa H _ J h) λv az ag=>bW ag λCh aN ae=>?_);obtain⟨bV,fp,iL,cc,aB,e,ci,T,rj,f2,vs,⟨rr,pc⟩,eE⟩:=ae;subst e;have dh:aB aN.hz=none:=ci.bA.fresh (bf _);obtain⟨W,⟨lc,ut⟩,o6⟩:=eE aN.hz dh;have sN:∀b∈fp,b < aN.hz:=λb af=>let ⟨o,e,_⟩:=T.obj _ _ rj b af;di e;refine rT (wpAny_newFunctionEnv K.cell (by intro y aT;simp at aT) (λjW rs rt=>?_) K.kind);dsimp only at rs rt⊢;generalize zq:aN.heap.push { cls:=.type "list",dict:=none,data:=.seq ([]:e3).toArray }=P3 at rs rt⊢;obtain⟨a2,mH⟩:∃a2:Shared,a2={ aN with heap:=P3 }:=⟨_,I⟩;have zr:P3=a2.heap:=by rw[mH]
 rw[zr] at rs rt⊢;have eM:Inv X ac aa (upd aB aN.hz (.lst [])) a2:=by
  rw[mH,<-zq];exact ci.laid (t':=aN.toks) (λb u e=>ej _ e) (bf _) ⟨fN _,[],0,.nil,hN _ I⟩
 have He:∀b o,aN.heap.get? b=some o->a2.heap.get? b=some o:=λb o e=>by rw[<-zr,<-zq];exact ej _ e
 have dy:∀b∈fp,kY X ac (upd aB aN.hz (.lst [])) b:=λb af=>⟨by rw[cj (fw (sN b af))];exact(f2 b af).1,(f2 b af).2⟩;have sn:iL 0 a2.heap:=T.keep _ _ _ rj λb af o e=>He b o e;have zt:∀b∈fp,b < a2.hz:=λb af=>let ⟨o,e,_⟩:=T.obj _ _ sn b af;di e;have zu:∀b o,a2.heap.get? b=some o->jW.get? b=some o:=λb o e=>rt.extBut b o (fw (di e)) (ej _ e);have zv:iL 0 jW:=T.keep _ _ _ sn λb af o e=>zu b o e;have v4:∀b∈fp,upd aB aN.hz (.lst []) b=none:=λb af=>(dy b af).1;have o8:∀{Z:ap},(∀b∈fp,Z b=none)->∀b∈fp,kY (hr X scope cl a2.hz (Xs++Nf) a2 (upd aB aN.hz (.lst [])) fp) [] Z b:=λ{Z} aP b af=>by
  refine⟨aP b af,fw (zt b af),λz=>?_,.inl af,λy c e=>(dy b af).2.2.2.2.1 y c (K.sub y c e),λp ar=>absurd (show p∈([]:eU) from ar) bZ⟩;rcases gZ.mp (eM.vI b z) with e|e
  ·exact(dy b af).2.1 e
  ·exact(dy b af).2.2.1 e
 have loop:∀dp:Shared,dp={ a2 with heap:=jW,toks:=a2.toks+([]:List (Str×Value)).length }->
   codeAny (model X.prog X.w) X.A (.compLoop (.ListComp ir [⟨cU,iter,jZ,0⟩] scope pos) 0 (.ref bV) (.ref aN.hz) (compEnvC scope cl a2.hz X.env))
    (compPost (model X.prog X.w) X.A X.cR use QQ (.ref aN.hz) a2.hz) dp:=by
  rintro dp rfl;have lw:=S9 (Xs:=Xs) (cS:=a2.toks+([]:List (Str×Value)).length) K eM rr pc dy zt rs zu;refine S8 (λn s'=>∃i fq ys Z,fq.length=Xs.length/\Inv (hr X scope cl a2.hz (Xs++Nf) a2 (upd aB aN.hz (.lst [])) fp) [] (fq++vs.map some) Z s'/\iL i s'.heap/\(∀b∈fp,Z b=none)/\W i n ys Z) ?_ lc ⟨0,List.replicate Xs.length none,[],_,oB,lw,zv,v4,ut⟩;rintro n dq ⟨i,fq,ys,dS,uV,n5,rk,uE,lh⟩;rcases o6 i n ys dS lh with ⟨stop,ss⟩|⟨go,step⟩
  ·refine fL (T.done (hr X scope cl a2.hz (Xs++Nf) a2 (upd aB aN.hz (.lst [])) fp) I I I aw i [] dq _ dS _ n5 (o8 uE) rk stop) (λr na aD=>?_) λ_ _ z=>z;obtain⟨al,sw⟩:=aD;subst al;exact fin _ _ _ _ eM dy sw ss
  ·refine fL (T.item (hr X scope cl a2.hz (Xs++Nf) a2 (upd aB aN.hz (.lst [])) fp) I I I aw i [] dq _ dS _ n5 (o8 uE) rk go) (λr na aD=>?_) λ_ _ z=>z;obtain⟨u,al,dZ⟩:=aD;subst al;refine fL dZ (λ_ iM aD=>?_) λ_ _ z=>z;obtain⟨lT,fV,kI,wf,Hg,uM,Hh⟩:=aD;have Hi:=kI.pinned (o8 Hh) (T.obj _ _ uM);refine fL (a1 a2.hz a2 (upd aB aN.hz (.lst [])) fp _ iM _ fV lT u _ Hi wf (step lT fV fq uV Hg)) (λ_ lZ aD=>?_) λ_ _ z=>False.elim z;obtain⟨Xf,nd,zx,zF,XK,mJ,Hj⟩:=aD;subst mJ;refine fL (zG a2.hz a2 _ fp _ lZ _ nd _ zx Hj) (λXM XN aD=>?_) λ_ _ z=>False.elim z;obtain⟨XO,Ow,CQ⟩:=aD;have ends:∀(sO:ap) (wp:Shared) (uW:br) (c8:Nat),c8 < n->W (i+1) c8 uW sO->Inv (hr X scope cl a2.hz (Xs++Nf) a2 (upd aB aN.hz (.lst [])) fp) ([]++xY fp iM.heap) (zF++vs.map some) sO wp->
     ∃m,m < n/\∃i fq ys Z,fq.length=Xs.length/\Inv (hr X scope cl a2.hz (Xs++Nf) a2 (upd aB aN.hz (.lst [])) fp) [] (fq++vs.map some) Z wp/\iL i wp.heap/\(∀b∈fp,Z b=none)/\W i m ys Z:=λsO wp uW c8 uN uO rv=>by
    refine⟨c8,uN,i+1,zF,uW,_,XK,rv.xZ,T.keep _ _ _ uM λb af o e=>(rv.pin (b,o) (kQ _ (kQ _ (vP af e)))).1,λb af=>?_,uO⟩;obtain⟨o,e,d⟩:=T.obj _ _ uM b af;exact(rv.pin (b,o) (kQ _ (kQ _ (vP af e)))).2.1
   cases XM with
   |false=>
    rw[bP gf] at CQ⊢;obtain⟨c8,uN,uO⟩:=CQ;exact ends _ _ _ _ uN uO Ow
   |true=>
    rw[b8 rfl] at CQ⊢;refine fL (he a2.hz a2 _ fp _ XN _ XO _ Ow CQ) (λru oc aD=>?_) λ_ _ z=>False.elim z;obtain⟨v,mK,Hk,Hl,Hm,Hn,c8,uN,uO⟩:=aD;refine fL (oK (X:=hr X scope cl a2.hz (Xs++Nf) a2 (upd aB aN.hz (.lst [])) fp) _ oc _ mK (.ref aN.hz) [v] (.ref aN.hz) [ru] (λ_ Z=>Z=upd mK aN.hz (.lst (ys++[v]))) Hk I (.cons Hl .nil) ⟨_,ys,v,I,I,Hm,Hn,I⟩)
     (λ_ wp ⟨_,sO,rv,_,Ho⟩=>?_) λ_ _ z=>False.elim z
    subst Ho;exact ends _ _ _ _ uN uO rv
 have bX:({ aN with heap:=jW,toks:=aN.toks+([]:List (Str×Value)).length }:Shared)={ a2 with heap:=jW,toks:=a2.toks+([]:List (Str×Value)).length }:=by rw[mH]
 rw[bX];exact codeAny_compStart_list (loop _ I) (T.self _ 0 _ _ _ zv (loop _ I))
def t8 {ir iter cU jZ pos scope cl Xs Nf}{js:bh} {f0 g fU bw}(K:wi X scope cl Xs Nf js) (aw:X.calm=true) (aR:mn X cU iter f0) (a1:∀C s0 aI fp,nJ (hr X scope cl C (Xs++Nf) s0 aI fp) cU g) (zG:∀C s0 aI fp,Be (hr X scope cl C (Xs++Nf) s0 aI fp) jZ fU) (he:∀C s0 aI fp,bU (hr X scope cl C (Xs++Nf) s0 aI fp) ir bw) (ax:autoParam (∀x,foldedSetIterable iter X.env x=pure x) Tm):bU X (.ListComp ir [⟨cU,iter,jZ,0⟩] scope pos) (Bg Xs.length js f0 g fU bw):=by
 intro ac s aa H Q J h;rw[eval_ListComp];refine Mr K aw aR a1 zG he ax J h λa2 d a7 fp {σ' Z s'} eM dy cc q=>?_;obtain⟨m,aP,_⟩:=cc.loc;refine⟨m,aP,λh' mI=>⟨.ref d,Z,?_,I,q⟩⟩;have ne:∀b o,a2.heap.get? b=some o->b≠a2.hz:=λb o e=>fw (di e);have zw:∀b u,Z b=some u->b≠a2.hz:=λb u e z=>by
  have f:=cc.free;rw[z] at e;have Hf:Z a2.hz=none:=f;rw[Hf] at e;cases e
 have B:=cc.base;refine eM.vJ (ch:=fp) (s':={ s' with heap:=h' }) cc.os ?_ (λb u e=>(cc.bA b u e).nG (λc v aw q=>mI.extBut c v ?_ q) (λ_ q=>q) λ_ _ q=>q) cc.bare λb af=>⟨(dy b af).2.2.2.1,(dy b af).2.1,(dy b af).2.2.2.2.1,(dy b af).2.2.2.2.2⟩
 ·exact⟨λb o e n af ak=>mI.extBut b o (ne b o e) (B.keep b o e n af ak),λb o e n af ak=>let ⟨sl,z⟩:=B.slot b o e n af ak;⟨sl,mI.extBut b _ (ne b o e) z⟩,λb o e n ak=>B.free b o e n ak,
   λb o e ak=>let ⟨c0,z⟩:=B.there b o e ak;⟨c0,mI.extBut b _ (ne b o e) z⟩,B.ml,B.lx,B.mm⟩
 ·rcases aw with z|z
  ·rw[z];exact zw b u e
  ·exact zw c _ z
end
end L2
namespace PySem
section
variable {M:Model}{A:Around}{E:Value->Shared->Prop}{s:Shared}
structure Heap.pZ (l:oy) (e:Addr) (cf:Obj) (h h':Heap):Prop where
 keep:∀b o,b≠e->b∉l.filterMap (·.frame)->h.get? b=some o->h'.get? b=some o
 slot:∀b o,b≠e->h.get? b=some o->∃sl,h'.get? b=some { o with slots:=sl }
 exc:∃vs zH T iu aH,cf.data=.fields vs/\zH=vs.setIfInBounds 1 (.ref T)/\1 < vs.size/\h'.get? e=some (cf.mapFields (·.setIfInBounds 1 (.ref T)))/\h.objs.size<=T/\h'.get? T=some iu/\iu.data=.fields aH/\aH[3]?=some .none
def Bh {base env outer L e cf vs head XQ Q}
  (iv:A.frames=some (env::outer)) (au:s.heap.FunFrames base (env::outer)) (bl:env.frame=some L) (he:s.heap.get? e=some cf) (hd:cf.data=.fields vs) (o':1 < vs.size)
  (h:∀h',Heap.pZ (env::outer) e cf s.heap h'->Q () { s with heap:=h' }):
  wpAny M A (do let a <-frameOf env;let pl <-entryPlaceOf L XQ;let b <-EntryCells.newEntry head a .none (rawInt L) .none pl;setField (.ref e) 1 b) (λ_ s'=>wpAny M A (setFlight (.ref e) none) Q E s') E s:=by
 have XR:e∉(env::outer).filterMap (·.frame):=λaQ=>by
  obtain⟨_,o,a',rx⟩:=au.mem aQ;rw[he] at a';cases a';exact rx vs hd
 refine a4 (wpAny_frameOf_fun iv au bl λag cB=>?_);refine a4 (wpAny_entryPlaceOf λpl hpl=>?_);unfold EntryCells.newEntry newFields;refine a4 (rT ?_ (hpl.sizeOk5 _ _ _ _ _));have am:ag.get? e=some cf:=(cB.2.1 e XR).trans he;obtain⟨bH,HM⟩:∃bH:Obj,bH={ cls:=.type "traceback",dict:=none,data:=.fields ([head,.ref L,.none,rawInt L,.none]++(if pl.isEmpty then List.replicate 6 Value.none else pl)).toArray }:=⟨_,I⟩;rw[<-HM];have XS:bH.isFreed=false:=by rw[HM];rfl
 have aE:(ag.push bH).get? e=some cf:=ej bH am;refine xN aE hd o' ?_;have ne:ag.objs.size≠e:=xE (di am);have sS:=xO hd (·.setIfInBounds 1 (Value.ref ag.objs.size));have bq:=rU (Obj.mapFields (·.setIfInBounds 1 (Value.ref ag.objs.size))) aE (Obj.isFreed_of_fields sS);have gb:=(mS (ag.push bH) (Obj.mapFields (·.setIfInBounds 1 (Value.ref ag.objs.size))) (d0 ne)).trans (hN ag (o:=bH) XS);unfold setFlight;refine a4 (nA bq sS (x:=.ref ag.objs.size) (by simp[o']) ?_);rw[b8 (show(Value.ref ag.objs.size != Value.none)=true from by simp)];have HN:bH.data=.fields ([head,.ref L,.none,rawInt L,.none]++(if pl.isEmpty then List.replicate 6 Value.none else pl)).toArray:=by rw[HM]
 refine xN gb HN (by simp only[List.size_toArray,List.length_append,List.length_cons,List.length_nil]<;>omega) (h _ ?_);have keep:∀b o,b≠e->ag.get? b=some o->(((ag.push bH).update e (Obj.mapFields (·.setIfInBounds 1 (Value.ref ag.objs.size)))).update ag.objs.size (Obj.mapFields (·.setIfInBounds 3 ((none:tf).elim Value.none λf=>rawInt f)))).get? b=some o:=λb o af q=>by
  rw[mS _ _ (xE (di q)),mS _ _ (d0 af)];exact ej _ q
 refine⟨λb o af aP q=>keep b o af ((cB.2.1 b aP).trans q),λb o af q=>?_,vs,_,ag.objs.size,_,_,hd,I,o',?_,Ao cB.1.symm,rU _ gb (Obj.isFreed_of_fields (xO HN _)),xO HN _,?_⟩
 ·obtain⟨sl,aZ⟩:=cB.2.2 b o q;exact⟨sl,keep b _ af aZ⟩
 ·rw[mS _ _ ne];exact bq
 ·first|(simp;done)|(rcases hpl with rfl|⟨_,_,_,_,_,_,_,rfl⟩<;>simp)
def S' {base env outer L e cf vs Q}(iv:A.frames=some (env::outer)) (au:s.heap.FunFrames base (env::outer)) (bl:env.frame=some L) (he:s.heap.get? e=some cf) (hd:cf.data=.fields vs) (ag:vs[1]?=some .none) (h:∀h',Heap.pZ (env::outer) e cf s.heap h'->Q () { s with heap:=h' }):wpAny M A (leaving env (.ref e)) Q E s:=by
 unfold leaving noteFrame;simp only[bl];refine a4 (a4 (nA he hd ag ?_));rw[bP dU];exact Bh iv au bl he hd (tq.mp ag).1 h
def Ta {base env outer L e T cf iu vs aH Q}(iv:A.frames=some (env::outer)) (au:s.heap.FunFrames base (env::outer)) (bl:env.frame=some L) (he:s.heap.get? e=some cf) (hd:cf.data=.fields vs) (ag:vs[1]?=some (.ref T)) (HO:T≠e) (de:s.heap.get? T=some iu) (uX:iu.data=.fields aH) (aW:aH[3]?=some .none) (h:∀h',(∃aQ:Heap,(∀b,b≠T->aQ.get? b=s.heap.get? b)/\aQ.objs.size=s.hz/\Heap.pZ (env::outer) e cf aQ h')->Q () { s with heap:=h' }):wpAny M A (leaving env (.ref e)) Q E s:=by
 unfold leaving noteFrame;simp only[bl];refine a4 (a4 (nA he hd ag ?_));rw[b8 (show(Value.ref T != Value.none)=true from by simp)];refine a4 (nA de uX aW ?_);rw[bP (show ¬((Value.none == rawInt L)=true) from by simp[rawInt])];refine a4 (xN de uX (tq.mp aW).1 ?_);have other:∀b,b≠T->(s.heap.update T (Obj.mapFields (·.setIfInBounds 3 Value.none))).get? b=s.heap.get? b:=λb af=>mS _ _ (d0 af);have HP:∀b o,s.heap.get? b=some o->(∀vs,o.data≠.fields vs)->b≠T:=λb o af rx q=>by
  rw[q,de] at af;cases af;exact rx aH uX
 refine Bh iv (au.of_keeps λb o af rx=>⟨o,(other b (HP b o af rx)).trans af,I⟩) bl ((other e (d0 HO)).trans he) hd (tq.mp ag).1 λh' k=>h h' ⟨_,other,Heap.size_after_update ..,k⟩
end
end PySem
namespace L2
open PySem PySem.Spec PyProof.Rows PySem.Builtin PySem.Builtin.Str
section
variable {X:a8}
end
end L2
namespace bc
open PySem PyProof.Rows L2
section
variable {X:a8}{o i:Expr}{pos:Pos}{l7 ty:TE}
end
end bc
namespace L2
open PySem PySem.Spec PyProof.Rows PySem.Builtin PySem.Builtin.Str
def Tb (k:Nat) (js:bh) (f0:TI) (g:lE) (fU:TT) (bw:TE) (i:Nat):gw:=λD aa H=>Bg k js f0 g fU bw aa H λv Z=>D.c4 (aa.set i (some v)) Z
section
variable {X:a8}
def Tc {ir iter cU jZ y py Ox iy pos scope cl Xs Nf js f0 g fU bw}(K:wi X scope cl Xs Nf js) (aw:X.calm=true) (aR:mn X cU iter f0)
  (a1:∀C s0 aI fp,nJ (hr X scope cl C (Xs++Nf) s0 aI fp) cU g) (zG:∀C s0 aI fp,Be (hr X scope cl C (Xs++Nf) s0 aI fp) jZ fU) (he:∀C s0 aI fp,bU (hr X scope cl C (Xs++Nf) s0 aI fp) ir bw)
  (dx:X.N.Nodup) (XT:X.N[iy]?=some y) (aT:Loc X.env.scope y) (XU:autoParam (swapsWith (.ListComp ir [⟨cU,iter,jZ,0⟩] scope pos) (some (.Name y py)) Ox.line X.env=pure true) dl)
  (XV:autoParam (X.fn y=true\/X.env.scope.names.lookup y=some .local) KK) (ax:autoParam (∀x,foldedSetIterable iter X.env x=pure x) Tm):
  j' X (.Assign [.Name y py] (.ListComp ir [⟨cU,iter,jZ,0⟩] scope pos) Ox) (Tb Xs.length js f0 g fU bw iy):=by
 intro ac s aa H Oy J h;obtain⟨Q,n4⟩:∃Q:bz,Q=λv Z=>Oy.c4 (aa.set iy (some v)) Z:=⟨_,I⟩;have h':Bg Xs.length js f0 g fU bw aa H Q:=by rw[n4];exact h
 rw[exec_Assign_Name_used _ _ _ _ XU];refine a4 (rP (a4 ?_));show wpAny _ X.A (do let _ <-comprehension (.ListComp ir [⟨cU,iter,jZ,0⟩] scope pos) scope X.env _ (newList []) false (eval iter X.env) (some (assign (.Name y py) X.env))) _ _ s;refine a4 (fL (Mr (QQ:=λ_ s'=>pI X ac Oy .next s') K aw aR a1 zG he ax J h' λa2 d a7 fp {σ' Z s'} eM dy cc q=>?_) (λ_ s' aD=>b3 (b3 aD)) λ_ _ e=>e);obtain⟨m,aP,_⟩:=cc.loc;have ne:∀b o,a2.heap.get? b=some o->b≠a2.hz:=λb o e=>fw (di e);have B:=cc.base;have n5:Inv X ac aa Z s':=by
  refine eM.vJ (ch:=fp) (s':=s') cc.os ?_ cc.bA cc.bare λb af=>⟨(dy b af).2.2.2.1,(dy b af).2.1,(dy b af).2.2.2.2.1,(dy b af).2.2.2.2.2⟩;exact⟨λb o e n af ak=>B.keep b o e n af ak,λb o e n af ak=>B.slot b o e n af ak,λb o e n ak=>B.free b o e n ak,λb o e ak=>B.there b o e ak,B.ml,B.lx,B.mm⟩
 have XW:kY X ac Z a2.hz:=eM.tD (bf _) cc.free;obtain⟨cQ,c5,fJ,fK,ng,jd⟩:=XW;show wpAny _ X.A (assign (.Name y py) X.env (.ref d)) _ _ s';refine wpAny_assign_Name (JK (v:=.ref d) n5 dx XT aT I (λlV XX iZ=>?_) XV);obtain⟨a,iZ,aq⟩:=iZ;have XY:a2.hz≠a:=by
  rcases aq with z|z
  ·rw[z];exact c5
  ·exact λe=>ng y a z e.symm
 refine⟨m,aP.sameBut iZ XY,λh' mI=>⟨_,Z,XX.turned (t':=lV.toks) (λb o af e=>mI.extBut b o af e) cQ c5 fK ng jd,?_⟩⟩;rw[n4] at q;exact q
end
end L2
namespace L2
open PySem PySem.Spec PyProof.Rows
structure sq (n:Nat) (h:Heap) (H:ap) (a:Addr) (cls:Value) (ao:tf):Prop where
 up:n<=a
 free:H a=none
 ex:∃cf vs,h.get? a=some cf/\cf.cls=cls/\cf.dict=ao/\cf.data=.fields vs/\(vs[1]?=some .none\/∃T iu aH,vs[1]?=some (.ref T)/\T≠a/\n<=T/\H T=none/\h.get? T=some iu/\iu.data=.fields aH/\aH[3]?=some .none)
def sq.mono {n m h H a cls ao}(x:sq n h H a cls ao) (aQ:m<=n):sq m h H a cls ao:=by
 obtain⟨u,f,cf,vs,ag,ae,aW,bm,b7⟩:=x;refine⟨dW aQ u,f,cf,vs,ag,ae,aW,bm,?_⟩;rcases b7 with b7|⟨T,iu,aH,cB,cN,eS,uY⟩
 ·exact .inl b7
 ·exact .inr ⟨T,iu,aH,cB,cN,dW aQ eS,uY⟩
def bQ (P:Program) (w:World):nL:=λouter H s E e s'=>∃a Z cls ao,e=.ref a/\s'.os=s.os/\AllBare s'.gens/\ha (jk outer) [] H Z s.heap s'.heap/\gh P w Z s'.heap/\sq s.hz s'.heap Z a cls ao/\E cls ao Z
def Ms {env outer L a cf H Z cd h aQ h' T}(bl:env.frame=some L) (u:ha (jk outer) [] H Z cd h) (dC:cd.objs.size<=L) (aq:cd.objs.size<=a) (de:∀t,T=some t->cd.objs.size<=t) (l8:∀b,some b≠T->aQ.get? b=h.get? b) (k:Heap.pZ (env::outer) a cf aQ h'):ha (jk outer) [] H Z cd h':=by
 have fr:(env::outer).filterMap (·.frame)=L::jk outer:=by
  show List.filterMap _ _=_;rw[vq,bl];rfl
 have old:∀b o,cd.get? b=some o->b≠a/\b≠L/\some b≠T:=λb o q=>by
  have:=di q;refine⟨λz=>?_,λz=>?_,λz=>?_⟩
  ·rw[z] at this;exact absurd (eG this aq) (j5 _)
  ·rw[z] at this;exact absurd (eG this dC) (j5 _)
  ·exact absurd (eG this (de b z.symm)) (j5 _)
 refine⟨λb o q n af ak=>?_,λb o q n af ak=>?_,u.free,λb o q ak=>?_,u.ml,u.lx,u.mm⟩
 ·obtain⟨pe,l6,eQ⟩:=old b o q;refine k.keep b o pe (by rw[fr];intro z;rcases gZ.mp z with z|z;exact l6 z;exact af z) ?_;rw[l8 b eQ];exact u.keep b o q n af ak
 ·obtain⟨pe,l6,eQ⟩:=old b o q;obtain⟨sl,e⟩:=u.slot b o q n af ak;obtain⟨y8,db⟩:=k.slot b _ pe (by rw[l8 b eQ];exact e);exact⟨y8,db⟩
 ·obtain⟨pe,l6,eQ⟩:=old b o q;obtain⟨c0,e⟩:=u.there b o q ak;obtain⟨y8,db⟩:=k.slot b _ pe (by rw[l8 b eQ];exact e);exact⟨_,db⟩
def Bi {P w l a cf Z h aQ h' T}(x:gh P w Z h) (aq:Z a=none) (de:∀t,T=some t->Z t=none) (iv:∀b∈jk l,Z b=none) (l8:∀b,some b≠T->aQ.get? b=h.get? b) (k:Heap.pZ l a cf aQ h'):gh P w Z h':=λb u e=>by
 refine(x b u e).nG (λc v aw q=>?_) (λ_ q=>q) λ_ _ q=>q;have mG:Z c≠none:=by
  rcases aw with z|z
  ·rw[z,e];intro z;cases z
  ·rw[z];intro z;cases z
 have XZ:some c≠T:=λz=>mG (de c z.symm);refine k.keep c v (λz=>mG (by rw[z];exact aq)) (λz=>mG (iv c z)) ?_;rw[l8 c XZ];exact q
def Mt {n l a cf cls ao Z aQ h'}(aP:n<=a) (aq:Z a=none) (ax:∀b u,Z b=some u->b < aQ.objs.size) (HQ:n<=aQ.objs.size) (qj:a < aQ.objs.size) (aw:cf.cls=cls) (l9:cf.dict=ao) (k:Heap.pZ l a cf aQ h'):sq n h' Z a cls ao:=by
 obtain⟨vs,zH,T,iu,aH,am,aE,bq,bX,dG,f8,od,mJ⟩:=k.exc;refine⟨aP,aq,_,_,bX,(Obj.cls_mapFields _ _).trans aw,?_,xO am _,.inr ⟨T,iu,aH,by simp[bq],λz=>?_,dW HQ dG,?_,f8,od,mJ⟩⟩
 ·have:(cf.mapFields (·.setIfInBounds 1 (.ref T))).dict=cf.dict:=by
   unfold Obj.mapFields;split<;>rfl
  rw[this];exact l9
 ·rw[z] at dG;exact absurd (eG qj dG) (j5 _)
 ·cases q:Z T with
  |none=>rfl
  |some u=>exact absurd (eG (ax T u q) dG) (j5 _)
def Inv.raises {P w K mg base N ce scope f dY A outer s s' H Z E ac aa a cls ao}(J:Inv (fj (bQ P w) P w K mg base N ce scope f dY A outer s H E) ac aa Z s') (ak:sq s.hz s'.heap Z a cls ao) (q:E cls ao Z):(fj (bQ P w) P w K mg base N ce scope f dY A outer s H E).cR (.ref a) s':=by
 obtain⟨env,abV⟩:∃env,env=envOfC ce scope s.hz f dY:=⟨_,I⟩;show wpAny (model P w) (A.deeper (envOfC ce scope s.hz f dY)) (leaving (envOfC ce scope s.hz f dY) (.ref a)) (λ_ lV=>bQ P w outer H s E (.ref a) lV) (λdb lV=>bQ P w outer H s E db lV) s';have iv:(A.deeper (envOfC ce scope s.hz f dY)).frames=some (envOfC ce scope s.hz f dY::outer):=J.ok.frames;have au:s'.heap.FunFrames base (envOfC ce scope s.hz f dY::outer):=J.stack;have bl:(envOfC ce scope s.hz f dY).frame=some s.hz:=rfl;have n2:∀b∈jk (envOfC ce scope s.hz f dY::outer),Z b=none:=λb af=>J.xV b af;have n':ha (jk outer) [] H Z s.heap s'.heap:=J.base;have bA:gh P w Z s'.heap:=J.bA;have o':s.hz<=s'.hz:=J.oE;obtain⟨aP,aq,cf,vs,ag,ae,aW,bm,b7⟩:=ak;have qj:a < s'.hz:=di ag;rcases b7 with b7|⟨T,iu,aH,cB,cN,eS,uY,iP,w3,qk⟩
 ·refine S' iv au bl ag bm b7 λh' k=>?_;exact⟨a,Z,cls,ao,I,J.os,J.bare,Ms (T:=none) bl n' (bf _) aP (λt z=>by cases z) (λb _=>I) k,Bi (T:=none) bA aq (λt z=>by cases z) n2 (λb _=>I) k,
   Mt aP aq (λb u e=>bA.lt e) o' qj ae aW k,q⟩
 ·refine Ta iv au bl ag bm cB cN iP w3 qk λh' aD=>?_;obtain⟨aQ,d3,im,k⟩:=aD;have l8:∀b,some b≠some T->aQ.get? b=s'.heap.get? b:=λb af=>d3 b λz=>af (by rw[z]);exact⟨a,Z,cls,ao,I,J.os,J.bare,Ms (T:=some T) bl n' (bf _) aP (λt z=>by cases z;exact eS) l8 k,Bi (T:=some T) bA aq (λt z=>by cases z;exact uY) n2 l8 k,
   Mt aP aq (λb u e=>by rw[im];exact bA.lt e) (by rw[im];exact o') (by rw[im];exact qj) ae aW k,q⟩
def f6 {P w K mg base N ce scope f dY A outer s H E pd}(HR:∀cls ao Z,pd cls ao Z->E cls ao Z):ff (bQ P w) (fj (bQ P w) P w K mg base N ce scope f dY A outer s H E) pd:=by
 intro ac aa ai az e aN J h;obtain⟨a,aB,cls,ao,rfl,os,bare,un,bA,uZ,q⟩:=h;have ci:Inv (fj (bQ P w) P w K mg base N ce scope f dY A outer s H E) ac aa aB aN:=J.vJ (ch:=[]) os un bA bare (λb z=>absurd z bZ);exact ci.raises (uZ.mono J.oE) (HR _ _ _ q)
def b5.fl {P w K mg base x ce st f as N aG k sp}(F:b5 K x ce st f as) (S:cE N aG (bF st)) (len:∀vs H Q E,sp vs H Q E->vs.length=aG.length) (pa:∀bk A outer s H vs Q E,dj k (A.deeper (envOfC ce (bF st) s.hz f bk))->sp vs H Q E->∃t,bc.ic (fj (bQ P w) P w K mg base N ce (bF st) f bk A outer s H E) (lI st) t/\t { c4:=λ_ Z=>Q .a3 Z,lz:=Q } (start N vs) H):bK P w K mg base (bQ P w) (k+1) f as aG sp:=by
 obtain⟨gn,dg,eo,fW,pm,an,bk,b0,gI,rfl,lk,gT⟩:=F.ex;refine Et lk gT S len λA outer s H vs Q E al lg=>?_;obtain⟨t,h,q⟩:=pa bk A outer s H vs Q E al lg;exact⟨t,h.out,q⟩
section
variable {prog:Program}{w:World}{A:Around}{E:Value->Shared->Prop}{h:Heap}{g:Array GenState}{d:Drawn}{t:Nat}{os:OsState}{nm q:Str}{C N:Addr}{bs CR w4:e3}{Oz:Bool}{li:dH}{sub:e3}{kr:Bool}{lj:Option Bool}{eg:tf}{gK cB cN eS iP:cn}{B CS newId OA OB OC:String}{OD:e3}
def Td (zI:ExcBaseFacts CS newId OC OD) (g8:w4.contains (.type CS)=true) (zJ:ExcBaseFacts B OA OB w4) (zK:OwnTail h w4 CR) {iQ rest iR jA Q}(pg:h.get? C=some (excClassObj nm q C N bs CR Oz li sub kr lj eg gK cB cN eS iP newId)) (dx:h.Ns N iQ) (aR:iQ "__init__"=some (.ref iR)) (bl:h.get? iR=some jA) (aw:jA.cls=.type "function") (k:∀h' e,e=h.objs.size+1->h.MadeExcOf h' e (.ref C) rest->wpAny (model prog w) A (call (.ref iR) (.ref e::rest)) (λr s'=>r=.none/\Q (.done (.ret (.ref e))) s') E { heap:=h',gens:=g,drawn:=d,toks:=t,os:=os })
  (hz:rest.length<=sizeLine):
  wpAny (model prog w) A (Builtin.«type.__call__» { pos:=.ref C::rest }) Q E { heap:=h,gens:=g,drawn:=d,toks:=t,os:=os }:=by
 unfold Builtin.«type.__call__»;dsimp only;refine j7 bZ ?_;refine a4 (wpAny_mroOf_exc pg ?_);refine j7 bZ ?_;refine a4 (wpAny_madeBy_exc pg ?_);dsimp only;refine a4 (b3 ?_);refine a4 (md (rQ ?_));refine codeAny_call_builtin_code (Code.quiet_builtin _ zI.quiet) ?_;refine wpAny_check_new_subU zI g8 zK pg ?_;refine codeAny_exc_new_subU zI g8 zJ zK pg ?_ hz;dsimp only;have am:((h.push { cls:=.type "tuple",data:=.seq rest.toArray }).push { cls:=.ref C,data:=.fields #[.ref h.objs.size,.none,.none,.none,.bool false,.none] }).get? (h.objs.size+1)=some { cls:=.ref C,data:=.fields #[.ref h.objs.size,.none,.none,.none,.bool false,.none] }:=by
  have:=hN (h.push { cls:=.type "tuple",data:=.seq rest.toArray }) (o:={ cls:=.ref C,data:=.fields #[.ref h.objs.size,.none,.none,.none,.bool false,.none] }) rfl
  rwa [Heap.size_push] at this
 have cZ:∀b o,h.get? b=some o->((h.push { cls:=.type "tuple",data:=.seq rest.toArray }).push { cls:=.ref C,data:=.fields #[.ref h.objs.size,.none,.none,.none,.bool false,.none] }).get? b=some o:=λb o q=>ej _ (ej _ q);refine a4 (a4 (a4 (vC am (b3 ?_))));refine wpAny_isSubtype_exc (cZ _ _ pg) ?_;refine j7 bZ ?_;refine a4 (md ?_);unfold callSpecial?;have X0:((h.push { cls:=.type "tuple",data:=.seq rest.toArray }).push { cls:=.ref C,data:=.fields #[.ref h.objs.size,.none,.none,.none,.bool false,.none] }).Ns N iQ:=by
  obtain⟨o,aj,cp,a',r⟩:=dx;exact⟨o,aj,cp,cZ _ _ a',r⟩
 refine a4 (a4 (a4 (vC am (b3 ?_))));refine wpAny_typeLookup_tail (cZ _ _ pg) X0 (zK.keeps cZ) zJ.mroIs zJ.init.lookup ?_;rw[aR];dsimp only;refine md (a4 ?_);unfold bindSpecial;refine a4 (a4 (vC (cZ _ _ bl) (b3 ?_)));rw[aw];refine rW bZ (b3 ?_);dsimp only;refine a4 (fL (k _ (h.objs.size+1) I ⟨cZ,DA (mf _),h.objs.size,am,DA (bf _),ej _ (hN h I)⟩) (λr s' z=>?_) (λ_ _ z=>z));obtain⟨rfl,z⟩:=z;refine b3 ?_;dsimp only;exact j7 bZ (b3 z)
def Te (zI:ExcBaseFacts CS newId OC OD) (g8:w4.contains (.type CS)=true) (zJ:ExcBaseFacts B OA OB w4) (zK:OwnTail h w4 CR) {iQ rest iR jA Q}(pg:h.get? C=some (excClassObj nm q C N bs CR Oz li sub kr lj eg gK cB cN eS iP newId)) (dx:h.Ns N iQ) (aR:iQ "__init__"=some (.ref iR)) (bl:h.get? iR=some jA) (aw:jA.cls=.type "function") (k:∀h' e,e=h.objs.size+1->h.MadeExcOf h' e (.ref C) rest->wpAny (model prog w) (A.under (.builtin "type.__call__" { pos:=.ref C::rest })) (call (.ref iR) (.ref e::rest)) (λr s'=>r=.none/\Q (.ref e) s') E { heap:=h',gens:=g,drawn:=d,toks:=t,os:=os })
  (hz:rest.length<=sizeLine):
  wpAny (model prog w) A (call (.ref C) rest) Q E { heap:=h,gens:=g,drawn:=d,toks:=t,os:=os }:=by
 refine rQ (codeAny_of_tree ?_);show wpAny _ _ (callAny (.ref C) { pos:=rest }) _ _ _;unfold callAny;dsimp only;refine a4 (wpAny_load' pg ?_);unfold excClassObj;dsimp only;unfold callAny.viaDunder;refine a4 (wpAny_specialOf (T:="type") ⟨_,pg,I⟩ tc_lookup ?_);dsimp only;refine a4 (wpAny_of_eq (tc_bind _) ?_);dsimp only;refine a4 (b3 ?_);refine rW bZ ?_;refine b3 ⟨I,?_⟩;refine codeAny_call_builtin_at (b:=Builtin.«type.__call__») (Code.quiet_builtin _ fP) F.entry_type_call ?_;refine wpAny_check_type_call_sub pg ?_;refine Td zI g8 zJ zK pg dx aR bl aw (λh' e he m=>fL (k h' e he m) (λr s' z=>z) (λ_ _ z=>z)) hz
end
abbrev p0:e3:=[.type "ValueError",.type "Exception",.type "BaseException",.type "object"]
section
variable {prog:Program}{w:World}{A:Around}{E:Value->Shared->Prop}{s:Shared}{K:aJ}{x C S:Addr}{fq:Obj}{dg:Option Obj}{name:Str}{v:Value}
def Tf {R cS dY}(X:K.In s.heap) (cc:PySem.W.InstAt s.heap x fq C dg) (gT:PySem.W.clsIn K C=some dY) (aQ:dY.mro=.ref C::.ref S::p0) (bO:PySem.W.findIn K (.ref C) name=some none) (k:wpAny (model prog w) A.in1 (Builtin.ObjectAttr.storeInOwnDict (.ref x) (.ref C) (.str name cS) name v false) (λfin s'=>match fin with|.done f=>R (.ok f) s'|.again dF=>dF.quiet=true/\codeAny (model prog w) A dF R s') (λe s'=>R (.error e) s') s):
  codeAny (model prog w) A (.call (.builtin "object.__setattr__") { pos:=[.ref x,.str name cS,v] }) R s:=by
 refine AA vD.slot.plain vD.entry ?_;have HS:PySem.W.mroIn K C (.type "object")=some true:=by
  unfold PySem.W.mroIn;rw[gT];show(if dY.mro.isEmpty=true then none else some (dY.mro.contains (.type "object")))=some true;rw[aQ];simp
 have X1:PySem.W.Looks (model prog w) s.heap (isInstance (.ref x) (.type "object")) true:=by
  unfold isInstance;exact PySem.W.Looks.andThen (f:=λt=>isSubtype t (.type "object")) cc.type (AB X HS)
 have ag:=vD.kind;have ae:=vD.split;have aW:=vD.args (.ref x) (.str name cS) v;refine @PySem.W.check_slot (model prog w) A.in1 _ s "object.__setattr__" "object" "__setattr__" (.ref x) [.str name cS,v] [] _ ag ae X1 aW ?_;rw[PySem.W.osa_eq,refuse_eq];refine a4 (a4 (vt cc.type (a4 ?_)));have X2:PySem.W.Looks (model prog w) s.heap (mroOf (.ref C)) dY.mro:=by
  show PySem.W.Looks (model prog w) s.heap (classData C >>= λc=>pure c.mro) dY.mro;exact PySem.W.Looks.andThen (DC X gT) PySem.W.Looks.now
 refine vt X2 ?_;rw[aQ,refuseLoop_ref,refuseLoop_ref,vD.passes];refine b3 (a4 (vt cc.type (a4 (vt (An X bO) ?_))));exact a4 (b3 k)
def Tg {dY vs Q}(X:K.In s.heap) (ak:s.heap.get? x=some fq) (aw:fq.cls=.ref C) (HT:fq.data=.fields vs) (OE:fq.dict=none) (X3:PySem.W.findIn K (.ref C) "__setattr__"=some (some (.builtin "object.__setattr__"))) (gT:PySem.W.clsIn K C=some dY) (aQ:dY.mro=.ref C::.ref S::p0) (hd:dY.hasDict=true) (bO:PySem.W.findIn K (.ref C) name=some none) (k:∀h' cS,h'.get? x=some { fq with dict:=some s.hz }->h'.Ns1 s.hz (λy=>if y=name then some v else none)->(∀b o,b≠x->s.heap.get? b=some o->h'.get? b=some o)->Q () { s with heap:=h',toks:=cS }):
  wpAny (model prog w) A (setAttr (.ref x) name v) Q E s:=by
 have cc:PySem.W.InstAt s.heap x fq C none:=⟨ak,aw,by unfold PySem.W.notCls;rw[HT],by rw[OE];trivial⟩;refine PySem.W.set_plain X cc X3 (Tf (s:={ s with toks:=s.toks+1 }) X cc gT aQ bO ?_);unfold Builtin.ObjectAttr.storeInOwnDict;rw[show ownStreamTells (.ref x) (.ref C)=pure () from rfl];refine a4 (b3 ?_);refine j7 bZ ?_;refine a4 ?_;unfold Builtin.ObjectAttr.ownDictForStores instanceDict;dsimp only;refine a4 (Am (s:={ s with toks:=s.toks+1 }) ak ?_);rw[aw];dsimp only;refine a4 (vt (s:={ s with toks:=s.toks+1 }) (DC X gT) ?_);rw[hd];refine j7 bZ ?_;rw[OE];dsimp only;refine j7 (by simp[typeHasDict]) ?_;rw[HT];dsimp only;obtain⟨ar,q5,ks,cS,os⟩:=s;have X4:x < ar.objs.size:=di ak;refine a4 (wpAny_alloc' ?_);have OF:(ar.push { cls:=.type "dict",data:=.dict #[] }).get? x=some fq:=ej _ ak;refine a4 (wpAny_update' OF ?_);refine b3 ?_;dsimp only;have OG:ar.objs.size≠x:=(fw X4).symm;have dD:((ar.push { cls:=.type "dict",data:=.dict #[] }).update x λo=>{ cls:=o.cls,dict:=some ar.objs.size,data:=o.data,slots:=o.slots }).get? ar.objs.size=some { cls:=.type "dict",data:=.dict #[] }:=by
  rw[xP _ _ _ _ OG];exact hN ar rfl
 have am:((ar.push { cls:=.type "dict",data:=.dict #[] }).update x λo=>{ cls:=o.cls,dict:=some ar.objs.size,data:=o.data,slots:=o.slots }).get? x=some { fq with dict:=some ar.objs.size }:=by
  refine rU _ OF ?_;show Obj.isFreed ⟨fq.cls,some ar.objs.size,fq.data,fq.slots⟩=false;rw[HT];rfl
 have hF:((ar.push { cls:=.type "dict",data:=.dict #[] }).update x λo=>{ cls:=o.cls,dict:=some ar.objs.size,data:=o.data,slots:=o.slots }).Ns1 ar.objs.size (λ_=>none):=
  Heap.Ns1.of_empty ⟨_,#[],_,dD,I,(λe he=>absurd he bZ),λ_=>I⟩
 unfold Builtin.ObjectAttr.storeInDict Builtin.ObjectAttr.newKeyGuard;refine a4 (b3 (a4 ?_));refine wpAny_nsSet1 hF λh' uF gq=>?_;obtain⟨UV,WF,WP,FM,FS,uG⟩:=uF.count (PySem.Within.cons name v PySem.Within.nil);refine a4 (wpAny_lookBehind FM (by rw[FS];exact pastItsLine_dict (dW uG (by rw[jH];simp))) ?_);refine b3 (k h' _ ?_ uF λb o af q=>?_)
 ·rw[gq.2 x OG.symm];exact am
 ·have X5:b≠ar.objs.size:=fw (di q);rw[gq.2 b X5,xP _ _ _ _ af];exact ej _ q
end
def strKeyed (aj:Array DictEntry):Bool:=aj.toList.all λe=>match e.key with|.str _ _=>true|_=>false
def Th {aj}(h:strKeyed aj=true):StrKeys aj:=λe he=>by
 have:=eW.mp h e (Array.mem_toList_iff.mpr he);revert this;cases aU:e.key<;>intro this<;>first|exact⟨_,_,I⟩|cases this
def Bj (K:aJ) (N:Addr):Prop:=∃gn dg aj cp gI,K.lookup N=some ⟨gn,dg,.dict aj cp,gI⟩/\strKeyed aj=true
def Bj.ns {K N}(x:Bj K N) {h}(X:K.In h):∃iQ,h.Ns N iQ/\∀n v,PySem.W.nsIn K N n=some v->iQ n=v:=by
 obtain⟨gn,dg,aj,cp,gI,a,b⟩:=x;refine⟨nsFind aj,⟨_,aj,cp,X _ _ a,I,Th b,λ_=>I⟩,λn v e=>?_⟩;unfold PySem.W.nsIn at e;rw[a] at e;dsimp only at e;unfold nsFind findBy;rw[<-Array.find?_toList];split at e
 ·rename_i y q;have kF:List.find? (λe=>e.key.isStr n) aj.toList=some y:=q;rw[kF];exact hB e
 ·rename_i q;have kF:List.find? (λe=>e.key.isStr n) aj.toList=none:=q;rw[kF];split at e
  ·cases e
  ·exact hB e
structure jO (K:aJ) (C S iR:Addr):Prop where
 obj:∃nm q N bs li sub kr lj eg gK cB cN eS iP,K.lookup C=some (excClassObj nm q C N bs (.ref S::p0) true li sub kr lj eg gK cB cN eS iP "ValueError.__new__")/\Bj K N/\PySem.W.nsIn K N "__init__"=some (some (.ref iR))
 base:∃cQ iw sT CT,K.lookup S=some ⟨cQ,iw,.cls sT,CT⟩/\Bj K sT.ns/\PySem.W.nsIn K sT.ns "__init__"=some none
 tG:PySem.W.findIn K (.ref C) "__setattr__"=some (some (.builtin "object.__setattr__"))
 fn:∃jA,K.lookup iR=some jA/\jA.cls=.type "function"
 cZ:PySem.W.keepIn K (.ref C)=true
structure yn (K:aJ) (S:Addr):Prop where
 ga:PySem.W.specialIn K (.ref S) "__getattribute__"=some (some (.builtin "type.__getattribute__"))
 aC:PySem.W.readsIn K S (.type "type")=true
 Ti:PySem.W.findCls K (.ref S) (.type "type") "__init__"=some (.val (.builtin "ValueError.__init__"))
def excK_mk {K C S iR N nm q bs} {li sub kr lj eg gK cB cN eS iP}{jA:Obj} {gn dg aj cp gI cQ iw sT CT X6 X7 v2 y9 X8}(a:K.lookup C=some (excClassObj nm q C N bs (.ref S::p0) true li sub kr lj eg gK cB cN eS iP "ValueError.__new__")) (b:K.lookup N=some ⟨gn,dg,.dict aj cp,gI⟩) (dM:strKeyed aj=true) (c:PySem.W.nsIn K N "__init__"=some (some (.ref iR))) (d:K.lookup S=some ⟨cQ,iw,.cls sT,CT⟩) (gA:K.lookup sT.ns=some ⟨X6,X7,.dict v2 y9,X8⟩) (sS:strKeyed v2=true) (u0:PySem.W.nsIn K sT.ns "__init__"=some none) (e:PySem.W.findIn K (.ref C) "__setattr__"=some (some (.builtin "object.__setattr__"))) (f:K.lookup iR=some jA) (g:jA.cls=.type "function") (cZ:PySem.W.keepIn K (.ref C)=true):jO K C S iR:=
 ⟨⟨nm,q,N,bs,li,sub,kr,lj,eg,gK,cB,cN,eS,iP,a,⟨_,_,_,_,_,b,dM⟩,c⟩,⟨_,_,_,_,d,⟨_,_,_,_,_,gA,sS⟩,u0⟩,e,⟨jA,f,g⟩,cZ⟩
def jO.own {K C S iR}(T:jO K C S iR) {h}(X:K.In h):∃nm q N bs li sub kr lj eg gK cB cN eS iP iQ jA,h.get? C=some (excClassObj nm q C N bs (.ref S::p0) true li sub kr lj eg gK cB cN eS iP "ValueError.__new__")/\h.Ns N iQ/\iQ "__init__"=some (.ref iR)/\h.get? iR=some jA/\jA.cls=.type "function":=by
 obtain⟨nm,q,N,bs,li,sub,kr,lj,eg,gK,cB,cN,eS,iP,a,b,c⟩:=T.obj;obtain⟨jA,f1,f2⟩:=T.fn;obtain⟨iQ,bS,cH⟩:=b.ns X;exact⟨nm,q,N,bs,li,sub,kr,lj,eg,gK,cB,cN,eS,iP,iQ,jA,X _ _ a,bS,cH _ _ c,X _ _ f1,f2⟩
def jO.tail {K C S iR}(T:jO K C S iR) {h}(X:K.In h):OwnTail h p0 (.ref S::p0):=by
 obtain⟨cQ,iw,sT,CT,a,b,c⟩:=T.base;obtain⟨iQ,bS,cH⟩:=b.ns X;exact .own (X _ _ a) bS (cH _ _ c) .base
def jO.cls {K C S iR}(T:jO K C S iR):∃dY,PySem.W.clsIn K C=some dY/\dY.mro=.ref C::.ref S::p0/\dY.hasDict=true:=by
 obtain⟨nm,q,N,bs,li,sub,kr,lj,eg,gK,cB,cN,eS,iP,a,b,c⟩:=T.obj;unfold PySem.W.clsIn;rw[a];exact⟨_,I,I,I⟩
def ExcAt (e C:Addr) (ao:tf):Heap->Prop:=λh=>∃cf vs,h.get? e=some cf/\cf.cls=.ref C/\cf.dict=ao/\cf.data=.fields vs/\vs.size=6/\vs[1]?=some .none
def Fy {P w H h e C ao}(x:ExcAt e C ao h):gB P w H h e (.ext (ExcAt e C ao)):=by
 refine⟨x,?_,?_⟩
 ·obtain⟨cf,_,ag,_⟩:=x;exact⟨cf,ag⟩
 ·rintro ag ae ⟨cf,vs,cG,a⟩ k;exact⟨cf,vs,k cf cG,a⟩
section
variable {X:a8}{CX:nL}{k:Nat}{f C S:Addr}{as:FuncData}{aG:dH}{sp:e6}{x:Str}{p pos apos:Pos}{e:Expr}{aj:gY}{t:fi}
end
def Tj {H a o}(h:H a=some o):upd H a o=H:=by
 funext b;unfold upd;split
 ·rename_i z;rw[z,h]
 ·rfl
section
variable {X:a8}{k:Nat}{f C S:Addr}{x:Str}{p pos apos:Pos}{e:Expr}{aj:gY}{t:fi}
def Tn {ac aa H s Q a u}(T:jO X.K C S f) (J:Inv X ac aa H s) (aq:H a=some (.ext (ExcAt a C none))) (q:∀s',Inv X ac aa H s'->Q .none s'):dN X (call (.builtin "ValueError.__init__") [.ref a,u]) Q X.cR s:=by
 obtain⟨nm,ss,N,bs,li,sub,kr,lj,eg,gK,cB,cN,eS,iP,iQ,jA,ag,ae,aW,bm,b7⟩:=T.own J.ep;obtain⟨⟨cf,vs,am,aE,bq,bX,dG,f8⟩,_⟩:=J.bA a _ aq;obtain⟨ar,q5,ks,cS,os⟩:=s;obtain⟨gn,dg,abW,gI⟩:=cf;dsimp only at aE bq bX;subst aE bq bX;have HU:=_root_.PySem.F.excBase_ValueError;refine rQ (AA (id:="ValueError.__init__") HU.init.plain HU.initEntry ?_);refine @wpAny_check_init_subU X.A.in1 _ ar q5 ks cS os nm ss C N bs (.ref S::p0) p0 true li sub kr lj eg gK cB cN eS iP "ValueError" "ValueError.__new__" "ValueError.__new__" "ValueError.__init__" HU (T.tail J.ep) _ a _ [u] _ ag am rfl ?_;unfold Builtin.«BaseException.__init__»;dsimp only;refine j7 bZ ?_;refine a4 (wpAny_newTuple ?_ (by show 1<=sizeLine;decide));have qj:a < ar.objs.size:=di am;have g1:(ar.push { cls:=.type "tuple",data:=.seq [u].toArray }).get? a=some ⟨.ref C,none,.fields vs,gI⟩:=ej _ am;have w5:∃z,vs[0]?=some z:=⟨vs[0]'co,bZ⟩;obtain⟨z,w5⟩:=w5;unfold Builtin.BaseException.bexcPut;refine a4 (a4 (nA g1 I w5 (a4 (xN g1 I co ?_))));have ci:∀HV,Inv X ac aa H ⟨(ar.push { cls:=.type "tuple",data:=.seq [u].toArray }).update a (Obj.mapFields λy=>y.setIfInBounds 0 (.ref ar.objs.size)),q5,ks,HV,os⟩:=λHV=>by
  have:=J.write (x:=a) (e:=a) (o:=.ext (ExcAt a C none)) (t':=HV) (h':=(ar.push { cls:=.type "tuple",data:=.seq [u].toArray }).update a (Obj.mapFields λy=>y.setIfInBounds 0 (.ref ar.objs.size))) (by rw[aq];trivial) (.inl I)
   (λb o af q=>by rw[xP _ _ _ _ af];exact ej _ q) ⟨_,rU _ g1 I⟩ (Fy ⟨_,vs.setIfInBounds 0 (.ref ar.objs.size),rU _ g1 I,?_,?_,?_,?_,?_⟩)
  ·rw[Tj aq] at this;exact this
  ·rfl
  ·rfl
  ·rfl
  ·simpa using dG
  ·simpa using f8
 cases z with
 |ref b=>exact xQ (b3 (q _ (ci _)))
 |_=>exact b3 (b3 (q _ (ci _)))
def Mu (C:Addr) (t:fi):TE:=λaa H Q=>t aa H λvs ai=>∃a y,vs=[.ref a,y]/\ai a=some (.ext (ExcAt a C none))/\Q .a3 ai
def Fz {pl}(T:jO X.K C S f) (B:yn X.K S) (a1:eH X x) (aQ:X.mg x=some (.ref S)) (aq:iX X (e::aj) t) (eN:autoParam (e4 x) Cl)
  (iK:autoParam (gi X e aj) dl) (hpl:autoParam (iW X pos aj) dl)
  (bO:autoParam (eval (.Call (.Attribute (.Name x p) "__init__" apos) (e::aj) [] pos) X.env=(do
   let eC <-eval (.Name x p) X.env
   standAt apos.atName
   let (f,first) <-holding [eC] (getMethod eC "__init__" pl)
   callWith pos f first (backTo pos (starEach (e::aj) X.env)) (backToKw pos (keywordEach [] X.env)))) dl):
  bU X (.Call (.Attribute (.Name x p) "__init__" apos) (e::aj) [] pos) (Mu C t):=by
 intro ac s aa H Q J h;refine Ap (pl:=pl) (r1 J a1 aQ ?_ eN) bO;refine PySem.W.method_cls J.ep B.ga (PySem.W.cls_value J.ep B.aC B.Ti I ?_);have a6:=J.tok (s.toks+1);have ei:=aq pos ac _ aa H _ a6 h;show wpAny _ _ (callWith pos (.builtin "ValueError.__init__") [] (backTo pos (starEach (e::aj) X.env)) []) _ _ _;rw[iK] at ei⊢;refine xJ (by show(false||(backTo pos (starEach aj X.env)).any (·.1))=false;rw[hpl]<;>rfl) (Au ?_);refine bW ei λus aN aD=>?_;obtain⟨vs,aB,ci,dL,a,y,fd,cX,bn⟩:=aD;subst fd;obtain⟨sU,CU,uT,zd,ze⟩:=vals2 dL;subst uT;cases zd;exact Tn T ci cX λs' eM=>⟨.a3,aB,eM,I,bn⟩
end
section
variable {X:a8}{k:Nat}{f C S:Addr}{x:Str}{p pos pos' apos:Pos}{e o value:Expr}{aj:gY}{t:fi}{bu h0 bw:TE}
def Inv.To {ac aa H s a ao h' cS bi eb}(J:Inv X ac aa H s) (aq:H a=some (.ext (ExcAt a C none))) (l9:s.hz<=ao) (ne:∀b o,b≠a->s.heap.get? b=some o->h'.get? b=some o) (ok:ExcAt a C (some ao) h') (ns:h'.Ns1 ao eb) (r:∀g,jI (bi.lookup g) (eb g)):Inv X ac aa (upd (upd H ao (.nF bi)) a (.ext (ExcAt a C (some ao)))) { s with heap:=h',toks:=cS }:=by
 have HW:H ao=none:=J.bA.fresh l9;have abX:ao≠a:=λz=>by rw[z,aq] at HW;cases HW
 have af:∀b o,s.heap.get? b=some o->b≠ao:=λb o q z=>by
  rw[z] at q;exact absurd (eG (di q) l9) (j5 _)
 have HX:∀b,H b=none->b≠a:=λb q z=>by rw[z,aq] at q;cases q
 have up:∀b u,H b=some u->b≠a->upd (upd H ao (.nF bi)) a (.ext (ExcAt a C (some ao))) b=some u:=λb u q z=>by
  rw[cj z,cj (mW q HW)];exact q
 obtain⟨OH,X9,cG,_⟩:=ok;refine J.un (t':=cS) ⟨λb c7 q n _ _=>ne b c7 (HX b n) q,λb c7 q n _ _=>⟨c7.slots,ne b c7 (HX b n) q⟩,λb c7 q n _=>?_,λb c7 q _=>?_,λb xs q=>up b _ q λz=>?_,λb c7 u q=>up b _ q λz=>?_,λb aG q=>⟨#[],?_⟩⟩ λb u q=>?_
 ·rw[cj (HX b n),cj (af b c7 q)];exact n
 ·by_cases z:b=a
  ·rw[z];exact⟨OH,cG⟩
  ·exact⟨c7,ne b c7 z q⟩
 ·rw[z,aq] at q;cases q
 ·rw[z,aq] at q;cases q
 ·have z:b≠a:=λz=>by rw[z,aq] at q;cases q
  rw[up b _ q z];simp
 ·by_cases z:b=a
  ·subst z;rw[b'] at q;cases q;exact Fy ⟨OH,X9,cG,by assumption⟩
  ·rw[cj z] at q;by_cases cW:b=ao
   ·subst cW;rw[b'] at q;cases q;exact⟨eb,ns,r⟩
   ·rw[cj cW] at q;refine(J.bA b u q).nG (λc v aw w=>ne c v (λoh=>?_) w) (λc w=>up c _ w λoh=>?_) λc xs w=>up c _ w λoh=>?_
    ·rcases aw with aw|aw
     ·exact z (aw.symm.trans oh)
     ·rw[oh,aq] at aw;cases aw
    ·rw[oh,aq] at w;cases w
    ·rw[oh,aq] at w;cases w
def Mv (C:Addr) (g:Str) (bu h0:TE):gw:=λD aa H=>h0 aa H λy ai=>bu aa ai λx aB=>∃a,x=.ref a/\aB a=some (.ext (ExcAt a C none))/\∀ao,aB ao=none->D.c4 aa (upd (upd aB ao (.nF [(g,y)])) a (.ext (ExcAt a C (some ao))))
def FA {g}(T:jO X.K C S f) (aP:PySem.W.findIn X.K (.ref C) g=some none) (aq:bU X o bu) (aK:bU X value h0) (ax:autoParam (swapsWith value (some (.Attribute o g pos')) pos.line X.env=pure false) dl):j' X (.Assign [.Attribute o g pos'] value pos) (Mv C g bu h0):=by
 intro ac s aa H D J h;refine plainObj_wpAny_Assign_Attribute (bW (aK ac s aa H _ J h) λu az ⟨y,ai,a6,bj,q⟩=>bW (aq ac az aa ai _ a6 q) λeC aN aD=>?_) ax;obtain⟨x,aB,ci,a0,a,ex,cX,bn⟩:=aD;subst ex;obtain rfl:eC=Value.ref a:=a0;obtain⟨⟨cf,vs,am,aE,bq,bX,dG,f8⟩,_⟩:=ci.bA a _ cX;obtain⟨dY,c5,fJ,fK⟩:=T.cls;refine Tg ci.ep am aE bX bq T.tG c5 fJ fK aP λh' cS cB cN eS=>?_;refine⟨aa,_,ci.To (bi:=[(g,y)]) cX (bf _) eS ⟨_,vs,cB,aE,I,bX,dG,f8⟩ cN (λz=>?_),bn _ (ci.bA.fresh (bf _))⟩;show jI (List.lookup z [(g,y)]) (if z=g then some u else none);by_cases hz:z=g
 ·subst hz;simp[List.lookup,jI,bj]
 ·have:(z == g)=false:=by simpa using hz
  simp[List.lookup,this,jI,hz]
def without (H:ap) (a:Addr):ap:=λb=>if b=a then none else H b
def FC {H a}:without H a a=none:=b8 rfl
def yo {H a b}(h:b≠a):without H a b=H b:=bP h
def Inv.drop {ac aa H s a re}(J:Inv X ac aa H s) (aq:H a=some (.ext re)) (aP:X.fZ.hz<=a):Inv X ac aa (without H a) s:=by
 have gc:∀b,H b=none->without H a b=none:=λb q=>by
  by_cases z:b=a
  ·rw[z];exact FC
  ·rw[yo z];exact q
 have up:∀b u,H b=some u->u≠.ext re->without H a b=some u:=λb u q z=>by
  rw[yo λy=>?_]
  ·exact q
  ·rw[y,aq] at q;cases q;exact z rfl
 have af:∀b o,X.fZ.heap.get? b=some o->b≠a:=λb o q z=>by
  rw[z] at q;exact absurd (eG (di q) aP) (j5 _)
 refine⟨J.ok,J.os,J.bare,⟨J.base.keep,J.base.slot,λb o q n ak=>gc b (J.base.free b o q n ak),J.base.there,λb xs q=>up b _ (J.base.ml b xs q) (by intro z;cases z),λb o u q=>up b _ (J.base.lx b o u q) (by intro z;cases z),λb aG q=>?_⟩,J.loc,J.cell,gc _ J.free,λx c e=>gc _ (J.j8 x c e),λp ar=>?_,λb u q=>?_,J.len⟩
 ·obtain⟨m,z⟩:=J.base.mm b aG q;exact⟨m,up b _ z (by intro z;cases z)⟩
 ·obtain⟨ag,ae,aW⟩:=J.pin p ar;exact⟨ag,gc _ ae,aW⟩
 ·have z:b≠a:=λz=>by rw[z,FC] at q;cases q
  rw[yo z] at q;exact(J.bA b u q).nG (λ_ _ _ w=>w) (λc w=>up c _ w (by intro z;cases z)) λc xs w=>up c _ w (by intro z;cases z)
def Bk (X:a8) (E:cJ):Prop:=∀ac aa H s a cls ao,Inv X ac aa H s->sq X.fZ.hz s.heap H a cls ao->E cls ao H->X.cR (.ref a) s
def Mw (n:Nat) (E:cJ) (C:Addr) (bw:TE):gw:=λ_ aa H=>bw aa H λx ai=>∃a ao,x=.ref a/\n<=a/\ai a=some (.ext (ExcAt a C ao))/\E (.ref C) ao (without ai a)
def FD {E}(ak:Bk X E) (aw:X.calm=true) (T:jO X.K C S f) (he:bU X e bw):j' X (.Raise (some e) none pos) (Mw X.fZ.hz E C bw):=by
 intro ac s aa H D J h;rw[arm_exec_Raise];refine a4 (rP ?_);unfold raiseStmt evalOpt;dsimp only[Option.map];refine a4 (a4 (bW (he ac s aa H _ J h) λu az aD=>?_));obtain⟨x,ai,a6,a0,a,ao,ex,aP,cX,q⟩:=aD;subst ex;obtain rfl:u=Value.ref a:=a0;refine a4 (rP (b3 ?_));obtain⟨nm,ss,N,bs,li,sub,kr,lj,eg,gK,cB,cN,eS,iP,iQ,jA,ag,ae,aW,bm,b7⟩:=T.own a6.ep;obtain⟨⟨cf,vs,am,aE,bq,bX,dG,f8⟩,_⟩:=a6.bA a _ cX;have notCls:(match cf.data with|.cls c=>true|_=>false)=false:=by rw[bX]
 have qc:∀{Q pd},Q false az->dN X (isType (.ref a)) Q pd az:=λq=>by
  unfold isType loadHead;dsimp only;refine a4 (Am am (b3 ?_));rw[bX];exact q
 refine a4 (b3 ?_);refine a4 (md ?_);unfold excFromValue isExcClass;refine a4 (a4 (qc (j7 bZ (b3 (j7 bZ ?_)))));obtain⟨ar,q5,ks,cS,os⟩:=az;unfold isInstance;refine a4 (a4 (a4 (vC am (b3 ?_))));rw[aE];refine wpAny_isSubtype_exc ag (rW bZ (b3 ?_));refine a4 (qc (j7 bZ ?_));unfold raisedInstance;refine a4 (a4 (a4 (vC am (b3 ?_))));rw[aE];refine a4 (a4 (vC ag (b3 ?_)));refine rW (by unfold excClassObj;simp) (b3 ?_);unfold setFlight;refine a4 (a4 (nA am bX f8 (j7 bZ (b3 ?_))));refine wpAny_raiseNew_none (J.ok.hd aw) ?_;exact ak ac aa _ _ a (.ref C) ao (a6.drop cX aP) ⟨aP,FC,cf,vs,am,aE,bq,bX,.inl f8⟩ q
end
end L2
namespace PySem
section
variable {M:Model}{A:Around}{E:Value->Shared->Prop}{s:Shared}
def Tp {base env outer L e T cf iu vs aH Q}(iv:A.frames=some (env::outer)) (au:s.heap.FunFrames base (env::outer)) (bl:env.frame=some L) (he:s.heap.get? e=some cf) (hd:cf.data=.fields vs) (ag:vs[1]?=some (.ref T)) (HO:T≠e) (de:s.heap.get? T=some iu) (uX:iu.data=.fields aH) (aW:aH[3]?=some .none) (h:∀h',(∃aQ:Heap,(∀b,b≠T->aQ.get? b=s.heap.get? b)/\aQ.objs.size=s.hz/\Heap.pZ (env::outer) e cf aQ h')->Q () { s with heap:=h' }):wpAny M A (noteFrame (.ref e) env) (λ_ s'=>wpAny M A (setFlight (.ref e) none) Q E s') E s:=by
 unfold noteFrame;simp only[bl];refine a4 (nA he hd ag ?_);rw[b8 (show(Value.ref T != Value.none)=true from by simp)];refine a4 (nA de uX aW ?_);rw[bP (show ¬((Value.none == rawInt L)=true) from by simp[rawInt])];refine a4 (xN de uX (tq.mp aW).1 ?_);have other:∀b,b≠T->(s.heap.update T (Obj.mapFields (·.setIfInBounds 3 Value.none))).get? b=s.heap.get? b:=λb af=>mS _ _ (d0 af);have HP:∀b o,s.heap.get? b=some o->(∀vs,o.data≠.fields vs)->b≠T:=λb o af rx q=>by
  rw[q,de] at af;cases af;exact rx aH uX
 exact Bh iv (au.of_keeps λb o af rx=>⟨o,(other b (HP b o af rx)).trans af,I⟩) bl ((other e (d0 HO)).trans he) hd (tq.mp ag).1 λh' k=>h h' ⟨_,other,Heap.size_after_update ..,k⟩
def Tq {base env outer L e cf vs Q}(iv:A.frames=some (env::outer)) (au:s.heap.FunFrames base (env::outer)) (bl:env.frame=some L) (he:s.heap.get? e=some cf) (hd:cf.data=.fields vs) (ag:vs[1]?=some .none) (h:∀h',Heap.pZ (env::outer) e cf s.heap h'->Q () { s with heap:=h' }):wpAny M A (noteFrame (.ref e) env) (λ_ s'=>wpAny M A (setFlight (.ref e) none) Q E s') E s:=by
 unfold noteFrame;simp only[bl];refine a4 (nA he hd ag ?_);rw[bP dU];exact Bh iv au bl he hd (tq.mp ag).1 h
end
end PySem
namespace L2
open PySem PySem.Spec PyProof.Rows
abbrev a8.t9 (X:a8) (E:Value->Shared->Prop) (ac:eU):a8:={ X with cR:=E,ia:=X.ia++ac }
abbrev a8.held (X:a8) (e:Value) (ac:eU):a8:={ X with A:=X.A.mark (some e),calm:=false,cR:=λ_ _=>False,ia:=X.ia++ac }
section
variable {X:a8}
def Inv.t9 {ac aa H s}(J:Inv X ac aa H s) (E):Inv (X.t9 E ac) [] aa H s:=
 ⟨⟨J.ok.mod,J.ok.kind,J.ok.glob,J.ok.blt,J.ok.above,J.ok.inj,J.ok.has,J.ok.rZ,J.ok.hd,J.ok.frames,J.ok.tA,J.ok.xU,J.ok.bs,J.ok.ly,J.ok.qK,J.ok.r0,J.ok.kU,J.ok.pG⟩,J.os,J.bare,J.base,J.loc,J.cell,J.free,J.j8,λp ar=>J.pin p (by simpa using ar),J.bA,J.len⟩
def Inv.p1 {ac pl aa H s E}(J:Inv (X.t9 E ac) pl aa H s):Inv X ac aa H s:=
 ⟨⟨J.ok.mod,J.ok.kind,J.ok.glob,J.ok.blt,J.ok.above,J.ok.inj,J.ok.has,J.ok.rZ,J.ok.hd,J.ok.frames,J.ok.tA,J.ok.xU,J.ok.bs,J.ok.ly,J.ok.qK,J.ok.r0,J.ok.kU,J.ok.pG⟩,J.os,J.bare,J.base,J.loc,J.cell,J.free,J.j8,λp ar=>J.pin p (vr _ ar),J.bA,J.len⟩
def Inv.hold {ac aa H s}(J:Inv X ac aa H s) (e):Inv (X.held e ac) [] aa H s:=
 ⟨⟨J.ok.mod,J.ok.kind,J.ok.glob,J.ok.blt,J.ok.above,J.ok.inj,J.ok.has,J.ok.rZ,(λz=>by cases z),J.ok.frames,J.ok.tA,J.ok.xU,J.ok.bs,J.ok.ly,J.ok.qK,J.ok.r0,J.ok.kU,J.ok.pG⟩,J.os,J.bare,J.base,J.loc,J.cell,J.free,J.j8,λp ar=>J.pin p (by simpa using ar),J.bA,J.len⟩
def Inv.Tr {ac pl aa H s e}(ok:X.Ok) (J:Inv (X.held e ac) pl aa H s):Inv X ac aa H s:=
 ⟨ok,J.os,J.bare,J.base,J.loc,J.cell,J.free,J.j8,λp ar=>J.pin p (vr _ ar),J.bA,J.len⟩
def pI.p1 {ac D f s' E}(h:pI (X.t9 E ac) [] D f s'):pI X ac D f s':=by
 cases f with
 |next=>obtain⟨σ',Z,J,q⟩:=h;exact⟨σ',Z,J.p1,q⟩
 |brk=>obtain⟨σ',Z,J,q⟩:=h;exact⟨σ',Z,J.p1,q⟩
 |cont=>obtain⟨σ',Z,J,q⟩:=h;exact⟨σ',Z,J.p1,q⟩
 |ret u=>obtain⟨v,σ',Z,J,r,q⟩:=h;exact⟨v,σ',Z,J.p1,r,q⟩
structure Below (X:a8) (ac:eU) (n:Nat):Prop where
 z:X.fZ.hz<=n
 l:X.env.locals < n
 c:∀x c,X.env.cells.lookup x=some c->c < n
 p:∀p∈X.ia++ac,p.1 < n
def Inv.below {ac aa H s}(J:Inv X ac aa H s):Below X ac s.hz:=
 ⟨J.oE,J.lt,λx c e=>let ⟨_,_,h,_⟩:=J.cell x c e;di h,λp ar=>di (J.pin p ar).1⟩
def FE (X:a8) (ac:eU) (b:Addr):Prop:=(b∈X.ex\/X.fZ.hz<=b)/\b≠X.env.locals/\(∀x c,X.env.cells.lookup x=some c->c≠b)/\∀p∈X.ia++ac,p.1≠b
def Below.new {ac n}(B:Below X ac n) {b}(af:n<=b):FE X ac b:=
 ⟨.inr (dW B.z af),xE (eG B.l af),λx c e=>fw (eG (B.c x c e) af),λp ar=>fw (eG (B.p p ar) af)⟩
structure Mx (N:Addr->Prop) (h:Heap) (H:ap) (a:Addr) (cls:Value) (ao:tf):Prop where
 up:N a
 free:H a=none
 ex:∃cf vs T iu aH,h.get? a=some cf/\cf.cls=cls/\cf.dict=ao/\cf.data=.fields vs/\vs[1]?=some (.ref T)/\T≠a/\N T/\H T=none/\h.get? T=some iu/\iu.data=.fields aH/\aH[3]?=some .none
def My {N l a cf cls ao Z aQ h'}(aP:N a) (aq:Z a=none) (ax:∀b u,Z b=some u->b < aQ.objs.size) (HQ:∀b,aQ.objs.size<=b->N b) (qj:a < aQ.objs.size) (aw:cf.cls=cls) (l9:cf.dict=ao) (k:Heap.pZ l a cf aQ h'):Mx N h' Z a cls ao:=by
 obtain⟨vs,zH,T,iu,aH,am,aE,bq,bX,dG,f8,od,mJ⟩:=k.exc;refine⟨aP,aq,_,_,T,iu,aH,bX,(Obj.cls_mapFields _ _).trans aw,?_,xO am _,by simp[bq],λz=>?_,HQ _ dG,?_,f8,od,mJ⟩
 ·have:(cf.mapFields (·.setIfInBounds 1 (.ref T))).dict=cf.dict:=by
   unfold Obj.mapFields;split<;>rfl
  rw[this];exact l9
 ·rw[z] at dG;exact absurd (eG qj dG) (j5 _)
 ·cases q:Z T with
  |none=>rfl
  |some u=>exact absurd (eG (ax T u q) dG) (j5 _)
def Inv.note {ac aa H s n a cls ao Q E}(iK:X.stack=X.env::X.outer) (bl:X.env.frame=some X.env.locals) (J:Inv X ac aa H s) (B:Below X ac n) (uZ:sq n s.heap H a cls ao) (k:∀h',Inv X ac aa H { s with heap:=h' }->Mx (FE X ac) h' H a cls ao->Q () { s with heap:=h' }):dN X (noteFrame (.ref a) X.env) (λ_ s'=>dN X (setFlight (.ref a) none) Q E s') E s:=by
 have iv:X.A.frames=some (X.env::X.outer):=by rw[<-iK];exact J.ok.frames
 have au:s.heap.FunFrames X.base (X.env::X.outer):=by rw[<-iK];exact J.stack
 have n2:∀b∈jk (X.env::X.outer),H b=none:=λb af=>J.xV b (by rw[iK];exact af);obtain⟨aP,aq,cf,vs,ag,ae,aW,bm,b7⟩:=uZ;have qj:a < s.hz:=di ag;have kG:∀b,n<=b->FE X ac b:=λb af=>B.new af;have un:∀{aQ h' T},(∀b,some b≠T->aQ.get? b=s.heap.get? b)->Heap.pZ (X.env::X.outer) a cf aQ h'->ha (jk X.stack) (a::T.toList) H H s.heap h':=λ{aQ h' T} l8 cL=>by
  have ak:∀b,b∉a::T.toList->b≠a/\some b≠T:=λb af=>by
   refine⟨λz=>af (by simp[z]),λz=>af ?_⟩;rw[<-z];simp
  refine⟨λb o q n af aw=>?_,λb o q n af aw=>?_,λb o q n _=>n,λb o q aw=>?_,λ_ _ q=>q,λ_ _ _ q=>q,λb aG q=>⟨#[],by simpa using q⟩⟩
  ·exact cL.keep b o (ak b aw).1 (by rw[iK] at af;exact af) (by rw[l8 b (ak b aw).2];exact q)
  ·exact cL.slot b o (ak b aw).1 (by rw[l8 b (ak b aw).2];exact q)
  ·obtain⟨sl,e⟩:=cL.slot b o (ak b aw).1 (by rw[l8 b (ak b aw).2];exact q);exact⟨_,e⟩
 rcases b7 with b7|⟨T,iu,aH,cB,cN,eS,uY,iP,w3,qk⟩
 ·refine Tq iv au bl ag bm b7 λh' cL=>k h' ?_ ?_
  ·exact J.call (t':=s.toks) (d':=s.drawn) (g':=s.gens) (un (T:=none) (λ_ _=>I) cL) (Bi (T:=none) J.bA aq (λt z=>by cases z) n2 (λb _=>I) cL) J.bare λb af=>kG b (by simp at af;rw[af];exact aP)
  ·exact My (kG a aP) aq (λb u e=>J.bA.lt e) (λb af=>J.below.new af) qj ae aW cL
 ·refine Tp iv au bl ag bm cB cN iP w3 qk λh' ⟨aQ,d3,im,cL⟩=>k h' ?_ ?_
  ·have l8:∀b,some b≠some T->aQ.get? b=s.heap.get? b:=λb af=>d3 b λz=>af (by rw[z]);exact J.call (t':=s.toks) (d':=s.drawn) (g':=s.gens) (un (T:=some T) l8 cL) (Bi (T:=some T) J.bA aq (λt z=>by cases z;exact uY) n2 l8 cL) J.bare λb af=>kG b (by simp at af;rcases af with af|af<;>rw[af]<;>first|exact aP|exact eS)
  ·exact My (kG a aP) aq (λb u e=>by rw[im];exact J.bA.lt e) (λb af=>J.below.new (by rw[im] at af;exact af)) (by rw[im];exact qj) ae aW cL
end
end L2
namespace GS
open PySem L2 PyProof.Rows
def kh:0<=sizeLine:=by decide
def ki:1<=sizeLine:=by decide
def e':2<=sizeLine:=by decide
def lO:3<=sizeLine:=by decide
def q6:4<=sizeLine:=by decide
def d9 {H:ap}{p q:Addr}{o c0:Option jJ}(h:H p=o) (h':H q=c0) (n:o≠c0:=by intro h;cases h):p≠q:=λy=>n (by rw[<-h,<-h',y])
end GS
namespace bc
open PySem PySem.Spec PyProof.Rows L2
section
variable {X:a8}{e a b c d:Expr}{aj:gY}{bw bu bH fU l7:TE}{t:fi}{pos p:Pos}
def _root_.zzj{p:Prop}(h:p:=by assumption):=h
def _root_.Yt:Lean.Syntax:=zzj._auto_1
def fg {name:Str}{aG:dH}{k k':Nat}{sp:e6}(F:GS.d7 X.prog X.w X.K X.mg X.base name aG k sp) (aq:gD X (e::aj) t) (al:autoParam (dj k' X.A) Yt) (aU:autoParam (k<=k') Cl) (a1:autoParam (eH X name) dl) (eN:autoParam (e4 name) Cl) (he:autoParam (gi X e aj) dl) (hpl:autoParam (iW X pos aj) dl):LE X (.Call (.Name name p) (e::aj) [] pos) (r7 sp [] oL t):=k3 F al aU a1 aq eN he hpl
def hs (K:aJ) (aq:LE X a bu) (af:LE X b bH) (gG:autoParam (X.K=K) dl) (ax:Ew b:=by exact λ_ _=>I):LE X (.Subscript a b pos) (lG (Ex K) bu bH):=by subst gG;exact gj tM aq af ax
def jP {op:CmpOp}{r:g5}(a':eX X (compareOp op) r) (aq:LE X a bu) (af:LE X b bH) (aQ:behindInMarks op b=false:=by exact hX _):LE X (.Compare a [op] [b] pos) (lG r bu bH):=mq a' aq af aQ
def c3 {op:CmpOp}{r:g5}(a':eX X (compareOp op) r) (aq:LE X a bu) (af:LE X b bH) (aQ:behindInMarks op b=false:=by exact hX _):LT X (.Compare a [op] [b] pos) (Ej (lG r bu bH)):=ey a' aq af aQ
def bx (aq:LE X a bu) (az:autoParam (gi X a []) dl):gD X [a] (m2 bu lH):=cg aq dc az
def c6 (aq:LE X a bu) (af:LE X b bH) (aN:autoParam (gi X a [b]) dl) (az:autoParam (gi X b []) dl):gD X [a,b] (m2 bu (m2 bH lH)):=cg aq (bx af az) aN
def fb (aq:LE X a bu) (af:LE X b bH) (aw:LE X c fU) (a2:autoParam (gi X a [b,c]) dl) (aN:autoParam (gi X b [c]) dl) (az:autoParam (gi X c []) dl):gD X [a,b,c] (m2 bu (m2 bH (m2 fU lH))):=cg aq (c6 af aw aN az) a2
def i3 (aq:LE X a bu) (af:LE X b bH) (aw:LE X c fU) (hd:LE X d l7) (dp:autoParam (gi X a [b,c,d]) dl) (a2:autoParam (gi X b [c,d]) dl) (aN:autoParam (gi X c [d]) dl) (az:autoParam (gi X d []) dl):gD X [a,b,c,d] (m2 bu (m2 bH (m2 fU (m2 l7 lH)))):=cg aq (fb af aw hd a2 aN az) dp
def h1 (i:Nat){x:Str}(dx:X.N.Nodup) (aR:autoParam (X.N[i]?=some x) dl) (ak:Loc X.env.scope x:=by first|exact .inl I|exact .inr I) (bl:autoParam (X.fn x=true\/X.env.scope.names.lookup x=some .local) KK):jq X (.Name x pos) (qM i):=qN dx aR ak bl
def ct (i:Nat){x:Str}{pos':Pos}(dx:X.N.Nodup) (he:LE X e bw) (aR:autoParam (X.N[i]?=some x) dl) (ak:Loc X.env.scope x:=by first|exact .inl I|exact .inr I) (ax:autoParam (swapsWith e (some (.Name x pos')) pos.line X.env=pure false) dl) (bl:autoParam (X.fn x=true\/X.env.scope.names.lookup x=some .local) KK):hP X (.Assign [.Name x pos'] e pos) (xX bw (qM i)):=jL dx aR ak he ax bl
end
end bc
namespace L2
open PySem PySem.Spec PyProof.Rows
def dm {N P:dH}{hv:Scope}(a:autoParam (hv.kind=.function) dl) (b:autoParam (hv.isCoroutine=false) dl) (c:autoParam (hv.isGenerator=false) dl) (d:autoParam N.Nodup Ic) (e:autoParam (N.take P.length=P) dl) (f:autoParam (∀x∈P,hv.names.lookup x=some .local\/hv.names.lookup x=some .cell) Ic) (g:autoParam (∀y∈hv.names,y.2≠.free) Ic):cE N P hv:=⟨a,b,c,d,e,f,g⟩
def b5.kj {P w K mg base x ce st f as N aG k sp}(F:b5 K x ce st f as) (S:cE N aG (bF st)) (pa:∀bk A outer s H vs Q E,dj k (A.deeper (envOfC ce (bF st) s.hz f bk))->sp vs H Q E->let X:=(fj dJ P w K mg base N ce (bF st) f bk A outer s H E).r2;∃t,bc.ic X (lI st) t/\t { c4:=λ_ Z=>Q .a3 Z,lz:=Q } (start N vs) H) (len:∀vs H Q E,sp vs H Q E->vs.length=aG.length:=by intro _ _ _ _ h;cases h;subst_vars;rfl):bK P w K mg base dJ (k+1) f as aG sp:=
 F.ye S len pa
end L2
namespace GS
open PySem L2 PyProof.Rows
@[elab_as_elim] theorem dz {H p o}{m:ap->Prop}(ar:H p=none) (k:∀Z,ba H Z->Z p=some o->m Z):m (upd H p o):=k _ (cK ar o) b'
def fm {K H k}{Q:V->Prop}(h:Q (.str k)):∀y,At K H (.str k) y->Q y:=λy aT=>by rw[cz.mp aT];exact h
def dB {K H Z d v}(e:ba H Z) (h:At K H d v):At K Z d v:=At.same e d v h
def oU {K H Z d v}(e:ba H Z) (h:bB K H d v):bB K Z d v:=bB.same e d v h
def iG {K H Z p ds vs}(s:ba H Z) (c:Z p=some (.tup vs)) (a:bB K H ds vs):At K Z (.tup ds) (.ref p):=eI.mpr ⟨p,vs,I,dI.of c,oU s a⟩
@[elab_as_elim] theorem abF {k a b:Str}{P:Str->Prop}(h:k=a\/k=b) (p:P a/\P b):P k:=by rcases h with rfl|rfl;exact p.1;exact p.2
def FF {K H ds vs v}{i:Nat}(h:bB K H ds vs) (e:vs[i]?=some v):∃aR:i < ds.length,At K H ds[i] v:=by
 have aR:i < ds.length:=by rw[<-h.len];exact(kP.mp e).1
 obtain⟨w,ay,a⟩:=bB.get (i:=i) h (d:=ds[i]) (by simp[aR]);rw[e] at ay;cases ay;exact⟨aR,a⟩
end GS
namespace GS
open PySem L2 PyProof.Rows
def Bl (K:aJ) (H:ap) (x:V) (r:Str):Prop:=(∃i:Int,x=.int i/\i.natAbs.log2 < 1920/\r=toString i)\/(x=.a3/\r="None")\/
 ∃ds,At K H (.tup ds) x/\(toPy (.tup ds)).showable=true/\c2 (.tup ds)<=40/\(toPy (.tup ds)).shown.length<=sizeLine/\r=(toPy (.tup ds)).shown
def Mz (K:aJ) (c:Str) (bw:TE):TE:=λaa H Q=>bw aa H λx ai=>∃r,Bl K ai x r/\r.length<=sizeLine/\(Str.empty++c++r).length<=sizeLine/\Q (.str (Str.empty++c++r)) ai
section
variable {X:a8}
def Tt {k}(al:dj k X.A) {ac aa H s x u r Q}(J:Inv X ac aa H s) (a0:RelV x u) (h:Bl X.K H x r) (q:∀s' t,Inv X ac aa H s'->Q (.str r t) s'):dN X (pyReprObj u) Q X.cR s:=by
 rcases h with ⟨i,rfl,aR,rfl⟩|⟨rfl,rfl⟩|⟨ds,ak,ax,hd,hz,rfl⟩
 ·obtain⟨t,rfl⟩:=a0;exact pyReprObj_int aR (q _ _ (J.tok _))
 ·cases a0;exact pyReprObj_none (q _ _ (J.tok _))
 ·obtain⟨ro,aC⟩:=Fk J (.tup ds) x u a0 ak;obtain⟨p,vs,rfl,_⟩:=eI.mp ak;cases a0;have XF:=Fi (.tup ds);exact pyReprObj_of_reads aC ax (λz=>by rw[Fj] at z;cases z) al.x2 (by have:=al.units;omega) (λb o e=>e) (λh' u cS cZ=>q _ _ (J.kept cZ)) hz
def FG {k c j e aS bM pos bw}(al:dj k X.A) (aw:c.length<=1000) (he:bU X e bw):bU X (.JoinedStr [.Constant (.str c) j aS,.FormattedValue e 114 none bM] pos) (Mz X.K c bw):=by
 intro ac s aa H Q J h;refine JoinedStr_many (joinParts_cons ?_);refine xC ⟨?_,?_⟩
 ·show(Str.empty++c).length<=sizeLine;have e:(Str.empty++c).length=c.length:=by
   show(Str.empty.cps++c.cps).size=c.cps.size;rw[DT];show 0+_=_;omega
  rw[e,jH];omega
 refine joinParts_cons ?_;rw[arm_eval_FormattedValue];refine a4 (bW (he ac _ aa H _ (J.tok _) h) λu az aD=>?_);obtain⟨x,ai,a6,a0,r,X',et,hQ,q⟩:=aD;refine a4 (rP (a4 (md (Tt al a6 a0 X' λaN t ci=>?_))));refine formatField_str (λt' cS=>⟨hQ,?_⟩) et;exact joinParts_nil ⟨.str _,ai,(ci.tok cS).tok (cS+1),⟨_,I⟩,q⟩ hQ
end
end GS
namespace L2
open PySem PySem.Spec PyProof.Rows
def wj {P w K mg base N ce scope f dY A outer s H E}:Bk (fj (bQ P w) P w K mg base N ce scope f dY A outer s H E) E:=λac aa Z s' a cls ao J uZ q=>J.raises uZ q
section
variable {X:a8}{CX:nL}{k:Nat}{f C S:Addr}{as:FuncData}{aG:dH}{sp:e6}{x:Str}{p pos apos:Pos}{e:Expr}{aj:gY}{t:fi}
def Tu {ac aa H s Q us vs}(T:jO X.K C S f) (F:bK X.prog X.w X.K X.mg X.base dJ k f as aG sp) (al:dj (k+1) X.A) (af:Binds X.K as aG []) (J:Inv X ac aa H s) (r:b4 vs us) (hz:us.length<=sizeLine) (h:∀e,H e=none->X.fZ.hz<=e->sp (.ref e::vs) (upd H e (.ext (ExcAt e C none))) (λv aB=>v=.a3/\Q (.ref e) aB) oL):
  dN X (call (.ref C) us) (gC X ac aa Q) X.cR s:=by
 obtain⟨nm,q,N,bs,li,sub,kr,lj,eg,gK,cB,cN,eS,iP,iQ,jA,ag,ae,aW,bm,b7⟩:=T.own J.ep;have Yb:=J.oE;obtain⟨ar,q5,ks,cS,os⟩:=s;refine Te _root_.PySem.F.excBase_ValueError (by rfl) _root_.PySem.F.excBase_ValueError (T.tail J.ep) ag ae aW bm b7 (λh' e he m=>?_) hz;have ci:Inv X ac aa (upd H e (.ext (ExcAt e C none))) ⟨h',q5,ks,cS,os⟩:=by
  refine J.laid (t':=cS) m.keeps (by rw[he];exact mf _) (Fy ?_);obtain⟨t,d3,_⟩:=m.there;exact⟨_,_,d3,I,I,I,I,I⟩
 have aD:=h e (J.bA.fresh (by rw[he];exact mf _)) (dW Yb (by rw[he];exact mf _));have dL:b4 (V.ref e::vs) (Value.ref e::us):=.cons rfl r;have au:(Value.ref e::us++[]).length=aG.length:=by
  have z:=dL.length;rw[F.len _ _ _ _ aD] at z;rw[me];exact z.symm
 refine rQ (vu (F.run _ X.stack _ _ ⟨Value.ref e::us,[]⟩ (Value.ref e::us) _ _ oL (al.make C us []) (ci.Eo.make C us []) (by have:=af ⟨h',q5,ks,cS,os⟩ (Value.ref e::us) ci.ep au;rw[me] at this;exact this) dL aD) λr s' iq=>?_);cases r with
 |error e=>exact iq.elim
 |ok f4=>
  cases f4 with
  |ret u=>
   obtain⟨v,Z,eM,cI,fd,dA⟩:=ci.after iq;subst fd;exact⟨cI,⟨V.ref e,Z,eM,I,dA⟩⟩
  |next=>exact False.elim iq
  |brk=>exact False.elim iq
  |cont=>exact False.elim iq
def MA (n:Nat) (C:Addr) (sp:e6) (t:fi):TE:=λaa H Q=>t aa H λvs ai=>vs.length<=sizeLine/\∀e,ai e=none->n<=e->sp (.ref e::vs) (upd ai e (.ext (ExcAt e C none))) (λv aB=>v=.a3/\Q (.ref e) aB) oL
def Tv (T:jO X.K C S f) (F:bK X.prog X.w X.K X.mg X.base dJ k f as aG sp) (al:dj (k+1) X.A) (a1:eH X x) (aQ:X.mg x=some (.ref C)) (af:Binds X.K as aG []) (aq:iX X (e::aj) t) (eN:autoParam (e4 x) Cl) (he:autoParam (gi X e aj) dl) (hpl:autoParam (iW X pos aj) dl):bU X (.Call (.Name x p) (e::aj) [] pos) (MA X.fZ.hz C sp t):=by
 intro ac s aa H Q J h;refine qD (r1 J a1 aQ ?_ eN);refine xG (h₀:=X.base) J.ok.mod.tx T.cZ (bW (aq pos ac s aa H _ J h) λus az ⟨vs,ai,a6,r,hz,q⟩=>⟨a6.ep,?_⟩) he hpl;exact Tu T F al af a6 r (by show us.length<=_;rw[<-r.length];exact hz) q
end
end L2
namespace GS
open PySem PyProof.Rows L2
structure mw (P:Program) (w:World) (K:aJ) (mg:Str->cn) (base:Heap) (name:Str) (C S:Addr) (aG:dH) (k:Nat) (sp:e6):Prop where
 ex:∃f as,mg name=some (.ref C)/\jO K C S f/\Binds K as aG []/\bK P w K mg base dJ k f as aG sp
end GS
namespace bc
open PySem PyProof.Rows L2
section
variable {X:a8}{e o value:Expr}{aj:gY}{f:Str}{pos pos' p apos aS bM:Pos}{bu h0 bw:TE}{t:fi}{C S fa:Addr}
def Tw {name aG k k' sp}(M:GS.mw X.prog X.w X.K X.mg X.base name C S aG k sp) (al:dj (k'+1) X.A) (aU:k<=k') (a1:eH X name) (aq:gD X (e::aj) t) (eN:autoParam (e4 name) Cl) (he:autoParam (gi X e aj) dl) (hpl:autoParam (iW X pos aj) dl):LE X (.Call (.Name name p) (e::aj) [] pos) (MA X.fZ.hz C sp t):=by
 obtain⟨f,as,ag,ae,aW,bm⟩:=M.ex;exact .mk (L2.Tv ae (bm.mono aU) al a1 ag aW aq.out eN he hpl)
def FD {E name aG k sp}(ak:Bk X E) (aw:X.calm=true) (M:GS.mw X.prog X.w X.K X.mg X.base name C S aG k sp) (he:LE X e bw):hP X (.Raise (some e) none pos) (Mw X.fZ.hz E C bw):=by
 obtain⟨f,as,ag,ae,aW,bm⟩:=M.ex;exact .mk (L2.FD ak aw ae he.out)
def FG {k c j}(al:dj k X.A) (aw:c.length<=1000) (he:LE X e bw):LE X (.JoinedStr [.Constant (.str c) j aS,.FormattedValue e 114 none bM] pos) (GS.Mz X.K c bw):=.mk (GS.FG al aw he.out)
def FA {g}(T:jO X.K C S fa) (aP:PySem.W.findIn X.K (.ref C) g=some none) (aq:LE X o bu) (aK:LE X value h0) (ax:autoParam (swapsWith value (some (.Attribute o g pos')) pos.line X.env=pure false) dl):hP X (.Assign [.Attribute o g pos'] value pos) (Mv C g bu h0):=.mk (L2.FA T aP aq.out aK.out ax)
def Fz {x pl}(T:jO X.K C S fa) (B:yn X.K S) (a1:eH X x) (aQ:X.mg x=some (.ref S)) (aq:gD X (e::aj) t) (eN:autoParam (e4 x) Cl)
  (iK:autoParam (gi X e aj) dl) (hpl:autoParam (iW X pos aj) dl)
  (bO:autoParam (eval (.Call (.Attribute (.Name x p) "__init__" apos) (e::aj) [] pos) X.env=(do
   let eC <-eval (.Name x p) X.env
   standAt apos.atName
   let (f,first) <-holding [eC] (getMethod eC "__init__" pl)
   callWith pos f first (backTo pos (starEach (e::aj) X.env)) (backToKw pos (keywordEach [] X.env)))) dl):
  LE X (.Call (.Attribute (.Name x p) "__init__" apos) (e::aj) [] pos) (Mu C t):=.mk (L2.Fz (pl:=pl) T B a1 aQ aq.out eN iK hpl bO)
end
end bc
namespace L2
open PySem PySem.Spec PyProof.Rows
open PySem.W (InstAt findIn mroIn clsIn specialIn takesIn findObj Looks lookIn)
structure yp (K:aJ) (C:Addr):Prop where
 ga:findIn K (.ref C) "__getattribute__"=some (some (.builtin "BaseException.__getattribute__"))
 q5:findIn K (.ref C) "__getattr__"=some none
 iZ:mroIn K C (.type "BaseException")=some true
 abG:mroIn K C (.type "object")=some true
 ca:findIn K (.ref C) "__class__"=some (some (.builtin "object.__class__"))
 abH:specialIn K (.builtin "object.__class__") "__get__"=some (some (.builtin "getset_descriptor.__get__"))
 cS:takesIn K (.builtin "object.__class__")=some true
 hd:PySem.W.hasDictIn K C=true
section
variable {prog:Program}{w:World}{A:Around}{E:Value->Shared->Prop}{K:aJ}{a C:Addr}{fq:Obj}{dg:Option Obj}{name:Str}
def Tx {s cS fill expr Q}(G:yp K C) (X:K.In s.heap) (J:InstAt s.heap a fq C dg) (h:∀HY,wpAny (model prog w) HY (Builtin.«object.__getattribute__» ⟨[.ref a,.str name cS],[]⟩) (λfin s'=>match fin with|.done (.ret v)=>PySem.W.handedIn v=true/\Q v s'|_=>False) (λ_ _=>False) s):
  wpAny (model prog w) A (getAttrBy (.ref a) (.str name cS) fill expr) Q E s:=by
 obtain⟨mE,g,d,t,os⟩:=s;have b6:=J.type (M:=model prog w);have d6:=An (M:=model prog w) X G.ga;have L2:=An (M:=model prog w) X G.q5;have bc:=AB (M:=model prog w) X G.iZ;have dy:=F.attr_ValueError.ga.bind (.ref a);have aU:builtinKind "BaseException.__getattribute__"=some .slot:=by decide +kernel
 have Yc:splitId "BaseException.__getattribute__"=some ("BaseException","__getattribute__"):=by decide +kernel
 have aq:argsOk "BaseException.__getattribute__" ⟨[.ref a]++[.str name cS],[]⟩:=F.args_bexc_ga (.ref a) (.str name cS);have Yd:(Value.builtin "BaseException.__getattribute__" == Value.builtin "object.__getattribute__")=false:=by decide +kernel
 unfold getAttrBy;refine md (a4 (b6.at (a4 (d6.at ?_))));refine j7 (by rw[Yd];simp) ?_;unfold getAttrByItsOwn hookBefore;refine a4 (rW I ?_);refine L2.at (a4 (wpAny_attempt (md ?_)));unfold callGetattribute;refine j7 (by cases expr<;>simp[onTheHeap]) ?_;unfold boundAndCalled;rw[dy];refine a4 (b3 (rQ (AA F.attr_ValueError.ga.plain F.entry_bexc_ga ?_)));simp only[checkBuiltinCall,aU,Yc];refine a4 ?_;unfold isInstance;refine a4 (b6.at (bc.at ?_));refine j7 dU ?_;unfold argsOk at aq;revert aq;generalize Manifest.signature? "BaseException.__getattribute__"=sg;intro aq;have go:∀{iJ pd s'},iJ () s'->wpAny (model prog w) A.in1 (match sg with|some HZ=>Bind.checkArgs "BaseException.__getattribute__" HZ { pos:=[Value.ref a]++[Value.str name cS] }|x=>pure ()) iJ pd s':=λq=>by
  cases sg with
  |none=>exact b3 q
  |some z=>dsimp only at aq⊢;rw[aq];exact b3 q
 refine go (fL (h A.in1) (λfin s' z=>?_) λ_ _ z=>z.elim);rcases fin with (_|_|_|v)|_<;>first|exact z.elim|skip
 obtain⟨hK,cW⟩:=z;show wpAny _ _ (handedOut v) _ _ _;rw[PySem.W.handedOut_of hK];exact b3 cW
def Tz {s cS v Q}(X:K.In s.heap) (J:InstAt s.heap a fq C dg) (bl:findObj K C dg name=some (.value v)) (h:Q (.done (.ret v)) s):wpAny (model prog w) A (Builtin.«object.__getattribute__» ⟨[.ref a,.str name cS],[]⟩) Q E s:=by
 obtain⟨mE,g,d,t,os⟩:=s;have b6:=J.type (M:=model prog w);have d6:=PySem.W.looks_find (M:=model prog w) X J bl;refine a4 (b3 (a4 (b3 (a4 (b6.at (a4 (d6.at (b3 h))))))))
def TA {s v expr Q}(G:yp K C) (X:K.In s.heap) (J:InstAt s.heap a fq C dg) (bl:findObj K C dg name=some (.value v)) (aK:PySem.W.handedIn v=true) (h:Q v { s with toks:=s.toks+1 }):wpAny (model prog w) A (getAttr (.ref a) name expr) Q E s:=by
 unfold getAttr;refine a4 (wpAny_mkText ?_);exact Tx (s:={ s with toks:=s.toks+1 }) G X J λHY=>Tz (s:={ s with toks:=s.toks+1 }) X J bl ⟨aK,h⟩
end
structure Bm (K:aJ) (C S:Addr):Prop where
 ty:PySem.W.typeIn K (.ref S)=some (.type "type")
 cl:PySem.W.isClsIn K S=true
 iZ:mroIn K S (.type "BaseException")=some true
 up:mroIn K C (.ref S)=some true
def TB {M A E K C S a cf s Q}(U:Bm K C S) (X:K.In s.heap) (he:s.heap.get? a=some cf) (aw:cf.cls=.ref C) (aD:Q true s):wpAny M A (excMatches (.ref a) (.ref S)) Q E s:=by
 obtain⟨h,g,d,t,os⟩:=s;have f:=tc_notTuple;have d6:Looks M h (typeOf (.ref S)) (.type "type"):=PySem.W.looks_typeIn X U.ty;have L2:Looks M h (isSubtype (.ref S) (.type "BaseException")) true:=AB X U.iZ;have bc:Looks M h (isSubtype (.ref C) (.ref S)) true:=AB X U.up;have H0:Looks M h (typeOf (.ref a)) (.ref C):=aw▸(Looks.ld he).andThen .now;have H1:Looks M h (isType (.ref S)) true:=by
  obtain⟨abY,uG⟩:=Option.isSome_iff_exists.mp U.cl;unfold clsIn at uG;split at uG
  ·rename_i dF d' abZ y8 a';intro HY iJ pd s' k q;unfold isType loadHead;exact a4 (Am (k _ _ (X _ _ a')) (b3 q))
  ·cases uG
 have am:∀{Q:Bool->Shared->Prop} {s},(∀b o,h.get? b=some o->s.heap.get? b=some o)->Q true s->wpAny M A (isExcClass (.ref S)) Q E s:=λk q=>by
  unfold isExcClass;exact a4 (H1 _ _ _ _ k (rW I (L2 _ _ _ _ k q)))
 unfold excMatches isInstance;refine a4 (a4 (d6.at ?_));rw[f];refine b3 (j7 dU ?_);refine a4 (b3 ?_);simp only[List.forIn_cons,List.forIn_nil];refine a4 (a4 (a4 (am (λ_ _ z=>z) (j7 dU (b3 (b3 ?_))))));refine a4 (H0.at (a4 (a4 (a4 (bc.at (rW I (b3 ?_)))))));exact b3 (b3 aD)
section
variable {X:a8}
def Inv.TC {ac aa H s h' c8 cS}(J:Inv X ac aa H s) (aP:h'.Ns X.env.locals c8) (ax:Heap.SameBut X.env.locals s.heap h'):Inv X ac (List.replicate X.N.length none) H { s with heap:=h',toks:=cS }:=by
 have pH:=J.pH;obtain⟨m,aQ,_⟩:=id J.loc;obtain⟨m0,_,_,N8,_⟩:=id aQ;have lo:∀b o,X.fZ.heap.get? b=some o->b≠X.env.locals:=λb o e=>fw (eG (di e) J.ok.above);refine⟨J.ok,J.os,J.bare,⟨λb o e n af ak=>(ax.2 b (lo b o e)).trans (J.base.keep b o e n af ak),λb o e n af ak=>?_,J.base.free,λb o e ak=>?_,J.base.ml,J.base.lx,J.base.mm⟩,⟨_,aP,λj y gl am aE bq=>?_⟩,λy c e=>?_,J.free,J.j8,λp ar=>?_,λb c7 e=>?_,bZ⟩
 ·obtain⟨sl,am⟩:=J.base.slot b o e n af ak;exact⟨sl,(ax.2 b (lo b o e)).trans am⟩
 ·obtain⟨c0,am⟩:=J.base.there b o e ak;exact⟨c0,(ax.2 b (lo b o e)).trans am⟩
 ·rw[Aq] at aE;split at aE<;>simp at aE
 ·obtain⟨jT,z⟩:=J.cell y c e;exact⟨jT,z.sameBut ax (pH y c e)⟩
 ·obtain⟨e,n,ne,o0,d⟩:=J.pin p ar;exact⟨(ax.2 p.1 ne).trans e,n,ne,o0,d⟩
 ·refine(J.bA b c7 e).nG (λc jT aw q=>(ax.2 c ?_).trans q) (λ_ q=>q) λ_ _ q=>q;rintro rfl;rcases aw with rfl|aw
  ·rw[J.free] at e;cases e
  ·rw[J.free] at aw;cases aw
structure Bn (X:a8) (a d C:Addr):Prop where
 ex:∃o vs,(a,o)∈X.ia/\o.cls=.ref C/\o.dict=some d/\o.data=.fields vs
def TF (n i:Nat) (C:Addr) (t:cJ->gw) (u:Addr->Addr->gw):gw:=λD aa H=>t (λcls ao Z=>cls=.ref C/\∃d,ao=some d/\∀a,u a d { c4:=λ_ _=>False,lz:=D.lz } ((List.replicate n none).set i (some (.ref a))) Z) D aa H
def TG {C S i x y np ar pos body H2 H3 t u}(T:Bm X.K C S) (iK:X.stack=X.env::X.outer) (iv:X.env.frame=some X.env.locals) (a1:eH X x) (aQ:X.mg x=some (.ref S)) (eN:e4 x) (dx:X.N.Nodup) (aR:X.N[i]?=some y) (au:X.env.scope.names.lookup y=some .local) (af:∀E cR ia,ff (bQ X.prog X.w) (X.t9 cR ia) E->ka (X.t9 cR ia) body (t E)) (ax:∀a d ia,Bn (X.held (.ref a) ia) a d C->ka (X.held (.ref a) ia) (H2::H3) (u a d)):j' X (.Try body [.ExceptHandler (some (.Name x np)) (some y) (H2::H3) ar] [] [] pos) (TF X.N.length i C t u):=by
 intro ac s aa H D J h;refine wpAny_Try_except ?_;obtain⟨cR,OI⟩:∃cR:Value->Shared->Prop,cR=λe dn=>dN X (noteFrame e X.env) (λ_ la=>dN X (setFlight e none) (λ_ qe=>dN X (handleBy e X.env [.ExceptHandler (some (.Name x np)) (some y) (H2::H3) ar]) (pI X ac D) X.cR qe) X.cR la) X.cR dn:=⟨_,I⟩;rw[<-OI];refine bW (af (λcls ao Z=>cls=.ref C/\∃d,ao=some d/\∀a,u a d { c4:=λ_ _=>False,lz:=D.lz } ((List.replicate X.N.length none).set i (some (.ref a))) Z) cR ac ?_ [] s aa H D (J.t9 cR) h) λf4 az q=>?_
 ·intro pl p8 ai az e aN a6 ⟨a,aB,cls,ao,w6,os,bare,un,bA,uZ,h4,d,eP,bY⟩;subst w6;rw[OI];have OJ:Inv X ac p8 ai az:=a6.p1;have ci:Inv X ac p8 aB aN:=OJ.vJ (ch:=[]) os un bA bare (λb z=>absurd z bZ);refine ci.note iK iv OJ.below uZ λh' eM bH=>?_;subst h4 eP;obtain⟨OK,CV,cf,vs,OL,iu,aH,g1,g2,g3,je,j0,mL,w7,Ye,Yg,Yh,Yi⟩:=bH;refine wpAny_handleBy_cons (codeAny_handlers_test ?_) (by intro z;cases z);have lw:=eM.hold (.ref a);refine r1 (X:=X.held (.ref a) ac) lw a1 aQ ?_ eN;refine TB T eM.ep g1 g2 ?_;rw[b8 rfl];refine codeAny_handlers_suite_as ?_;refine wpAny_setFlight_none g1 je j0 Yg Yh (tq.mp Yi).1 ?_;have n5:Inv X ac p8 aB { aN with heap:=h'.update OL (Obj.mapFields λx=>x.setIfInBounds 3 Value.none) }:=
   eM.turned (t':=aN.toks) (λb o af q=>by rw[xP _ _ _ _ af];exact q) Ye w7.2.1 w7.1 w7.2.2.1 w7.2.2.2
  have ga:(h'.update OL (Obj.mapFields λx=>x.setIfInBounds 3 Value.none)).get? a=some cf:=by rw[xP _ _ _ _ (d0 mL)];exact g1
  have Yj:a∉X.bi:=λaf=>by
   rcases OK.1 with z|z
   ·exact J.ok.r0 a z af
   ·obtain⟨_,o,a',_⟩:=J.ok.kU.mem af;exact absurd (eG (di a') z) (j5 _)
  have sw:=(n5.weak (σ':=List.replicate X.N.length none) (by rw[oB];exact n5.len.symm) (λi v z=>by
   rw[Aq] at z;split at z<;>simp at z))
  have kI:Inv X (ac++[(a,cf)]) (List.replicate X.N.length none) aB _:=sw.AM λp ar=>by
   rcases th.mp ar with z|z
   ·exact sw.pin p (kQ _ z)
   ·obtain rfl:p=(a,cf):=by simpa using z
    exact⟨ga,CV,OK.2.1,Yj,λv z=>by rw[je] at z;cases z⟩
  refine D6 (X:=X) (i:=i) (v:=.ref a) kI dx aR (.inl au) rfl (λa2 zx=>?_) (.inr au);have ak:Bn (X.held (.ref a) (ac++[(a,cf)])) a d C:=⟨cf,vs,bZ,g2,g3,je⟩;refine fL (ax a d (ac++[(a,cf)]) ak [] _ _ aB _ (zx.hold (.ref a)) (bY a)) (λf4 dp q=>?_) (λ_ _ z=>z.elim);cases f4 with
  |next=>obtain⟨_,_,_,z⟩:=q;exact z.elim
  |brk=>obtain⟨_,_,_,z⟩:=q;exact z.elim
  |cont=>obtain⟨_,_,_,z⟩:=q;exact z.elim
  |ret jT=>
   obtain⟨v,σ',Z,cc,r,q⟩:=q;have OM:Inv X (ac++[(a,cf)]) σ' Z dp:=cc.Tr J.ok;have ON:Inv X ac σ' Z dp:=OM.AM λp ar=>OM.pin p (kQ _ (vr _ ar));obtain⟨m,aQ,_⟩:=id ON.loc;exact wpAny_nameGoes au aQ (by rw[J.ok.kind];rfl) λh' c8 aP ax=>⟨v,_,Z,ON.TC aP ax,r,q⟩
 ·cases f4 with
  |next=>exact xD q.p1
  |brk=>exact q.p1
  |cont=>exact q.p1
  |ret u=>exact q.p1
end
end L2
namespace GS
open PySem PyProof.Rows
open L2 hiding aO kW nH aV ah iY oG a5 mZ mq oH qL vK mY gj vT m3 qQ dc cg eL cP e7 ke hb vW ey hD nI kz jK kb ib qN pK kX pL pO r4 qV oI vX bE vL gQ jL pM ck nK mo cA aX a9
open bc
def ua {n}(h:n<=16000000):n<=sizeLine:=by rw[jH];omega
def sr:bootBuiltins "len"=some (.builtin "len"):=by decide +kernel
def su:bootBuiltins "tuple"=some (.type "tuple"):=by decide +kernel
def TH {X e t t'}(h:LE X e t) (aR:∀aa H Q,t' aa H Q->t aa H Q):LE X e t':=.mk λac s aa H Q J q=>h.out ac s aa H Q J (aR aa H Q q)
def wk (x y):decide (V.str x=V.str y)=decide (x=y):=DU.mpr ⟨V.str.inj,λe=>by rw[e]⟩
def fR {b}{A B:Prop}(ag:b=true->A) (ae:b=false->B):if b=true then A else B:=by
 cases b with
 |true=>exact fz (ag I)
 |false=>exact dr (ae I)
def nU {p A B:Prop} [Decidable p] (y:p->A) (n:¬p->B):if decide p=true then A else B:=fR (λe=>y (gP e)) λe=>n (nB e)
def eqB {x y}{A B:Prop}(ag:x=y->A) (ae:¬x=y->B):if decide (V.str x=V.str y)=true then A else B:=nU (λe=>ag (V.str.inj e)) λe=>ae λz=>e (by rw[z])
inductive ub (K:aJ) (x:V) (y:V) (H:ap) (Q:bz):Prop
 |mk i ds d:y=.int (i:Nat)->At K H (.tup ds) x->ds[i]?=some d->(∀v,At K H d v->Q v H)->ub K x y H Q
def Bo {X}:vU X (ub X.K):=by
 intro value slice ac s aa H x y v u Q J a0 bj h ax;obtain⟨i,ds,d,rfl,ak,hd,q⟩:=h;obtain⟨p,vs,w,rfl,ae,aW,bm⟩:=At.Sl (i:=i) ak hd;exact vV value slice ac s aa H _ _ v u Q J a0 bj ⟨p,vs,_,w,I,I,ae,aW,q w bm⟩ ax
def ef {X e bw n j p pos}(he:LE X e bw):LE X (.Subscript e (.Constant (.int n) j p) pos) (lG (ub X.K) bw (jm (.int n))):=gj Bo he aO (λ_ _=>I)
def hG (K:aJ) (H:ap) (p:Addr) (ds:d8):Prop:=∃vs,H p=some (.lst vs)/\bB K H ds vs
def hG.same {K H Z p ds}(h:hG K H p ds) (s:ba H Z):hG K Z p ds:=let ⟨vs,ag,ae⟩:=h;⟨vs,s _ _ ag,oU s ae⟩
def Bp {X scope Xs}(a:autoParam (closureFor scope X.env=pure []) dl) (b:autoParam (∀y∈scope.names,y.2≠.cell) Ic) (k:autoParam (scope.kind=.function) dl) (n:autoParam (∀y∈scope.names,y.2=.local->scope.names.lookup y.1=some .local) Ic) (r:autoParam (((relabel scope X.env).names.all λp=>p.2 != .cell&&p.2 != .free)=true) dl):wi X scope [] Xs [] []:=by
 refine⟨a,b,k,n,λy c h=>(by cases h),λy aT=>?_,I,λj y h=>(by simp at h)⟩;have key:∀z,(relabel scope X.env).names.lookup y=some z->z≠.cell/\z≠.free:=λz hz=>by
  have:=eW.mp r _ (pA hz)
  simpa using this
 rcases aT with z|z
 ·exact absurd rfl (key _ z).1
 ·exact absurd rfl (key _ z).2
def Bq {X scope Xs Nf cl}{js:bh}(a:autoParam (closureFor scope X.env=pure cl) dl) (b:autoParam (∀y∈scope.names,y.2≠.cell) Ic) (k:autoParam (scope.kind=.function) dl) (n:autoParam (∀y∈scope.names,y.2=.local->scope.names.lookup y.1=some .local) Ic) (e:autoParam (cl.map (λp=>X.env.cells.lookup p.1)=cl.map (λp=>some p.2)) dl) (r:autoParam (((relabel scope X.env).names.all λp=>(p.2 != .cell&&p.2 != .free)||(Nf.contains p.1))=true) dl) (aw:autoParam (cl.map (·.1)=Nf) dl) (au:autoParam (js.length=Nf.length) dl) (dx:autoParam (js.map (λi=>X.N[i]?)=Nf.map some) dl) (aU:autoParam (Nf.map (λy=>X.env.scope.names.lookup y)=Nf.map (λ_=>some .cell)) dl) (Yk:autoParam (Nf.map (λy=>(relabel scope X.env).names.lookup y)=Nf.map (λ_=>some .cell)) dl):wi X scope cl Xs Nf js:=by
 have mp:∀{cC kw:Type}{f g:cC->kw}{l:List cC}{x:cC},l.map f=l.map g->x∈l->f x=g x:=λ{cC kw f g l x} h ak=>by
  induction l with
  |nil=>cases ak
  |cons y l ih=>
   simp only[List.map_cons,List.cons.injEq] at h;rcases gZ.mp ak with rfl|ak
   ·exact h.1
   ·exact ih h.2 ak
 refine⟨a,b,k,n,λy c h=>mp (x:=(y,c)) e (pA h),λy aT=>?_,au,λj y h=>?_⟩
 ·have key:∀z,(relabel scope X.env).names.lookup y=some z->(z=.cell\/z=.free)->y∈Nf:=λz hz uR=>by
   have:=eW.mp r _ (pA hz);rcases uR with rfl|rfl<;>simpa using this
  have oe:y∈Nf:=by
   rcases aT with z|z
   ·exact key _ z (.inl I)
   ·exact key _ z (.inr I)
  rw[<-aw] at oe;cases aD:cl.lookup y with
  |some c=>exact⟨c,I⟩
  |none=>
   obtain⟨p,ar,ed⟩:=mU.mp oe;have:∀{l:List (Str×Addr)},p∈l->l.lookup p.1≠none:=λ{l} au=>by
    induction l with
    |nil=>cases au
    |cons q l ih=>
     intro z;rw[h9] at z;split at z
     ·cases z
     ·rename_i e0;rcases gZ.mp au with rfl|au
      ·rw[vy] at e0;cases e0
      ·exact ih au z
   rw[<-ed] at aD;exact absurd aD (this ar)
 ·have aT:=qE h;have c':j < js.length:=by rw[au];exact(kP.mp h).1
  refine⟨js[j],iB c',?_,mp (x:=y) aU aT,.inl (mp (x:=y) Yk aT)⟩;have am:(js.map λi=>X.N[i]?)[j]?=(Nf.map some)[j]?:=by rw[dx]
  rw[rS,rS,h,iB c'] at am;exact hB am
def h2 (H Z:ap):Prop:=∀p vs,mX H p (.tup vs)->mX Z p (.tup vs)
def h2.of {H Z}(h:ba H Z):h2 H Z:=λp vs e=>e.imp (h p _) λ⟨o,e⟩=>⟨o,h p _ e⟩
def h2.trans {A B C}(h:h2 A B) (h':h2 B C):h2 A C:=λp vs e=>h' p vs (h p vs e)
def dI.hH {K H Z p vs}(s:h2 H Z) (h:dI K H p vs):dI K Z p vs:=by
 rcases h with h|h
 ·exact .inl (s p vs h)
 ·exact .inr h
mutual
theorem At.hH {K H Z}(e:h2 H Z):∀d v,At K H d v->At K Z d v
 |.a3,_,h=>by rw[At] at h⊢;exact h
 |.aM _,_,h=>by rw[At] at h⊢;exact h
 |.int _,_,h=>by rw[At] at h⊢;exact h
 |.str _,_,h=>by rw[At] at h⊢;exact h
 |.tup ds,v,h=>by
  obtain⟨p,vs,ag,ae,aW⟩:=eI.mp h;exact eI.mpr ⟨p,vs,ag,dI.hH e ae,bB.hH e ds vs aW⟩
theorem bB.hH {K H Z}(e:h2 H Z):∀ds vs,bB K H ds vs->bB K Z ds vs
 |[],vs,h=>by rw[f5] at h⊢;exact h
 |d::ds,vs,h=>by
  obtain⟨v,r,ag,ae,aW⟩:=fQ.mp h;exact fQ.mpr ⟨v,r,ag,At.hH e d v ae,bB.hH e ds r aW⟩
end
def fE {K H Z d v}(e:h2 H Z) (h:At K H d v):At K Z d v:=At.hH e d v h
def jQ {K H Z d v}(e:h2 H Z) (h:bB K H d v):bB K Z d v:=bB.hH e d v h
def nV {H l xs ys}(h:H l=some (.lst xs)):h2 H (upd H l (.lst ys)):=λp vs e=>by
 by_cases ar:p=l
 ·rw[ar] at e;rcases e with e|⟨o,e⟩<;>(rw[h] at e;cases e)
 ·rcases e with e|⟨o,e⟩
  ·exact .inl (by rw[cj ar];exact e)
  ·exact .inr ⟨o,by rw[cj ar];exact e⟩
def bD (b:Addr) (H Z:ap):Prop:=∀p o,p≠b->H p=some o->Z p=some o
def bD.refl (b H):bD b H H:=λ_ _ _ e=>e
def bD.trans {b A B C}(h:bD b A B) (h':bD b B C):bD b A C:=λp o ar e=>h' p o ar (h p o ar e)
def bD.of {b H Z}(h:ba H Z):bD b H Z:=λp o _ e=>h p o e
def bD.i4 (b H o):bD b H (upd H b o):=λp _ ar e=>by rw[cj ar];exact e
@[elab_as_elim] theorem q7 (x H) {o}{m:ap->Prop}(k:∀Z,bD x H Z->Z x=some o->m Z):m (upd H x o):=k _ (bD.i4 x H o) b'
def bD.hH {b H Z xs}(h:bD b H Z) (af:H b=some (.lst xs)):h2 H Z:=λp vs e=>by
 have ne:∀o,H p=some o->(∀ys,o≠.lst ys)->p≠b:=λo e ae z=>by rw[z,af] at e;cases e;exact ae _ rfl
 rcases e with e|⟨o,e⟩
 ·exact .inl (h p _ (ne _ e (λ_ z=>by cases z)) e)
 ·exact .inr ⟨o,h p _ (ne _ e (λ_ z=>by cases z)) e⟩
def bD.FH {K a b H Z xs}(h:bD b H Z) (ne:a≠b) (ax:bg K H a xs):bg K Z a xs:=by
 rcases ax with (e|⟨c0,e⟩)|e
 ·exact .inl (.inl (h _ _ ne e))
 ·exact .inl (.inr ⟨c0,h _ _ ne e⟩)
 ·exact .inr e
def bD.wl {l H Z aB}(cd:H l=Option.none) (s:ba H Z) (h:bD l Z aB):ba H aB:=λp o e=>h p o (d9 e cd) (s p o e)
def kC (i:Nat):Stmt->Stmt
 |.ClassDef _ _ _ body _ _ _ _ _ _ _=>body.getD i (.Pass ⟨0,0,0,0⟩)
 |_=>.Pass ⟨0,0,0,0⟩
def uc {f g v x r}(h:g≠f):hq f v ((g,x)::r)=(g,x)::hq f v r:=bP h
def bD.q8 {b C ao bi H Z}(h:bD b H Z) (af:H b=some (.ins C ao bi)):h2 H Z:=λp vs e=>by
 have ne:∀o,H p=some o->(∀c d f,o≠.ins c d f)->p≠b:=λo e ae z=>by rw[z,af] at e;cases e;exact ae _ _ _ rfl
 rcases e with e|⟨o,e⟩
 ·exact .inl (h p _ (ne _ e (λ_ _ _ z=>by cases z)) e)
 ·exact .inr ⟨o,h p _ (ne _ e (λ_ _ _ z=>by cases z)) e⟩
structure dv (P:Program) (w:World) (K:aJ) (mg:Str->cn) (base:Heap) (name:Str) (aG:dH) (k:Nat) (sp:e6):Prop where
 ex:∃f as,mg name=some (.ref f)/\PySem.W.keepIn K (.ref f)=true/\Binds K as aG []/\bK P w K mg base (bQ P w) k f as aG sp
structure hh (P:Program) (w:World) (K:aJ) (mg:Str->cn) (base:Heap) (name:Str) (C:Addr) (aG:dH) (k:Nat) (sp:e6):Prop where
 ex:∃f as,jo K C/\pQ K C name f/\Binds K as aG []/\bK P w K mg base (bQ P w) k f as aG sp
structure jv (P:Program) (w:World) (K:aJ) (mg:Str->cn) (base:Heap) (f:Addr) (x:Str) (k:Nat) (sp:e6):Prop where
 ex:∃as,PySem.W.keepIn K (.ref f)=true/\Binds K as [x] []/\bK P w K mg base (bQ P w) k f as [x] sp
def bK.toF {P w K mg base k f as aG sp}(F:bK P w K mg base dJ k f as aG sp):bK P w K mg base (bQ P w) k f as aG sp:=
 ⟨F.len,λA outer s H args us vs Q E al he af aK ax=>vu (F.run A outer s H args us vs Q E al he af aK ax) λr s' h=>by
  cases r with
  |ok f4=>cases f4<;>exact h
  |error e=>exact h.elim⟩
def jv.mono {P w K mg base f x k k' sp}(F:jv P w K mg base f x k sp) (h:k<=k'):jv P w K mg base f x k' sp:=
 let ⟨as,a,b,c⟩:=F.ex;⟨as,a,b,c.mono h⟩
inductive MB (P:Program) (w:World) (K:aJ) (mg:Str->cn) (base:Heap) (k:Nat) (E:cJ) (i:Nat) (t:fi) (aa:L2.St) (H:ap) (Q:bz):Prop
 |mk f x sp:aa[i]?=some (some (.ref f))->jv P w K mg base f x k sp->t aa H (λvs ai=>sp vs ai Q E)->MB P w K mg base k E i t aa H Q
section
variable {X:a8}{e o:Expr}{aj:gY}{t:fi}{bu:TE}{p pos apos:Pos}{E:cJ}
def f7 {name:Str}{aG:dH}{k k':Nat}{sp:e6}(bN:ff (bQ X.prog X.w) X E) (F:dv X.prog X.w X.K X.mg X.base name aG k sp) (aq:gD X (e::aj) t) (al:autoParam (dj k' X.A) Yt) (aU:autoParam (k<=k') Ty) (a1:autoParam (eH X name) dl) (eN:autoParam (e4 name) Cl) (he:autoParam (gi X e aj) dl) (hpl:autoParam (iW X pos aj) dl):LE X (.Call (.Name name p) (e::aj) [] pos) (r7 sp [] E t):=by
 obtain⟨f,as,ag,ae,aW,bm⟩:=F.ex;exact .mk (L2.Er (bm.mono aU) al a1 ag ae aW .nil bN aq.out eN he hpl)
def iH {name C aG k k' sp pl}(bN:ff (bQ X.prog X.w) X E) (M:hh X.prog X.w X.K X.mg X.base name C aG k sp) (a':LE X o bu) (aq:gD X (e::aj) t) (al:autoParam (dj k' X.A) Yt) (aU:autoParam (k<=k') Ty)
  (iK:autoParam (gi X e aj) dl) (hpl:autoParam (iW X pos aj) dl)
  (bO:autoParam (eval (.Call (.Attribute o name apos) (e::aj) [] pos) X.env=(do
   let eC <-eval o X.env
   standAt apos.atName
   let (f,first) <-holding [eC] (getMethod eC name pl)
   callWith pos f first (backTo pos (starEach (e::aj) X.env)) (backToKw pos (keywordEach [] X.env)))) dl):
  LE X (.Call (.Attribute o name apos) (e::aj) [] pos) (x4 C name sp [] E bu t):=by
 obtain⟨f,as,c,ae,aW,bm⟩:=M.ex;exact .mk (L2.QW (pl:=pl) a'.out c ae (bm.mono aU) al aW .nil bN aq.out iK hpl bO)
def q' {name C aG k k' sp pl}(bN:ff (bQ X.prog X.w) X E) (M:hh X.prog X.w X.K X.mg X.base name C aG k sp) (a':LE X o bu) (al:autoParam (dj k' X.A) Yt) (aU:autoParam (k<=k') Ty)
  (bO:autoParam (eval (.Call (.Attribute o name apos) [] [] pos) X.env=(do
   let eC <-eval o X.env
   standAt apos.atName
   let (f,first) <-holding [eC] (getMethod eC name pl)
   callWith pos f first (backTo pos (starEach [] X.env)) (backToKw pos (keywordEach [] X.env)))) dl):
  LE X (.Call (.Attribute o name apos) [] [] pos) (x4 C name sp [] E bu lH):=by
 obtain⟨f,as,c,ae,aW,bm⟩:=M.ex;exact .mk (L2.Kj (pl:=pl) a'.out c ae (bm.mono aU) al aW .nil bN bO)
def wm {x:Str}{k:Nat}(i:Nat) (bN:ff (bQ X.prog X.w) X E) (aq:gD X (e::aj) t) (al:autoParam (dj k X.A) Yt) (dx:autoParam (X.N[i]?=some x) dl) (aK:autoParam (tz X.env.scope x) zza) (hd:autoParam (e4 x) Cl) (gT:autoParam ((x == ("__classdict__":Str))=false) Cl) (he:autoParam (gi X e aj) dl) (hpl:autoParam (iW X pos aj) dl):LE X (.Call (.Name x p) (e::aj) [] pos) (MB X.prog X.w X.K X.mg X.base k E i t):=by
 refine .mk ?_;intro ac s aa H Q J h;obtain⟨f,y,sp,aR,⟨as,aU,af,F⟩,q⟩:=h;refine qD (bW (L2.JM dx aK hd gT ac s aa H (λv Z=>v=.ref f/\Z=H) J ⟨_,aR,I,I⟩) λu az ⟨v,ai,a6,cI,fd,u1⟩=>?_);subst fd u1;obtain rfl:u=Value.ref f:=cI;refine xG (h₀:=X.base) a6.ok.mod.tx aU (bW (aq.out pos ac az aa ai _ a6 q) λus aN ⟨vs,aB,ci,r,bn⟩=>⟨ci.ep,?_⟩) he hpl;exact L2.x5 (ds:=[]) (dvs:=[]) F al af .nil bN ci r (by rw[me];exact bn)
end
abbrev wo:Stmt:=kC 0 (top 2)
abbrev Br:Stmt:=kC 0 (top 21)
abbrev wq:Stmt:=kC 1 (top 21)
abbrev Bs:Stmt:=kC 2 (top 21)
abbrev Bt:Stmt:=kC 3 (top 21)
abbrev Bu:Stmt:=kC 4 (top 21)
abbrev Bv:Stmt:=kC 5 (top 21)
def TJ:bootBuiltins "list"=some (.type "list"):=by decide +kernel
section
variable {K:aJ}{P:Program}{w:World}{mg:Str->cn}{base:Heap}{f:Addr}{as:FuncData}
inductive mx (K:aJ) (C:Addr) (vs:br) (H:ap) (Q:bz) (dA:cJ):Prop
 |mk a y r:vs=[.ref a,y]->H a=some (.ext (ExcAt a C none))->Bl K H y r->r.length<=1000000->(∀ao,H ao=none->Q .a3 (upd (upd H ao (.nF [("at",y)])) a (.ext (ExcAt a C (some ao)))))->mx K C vs H Q dA
def TK:cE ls ls (bF wo):=dm
def TL {C S fa}(T:jO K C S fa) (B:yn K S) (aQ:mg "SnakeError"=some (.ref S)) (aP:PySem.W.findIn K (.ref C) "at"=some none) (F:b5 K "__init__" "BadText.__init__" wo f as):bK P w K mg base dJ 1 f as ls (mx K C):=by
 refine F.kj TK ?_;rintro bk A outer s H vs Q E al ⟨a,y,r,rfl,aq,ax,au,q⟩ ll;refine⟨_,aX (gQ (bc.Fz T B I aQ (c6 (ah 0) (bc.FG al fP (ah 1))))) (a9 (bc.FA T aP (ah 0) (ah 1))),?main⟩
 case main=>
  refine⟨_,I,_,I,r,ax,small au,?_,a,_,I,aq,?_⟩
  ·have e:∀c,(Str.empty++c++r).length=c.length+r.length:=λc=>by
    show((Str.empty.cps++c.cps)++r.cps).size=c.cps.size+r.cps.size;rw[DT,DT];show 0+_+_=_;omega
   rw[e,jH];have:∀n,n<=1000->n+r.length<=16777216:=λn aP=>by omega
   exact this _ fP
  ·exact⟨_,I,_,I,a,I,aq,λao l9=>q ao l9⟩
def FI (y:V):Prop:=y=.a3\/∃n:Nat,y=.int (n:Nat)/\n<=100000
def FI.show {H y}(h:FI y):∃r,Bl K H y r/\r.length<=1000000:=by
 rcases h with rfl|⟨n,rfl,aP⟩
 ·exact⟨_,.inr (.inl ⟨I,I⟩),by decide +kernel⟩
 ·have OO:((n:Nat):Int).natAbs.log2 < 1920:=by
   have ag:((n:Nat):Int).natAbs=n:=rfl;rw[ag];by_cases cd:n=0
   ·rw[cd];decide
   ·have aW:=Nat.log2_self_le cd;by_cases bm:n.log2 < 1920
    ·exact bm
    ·exfalso
     have b7:(2:Nat) ^ 20<=2 ^ n.log2:=Nat.pow_le_pow_right dU co;have dZ:(2:Nat) ^ 20=1048576:=by decide
     omega
  have au:=int_text_len_1921 OO;exact⟨_,.inl ⟨_,I,OO,I⟩,by omega⟩
inductive Bw (aF:Addr) (E:cJ) (y:V) (H:ap):Prop
 |mk:FI y->(∀d Z,ba H Z->Z d=some (.nF [("at",y)])->E (.ref aF) (some d) Z)->Bw aF E y H
def TM (aF:Addr) (E:cJ) (bw:TE):gw:=λ_ aa H=>bw aa H λy ai=>Bw aF E y ai
end
section
variable {X:a8}{e:Expr}{bw:TE}{pos p kt:Pos}{aF SB:Addr}{E:cJ}
def TN (h:LE X e bw):LE X e (λaa H Q=>∃CW,bw aa H CW/\∀y Z,CW y Z->Q y Z):=.mk λac s aa H Q J ⟨CW,a,b⟩=>bW (h.out ac s aa H CW J a) λu az ⟨v,ai,a6,r,q⟩=>⟨v,ai,a6,r,b _ _ q⟩
def wt {k}(ak:Bk X E) (gL:mw X.prog X.w X.K X.mg X.base "BadText" aF SB ls 1 (mx X.K aF)) (he:LE X e bw) (al:autoParam (dj k X.A) Yt) (aU:autoParam (2<=k) Ty) (aw:autoParam (X.calm=true) dl) (a1:autoParam (eH X "BadText") dl) (az:autoParam (gi X e []) dl) (hpl:autoParam (iW X kt []) dl):hP X (.Raise (some (.Call (.Name "BadText" p) [e] [] kt)) none pos) (TM aF E bw):=by
 have h:=bc.FD (pos:=pos) ak aw gL (bc.Tw (pos:=kt) (p:=p) (k':=1) gL (al.mono aU) (bf _) a1 (bx (TN he) az) (he:=az) (hpl:=hpl));refine .mk λac s aa H D J q=>h.out ac s aa H D J ⟨_,q,λy ai af=>?_⟩;obtain⟨aq,af⟩:=af;obtain⟨r,ax,au⟩:=aq.show (K:=X.K) (H:=ai);refine⟨ki,λcX Yl e0=>⟨cX,y,r,I,b',?_,au,λao l9=>⟨I,cX,some ao,I,e0,b',?_⟩⟩⟩
 ·rcases aq with rfl|⟨n,rfl,aP⟩
  ·rcases ax with ⟨i,z,_⟩|h|⟨ds,h,_⟩
   ·cases z
   ·exact .inr (.inl h)
   ·obtain⟨p,vs,z,_⟩:=eI.mp h;cases z
  ·rcases ax with h|⟨z,_⟩|⟨ds,h,_⟩
   ·exact .inl h
   ·cases z
   ·obtain⟨p,vs,z,_⟩:=eI.mp h;cases z
 ·have H4:ao≠cX:=λz=>by rw[z,b'] at l9;cases l9
  have ql:ai ao=none:=by rw[cj H4] at l9;exact l9
  refine af ao _ (λp o cp=>?_) ?_
  ·have bS:p≠cX:=d9 cp Yl;have cH:p≠ao:=d9 cp ql;rw[yo bS,cj bS,cj cH,cj bS];exact cp
  ·rw[yo H4,cj H4,b']
end
def kk (K:aJ) (mg:Str->cn) (x:Str) (d:D):Prop:=∃p,mg x=some (.ref p)/\∀H,At K H d (.ref p)
def TO (K:aJ) (d:D):TE:=λ_ H Q=>∀v,(∀Z,At K Z d v)->Q v H
def ii {X:a8} {x d pos}(h:kk X.K X.mg x d) (a1:autoParam (eH X x) dl) (hd:autoParam (e4 x) Cl):LE X (.Name x pos) (TO X.K d):=by
 obtain⟨p,aQ,aq⟩:=h;exact TH (bc.iY (v:=.ref p) a1 aQ I hd) λaa H Q q=>q _ aq
def wu:D:=.tup [.str "end",.str ""]
def gS:Option bJ->D
 |none=>wu
 |some w=>dK w
structure f9 (K:aJ) (mg:Str->cn):Prop where
 g2:E9 K mg
 FJ:kk K mg "END" wu
 FK:kk K mg "OPENING" (dK dt)
 FL:kk K mg "CLOSING" (dK dR)
 TP:kk K mg "COMMA" (dK nQ)
 MC:kk K mg "DOT" (dK gE)
 TQ:kk K mg "NOT" (dK hO)
 TR:kk K mg "MINUS" (dK k4)
 TS:kk K mg "OR_SIGNS" (.tup (q0.map dK))
 TU:kk K mg "AND_SIGNS" (.tup (sd.map dK))
 TV:kk K mg "COMPARE_SIGNS" (.tup (m5.map dK))
 TX:kk K mg "SUM_SIGNS" (.tup (se.map dK))
 TY:kk K mg "PRODUCT_SIGNS" (.tup (sf.map dK))
 TZ:∃t,mg "MOST_DEEP"=some (.int 12 t)
 T1:∃t,mg "MOST_PARTS"=some (.int 60 t)
 T2:∃t,mg "MOST_BRACKETS"=some (.int 12 t)
 T3:∃t,mg "MOST_VALUES"=some (.int 4 t)
 MD:mg "max"=none
 ME:mg "sum"=none
 sv:mg "tuple"=none
def p2:bJ->Bool
 |.mark _=>true
 |.ee _=>true
 |_=>false
def MF (a b:bh):cx (.str (S a)) (.str (S b))=(a == b):=by
 rw[cx];exact pR a b
def yq {o:Option bJ}{w:bJ}(h:p2 w=true):cx (gS o) (dK w)=decide (o=some w):=by
 have gr:∀a b c d,cx (.tup [a,b]) (.tup [c,d])=(cx a c&&cx b d):=λa b c d=>by simp[cx,iE]
 have ne:∀x y:Str,x≠y->cx (.str x) (.str y)=false:=λx y h=>by rw[cx];exact h8.mpr h
 have eq:∀x:Str,cx (.str x) (.str x)=true:=λx=>by rw[cx];exact vy x
 cases w with
 |mark m=>
  cases o with
  |none=>unfold gS dK wu;rw[gr,show ez (.mark m)="mark" from I,ne _ _ fP];simp
  |some w=>
   unfold gS dK;rw[gr];cases w with
   |mark l=>rw[show ez (.mark l)=ez (.mark m) from I,eq];show(true&&cx (.str (S l)) (.str (S m)))=_;rw[MF];simp[Bool.beq_eq_decide_eq]
   |ee l=>rw[show ez (.ee l)="told" from I,show ez (.mark m)="mark" from I,ne _ _ fP];simp
   |name l=>rw[show ez (.name l)="name" from I,show ez (.mark m)="mark" from I,ne _ _ fP];simp
   |num l=>rw[show ez (.num l)="number" from I,show ez (.mark m)="mark" from I,ne _ _ fP];simp
   |text l=>rw[show ez (.text l)="text" from I,show ez (.mark m)="mark" from I,ne _ _ fP];simp
 |ee m=>
  cases o with
  |none=>unfold gS dK wu;rw[gr,show ez (.ee m)="told" from I,ne _ _ fP];simp
  |some w=>
   unfold gS dK;rw[gr];cases w with
   |ee l=>rw[show ez (.ee l)=ez (.ee m) from I,eq];show(true&&cx (.str (S l)) (.str (S m)))=_;rw[MF];simp[Bool.beq_eq_decide_eq]
   |mark l=>rw[show ez (.mark l)="mark" from I,show ez (.ee m)="told" from I,ne _ _ fP];simp
   |name l=>rw[show ez (.name l)="name" from I,show ez (.ee m)="told" from I,ne _ _ fP];simp
   |num l=>rw[show ez (.num l)="number" from I,show ez (.ee m)="told" from I,ne _ _ fP];simp
   |text l=>rw[show ez (.text l)="text" from I,show ez (.ee m)="told" from I,ne _ _ fP];simp
 |name _=>cases h
 |num _=>cases h
 |text _=>cases h
def ww (o:Option bJ):c2 (gS o)<=60:=by
 cases o with
 |none=>simp[gS,wu,c2,fk]
 |some w=>cases w<;>simp[gS,dK,jr,c2,fk]
def kl (n:Nat) (l:Addr) (p b:Nat):mV:=[("number",.int (n:Nat)),("words",.ref l),("place",.int (p:Nat)),("brackets",.int (b:Nat))]
structure iI (K:aJ) (C:Addr):Prop where
 cls:jo K C
 bS:NoAttr K C "number"
 cH:NoAttr K C "words"
 g4:NoAttr K C "place"
 ij:NoAttr K C "brackets"
inductive bT (K:aJ) (C:Addr) (H:ap) (r:Addr) (n:Nat) (aA:Addr) (ab:List bJ) (p b:Nat):Prop
 |mk ao:H r=some (.ins C ao (kl n aA p b))->hG K H aA (ab.map dK)->n<=100000->ab.length<=5000->bT K C H r n aA ab p b
section
variable {K:aJ}{C:Addr}{H Z:ap}{r:Addr}{n p b av G6:Nat}{aA:Addr}{ab:List bJ}
def T4 {n l p b}:(kl n l p b).lookup ("number":Str)=some (V.int (n:Nat)):=rfl
def T5 {n l p b}:(kl n l p b).lookup ("words":Str)=some (V.ref l):=by
 unfold kl;rw[h9,show(("words":Str) == "number")=false by decide +kernel];rfl
def T6 {n l p b}:(kl n l p b).lookup ("place":Str)=some (V.int (p:Nat)):=by
 unfold kl;rw[h9,show(("place":Str) == "number")=false by decide +kernel,h9,show(("place":Str) == "words")=false by decide +kernel];rfl
def T7 {n l p b}:(kl n l p b).lookup ("brackets":Str)=some (V.int (b:Nat)):=by
 unfold kl;rw[h9,show(("brackets":Str) == "number")=false by decide +kernel,h9,show(("brackets":Str) == "words")=false by decide +kernel,h9,show(("brackets":Str) == "place")=false by decide +kernel];rfl
def T8 {n l p b q}:hq "place" (.int (q:Nat)) (kl n l p b)=kl n l q b:=by
 unfold kl;rw[uc fP,uc fP];rfl
def T9 {n l p b q}:hq "brackets" (.int (q:Nat)) (kl n l p b)=kl n l p q:=by
 unfold kl;rw[uc fP,uc fP,uc fP];rfl
def hG.but {l ds}(h:hG K H l ds) (s:bD r H Z) (al:∃C ao bi,H r=some (.ins C ao bi)):hG K Z l ds:=by
 obtain⟨vs,ag,ae⟩:=h;obtain⟨C,ao,bi,al⟩:=al;have e0:l≠r:=λz=>by rw[z,al] at ag;cases ag
 exact⟨vs,s _ _ e0 ag,jQ (s.q8 al) ae⟩
def bT.ins (h:bT K C H r n aA ab p b):∃C ao bi,H r=some (.ins C ao bi):=let ⟨ao,a,_,_,_⟩:=h;⟨_,_,_,a⟩
def bT.same (h:bT K C H r n aA ab p b) (s:ba H Z):bT K C Z r n aA ab p b:=let ⟨ao,a,b,c,d⟩:=h;⟨ao,s _ _ a,b.same s,c,d⟩
def bT.dQ (h:bT K C H r n aA ab p b) (s:bD r H Z):h2 H Z:=let ⟨_,_,_,a⟩:=h.ins;s.q8 a
def bT.num (c:iI K C) (h:bT K C H r n aA ab p b){Q:bz}(q:Q (.int (n:Nat)) H):tH K "number" (.ref r) H Q:=let ⟨ao,a,_,_,_⟩:=h;⟨r,C,ao,_,_,I,a,c.cls,c.bS,T4,q⟩
def bT.FN (c:iI K C) (h:bT K C H r n aA ab p b){Q:bz}(q:Q (.int (p:Nat)) H):tH K "place" (.ref r) H Q:=let ⟨ao,a,_,_,_⟩:=h;⟨r,C,ao,_,_,I,a,c.cls,c.g4,T6,q⟩
def bT.brk (c:iI K C) (h:bT K C H r n aA ab p b){Q:bz}(q:Q (.int (b:Nat)) H):tH K "brackets" (.ref r) H Q:=let ⟨ao,a,_,_,_⟩:=h;⟨r,C,ao,_,_,I,a,c.cls,c.ij,T7,q⟩
def bT.lst (c:iI K C) (h:bT K C H r n aA ab p b){Q:bz}(q:hG K H aA (ab.map dK)->Q (.ref aA) H):tH K "words" (.ref r) H Q:=let ⟨ao,a,b,_,_⟩:=h;⟨r,C,ao,_,_,I,a,c.cls,c.cH,T5,q b⟩
def bT.put3 (h:bT K C H r n aA ab p b) (q:Nat) {ao bi}(e:H r=some (.ins C ao bi)):bT K C (upd H r (.ins C ao (hq "place" (.int (q:Nat)) bi))) r n aA ab q b/\bD r H (upd H r (.ins C ao (hq "place" (.int (q:Nat)) bi))):=by
 obtain⟨CY,a,ae,aW,bm⟩:=h;rw[a] at e;cases e;rw[T8];exact⟨⟨_,b',ae.but (bD.i4 _ _ _) ⟨_,_,_,a⟩,aW,bm⟩,bD.i4 _ _ _⟩
def bT.MG (h:bT K C H r n aA ab p b) (q:Nat) {ao bi}(e:H r=some (.ins C ao bi)):bT K C (upd H r (.ins C ao (hq "brackets" (.int (q:Nat)) bi))) r n aA ab p q/\bD r H (upd H r (.ins C ao (hq "brackets" (.int (q:Nat)) bi))):=by
 obtain⟨CY,a,ae,aW,bm⟩:=h;rw[a] at e;cases e;rw[T9];exact⟨⟨_,b',ae.but (bD.i4 _ _ _) ⟨_,_,_,a⟩,aW,bm⟩,bD.i4 _ _ _⟩
end
structure Bx (K:aJ) (x ce:Str) (st:Stmt) (f:Addr) (as:FuncData) (kJ:Value):Prop where
 ex:∃gn dg eo fW pm an bk b0 gI,as=PySem.W.fnOf x ce (k2 st) (lI st) (bF st) kJ eo fW pm an bk b0/\K.lookup f=some ⟨gn,dg,.func as,gI⟩/\PySem.W.codeIn K bk ce=true
 cZ:PySem.W.keepIn K (.ref f)=true
structure nW (P:Program) (w:World) (K:aJ) (mg:Str->cn) (base:Heap) (name:Str) (C:Addr) (aG:dH) (k:Nat) (sp:e6):Prop where
 ex:∃f as u,jo K C/\pQ K C name f/\RelV (.int 0) u/\Binds K as aG [u]/\Binds K as aG []/\bK P w K mg base (bQ P w) k f as aG sp
section
variable {X:a8}{e o:Expr}{bu:TE}{p pos apos:Pos}{E:cJ}
def oV {name C aG k k' sp pl}(bN:ff (bQ X.prog X.w) X E) (M:nW X.prog X.w X.K X.mg X.base name C aG k sp) (a':LE X o bu) (al:autoParam (dj k' X.A) Yt) (aU:autoParam (k<=k') Ty)
  (bO:autoParam (eval (.Call (.Attribute o name apos) [] [] pos) X.env=(do
   let eC <-eval o X.env
   standAt apos.atName
   let (f,first) <-holding [eC] (getMethod eC name pl)
   callWith pos f first (backTo pos (starEach [] X.env)) (backToKw pos (keywordEach [] X.env)))) dl):
  LE X (.Call (.Attribute o name apos) [] [] pos) (x4 C name sp [.int 0] E bu lH):=by
 obtain⟨f,as,u,c,ae,r,aW,_,bm⟩:=M.ex;exact .mk (L2.Kj (pl:=pl) a'.out c ae (bm.mono aU) al aW (.cons r .nil) bN bO)
def nW.toF {P w K mg base name C aG k sp}(M:nW P w K mg base name C aG k sp):hh P w K mg base name C aG k sp:=
 let ⟨f,as,_,c,ae,_,_,aW,bm⟩:=M.ex;⟨f,as,c,ae,aW,bm⟩
end
section
variable {K:aJ}{P:Program}{w:World}{mg:Str->cn}{base:Heap}{f:Addr}{as:FuncData}{C aF SB:Addr}
def Bx.kj {x ce st kJ N aG k sp}(F:Bx K x ce st f as kJ) (S:cE N aG (bF st)) (len:∀vs H Q E,sp vs H Q E->vs.length=aG.length) (pa:∀bk A outer s H vs Q E,dj k (A.deeper (envOfC ce (bF st) s.hz f bk))->sp vs H Q E->∃t,ic (fj dJ P w K mg base N ce (bF st) f bk A outer s H E).r2 (lI st) t/\t { c4:=λ_ Z=>Q .a3 Z,lz:=Q } (start N vs) H):bK P w K mg base dJ (k+1) f as aG sp:=by
 obtain⟨gn,dg,eo,fW,pm,an,bk,b0,gI,rfl,lk,gT⟩:=F.ex;refine Et lk gT S len λA outer s H vs Q E al lg=>?_;obtain⟨t,h,q⟩:=pa bk A outer s H vs Q E al lg;exact⟨t,h.out.r2,q⟩
inductive FO (K:aJ) (C:Addr) (vs:br) (H:ap) (Q:bz) (dA:cJ):Prop
 |mk x ao (n:Nat) l ab:vs=[.ref x,.int (n:Nat),.ref l]->H x=some (.ins C ao [])->hG K H l (ab.map dK)->n<=100000->ab.length<=5000->(∀aA Z,H aA=none->bD x H Z->bT K C Z x n aA ab 0 0->Q .a3 Z)->FO K C vs H Q dA
def T':cE Ah Ah (bF Br):=dm
def Ua (g:f9 K mg) (c:iI K C) (F:b5 K "__init__" "Row.__init__" Br f as):bK P w K mg base dJ 1 f as Ah (FO K C):=by
 refine F.kj T' ?_;rintro bk A outer s H vs Q E al ⟨x,ao,n,l,ab,rfl,ak,au,aP,ay,q⟩ ll;refine⟨_,(aX (bc.k0 (ah 0) (ah 1)) (aX (bc.k0 (ah 0) (ke Rj I g.g2.g.nList TJ (bx (ah 2)))) (aX (bc.k0 (ah 0) aO) (a9 (bc.k0 (ah 0) aO))))),?_⟩;refine⟨_,I,_,I,x,C,ao,_,I,ak,c.cls,c.bS,dU,?_⟩;refine q7 x H λai b2 am=>?_;have et:=au.but b2 ⟨_,_,_,ak⟩;obtain⟨w8,aK,ei⟩:=id et;refine⟨_,I,l,w8,I,.inl (bg.of aK),λit hQ=>dz hQ λaB aN fJ=>?_⟩;refine⟨_,I,x,C,ao,_,I,aN _ _ am,c.cls,c.cH,eG (pz 1) dU,?_⟩;refine q7 x aB λa7 eu bq=>?_;refine⟨_,I,x,C,ao,_,I,bq,c.cls,c.g4,eG (pz 2) dU,?_⟩;refine q7 x a7 λb1 e1 bX=>?_;refine⟨_,I,x,C,ao,_,I,bX,c.cls,c.ij,eG (pz 3) dU,?_⟩;refine q7 x b1 λdS jB dG=>?_;have Ym:bD x H dS:=((((b2.trans (.of aN)).trans eu).trans e1).trans jB);have Yn:hG K aB it (ab.map dK):=⟨w8,fJ,oU aN ei⟩;have sV:=((Yn.but eu ⟨_,_,_,aN _ _ am⟩).but e1 ⟨_,_,_,bq⟩).but jB ⟨_,_,_,bX⟩;refine q it dS ?_ Ym ⟨ao,?_,sV,aP,ay⟩
 ·cases e:H it with
  |none=>rfl
  |some o=>rw[b2 it o (λz=>by rw[z,am] at hQ;cases hQ) e] at hQ;cases hQ
 rw[dG];rfl
inductive oW (K:aJ) (C:Addr) (vs:br) (H:ap) (Q:bz) (dA:cJ):Prop
 |mk r n aA ab p b (j:Int) (q:Nat):vs=[.ref r,.int j]->bT K C H r n aA ab p b->(p:Int)+j=(q:Nat)->(∀v,At K H (gS ab[q]?) v->Q v H)->oW K C vs H Q dA
def MH:cE ["self","further","place"] mP (bF wq):=dm
def Ub {kJ}(g:f9 K mg) (c:iI K C) (F:Bx K "seen" "Row.seen" wq f as kJ):bK P w K mg base dJ 1 f as mP (oW K C):=by
 refine F.kj MH (λvs H Q E h=>?_) ?_
 ·obtain⟨_,_,_,_,_,_,_,_,rfl,_⟩:=h;rfl
 rintro bk A outer s H vs Q E al ⟨r,n,aA,ab,p,b,j,i,rfl,ay,c',q⟩;refine⟨_,(aX (ct 2 MH.bp (a5 f3 (bc.eZ (ah 0)) (ah 1))) (a9 (bE (mY (c3 jn (ah 2) (e7 r' I g.g2.g.jp sr (bx (bc.eZ (ah 0))))) (hs K (bc.eZ (ah 0)) (ah 2)) (ii g.FJ))))),?_⟩;refine⟨_,I,ay.FN c ⟨_,I,_,_,I,I,?_⟩⟩;dsimp only;rw[c'];refine⟨_,I,_,I,ay.lst c λau=>?_⟩;obtain⟨vs,aK,ei⟩:=id au;refine⟨aA,vs,I,.inl (bg.of aK),_,_,I,I,_,I,?_⟩;have dT:vs.length=ab.length:=by rw[ei.len,eV]
 refine nU (λag=>?_) λag=>?_
 ·have aR:i < ab.length:=by rw[<-dT];omega
  obtain⟨v,am,aE⟩:=bB.get (i:=i) ei (d:=dK ab[i]) (by simp[aR]);refine⟨_,I,ay.lst c λio=>?_⟩;obtain⟨zH,n6,Yo⟩:=id io;obtain⟨gl,zo,uK⟩:=bB.get (i:=i) Yo (d:=dK ab[i]) (by simp[aR]);exact⟨_,I,aA,zH,_,gl,I,I,bg.of n6,iD zo,q gl (by rw[iB aR];exact uK)⟩
 ·have aR:¬i < ab.length:=by rw[<-dT];omega
  exact λv aK=>q v (by rw[DV (by omega)];exact aK H)
def Uc {n l p b m}(h:autoParam ((m == ("number":Str))=false/\(m == ("words":Str))=false/\(m == ("place":Str))=false/\(m == ("brackets":Str))=false) Ic):(kl n l p b).lookup m=none:=by
 unfold kl;rw[h9,h.1,h9,h.2.1,h9,h.2.2.1,h9,h.2.2.2];rfl
def bT.gm {H r n aA ab p b m}(h:bT K C H r n aA ab p b){R:Prop}(q:R) (aQ:autoParam ((m == ("number":Str))=false/\(m == ("words":Str))=false/\(m == ("place":Str))=false/\(m == ("brackets":Str))=false) Ic):Ep C m (.ref r) H R:=
 let ⟨ao,a,_,_,_⟩:=h;⟨r,ao,_,I,a,Uc aQ,q⟩
def By {n l p b}:(kl n l p b).length < 1000:=(by decide:4 < 1000)
inductive wx (K:aJ) (C:Addr) (vs:br) (H:ap) (Q:bz) (dA:cJ):Prop
 |mk r n aA ab p b:vs=[.ref r]->bT K C H r n aA ab p b->(∀v Z,bD r H Z->bT K C Z r n aA ab (p+1) b->At K Z (gS ab[p]?) v->Q v Z)->wx K C vs H Q dA
def MI:cE lr h7 (bF Bs):=dm
def Ud (c:iI K C) (F:b5 K "taken" "Row.taken" Bs f as) (jR:nW P w K mg base "seen" C mP 1 (oW K C)):bK P w K mg base (bQ P w) 2 f as h7 (wx K C):=by
 refine F.fl MI (λvs H Q E h=>?_) (λbk A outer s H vs Q E al h=>?_)
 ·obtain⟨_,_,_,_,_,_,rfl,_⟩:=h;rfl
 obtain⟨r,n,aA,ab,p,b,rfl,ay,q⟩:=h;refine⟨_,(aX (ct 1 MI.bp (oV (f6 λ_ _ _ h=>h) jR (ah 0))) (aX (bc.k0 (ah 0) (a5 f3 (bc.eZ (ah 0)) aO)) (a9 (bE (ah 1))))),?_⟩;refine⟨_,I,ay.gm ⟨r,n,aA,ab,p,b,0,p,I,ay,by omega,λv aK=>?_⟩⟩;refine⟨_,I,ay.FN c ⟨_,_,I,I,_,I,?_⟩⟩;obtain⟨ao,a,_⟩:=id ay;refine⟨r,C,ao,_,I,a,c.cls,c.g4,By,?_⟩;obtain⟨cu,b2⟩:=ay.put3 (p+1) a;exact⟨_,I,q v _ b2 cu (fE (ay.dQ b2) aK)⟩
inductive ud (K:aJ) (C:Addr) (vs:br) (H:ap) (Q:bz) (dA:cJ):Prop
 |mk r n aA ab p b y o:vs=[.ref r,y]->bT K C H r n aA ab p b->At K H (gS o) y->(∀z,o=some z->p2 z=true)->(ab[p]?=o->∀Z,bD r H Z->bT K C Z r n aA ab (p+1) b->Q (.aM true) Z)->(ab[p]?≠o->Q (.aM false) H)->ud K C vs H Q dA
def Ue:cE lr lr (bF Bt):=dm
def MJ (o:Option bJ):cx (gS o) wu=decide (o=none):=by
 cases o with
 |none=>decide +kernel
 |some w=>
  have ne:∀x y:Str,x≠y->cx (.str x) (.str y)=false:=λx y h=>by rw[cx];exact h8.mpr h
  show cx (.tup [.str (ez w),jr w]) (.tup [.str "end",.str ""])=_;rw[show ∀a b c d,cx (.tup [a,b]) (.tup [c,d])=(cx a c&&cx b d) from λa b c d=>by simp[cx,iE]];rw[ne _ _ (by cases w<;>(simp only[ez];decide +kernel))];simp
def Ug {o c0:Option bJ}(h:∀z,c0=some z->p2 z=true):cx (gS o) (gS c0)=decide (o=c0):=by
 cases c0 with
 |none=>exact MJ o
 |some w=>exact yq (h w I)
def Uh (c:iI K C) (F:b5 K "skips" "Row.skips" Bt f as) (jR:nW P w K mg base "seen" C mP 1 (oW K C)):bK P w K mg base (bQ P w) 2 f as lr (ud K C):=by
 refine F.fl Ue (λvs H Q E h=>?_) (λbk A outer s H vs Q E al h=>?_)
 ·obtain⟨_,_,_,_,_,_,_,_,rfl,_⟩:=h;rfl
 obtain⟨r,n,aA,ab,p,b,y,o,rfl,ay,aT,a',aZ,bn⟩:=h;refine⟨_,(aX (ck (c3 (Ly al) (oV (f6 λ_ _ _ h=>h) jR (ah 0)) (ah 1)) (a9 (bE kW)) cA) (aX (bc.k0 (ah 0) (a5 f3 (bc.eZ (ah 0)) aO)) (a9 (bE kW)))),?_⟩;refine⟨_,I,ay.gm ⟨r,n,aA,ab,p,b,0,p,I,ay,by omega,λv aK=>⟨_,I,_,_,aK,aT,ww _,_,I,?_⟩⟩⟩;rw[Ug a'];refine fR (λe=>?_) λe=>?_
 ·exact bn (by simpa using e)
 have e:ab[p]?=o:=by simpa using e
 refine⟨_,I,ay.FN c ⟨_,_,I,I,_,I,?_⟩⟩;obtain⟨ao,a,_⟩:=id ay;refine⟨r,C,ao,_,I,a,c.cls,c.g4,By,?_⟩;obtain⟨cu,b2⟩:=ay.put3 (p+1) a;exact aZ e _ b2 cu
def Out (aF r n:Nat) (H:ap) (E:cJ):Prop:=∀d Z,bD r H Z->Z d=some (.nF [("at",.int (n:Nat))])->E (.ref aF) (some d) Z
def Out.bd {r n H ai E}(o:Out aF r n H E) (aP:n<=100000) (s:bD r H ai):Bw aF E (.int (n:Nat)) ai:=
 ⟨.inr ⟨n,I,aP⟩,λd Z s' h=>o d Z (s.trans (.of s')) h⟩
def bT.bad {H r n aA ab p b E aI}(c:iI K C) (ay:bT K C H r n aA ab p b) (o:Out aF r n aI E) (s:bD r aI H):tH K "number" (.ref r) H (λy ai=>Bw aF E y ai):=
 ay.num c (o.bd (let ⟨_,_,_,h,_⟩:=ay;h) s)
inductive Bz (K:aJ) (C aF:Addr) (vs:br) (H:ap) (Q:bz) (E:cJ):Prop
 |mk r n aA ab p b y o:vs=[.ref r,y]->bT K C H r n aA ab p b->At K H (gS o) y->(∀z,o=some z->p2 z=true)->(ab[p]?=o->∀Z,bD r H Z->bT K C Z r n aA ab (p+1) b->Q .a3 Z)->(ab[p]?≠o->Out aF r n H E)->Bz K C aF vs H Q E
def Ui:cE lr lr (bF Bu):=dm
def Uj (c:iI K C) (F:b5 K "wants" "Row.wants" Bu f as) (gL:mw P w K mg base "BadText" aF SB ls 1 (mx K aF)) (jR:hh P w K mg base "skips" C lr 2 (ud K C)):bK P w K mg base (bQ P w) 3 f as lr (Bz K C aF):=by
 refine F.fl Ui (λvs H Q E h=>?_) (λbk A outer s H vs Q E al h=>?_)
 ·obtain⟨_,_,_,_,_,_,_,_,rfl,_⟩:=h;rfl
 obtain⟨r,n,aA,ab,p,b,y,o,rfl,ay,aT,a',aZ,bn⟩:=h;refine⟨_,(a9 (ck (nI (hD (iH (f6 λ_ _ _ h=>h) jR (ah 0) (bx (ah 1))))) (a9 (wt wj gL (bc.eZ (ah 0)))) cA)),?_⟩;refine⟨_,I,ay.gm ⟨_,I,r,n,aA,ab,p,b,y,o,I,ay,aT,a',λe Z b2 cu=>⟨_,I,?_⟩,λe=>⟨_,I,?_⟩⟩⟩
 ·exact aZ e Z b2 cu
 ·exact⟨_,I,ay.bad c (bn e) (bD.refl _ _)⟩
inductive BA (K:aJ) (C aF:Addr) (vs:br) (H:ap) (Q:bz) (E:cJ):Prop
 |mk r n aA ab p b:vs=[.ref r]->bT K C H r n aA ab p b->(∀x,ab[p]?=some (.name x)->∀Z,bD r H Z->bT K C Z r n aA ab (p+1) b->Q (.str (S x)) Z)->((∀x,ab[p]?≠some (.name x))->Out aF r n H E)->BA K C aF vs H Q E
def MK:cE lr h7 (bF Bv):=dm
def Uk (o:Option bJ):∃k v,gS o=.tup [.str k,v]/\(k="name"↔∃x,o=some (.name x)):=by
 cases o with
 |none=>exact⟨_,_,I,⟨λh=>absurd h fP,λ⟨_,h⟩=>by cases h⟩⟩
 |some w=>
  refine⟨_,_,I,?_⟩;cases w with
  |name x=>exact⟨λ_=>⟨x,I⟩,λ_=>I⟩
  |_=>exact⟨λh=>absurd h (by simp only[ez];decide +kernel),λ⟨_,h⟩=>by cases h⟩
def Ul (c:iI K C) (F:b5 K "wants_name" "Row.wants_name" Bv f as) (gL:mw P w K mg base "BadText" aF SB ls 1 (mx K aF)) (lm:hh P w K mg base "taken" C h7 2 (wx K C)):bK P w K mg base (bQ P w) 3 f as h7 (BA K C aF):=by
 refine F.fl MK (λvs H Q E h=>?_) (λbk A outer s H vs Q E al h=>?_)
 ·obtain⟨_,_,_,_,_,_,rfl,_⟩:=h;rfl
 obtain⟨r,n,aA,ab,p,b,rfl,ay,aZ,bn⟩:=h;refine⟨_,(aX (ct 1 MK.bp (q' (f6 λ_ _ _ h=>h) lm (ah 0))) (aX (ck (c3 pP (ef (ah 1)) aV) (a9 (wt wj gL (bc.eZ (ah 0)))) cA) (a9 (bE (ef (ah 1)))))),?_⟩;refine⟨_,I,ay.gm ⟨r,n,aA,ab,p,b,I,ay,λv ai b2 cu aK=>?_⟩⟩;obtain⟨k,H5,am,aE⟩:=Uk ab[p]?;rw[am] at aK;refine⟨_,I,0,_,_,I,aK,I,fm ⟨I,_,I,?_⟩⟩;rw[wk];refine fR (λe=>?_) λe=>?_
 ·exact⟨_,I,cu.bad c (bn λx ak=>by rw[aE.mpr ⟨x,ak⟩] at e;simp at e) b2⟩
 ·have zL:k="name":=by simpa using e
  obtain⟨x,ak⟩:=aE.mp zL;rw[ak] at am;cases am;exact⟨_,I,1,_,_,I,aK,I,fm (aZ x ak ai b2 cu)⟩
end
end GS
namespace L2
open PySem PySem.Spec PyProof.Rows
def lP:iU->List Int->iU
 |o,[]=>o
 |none,x::r=>lP (some x) r
 |some m,x::r=>lP (some (if m < x then x else m)) r
def Um:Option (Int×Tok)->Array Value
 |none=>#[]
 |some (m,t)=>#[.int m t,.int m t]
def yr (d v:Value):iU->Prop
 |none=>v=d
 |some m=>∃t,v=.int m t
section
variable {prog:Program}{w:World}{A:Around}{R:Result->Shared->Prop}{J:Addr}{fp zl:gd}{P:Nat->Value->Prop}{St:Nat->Heap->Prop}{js:List Int}{d:Value}
def Un (W:Walks prog w A.in1 J fp zl js.length P St) (aK:∀i v,P i v->∃t,v=.int (js.getD i 0) t) (S:Addr) (H6:S∉fp):∀k j (s:Shared) o c,js.length - j=k->j<=js.length->St j s.heap->s.heap.get? S=some ⟨.type "list",none,.seq (Um o) c,#[]⟩->(∀v h' cS,yr d v (lP (o.map (·.1)) (js.drop j))->(∀b u,b∉zl->b≠S->s.heap.get? b=some u->h'.get? b=some u)->R (.ok (.ret v)) { s with heap:=h',toks:=cS })->codeAny (model prog w) A (.builtin "max.loop" ⟨[.ref J,.none,.ref S],[("default",d)]⟩) R s:=by
 have OP:S∉zl:=λh=>H6 (W.sub _ h);have nm:(toString "max"++toString ".loop":String)="max.loop":=by decide
 intro k
 induction k with
 |zero=>
  intro j s o c aU c' iK fI q;have l':j=js.length:=by omega
  subst l';refine codeAny_builtin F.entry_max_loop ?_;rw[Around.under_plainId vE _];show wpAny _ A.in1 (seqItems? (.ref S) >>= _) _ _ s;refine a4 (wpAny_seqItems fI I ?_);show wpAny _ A.in1 (tryCatch (pyNext (.ref J)) _ >>= _) _ _ s;refine a4 (wpAny_tryCatch (W.done s _ _ iK λh' cS cZ=>?_));rw[qF] at q;cases o with
  |none=>
   exact a4 (wpAny_rule (b3 (q d h' cS I λb u af _ e=>cZ b u af e)))
  |some mt=>
   obtain⟨m,t⟩:=mt;have oi:=cZ S _ OP fI;show wpAny _ A.in1 (updateSeq S (λ_=>#[]) >>= _) _ _ _;refine a4 (wpAny_updateSeq oi I (hz:=(by decide:2<=sizeLine)) (a4 (xQ (b3 ?_))));exact q _ _ cS ⟨t,I⟩ λb u af aP e=>(mS _ _ (d0 aP)).trans (cZ b u af e)
 |succ k ih=>
  intro j s o c aU c' iK fI q;have cM:j < js.length:=by omega
  refine codeAny_builtin F.entry_max_loop ?_;rw[Around.under_plainId vE _];show wpAny _ A.in1 (seqItems? (.ref S) >>= _) _ _ s;refine a4 (wpAny_seqItems fI I ?_);show wpAny _ A.in1 (tryCatch (pyNext (.ref J)) _ >>= _) _ _ s;refine a4 (wpAny_tryCatch (W.item j s _ _ cM iK λv h' cS gp H7 cZ=>?_));have oi:=cZ S _ OP fI;obtain⟨t',rfl⟩:=aK j v gp;have eP:js.drop j=js.getD j 0::js.drop (j+1):=by rw[vA cM,mh,iB cM];rfl
  rw[eP] at q;cases o with
  |none=>
   show wpAny _ A.in1 (updateSeq S (λ_=>#[.int (js.getD j 0) t',.int (js.getD j 0) t']) >>= _) _ _ _;refine a4 (wpAny_updateSeq oi I ?_);rw[nm];refine b3 ⟨AC vE _,ih (j+1) _ (some (js.getD j 0,t')) _ (by omega) cM (W.frame _ _ _ H7 λb af u e=>(mS _ _ (λz:S=b=>H6 (by rw[z];exact af))).trans e) (rU _ oi I) λv ae zM g8 cN=>?_⟩;exact q v ae zM g8 λb u af aP e=>cN b u af aP ((mS _ _ (d0 aP)).trans (cZ b u af e))
  |some mt=>
   obtain⟨m,t⟩:=mt;show wpAny _ A.in1 (tryCatch (holding [.int (js.getD j 0) t',.int (js.getD j 0) t'] (richCompare .Gt (.int (js.getD j 0) t') (.int m t) >>= _)) _ >>= _) _ _ _;refine a4 (wpAny_tryCatch (md (a4 (CmpOf.ints_gt (prog:=prog) (w:=w) (A:=A.in1) (P:=λi v=>∃t,v=.int (if i=0 then js.getD j 0 else m) t) (λi=>if i=0 then js.getD j 0 else m) (λi v h=>h) 0 1 _ _ _ _ _ ⟨t',I⟩ ⟨t,I⟩ ?_))));refine a4 (md (ti ?_));refine a4 (xQ (b3 ?_));show wpAny _ _ (if decide (m < js.getD j 0)=true then _ else _) _ _ _;by_cases af:m < js.getD j 0
   ·rw[fv af];simp only[if_true];refine a4 (wpAny_updateSeq oi I (hz:=(by decide:2<=sizeLine)) (a4 (xQ ?_)));rw[nm];refine b3 ⟨AC vE _,ih (j+1) _ (some (js.getD j 0,t')) _ (by omega) cM (W.frame _ _ _ H7 λb af u e=>(mS _ _ (λz:S=b=>H6 (by rw[z];exact af))).trans e) (rU _ oi I) λv ae zM g8 cN=>?_⟩;refine q v ae zM ?_ λb u af aP e=>cN b u af aP ((mS _ _ (d0 aP)).trans (cZ b u af e));show yr d v (lP (some (if m < js.getD j 0 then js.getD j 0 else m)) (js.drop (j+1)));rw[b8 af];exact g8
   ·rw[ew af];simp only[Bool.false_eq_true,if_false];refine a4 (xQ ?_);rw[nm];refine b3 ⟨AC vE _,ih (j+1) _ (some (m,t)) _ (by omega) cM H7 oi λv ae zM g8 cN=>?_⟩;refine q v ae zM ?_ λb u af aP e=>cN b u af aP (cZ b u af e);show yr d v (lP (some (if m < js.getD j 0 then js.getD j 0 else m)) (js.drop (j+1)));rw[bP af];exact g8
end
def Uo (a d:Value):argsOk "max" ⟨[a],[("default",d)]⟩:=by unfold argsOk;kernel_rfl
def ML {js:List Int}{aL:e3}(r:b4 (js.map V.int) aL):aL.toArray.size=js.length/\∀i v,aL.toArray[i]?=some v->∃t,v=Value.int (js.getD i 0) t:=by
 have au:aL.length=js.length:=by rw[<-r.length,eV]
 refine⟨by rw[gu,au],λi v h=>?_⟩;have h':aL[i]?=some v:=by simpa using h
 have aR:i < js.length:=by rw[<-au];exact(kP.mp h').1
 obtain⟨u,bY,t,rfl⟩:=r.get (i:=i) (x:=V.int js[i]) (by simp[aR]);rw[bY] at h';cases h';exact⟨t,by rw[mh,iB aR];rfl⟩
section
variable {X:a8}
def Up {ac aa H s Q p js}{d:Value}{H8:V}(aw:X.calm=true) (J:Inv X ac aa H s) (aD:bg X.K H p (js.map V.int)) (aC:RelV H8 d) (q:Q (match lP none js with|none=>H8|some m=>.int m) H):dN X (call (.builtin "max") [.ref p] [("default",d)]) (gC X ac aa Q) X.cR s:=by
 obtain⟨aL,cI,pl,hz⟩:=J.list aD;obtain⟨ax,aK⟩:=ML cI;have hpl:p < s.hz:=let ⟨o,n,e,_⟩:=pl;di e;have nm:(toString "max"++toString ".loop":String)="max.loop":=by decide
 refine rQ (AA F.plain_max F.entry_max ?_);have aq:=Uo (.ref p) d;simp only[checkBuiltinCall,F.kind_max];have go:∀R:Result->Shared->Prop,(∀v s',gC X ac aa Q v s'->R (.ok (.ret v)) s')->wpAny (model X.prog X.w) X.A.in1 (Builtin.«max» ⟨[.ref p],[("default",d)]⟩) (λfin s'=>match fin with
   |.done f=>R (.ok f) s'
   |.again dF=>dF.quiet=true/\codeAny (model X.prog X.w) X.A dF R s') (λe s'=>R (.error e) s') s:=λR bC=>by
  show wpAny _ X.A.in1 (Builtin.Builtins.bindParams "max" ["key","default"] 0 ⟨[],[("default",d)]⟩ >>= _) _ _ s;refine a4 (wpAny_of_eq (show Builtin.Builtins.bindParams "max" ["key","default"] 0 ⟨[],[("default",d)]⟩=pure [none,some d] from I) ?_);refine a4 (b3 (a4 (Ak pl.isList ?_)));refine a4 (rT ?_);rw[nm];have W:=Walks.list (A:=X.A.in1) (prog:=X.prog) (w:=X.w) (J.ok.hd aw) s.hz p (fw hpl) aL.toArray;rw[ax] at W;refine b3 ⟨AC vE _,Un W aK _ ?_ js.length 0 _ none _ I (fN _) ?_ (hN _ I) λv h' cS g8 k=>bC _ _ ?_⟩
  ·intro aQ;have ae:p < s.heap.objs.size:=hpl;have e:∀x,x=s.heap.objs.size+1->x∈[s.heap.objs.size,p]->False:=λx ak aQ=>by
    rcases gZ.mp aQ with z|z
    ·omega
    ·exact absurd ae (by rw[<-kv.mp z,ak];exact Nat.not_lt.mpr (mf _))
   exact e _ (by simp[Heap.push]) aQ
  ·exact W.frame _ _ _ ⟨⟨_,hN _ I,I,I⟩,(let ⟨o,a',r⟩:=pl.isList;⟨o,ej _ a',r⟩)⟩ λb _ o e=>ej _ e
  ·have kept:∀b o,s.heap.get? b=some o->h'.get? b=some o:=λb o e=>by
    have af:=di e;refine k b o (λaQ=>?_) ?_ (ej _ (ej _ e))
    ·exact fw af (kv.mp aQ)
    ·intro z;have e:∀x,x=s.heap.objs.size+1->b=x->False:=λx ak uP=>absurd af (by rw[uP,ak];exact Nat.not_lt.mpr (mf _));exact e _ (by simp[Heap.push]) z
   cases e:lP none js with
   |none=>
    rw[e] at q;have zN:yr d v (lP none js):=g8;rw[e] at zN;have:v=d:=zN;subst this;exact⟨H8,H,J.kept kept,aC,q⟩
   |some m=>
    rw[e] at q;have zN:yr d v (lP none js):=g8;rw[e] at zN;obtain⟨t,rfl⟩:=zN;exact⟨.int m,H,J.kept kept,⟨t,I⟩,q⟩
 have fin:=go (λr s'=>match r with|.ok (.ret v)=>gC X ac aa Q v s'|.ok _=>False|.error e=>X.cR e s') λv s' h=>h;cases Yp:Manifest.signature? "max" with
 |none=>exact b3 fin
 |some HZ=>
  have CZ:Bind.checkArgs "max" HZ ⟨[.ref p],[("default",d)]⟩=pure ():=by simpa only[argsOk,Yp] using aq
  simp only[CZ];exact b3 fin
def boot_max:bootBuiltins "max"=some (.builtin "max"):=by decide +kernel
def boot_sum:bootBuiltins "sum"=some (.builtin "sum"):=by decide +kernel
inductive MM (K:aJ) (vs:br) (H:ap) (Q:bz):Prop
 |mk p js:vs=[.ref p]->bg K H p (js.map V.int)->Q (.int ((lP none js).getD 0)) H->MM K vs H Q
def MN (K:aJ) (bu:fi):TE:=λaa H Q=>bu aa H λvs ai=>MM K vs ai Q
def FP {e bu p pos cZ ue j}(aq:iX X [e] bu) (a1:eH X "max") (aQ:X.mg "max"=none) (aw:X.calm=true) (he:autoParam (backTo pos (starEach [e] X.env)=(false,eval e X.env)::backTo pos (starEach [] X.env)) dl) (hpl:autoParam ((backTo pos (starEach [e] X.env)).any (·.1)=false) dl):bU X (.Call (.Name "max" p) [e] [⟨some "default",.Constant (.int 0) j ue,cZ⟩] pos) (MN X.K bu):=by
 intro ac s aa H Q J h;refine qD (tB J a1 aQ boot_max (callWith_kw (bW (aq pos ac s aa H _ J h) λus az aD=>?_) he hpl));obtain⟨vs,ai,a6,bR,aS,js,am,aD,q⟩:=aD;subst am;obtain⟨u,rfl,fc⟩:=vals1 bR;cases fc;refine bW (Q0 (X:=X) (nm:=some "default") (kpos:=cZ) (aO (i:=0) (j:=j) (pos:=ue)) QZ pos ac az aa ai (λzs aB=>zs=[.int 0]/\aB=ai) a6 ⟨I,I⟩) λhx aN aD=>?_;obtain⟨zs,aB,ci,HL,am,aE⟩:=aD;subst am aE;obtain⟨u,rfl,fc⟩:=vals1 HL;exact Up aw ci aD fc (by cases af:lP none js<;>(rw[af] at q;exact q))
inductive MO (K:aJ) (xs:br) (H:ap) (Q:bz):Prop
 |mk p (ns:bh):xs=[.ref p]->bg K H p (ns.map λn=>V.int (n:Nat))->ns.sum<=1000000->Q (.int (ns.sum:Nat)) H->MO K xs H Q
def MP (aw:X.calm=true):kc X (.builtin "sum") (MO X.K):=by
 intro ac s aa H xs us Q J r h;obtain⟨p,ns,rfl,aD,hz,q⟩:=h;obtain⟨u,rfl,fc⟩:=vals1 r;cases fc;have iq:bg X.K H p ((ns.map λn=>((n:Nat):Int)).map V.int):=by rw[kS];exact aD
 obtain⟨aL,cI,pl,_⟩:=J.list iq;obtain⟨ax,aK⟩:=ML cI;have hpl:p < s.hz:=let ⟨o,n,e,_⟩:=pl;di e;have W:=Walks.list (A:=X.A.in1) (prog:=X.prog) (w:=X.w) (J.ok.hd aw) s.hz p (fw hpl) aL.toArray;have pre:∀j,j<=ns.length->preSum (λi=>(ns.map λn=>((n:Nat):Int)).getD i 0) j=(((ns.take j).sum:Nat):Int):=λj=>by
  induction j with
  |zero=>intro _;rfl
  |succ j ih=>
   intro c';have wr:j < ns.length:=c';show preSum _ j+_=_;rw[ih (by omega),Az,iB wr,AD];simp[wr]
 have le:∀j,(ns.take j).sum<=ns.sum:=λj=>by
  have:=AD (l₁:=ns.take j) (l₂:=ns.drop j);rw[List.take_append_drop] at this;omega
 have mem:∀j (h:j < ns.length),ns[j]<=ns.sum:=λj h=>by
  have ag:=le (j+1);rw[Az,iB h,AD] at ag;simp at ag;omega
 have mI:aL.toArray.size=ns.length:=by rw[ax,eV]
 refine call_sum_walk (Ak pl.isList ?_);refine⟨s.hz,[s.hz,p],[s.hz],aL.toArray.size,_,_,(λi=>(ns.map λn=>((n:Nat):Int)).getD i 0),I,W,⟨⟨_,hN _ I,I,I⟩,(let ⟨o,a',r⟩:=pl.isList;⟨o,ej _ a',r⟩)⟩,?_,aK,?_,λh' cS t' k=>?_⟩
 ·intro b af;have e:(s.heap.push { cls:=Value.type "list_iterator",data:=Data.fields #[Value.ref p,Value.int 0 0] }).objs.size=s.heap.objs.size+1:=by simp[Heap.push]
  have Yq:p < s.heap.objs.size:=hpl;rcases gZ.mp af with rfl|af
  ·exact Nat.lt_of_lt_of_eq (pz _) e.symm
  ·rw[kv.mp af];exact Nat.lt_of_lt_of_eq (Nat.lt_succ_of_lt Yq) e.symm
 ·intro j c';rw[mI] at c';rw[pre (j+1) c'];have ag:=le (j+1);have ae:=mem j c';have e:(ns.map λn=>((n:Nat):Int)).getD j 0=(ns[j]:Int):=by simp[List.getD_eq_getElem?_getD,c']
  show InLong ((ns.map λn=>((n:Nat):Int)).getD j 0)/\_;rw[e];exact⟨⟨by omega,by omega⟩,⟨by omega,by omega⟩⟩
 ·refine⟨.int _,H,J.kept λb o e=>k b o ?_ (ej _ e),⟨t',I⟩,?_⟩
  ·intro aQ;exact fw (di e) (kv.mp aQ)
  ·rw[mI,pre ns.length (bf _),DQ];exact q
end
end L2
namespace bc
open PySem L2
def FP {X:a8} {e bu p pos cZ ue j}(aq:gD X [e] bu) (aQ:X.mg "max"=none) (a1:autoParam (eH X "max") dl) (aw:autoParam (X.calm=true) dl) (he:autoParam (backTo pos (starEach [e] X.env)=(false,eval e X.env)::backTo pos (starEach [] X.env)) dl) (hpl:autoParam ((backTo pos (starEach [e] X.env)).any (·.1)=false) dl):LE X (.Call (.Name "max" p) [e] [⟨some "default",.Constant (.int 0) j ue,cZ⟩] pos) (MN X.K bu):=.mk (L2.FP aq.out a1 aQ aw he hpl)
end bc
namespace GS
open PySem L2
def Uq (l:List bL):∀m:Option Nat,lP (m.map λn=>((n:Nat):Int)) (l.map λx=>((x.2.1:Nat):Int))=(match l,m with|[],m=>m.map λn=>((n:Nat):Int)|l,m=>some (((max (m.getD 0) (ig l):Nat)):Int)):=by
 induction l with
 |nil=>intro m;cases m<;>rfl
 |cons x l ih=>
  intro m;cases m with
  |none=>
   show lP (some ((x.2.1:Nat):Int)) (l.map λx=>((x.2.1:Nat):Int))=some (((max 0 (ig (x::l)):Nat)):Int);have:=ih (some x.2.1);have e:ig (x::l)=max x.2.1 (ig l):=rfl;rw[show(some ((x.2.1:Nat):Int))=(some x.2.1).map (λn=>((n:Nat):Int)) from I,this,e];cases l with
   |nil=>simp[ig]
   |cons y l=>simp
  |some m=>
   show lP (some (if((m:Nat):Int) < ((x.2.1:Nat):Int) then((x.2.1:Nat):Int) else((m:Nat):Int))) (l.map λx=>((x.2.1:Nat):Int))=some (((max m (ig (x::l)):Nat)):Int);have aQ:(if((m:Nat):Int) < ((x.2.1:Nat):Int) then((x.2.1:Nat):Int) else((m:Nat):Int))=((max m x.2.1:Nat):Int):=by split<;>omega
   have:=ih (some (max m x.2.1));have e:ig (x::l)=max x.2.1 (ig l):=rfl;rw[aQ,show(some (((max m x.2.1:Nat)):Int))=(some (max m x.2.1)).map (λn=>((n:Nat):Int)) from I,this,e];cases l with
   |nil=>simp[ig]
   |cons y l=>simp[Nat.max_assoc]
def Ur (l:List bL):(lP none (l.map λx=>((x.2.1:Nat):Int))).getD 0=((ig l:Nat):Int):=by
 have:=Uq l none;rw[show(none:iU)=(none:Option Nat).map (λn=>((n:Nat):Int)) from I,this];cases l with
 |nil=>rfl
 |cons x l=>simp
def Us (l:List bL):(l.map (·.2.2)).sum=mu l:=by
 induction l with
 |nil=>rfl
 |cons x l ih=>rw[kR,vF,ih];rfl
end GS
namespace GS
open PySem PyProof.Rows
open L2 hiding aO kW nH aV ah iY oG a5 mZ mq oH qL vK mY gj vT m3 qQ dc cg eL cP e7 ke hb vW ey hD nI kz jK kb ib qN pK kX pL pO r4 qV oI vX bE vL gQ jL pM ck nK mo cA aX a9
open bc
def bB.jS {K H a x}(h:At K H a x):bB K H [a] [x]:=fQ.mpr ⟨x,[],I,h,f5.mpr I⟩
def ht {K H a b x y}(h:At K H a x) (ae:At K H b y):bB K H [a,b] [x,y]:=fQ.mpr ⟨x,_,I,h,bB.jS ae⟩
def my {K H a b c x y z}(h:At K H a x) (ae:At K H b y) (aW:At K H c z):bB K H [a,b,c] [x,y,z]:=fQ.mpr ⟨x,_,I,h,ht ae aW⟩
def MQ {K H a b c d x y z u}(h:At K H a x) (ae:At K H b y) (aW:At K H c z) (bm:At K H d u):bB K H [a,b,c,d] [x,y,z,u]:=fQ.mpr ⟨x,_,I,h,my ae aW bm⟩
abbrev BB:Stmt:=top 22
def ra (j:Nat):D->D
 |.tup ds=>ds.getD j .a3
 |_=>.a3
section
variable {K:aJ}
def Ut {H Z:ap}{p:Addr}{o:jJ}(cd:H p=none) (s:ba H Z):ba H (upd Z p o):=λr c0 e=>by
 rw[cj (d9 e cd)];exact s r c0 e
def FQ {j:Nat}{ai:ap}{a:Addr}{ph:br}{ds:d8}{aa:L2.St}{Q:Addr->ap->Prop}(H9:bg K ai a ph) (ei:bB K ai ds ph) (au:ds.length<=1000000) (c':∀d∈ds,∃aj e,d=.tup aj/\aj[j]?=some e) (q:∀p Z,ai p=none->ba ai Z->hG K Z p (ds.map (ra j))->Q p Z):Bf 1 [] (vO K a) (qM 0) t7 (lG (ub K) (xW 0) (jm (.int (j:Nat)))) aa ai Q:=by
 have OQ:=ei.len;refine⟨[],⟨I,λj i h=>by simp at h⟩,λnp H'=>⟨λi m ys Z=>m=ph.length - i/\i<=ph.length/\ba ai Z/\Z np=some (.lst ys)/\bB K Z ((ds.take i).map (ra j)) ys,⟨_,I,fN _,cK H' _,b',f5.mpr I⟩,?_⟩⟩;rintro i m ys Z ⟨rfl,aR,w9,dh,jb⟩;by_cases cM:i < ph.length
 ·refine .inr ⟨⟨ph,ph[i],ba.seq w9 H9,by simp[cM]⟩,λx hR fq uV aT=>?_⟩;obtain⟨rfl,aT⟩:=aT;have ex:=aT ph (ba.seq w9 H9);have zO:i < ds.length:=by rw[<-OQ];exact cM
  obtain⟨gl,n6,Yr⟩:=bB.get (i:=i) ei (d:=ds[i]) (by simp[zO]);have fd:gl=x:=by rw[ex] at n6;cases n6;rfl
  subst fd;have OR:=dB w9 Yr;obtain⟨o,rfl⟩:∃o,fq=[o]:=by
   match fq,uV with
   |[o],_=>exact⟨o,I⟩
  obtain⟨aj,e,am,aE⟩:=c' ds[i] (Ax zO);rw[am] at OR;refine⟨[some gl],I,I,?_⟩;unfold t7;dsimp only;rw[b8 rfl];refine⟨_,I,j,aj,e,I,OR,aE,λv aK=>⟨dh,?_,ph.length - (i+1),co,I,cM,Ut H' w9,b',?_⟩⟩
  ·rw[jb.len,eV,rR];exact eG (Nat.lt_succ_of_le (dW (Nat.min_le_right _ _) au)) (by rw[jH];omega)
  ·have hk:(ds.take (i+1)).map (ra j)=(ds.take i).map (ra j)++[e]:=by
    rw[Az,vx,iB zO];show _++[ra j ds[i]]=_;have zB:ra j (.tup aj)=e:=by show aj.getD j .a3=e;rw[mh,aE];rfl
    rw[am,zB]
   rw[hk];exact bB.append (jQ (nV dh) jb) (bB.jS (fE (nV dh) aK))
 ·have zy:i=ph.length:=by omega
  subst zy;refine .inl ⟨⟨ph,ba.seq w9 H9,bf _⟩,q np Z H' w9 ⟨ys,dh,?_⟩⟩;rw[OQ,DQ] at jb;exact jb
theorem FR {H:ap}:∀{ns:bh}{vs:br},bB K H (ns.map λn=>D.int (n:Nat)) vs->vs=ns.map λn=>V.int (n:Nat)
 |[],_,h=>f5.mp h
 |n::ns,_,h=>by
  obtain⟨v,r,rfl,ag,ae⟩:=fQ.mp h;rw[hg.mp ag,FR ae];rfl
variable {P:Program}{w:World}{mg:Str->cn}{base:Heap}{f:Addr}{as:FuncData}{C aF SB:Addr}
inductive rb (K:aJ) (C aF:Addr) (vs:br) (H:ap) (Q:bz) (E:cJ):Prop
 |mk r n aA ab p b u2 t l (Ts:List bL):vs=[.ref r,u2,.ref l]->bT K C H r n aA ab p b->At K H t u2->hG K H l (Ts.map k5)->Ts.length<=5000->mu Ts<=400000->ig Ts<=400000->(∀T v Z,dX t Ts=some T->ba H Z->At K Z (k5 T) v->Q v Z)->(dX t Ts=none->Out aF r n H E)->rb K C aF vs H Q E
def FT:cE ["row","tree","inner","deep","parts"] qy (bF BB):=dm
def Uu (g:f9 K mg) (c:iI K C) (F:b5 K "sized" "sized" BB f as) (gL:mw P w K mg base "BadText" aF SB ls 1 (mx K aF)):bK P w K mg base (bQ P w) 3 f as qy (rb K C aF):=by
 refine F.fl FT (λvs H Q E h=>?_) (λbk A outer s H vs Q E al h=>?_)
 ·obtain⟨_,_,_,_,_,_,_,_,_,_,rfl,_⟩:=h;rfl
 obtain⟨r,n,aA,ab,p,b,u2,t,l,Ts,rfl,ay,bO,au,dT,ac0,ac1,aZ,bn⟩:=h;refine⟨_,(aX (ct 3 FT.bp (a5 f3 aO (bc.FP (bx (.mk (L2.t8 (cl:=[]) (Xs:=["part"]) (Nf:=[]) (js:=[]) ?cB I (jM.out (pO (ah 2))) (λC s0 aI fp=>jq.out (h1 0 (show(["part"]:dH).Nodup by decide +kernel))) (λC s0 aI fp=>so) (λC s0 aI fp=>LE.out (gj (r:=ub K) Bo (ah 0) aO (λ_ _=>I)))))) g.MD)))
  (aX (ct 4 FT.bp (a5 f3 aO (e7 (MP I) I g.ME L2.boot_sum (bx (.mk (L2.t8 (cl:=[]) (Xs:=["part"]) (Nf:=[]) (js:=[]) ?cN I (jM.out (pO (ah 2))) (λC s0 aI fp=>jq.out (h1 0 (show(["part"]:dH).Nodup by decide +kernel))) (λC s0 aI fp=>so) (λC s0 aI fp=>LE.out (gj (r:=ub K) Bo (ah 0) aO (λ_ _=>I)))))))))
  (aX (ck (gy.pt (ib (c3 kd (ah 3) (bc.lJ I g.TZ)) (jK (c3 kd (ah 4) (bc.lJ I g.T1))))) (a9 (wt wj gL (bc.eZ (ah 0)))) cA) (a9 (bE (cP (fb (ah 1) (ah 3) (ah 4)))))))),?main⟩
 case cB=>exact Bp
 case cN=>exact Bp
 case main=>
  obtain⟨dP,aK,ei⟩:=id au;have c':∀j,j < 3->∀d∈Ts.map k5,∃aj e,d=.tup aj/\aj[j]?=some e:=λj c' d hd=>by
   obtain⟨T,_,rfl⟩:=mU.mp hd;exact⟨_,_,I,iB (show j < [T.1,D.int (T.2.1:Nat),D.int (T.2.2:Nat)].length from c')⟩
  have OS:(Ts.map k5).length<=1000000:=by rw[eV];omega
  refine⟨_,I,l,I,⟨_,bg.of aK⟩,FQ (j:=1) (bg.of aK) ei OS (c' 1 dU) λaS ai cm az et=>?_⟩;obtain⟨j1,ag,cG⟩:=et;have am:(Ts.map k5).map (ra 1)=(Ts.map (·.2.1)).map λn=>D.int (n:Nat):=by rw[kS,kS];rfl
  rw[am] at cG;have OT:=FR cG;rw[kS] at OT;subst OT;refine⟨aS,Ts.map λx=>((x.2.1:Nat):Int),I,by rw[kS];exact bg.of ag,?_⟩;rw[Ur];refine⟨_,_,I,I,?_⟩;have fo:=az _ _ aK;refine⟨_,I,l,I,⟨_,bg.of fo⟩,FQ (j:=2) (bg.of fo) (oU az ei) OS (c' 2 dU) λbM aB ed aN hQ=>?_⟩;obtain⟨hT,ae,cY⟩:=hQ;have aE:(Ts.map k5).map (ra 2)=(Ts.map (·.2.2)).map λn=>D.int (n:Nat):=by rw[kS,kS];rfl
  rw[aE] at cY;have Ys:=FR cY;subst Ys;have ax:=Us Ts;refine⟨bM,Ts.map (·.2.2),I,bg.of ae,by rw[ax];omega,?_⟩;rw[ax];refine⟨_,_,I,I,?_⟩;have mM:=az.trans aN;refine⟨_,I,_,_,I,I,_,I,?_⟩;dsimp only;have qm:∀k:Nat,(1:Int)+(k:Nat)=((1+k:Nat):Int):=λk=>by omega
  rw[qm,qm];refine nU (λsQ=>?_) λsQ=>?_
  ·have hz:dX t Ts=none:=by unfold dX;rw[b8 (.inl (by omega))]
   exact fz ⟨_,I,(ay.same mM).bad c (bn hz) (.of mM)⟩
  refine⟨_,I,_,_,I,I,_,I,?_⟩;refine nU (λYt=>?_) λYt=>?_
  ·have hz:dX t Ts=none:=by unfold dX;rw[b8 (.inr (by omega))]
   exact⟨_,I,(ay.same mM).bad c (bn hz) (.of mM)⟩
  have hz:dX t Ts=some (t,1+ig Ts,1+mu Ts):=by unfold dX;rw[bP (by omega)]
  refine⟨_,I,_,I,_,I,lO,λbI gs=>dz gs λa7 a2 fK=>?_⟩;exact aZ _ _ a7 hz (mM.trans a2) (iG a2 fK (my (dB mM bO) (hg.mpr I) (hg.mpr I)))
end
abbrev yt:Stmt:=top 23
abbrev yu:Stmt:=top 24
abbrev yv:Stmt:=top 25
abbrev yw:Stmt:=top 26
def Uv {cC m}{i:cq cC} (w r):mv m i (w::r)=if w=dt then(if m=0 then none else(i r).bind λy=>nR y.1 y.2) else none:=rfl
def Uw {cC}{x:cC} (w r):nR x (w::r)=if w=dR then some (x,r) else none:=rfl
structure yx (cC:Type) (K:aJ) where
 R:cC->ap->V->Prop
 st:∀{x H Z v r},R x H v->bD r H Z->(∃C ao bi,H r=some (.ins C ao bi))->R x Z v
def oX (T:bL):Prop:=T.2.1<=12/\T.2.2<=60
def dX.ok {t Ts T}(h:dX t Ts=some T):oX T:=by
 unfold dX at h;split at h
 ·cases h
 ·cases h;exact⟨by show 1+_<=12;omega,by show 1+_<=60;omega⟩
theorem yy:∀{Ts:List bL},(∀T∈Ts,oX T)->mu Ts<=60*Ts.length/\ig Ts<=12
 |[],_=>⟨bf _,fN _⟩
 |T::Ts,h=>by
  have ag:=h T jG;have ae:=yy λx ak=>h x (j4 _ ak);have am:mu (T::Ts)=T.2.2+mu Ts:=rfl;have aE:ig (T::Ts)=max T.2.1 (ig Ts):=rfl;rw[am,aE,en];exact⟨by have:=ag.2;omega,by have:=ag.1;omega⟩
def el (K:aJ):yx bL K:=⟨λx H v=>At K H (k5 x) v/\oX x,λh b ⟨_,_,_,al⟩=>⟨fE (b.q8 al) h.1,h.2⟩⟩
def wy (K:aJ):yx (List bL) K:=⟨λx H v=>∃l,v=.ref l/\hG K H l (x.map k5)/\(∀T∈x,oX T)/\x.length<=5001,λ⟨l,e,h,ae⟩ b al=>⟨l,e,h.but b al,ae⟩⟩
inductive ea {cC:Type}(K:aJ) (C aF:Addr) (m:Nat) (R:yx cC K) (bo:cq cC) (vs:br) (H:ap) (Q:bz) (E:cJ):Prop
 |mk r n aA ab p:vs=[.ref r]->bT K C H r n aA ab p (12 - m)->p<=ab.length->(∀x av v Z,bo (ab.drop p)=some (x,ab.drop av)->p<=av->av<=ab.length->bD r H Z->bT K C Z r n aA ab av (12 - m)->R.R x Z v->Q v Z)->(bo (ab.drop p)=none->Out aF r n H E)->ea K C aF m R bo vs H Q E
def drop_cons {ab:List bJ} {p w}(h:ab[p]?=some w):ab.drop p=w::ab.drop (p+1)/\p < ab.length:=by
 have ar:=(kP.mp h).1;rw[vA ar];rw[iB ar] at h;cases h;exact⟨I,ar⟩
def yz {ab:List bJ} {p}(h:ab[p]?=none):ab.drop p=[]:=vz (AE.mp h)
def m8 (ab:List bJ) (p:Nat):(ab.drop p).head?=ab[p]?:=by rw[List.head?_drop]
def sx {w:bJ}(h:autoParam (p2 w=true) dl):∀z,(some w:Option bJ)=some z->p2 z=true:=λz e=>by cases e;exact h
def Out.mono {aF r n H ai E}(o:Out aF r n H E) (s:bD r H ai):Out aF r n ai E:=λd Z s' h=>o d Z (s.trans s') h
section
variable {K:aJ}{P:Program}{w:World}{mg:Str->cn}{base:Heap}{f:Addr}{as:FuncData}{C aF SB:Addr}
inductive yA (P:Program) (w:World) (K:aJ) (mg:Str->cn) (base:Heap) (C aF:Addr) (k:Nat) (vs:br) (H:ap) (Q:bz) (E:cJ):Prop
 |mk (cC:Type) (R:yx cC K) (bo:cq cC) r n aA ab p m f x:vs=[.ref r,.ref f]->bT K C H r n aA ab p (12 - m)->m<=12->p<=ab.length->(m≠0->jv P w K mg base f x k (ea K C aF (m - 1) R bo))->(∀x av v Z,mv m bo (ab.drop p)=some (x,ab.drop av)->p < av->av<=ab.length->bD r H Z->bT K C Z r n aA ab av (12 - m)->R.R x Z v->Q v Z)->(mv m bo (ab.drop p)=none->Out aF r n H E)->yA P w K mg base C aF k vs H Q E
def MR:cE Ai oz (bF yu):=dm
def Ux (g:f9 K mg) (c:iI K C) (F:b5 K "in_brackets" "in_brackets" yu f as) (gL:mw P w K mg base "BadText" aF SB ls 1 (mx K aF)) (C0:hh P w K mg base "wants" C lr 3 (Bz K C aF)) (k:Nat) (aU:3<=k):bK P w K mg base (bQ P w) (k+1) f as oz (yA P w K mg base C aF k):=by
 refine F.fl MR (λvs H Q E h=>?_) (λbk A outer s H vs Q E al h=>?_)
 ·obtain⟨_,_,_,_,_,_,_,_,_,_,_,rfl,_⟩:=h;rfl
 obtain⟨cC,R,bo,r,n,aA,ab,p,m,df,x,rfl,ay,aQ,ar,bl,aZ,bn⟩:=h;have bN:ff (bQ P w) (fj (bQ P w) P w K mg base Ai "in_brackets" (bF yu) f bk A outer s H E) E:=f6 λ_ _ _ h=>h;refine⟨_,(aX (gQ (iH bN C0 (ah 0) (bx (ii g.FK)))) (aX (bc.k0 (ah 0) (a5 f3 (bc.eZ (ah 0)) aO)) (aX (ck (c3 kd (bc.eZ (ah 0)) (bc.lJ I g.T2)) (a9 (wt wj gL (bc.eZ (ah 0)))) cA) (aX (ct 2 MR.bp (wm 1 bN (bx (ah 0)))) (aX (gQ (iH bN C0 (ah 0) (bx (ii g.FL)))) (aX (bc.k0 (ah 0) (a5 kZ (bc.eZ (ah 0)) aO)) (a9 (bE (ah 2))))))))),?main⟩
 case main=>
  refine⟨_,I,ay.gm λv aK=>⟨r,n,aA,ab,p,_,v,some dt,I,ay,aK H,sx,λam ai b2 cu=>?_,λam=>?_⟩⟩
  rotate_left
  ·refine bn ?_;cases e:ab[p]? with
   |none=>rw[yz e];rfl
   |some y=>
    rw[(drop_cons e).1];show(if y=dt then _ else _)=_;rw[bP λz=>am (by rw[e,z])]
  obtain⟨eP,cm⟩:=drop_cons am;rw[eP] at aZ bn;have gH:mv m bo (dt::ab.drop (p+1))=(if m=0 then none else(bo (ab.drop (p+1))).bind λy=>nR y.1 y.2):=by rw[Uv,b8 rfl]
  rw[gH] at aZ bn;refine⟨_,I,cu.brk c ⟨_,_,I,I,_,I,?_⟩⟩;obtain⟨ao,a,_⟩:=id cu;refine⟨r,C,ao,_,I,a,c.cls,c.ij,By,?_⟩;obtain⟨dd,dM⟩:=cu.MG (12 - m+1) a;have qm:(((12 - m:Nat):Int)+1)=((12 - m+1:Nat):Int):=by omega
  dsimp only;rw[qm];generalize upd ai r (.ins C ao (hq "brackets" (.int ((12 - m+1:Nat):Int)) (kl n aA (p+1) (12 - m))))=aB at dd dM⊢;have nh:=b2.trans dM;refine⟨_,I,dd.brk c ⟨_,_,I,I,_,I,?_⟩⟩;refine nU (λsQ=>?_) λsQ=>?_
  ·have lc:m=0:=by omega
   exact⟨_,I,dd.bad c (bn (b8 lc)) nh⟩
  have lc:m≠0:=by omega
  rw[bP lc] at aZ bn;have Yu:bT K C aB r n aA ab (p+1) (12 - (m - 1)):=by rw[show 12 - (m - 1)=12 - m+1 by omega];exact dd
  refine⟨df,x,_,I,(bl lc).mono (by omega),_,I,r,n,aA,ab,p+1,I,Yu,cm,λy bI v a7 bq gs mN eu d4 bC=>?_,λbq=>?_⟩
  rotate_left
  ·exact(bn (by rw[bq];rfl)).mono nh
  have oj:=nh.trans eu;rw[bq] at aZ bn;refine⟨_,I,d4.gm λsW pi=>⟨r,n,aA,ab,bI,_,sW,some dR,I,d4,pi a7,sx,λbX b1 e1 jf=>?_,λbX=>?_⟩⟩
  rotate_left
  ·refine(bn ?_).mono oj;show nR y (ab.drop bI)=none;cases e:ab[bI]? with
   |none=>rw[yz e];rfl
   |some z=>
    rw[(drop_cons e).1];show(if z=dR then _ else _)=_;rw[bP λo5=>bX (by rw[e,o5])]
  have C1:=oj.trans e1;refine⟨_,I,jf.brk c ⟨_,_,I,I,_,I,?_⟩⟩;obtain⟨Yv,ln,_⟩:=id jf;refine⟨r,C,Yv,_,I,ln,c.cls,c.ij,By,?_⟩;obtain⟨lh,jB⟩:=jf.MG (12 - m) ln;have qm:(((12 - (m - 1):Nat):Int) - 1)=((12 - m:Nat):Int):=by omega
  dsimp only;rw[qm];obtain⟨Yw,Ia⟩:=drop_cons bX;refine⟨_,I,aZ y (bI+1) v _ ?_ (by omega) Ia (C1.trans jB) lh (R.st (R.st bC e1 d4.ins) jB jf.ins)⟩;show nR y (ab.drop bI)=_;rw[Yw,Uw,b8 rfl]
inductive BC (P:Program) (w:World) (K:aJ) (mg:Str->cn) (base:Heap) (C aF:Addr) (k:Nat) (vs:br) (H:ap) (Q:bz) (E:cJ):Prop
 |mk (bo:cq bL) r n aA ab p m f x:vs=[.ref r,.ref f]->bT K C H r n aA ab p (12 - m)->p<=ab.length->jv P w K mg base f x k (ea K C aF m (el K) bo)->(∀x av v Z,tU bo (ab.drop p)=some (x,ab.drop av)->p<=av->av<=ab.length->bD r H Z->bT K C Z r n aA ab av (12 - m)->(wy K).R x Z v->Q v Z)->(tU bo (ab.drop p)=none->Out aF r n H E)->BC P w K mg base C aF k vs H Q E
def MS:cE Ai oz (bF yt):=dm
inductive FU (K:aJ) (C:Addr) (H:ap) (r f f4:Addr) (n:Nat) (aA:Addr) (ab:List bJ) (p b:Nat) (bo:cq bL) (m:Nat) (aa:L2.St) (Z:ap):Prop
 |mk av Ts vs k:aa=[some (.ref r),some (.ref f),some (.ref f4)]->m=ab.length - av->p<=av->av<=ab.length->bD r H Z->bT K C Z r n aA ab av b->Z f4=some (.lst vs)->bB K Z (Ts.map k5) vs->(∀T∈Ts,oX T)->Ts.length+p<=av+1->ab.length - av<=k->tU bo (ab.drop p)=jN bo k Ts (ab.drop av)->FU K C H r f f4 n aA ab p b bo m aa Z
def Uy {bo:cq bL} {k Ts ab}(h:ab.head?≠some nQ):jN bo k Ts ab=some (Ts,ab):=by
 cases k with
 |zero=>rfl
 |succ k=>unfold jN;rw[bP h]
def Uz (g:f9 K mg) (c:iI K C) (F:b5 K "parted" "parted" yt f as) (jR:hh P w K mg base "skips" C lr 2 (ud K C)) (k:Nat) (aU:3<=k):bK P w K mg base (bQ P w) (k+1) f as oz (BC P w K mg base C aF k):=by
 refine F.fl MS (λvs H Q E h=>?_) (λbk A outer s H vs Q E al h=>?_)
 ·obtain⟨_,_,_,_,_,_,_,_,_,rfl,_⟩:=h;rfl
 obtain⟨bo,r,n,aA,ab,p,m,df,x,rfl,ay,ar,bl,aZ,bn⟩:=h;have bN:ff (bQ P w) (fj (bQ P w) P w K mg base Ai "parted" (bF yt) f bk A outer s H E) E:=f6 λ_ _ _ h=>h;refine⟨_,(aX (ct 2 MS.bp (eL (bx (wm 1 bN (bx (ah 0)))))) (aX (nK rX (hD (iH bN jR (ah 0) (bx (ii g.TP)))) (a9 (gQ (hb pC pB qG oK (ah 2) (bx (wm 1 bN (bx (ah 0)))))))) (a9 (bE (ah 2))))),?main⟩
 case main=>
  refine⟨df,x,_,I,bl.mono (by omega),_,I,r,n,aA,ab,p,I,ay,ar,λy aS v ai am cm et b2 cu bC=>⟨ki,λf4 sX=>?_⟩,λam=>?_⟩
  rotate_left
  ·exact bn (by unfold tU;rw[am];rfl)
  have lX:∀{Z:ap},bD r H Z->Z f4=none->H f4=none:=λ{Z} b h=>by
   cases e:H f4 with
   |none=>rfl
   |some o=>
    by_cases z:f4=r
    ·obtain⟨_,_,_,a⟩:=cu.ins;rw[z,a] at sX;cases sX
    ·rw[b2 f4 o z e] at sX;cases sX
  have iv:f4≠r:=λz=>by obtain⟨_,_,_,a⟩:=cu.ins;rw[z,a] at sX;cases sX
  have OU:=lX b2 sX;refine dz sX λaB aN fJ=>?_;refine⟨FU K C H r df f4 n aA ab p (12 - m) bo,⟨_,aS,[y],[v],(ab.drop aS).length,I,I,cm,et,b2.trans (.of aN),cu.same aN,fJ,bB.jS (dB aN bC.1),λT de=>?_,?_,by rw[j6];exact bf _,?_⟩,?_⟩
  ·rw[kv.mp de];exact bC.2
  ·show 1+p<=aS+1;omega
  ·unfold tU;rw[am];rfl
  rintro jg aa a7 ⟨bI,Ts,vs,cL,rfl,rfl,gs,mN,eu,d4,fK,jy,eQ,g4,eS,bq⟩;refine⟨_,I,d4.gm λsW pi=>⟨r,n,aA,ab,bI,_,sW,some nQ,I,d4,pi a7,sx,λbX b1 e1 jf=>⟨_,I,?_⟩,λbX=>⟨_,I,?_⟩⟩⟩
  rotate_left
  ·refine dr ⟨_,I,aZ Ts bI _ a7 ?_ gs mN eu d4 ⟨f4,I,⟨vs,fK,jy⟩,eQ,?_⟩⟩
   ·rw[bq];exact Uy (by rw[m8];exact bX)
   ·obtain⟨_,_,_,_,b7⟩:=d4;omega
  obtain⟨eP,cM⟩:=drop_cons bX;obtain⟨cL,rfl⟩:∃j,cL=j+1:=⟨cL - 1,by omega⟩;have dG:jN bo (cL+1) Ts (ab.drop bI)=(bo (ab.drop (bI+1))).bind λy=>jN bo cL (Ts++[y.1]) y.2:=by
   show(if(ab.drop bI).head?=some nQ then _ else _)=_;rw[b8 (by rw[m8];exact bX),eP];rfl
  rw[dG] at bq;have ng:b1 f4=some (.lst vs):=e1 _ _ iv fK;have ln:=jQ (d4.dQ e1) jy;refine fz ⟨λσ' Z=>∃c8,c8 < ab.length - bI/\FU K C H r df f4 n aA ab p (12 - m) bo c8 σ' Z,λσ' Z z=>z,_,I,.inl ⟨I,_,bg.of ng⟩,df,x,_,I,bl.mono (by omega),_,I,r,n,aA,ab,bI+1,I,jf,cM,λy eT v dS dG ix sV jB lh bC=>?_,λdG=>?_⟩
  rotate_left
  ·exact(bn (by rw[bq,dG];rfl)).mono (eu.trans e1)
  have jd:dS f4=some (.lst vs):=jB _ _ iv ng;have ni:=jQ (jf.dQ jB) ln;have Ib:=(eu.trans e1).trans jB;have rr:vs.length=Ts.length:=by rw[jy.len,eV]
  have lY:ab.length<=5000:=by obtain⟨_,_,_,_,b7⟩:=d4;exact b7
  refine⟨f4,vs,v,I,I,jd,by rw[rr,jH];omega,ab.length - eT,by omega,?_⟩;have Yx:bD r H (upd dS f4 (.lst (vs++[v]))):=λq o aD e=>by
   rw[cj (d9 e OU)];exact Ib q o aD e
  have dQ:=nV (ys:=vs++[v]) jd;refine⟨eT,Ts++[y],vs++[v],cL,I,I,by omega,sV,Yx,?_,b',?_,λT de=>?_,?_,by omega,?_⟩
  ·obtain⟨ao,ag,⟨w8,ae,aW⟩,bm,b7⟩:=lh;have au:aA≠f4:=λz=>by
    obtain⟨_,_,⟨ac2,g2,_⟩,_⟩:=ay;rw[z,OU] at g2;cases g2
   exact⟨ao,by rw[cj (λz=>iv z.symm)];exact ag,⟨w8,by rw[cj au];exact ae,jQ dQ aW⟩,bm,b7⟩
  ·rw[vx];exact bB.append (jQ dQ ni) (bB.jS (fE dQ bC.1))
  ·rcases th.mp de with h|h
   ·exact eQ T h
   ·rw[kv.mp h];exact bC.2
  ·rw[cy];show Ts.length+1+p<=eT+1;omega
  ·rw[bq,dG];rfl
end
def sy:List (Str×D):=[("True",.tup [.str "truth",.aM true]),("False",.tup [.str "truth",.aM false]),("None",.tup [.str "none"])]
def UA (K:aJ) (aj:Array DictEntry) (z:Str):Option D->Prop
 |none=>findBy Value.isStrOf aj z=none
 |some d=>∃u,findBy Value.isStrOf aj z=some (.ref u)/\∀H,At K H d (.ref u)
def TvG (w:World) (K:aJ) (mg:Str->cn):Prop:=∃a aj n,mg "TOLD_VALUES"=some (.ref a)/\(a == sysModules)=false/\K.lookup a=some ⟨.type "dict",none,.dict aj n,#[]⟩/\(∀e∈aj,∃x t,e.key=.str x t/\e.hash=PyData.keyHash w.params x)/\∀z,UA K aj z (sy.lookup z)
inductive FV (y:V) (H:ap) (Q:bz):Prop
 |mk z:y=.str z->Q (.aM (sy.lookup z).isSome) H->FV y H Q
inductive MT (K:aJ) (y:V) (H:ap) (Q:bz):Prop
 |mk z d:y=.str z->sy.lookup z=some d->(∀v,At K H d v->Q v H)->MT K y H Q
section
variable {X:a8}{i:Expr}{ty:TE}{p pos:Pos}
def MU {ac aa H s a aj n}(J:Inv X ac aa H s) (au:X.K.lookup a=some ⟨.type "dict",none,.dict aj n,#[]⟩) (aU:∀e∈aj,∃x t,e.key=.str x t/\e.hash=PyData.keyHash X.w.params x):s.heap.MapOf (strKind X.prog X.w) a (findBy (strKind X.prog X.w).is aj):=by
 refine⟨_,aj,n,J.ep _ _ au,⟨I,I,I⟩,I,λe he=>?_,λk=>I⟩;obtain⟨x,t,am,aE⟩:=aU e he;exact⟨x,by rw[am];exact strKind_is ..,aE⟩
def UB (B:TvG X.w X.K X.mg) (aR:LE X i ty) (a1:autoParam (eH X "TOLD_VALUES") dl):LT X (.Compare i [.In] [.Name "TOLD_VALUES" p] pos) (AN (λaa H Q=>ty aa H λy ai=>FV y ai Q)):=by
 obtain⟨a,aj,n,aQ,ax,au,aU,bl⟩:=B;refine .mk (L2.Qp (t:=λaa H Q=>ty aa H λy ai=>FV y ai Q) (λac s aa H Q J h=>?_));refine bW (aR.out ac s aa H _ J h) λlb az ⟨y,ai,a6,bj,z,c1,q⟩=>?_;subst c1;obtain⟨t,rfl⟩:=bj;have he:bU X (.Name "TOLD_VALUES" p) (jm (.ref a)):=L2.iY a1 aQ rfl;refine bW (he ac az aa ai (λx aB=>x=.ref a/\aB=ai) a6 ⟨I,I⟩) λu aN ⟨x,aB,ci,a0,ex,u1⟩=>?_;subst ex u1;obtain rfl:u=Value.ref a:=a0;refine wpAny_in_of (strKind_is ..) ax (MU ci au aU) ⟨.aM _,aB,ci.tok _,I,?_⟩;have ag:=bl z;cases e:sy.lookup z with
 |none=>
  rw[e] at ag q;have ae:findBy (strKind X.prog X.w).is aj z=none:=ag;rw[ae];exact q
 |some d=>
  rw[e] at ag q;obtain⟨u,ag,_⟩:=ag;have ae:findBy (strKind X.prog X.w).is aj z=some (.ref u):=ag;rw[ae];exact q
def UC (B:TvG X.w X.K X.mg) (aR:LE X i ty) (a1:autoParam (eH X "TOLD_VALUES") dl) (ax:Mh i:=by exact λ_ _=>I):LE X (.Subscript (.Name "TOLD_VALUES" p) i pos) (λaa H Q=>ty aa H λy ai=>MT X.K y ai Q):=by
 obtain⟨a,aj,n,aQ,_,au,aU,bl⟩:=B;refine .mk λac s aa H Q J h=>?_;have he:bU X (.Name "TOLD_VALUES" p) (jm (.ref a)):=L2.iY a1 aQ rfl;refine SY PySem.F.slot_dict_getitem.lookup ax (bW (he ac s aa H (λx ai=>x=.ref a/\ai=H) J ⟨I,I⟩) λu az ⟨x,ai,a6,a0,ex,u1⟩=>?_);subst ex u1;obtain rfl:u=Value.ref a:=a0;refine bW (aR.out ac az aa ai _ a6 h) λlb aN ⟨y,aB,ci,bj,z,d,c1,hd,q⟩=>?_;subst c1;obtain⟨t,rfl⟩:=bj;have ag:=bl z;rw[hd] at ag;obtain⟨u,bY,ei⟩:=ag;have M:=MU ci au aU;exact⟨M.typeIs,wpAny_getItem_of (strKind_is ..) M bY ⟨.ref u,aB,ci.tok _,I,q _ (ei _)⟩⟩
end
section
variable {K:aJ}{P:Program}{w:World}{mg:Str->cn}{base:Heap}{f:Addr}{as:FuncData}{C aF SB:Addr}
def UD:cE cD cD (bF yv):=dm
def UE {bo:cq bL}{m qn:Nat}{hy:Addr}(g:f9 K mg) (F:b5 K "perhaps_parted" "perhaps_parted" yv f as) (nj:nW P w K mg base "seen" C mP 1 (oW K C)) (sY:mg "read_or"=some (.ref hy)) (pb:jv P w K mg base hy "row" qn (ea K C aF m (el K) bo)) (jc:dv P w K mg base "parted" oz (qn+1) (BC P w K mg base C aF qn)):bK P w K mg base (bQ P w) (qn+2) f as cD (ea K C aF m (wy K) (oO bo)):=by
 refine F.fl UD (λvs H Q E h=>?_) (λbk A outer s H vs Q E al h=>?_)
 ·obtain⟨_,_,_,_,_,rfl,_⟩:=h;rfl
 obtain⟨r,n,aA,ab,p,rfl,ay,ar,aZ,bn⟩:=h;have bN:ff (bQ P w) (fj (bQ P w) P w K mg base cD "perhaps_parted" (bF yv) f bk A outer s H E) E:=f6 λ_ _ _ h=>h;refine⟨_,(a9 (bE (mY (c3 (A7 al) (oV bN nj (ah 0)) (ii g.FL)) (eL dc) (f7 bN jc (c6 (ah 0) (bc.iY (v:=.ref hy) I sY I)))))),?_⟩;refine⟨_,I,ay.gm ⟨r,n,aA,ab,p,_,0,p,I,ay,by omega,λv aK=>?_⟩⟩;refine λsW pi=>⟨_,_,aK,pi H,ww _,_,I,?_⟩;rw[yq rfl];unfold oO at aZ bn;rw[m8] at aZ bn;refine nU (λe=>?_) λe=>?_
 ·rw[b8 e] at aZ;exact⟨kh,λl au=>dz au λai az c5=>aZ [] p _ ai I (bf _) ar (.of az) (ay.same az) ⟨l,I,⟨[],c5,f5.mpr I⟩,(λT de=>by cases de),fN _⟩⟩
 ·rw[bP e] at aZ bn;exact⟨_,I,bo,r,n,aA,ab,p,m,hy,"row",I,ay,ar,pb,aZ,bn⟩
inductive BD (K:aJ) (C aF:Addr) (m:Nat) (bo:cq bL) (vs:br) (H:ap) (Q:bz) (E:cJ):Prop
 |mk r n aA ab p (most:Nat):vs=[.ref r,.int (most:Nat)]->bT K C H r n aA ab p (12 - m)->p<=ab.length->(∀x av v Z,tV m most bo (ab.drop p)=some (x,ab.drop av)->p < av->av<=ab.length->bD r H Z->bT K C Z r n aA ab av (12 - m)->(wy K).R x Z v->x.length<=most->Q v Z)->(tV m most bo (ab.drop p)=none->Out aF r n H E)->BD K C aF m bo vs H Q E
def MV:cE ["row","most","found"] xA (bF yw):=dm
def UG {bo:cq bL}{m k:Nat}{fp:Addr}(g:f9 K mg) (c:iI K C) (F:b5 K "values_in_brackets" "values_in_brackets" yw f as) (gL:mw P w K mg base "BadText" aF SB ls 1 (mx K aF)) (aQ:m<=12) (sZ:mg "perhaps_parted"=some (.ref fp)) (gp:m≠0->jv P w K mg base fp "row" k (ea K C aF (m - 1) (wy K) (oO bo))) (qo:dv P w K mg base "in_brackets" oz (k+1) (yA P w K mg base C aF k)) (aU:3<=k):bK P w K mg base (bQ P w) (k+2) f as xA (BD K C aF m bo):=by
 refine F.fl MV (λvs H Q E h=>?_) (λbk A outer s H vs Q E al h=>?_)
 ·obtain⟨_,_,_,_,_,_,rfl,_⟩:=h;rfl
 obtain⟨r,n,aA,ab,p,most,rfl,ay,ar,aZ,bn⟩:=h;have bN:ff (bQ P w) (fj (bQ P w) P w K mg base ["row","most","found"] "values_in_brackets" (bF yw) f bk A outer s H E) E:=f6 λ_ _ _ h=>h;refine⟨_,(aX (ct 2 MV.bp (f7 bN qo (c6 (ah 0) (bc.iY (v:=.ref fp) I sZ I)))) (aX (ck (c3 kd (e7 r' I g.g2.g.jp sr (bx (ah 2))) (ah 1)) (a9 (wt wj gL (bc.eZ (ah 0)))) cA) (a9 (bE (ah 2))))),?_⟩;refine⟨_,I,_,wy K,oO bo,r,n,aA,ab,p,m,fp,"row",I,ay,aQ,ar,gp,λx av v ai am cm et b2 cu bC=>?_,λam=>?_⟩
 rotate_left
 ·exact bn (by unfold tV;rw[am];rfl)
 obtain⟨l,rfl,⟨dP,c5,cG⟩,ok,ak⟩:=id bC;have dT:dP.length=x.length:=by rw[cG.len,eV]
 have fd:tV m most bo (ab.drop p)=if most < x.length then none else some (x,ab.drop av):=by unfold tV;rw[am];rfl
 rw[fd] at aZ bn;refine⟨_,I,l,dP,I,.inl (bg.of c5),_,I,_,_,I,I,_,I,?_⟩;dsimp only;refine nU (λh=>?_) λh=>?_
 ·exact⟨_,I,cu.bad c (bn (b8 (by omega))) b2⟩
 ·exact⟨_,I,aZ x av _ ai (bP (by omega)) cm et b2 cu bC (by omega)⟩
abbrev yB:Stmt:=top 27
abbrev yC:Stmt:=top 28
abbrev yD:Stmt:=top 29
def UH {m i} (w r):m6 m i (w::r)=if w=dt then mv m i (w::r) else(jt w).bind λd=>(dX d []).map λt=>(t,r):=rfl
def p3:br:=[.str "number",.str "text",.str "name"]
def UI {o:Option bJ}:(∃w,o=some w/\jt w=some (dK w)/\e8 (.str (ez w)) p3=true)\/(∃l,o=some (.ee l))\/(∃k v,gS o=.tup [.str k,v]/\e8 (.str k) p3=false/\k≠"told"/\∀w,o=some w->jt w=none):=by
 cases o with
 |none=>exact .inr (.inr ⟨_,_,I,by decide +kernel,by decide +kernel,λw h=>by cases h⟩)
 |some w=>
  cases w with
  |name l=>exact .inl ⟨_,I,I,(by decide +kernel:e8 (.str "name") p3=true)⟩
  |num l=>exact .inl ⟨_,I,I,(by decide +kernel:e8 (.str "number") p3=true)⟩
  |text l=>exact .inl ⟨_,I,I,(by decide +kernel:e8 (.str "text") p3=true)⟩
  |ee l=>exact .inr (.inl ⟨l,I⟩)
  |mark l=>exact .inr (.inr ⟨_,_,I,(by decide +kernel:e8 (.str "mark") p3=false),(by decide +kernel:("mark":Str)≠"told"),λw h=>by cases h;rfl⟩)
def MW (l:bh):sy.lookup (S l)=jt (.ee l):=by
 have e:∀a:bh,(S l == S a)=(l == a):=λa=>pR l a;have ag:(S l == ("True":Str))=(l == [84,114,117,101]):=e [84,114,117,101];have ae:(S l == ("False":Str))=(l == [70,97,108,115,101]):=e [70,97,108,115,101];have aW:(S l == ("None":Str))=(l == [78,111,110,101]):=e [78,111,110,101];have f':jt (.ee l)=if l=[84,114,117,101] then some (.tup [.str "truth",.aM true]) else if l=[70,97,108,115,101] then some (.tup [.str "truth",.aM false]) else if l=[78,111,110,101] then some (.tup [.str "none"]) else none:=rfl
 rw[f'];unfold sy;rw[h9,ag,h9,ae,h9,aW];by_cases hK:l=[84,114,117,101]
 ·subst hK;rfl
 rw[bP hK,h8.mpr hK];by_cases cW:l=[70,97,108,115,101]
 ·subst cW;rfl
 rw[bP cW,h8.mpr cW];by_cases oh:l=[78,111,110,101]
 ·subst oh;rfl
 rw[bP oh,h8.mpr oh];rfl
def MX:cE nx cD (bF yB):=dm
def UJ {bo:cq bL}{m qn:Nat}{hy:Addr}(g:f9 K mg) (B:TvG w K mg) (c:iI K C) (F:b5 K "read_single" "read_single" yB f as) (gL:mw P w K mg base "BadText" aF SB ls 1 (mx K aF)) (nj:nW P w K mg base "seen" C mP 1 (oW K C)) (lm:hh P w K mg base "taken" C h7 2 (wx K C)) (iw:dv P w K mg base "sized" qy 3 (rb K C aF)) (aQ:m<=12) (sY:mg "read_or"=some (.ref hy)) (pb:m≠0->jv P w K mg base hy "row" qn (ea K C aF (m - 1) (el K) bo)) (qo:dv P w K mg base "in_brackets" oz (qn+1) (yA P w K mg base C aF qn)) (aU:3<=qn):bK P w K mg base (bQ P w) (qn+2) f as cD (ea K C aF m (el K) (m6 m bo)):=by
 refine F.fl MX (λvs H Q E h=>?_) (λbk A outer s H vs Q E al h=>?_)
 ·obtain⟨_,_,_,_,_,rfl,_⟩:=h;rfl
 obtain⟨r,n,aA,ab,p,rfl,ay,ar,aZ,bn⟩:=h;have bN:ff (bQ P w) (fj (bQ P w) P w K mg base nx "read_single" (bF yB) f bk A outer s H E) E:=f6 λ_ _ _ h=>h;refine⟨_,(aX (ct 1 MX.bp (oV bN nj (ah 0))) (aX (ck (c3 (A7 al) (ah 1) (ii g.FK)) (a9 (bE (f7 bN qo (c6 (ah 0) (bc.iY (v:=.ref hy) I sY I))))) cA) (aX (gQ (q' bN lm (ah 0))) (aX (ck (ey ms (ef (ah 1)) (cP (fb aV aV aV)) I) (a9 (bE (f7 bN iw (fb (ah 0) (ah 1) (eL dc))))) cA) (aX (ck (gy.pt (kb (c3 eY (ef (ah 1)) aV) (kz (UB B (ef (ah 1)))))) (a9 (bE (f7 bN iw (fb (ah 0) (UC B (ef (ah 1))) (eL dc))))) cA) (a9 (wt wj gL (bc.eZ (ah 0))))))))),?main⟩
 case main=>
  refine⟨_,I,ay.gm ⟨r,n,aA,ab,p,_,0,p,I,ay,by omega,λv aK=>?_⟩⟩;refine⟨_,I,λsW pi=>⟨_,_,aK,pi H,ww _,_,I,?_⟩⟩;rw[yq rfl];refine nU (λe=>?_) λe=>?_
  ·obtain⟨eP,cM⟩:=drop_cons e;have aj:m6 m bo (ab.drop p)=mv m bo (ab.drop p):=by rw[eP,UH,b8 rfl]
   rw[aj] at aZ bn;exact⟨_,I,_,el K,bo,r,n,aA,ab,p,m,hy,"row",I,ay,aQ,ar,pb,λx av v Z e h=>aZ x av v Z e (xB h),bn⟩
  have Yy:m6 m bo (ab.drop p)=(match ab[p]? with|none=>none|some w=>(jt w).bind λd=>some ((d,1,1),ab.drop (p+1))):=by
   cases aE:ab[p]? with
   |none=>rw[yz aE];rfl
   |some w=>
    rw[(drop_cons aE).1];show(if w=dt then _ else _)=_;rw[bP λz=>e (by rw[aE,z])];rfl
  rw[Yy] at aZ bn;refine⟨_,I,ay.gm ⟨r,n,aA,ab,p,_,I,ay,λj1 ai b2 cu fo=>?_⟩⟩;have ry:=fE (ay.dQ b2) aK;have leaf:∀(w:bJ) (d:D) (y:V) (aB:ap),ab[p]?=some w->jt w=some d->ba ai aB->At K aB d y->∀l a7,aB l=none->ba aB a7->a7 l=some (.lst [])->rb K C aF [.ref r,y,.ref l] a7 Q E:=λw d y aB fH eP aN aT l a7 au a2 fK=>by
   rw[fH] at aZ bn;have aj:dX d []=some (d,1,1):=rfl;refine⟨r,n,aA,ab,p+1,_,y,d,l,[],I,(cu.same aN).same a2,dB a2 aT,⟨[],fK,f5.mpr I⟩,fN _,fN _,fN _,λT gl b1 iS dp de=>?_,λh=>by rw[aj] at h;cases h⟩;rw[aj] at iS;cases iS;have cM:=(drop_cons fH).2;exact aZ (d,1,1) (p+1) gl b1 (by show(jt w).bind _=_;rw[eP];rfl) (by omega) cM (b2.trans (.of ((aN.trans a2).trans dp))) (((cu.same aN).same a2).same dp) ⟨de,show 1<=12/\1<=60 from⟨by decide,by decide⟩⟩
  rcases UI (o:=ab[p]?) with ⟨w,fH,ag,ae⟩|⟨l,fH⟩|⟨k,H5,ag,ae,aW,bm⟩
  ·rw[fH] at ry;refine⟨_,I,0,_,_,I,ry,I,fm ⟨lO,λaS cm=>dz cm λaB aN fJ=>⟨aS,_,I,.inr (dI.of fJ),I,I,_,I,?_⟩⟩⟩;show if(e8 (.str (ez w)) p3)=true then _ else _
   rw[ae];exact fz ⟨_,I,_,I,kh,λl au=>dz au λa7 a2 fK=>leaf w _ _ aB fH ag aN (dB aN ry) l a7 au a2 fK⟩
  ·rw[fH] at ry;refine⟨_,I,0,_,_,I,ry,I,fm ⟨lO,λaS cm=>dz cm λaB aN fJ=>⟨aS,_,I,.inr (dI.of fJ),I,I,_,I,?_⟩⟩⟩;show if(e8 (.str "told") p3)=true then _ else _
   rw[show e8 (.str "told") p3=false by decide +kernel];have ko:=dB aN ry;refine dr ⟨_,I,0,_,_,I,ko,I,fm ⟨I,_,I,?_⟩⟩;rw[fv (show V.str (ez (.ee l))=V.str "told" from I)];refine fz ⟨_,I,1,_,_,I,ko,I,fm ⟨S l,I,_,I,?_⟩⟩;rw[MW];cases eP:jt (.ee l) with
   |none=>exact dr ⟨_,I,(cu.same aN).bad c (bn (by rw[fH];show(jt (.ee l)).bind _=none;rw[eP];rfl)) (b2.trans (.of aN))⟩
   |some d=>exact fz ⟨_,I,_,I,1,_,_,I,ko,I,fm ⟨S l,d,I,by rw[MW,eP],λy aT=>⟨kh,λpf au=>dz au λa7 a2 fK=>leaf _ d _ aB fH eP aN aT pf a7 au a2 fK⟩⟩⟩
  ·rw[ag] at ry;refine⟨_,I,0,_,_,I,ry,I,fm ⟨lO,λaS cm=>dz cm λaB aN fJ=>⟨aS,_,I,.inr (dI.of fJ),I,I,_,I,?_⟩⟩⟩;show if(e8 (.str k) p3)=true then _ else _
   rw[ae];have ko:=dB aN ry;refine dr ⟨_,I,0,_,_,I,ko,I,fm ⟨I,_,I,?_⟩⟩;rw[ew (show ¬V.str k=V.str "told" from λz=>aW (V.str.inj z))];refine dr ⟨_,I,(cu.same aN).bad c (bn ?_) (b2.trans (.of aN))⟩;cases fH:ab[p]? with
   |none=>rfl
   |some w=>show(jt w).bind _=none;rw[bm w fH];rfl
inductive BE (K:aJ) (C aF:Addr) (m:Nat) (bo:cq bL) (vs:br) (H:ap) (Q:bz) (E:cJ):Prop
 |mk r n aA ab p dP (L:bL):vs=[.ref r,dP]->bT K C H r n aA ab p (12 - m)->p<=ab.length->At K H (k5 L) dP->oX L->(∀x av v Z,oP m bo L (ab.drop p)=some (x,ab.drop av)->p < av->av<=ab.length->bD r H Z->bT K C Z r n aA ab av (12 - m)->(el K).R x Z v->Q v Z)->(oP m bo L (ab.drop p)=none->Out aF r n H E)->BE K C aF m bo vs H Q E
def MY:cE ["row","left","found"] qz (bF yC):=dm
def UK (Ts:List bL) (j:Nat) (c':j < 3):∀d∈Ts.map k5,∃aj e,d=.tup aj/\aj[j]?=some e:=λd hd=>by
 obtain⟨T,_,rfl⟩:=mU.mp hd;exact⟨_,_,I,iB (show j < [T.1,D.int (T.2.1:Nat),D.int (T.2.2:Nat)].length from c')⟩
def UL {bo:cq bL}{m k:Nat}(g:f9 K mg) (F:b5 K "read_call" "read_call" yC f as) (iw:dv P w K mg base "sized" qy 3 (rb K C aF)) (kJ:dv P w K mg base "values_in_brackets" xA k (BD K C aF m bo)) (aU:3<=k):bK P w K mg base (bQ P w) (k+1) f as qz (BE K C aF m bo):=by
 refine F.fl MY (λvs H Q E h=>?_) (λbk A outer s H vs Q E al h=>?_)
 ·obtain⟨_,_,_,_,_,_,_,rfl,_⟩:=h;rfl
 obtain⟨r,n,aA,ab,p,dP,L,rfl,ay,ar,dC,m0,aZ,bn⟩:=h;have bN:ff (bQ P w) (fj (bQ P w) P w K mg base ["row","left","found"] "read_call" (bF yC) f bk A outer s H E) E:=f6 λ_ _ _ h=>h;refine⟨_,(aX (ct 2 MY.bp (f7 bN kJ (c6 (ah 0) (bc.lJ I g.T3)))) (a9 (bE (f7 bN iw (fb (ah 0) (cP (fb aV (ef (ah 1)) (ke x8 I g.sv su (bx (.mk (L2.t8 (cl:=[]) (Xs:=["value"]) (Nf:=[]) (js:=[]) ?cB I (jM.out (pO (ah 2))) (λC s0 aI fp=>jq.out (h1 0 (show(["value"]:dH).Nodup by decide +kernel))) (λC s0 aI fp=>so) (λC s0 aI fp=>LE.out (gj (r:=ub K) Bo (ah 0) aO (λ_ _=>I))))))))) (a5 EB (eL (bx (ah 1))) (ah 2))))))),?main⟩
 case cB=>exact Bp
 case main=>
  refine⟨_,I,r,n,aA,ab,p,4,I,ay,ar,λTs aS v ai am cm et b2 cu bC bm=>?_,λam=>?_⟩
  rotate_left
  ·exact bn (by unfold oP;rw[am];rfl)
  obtain⟨l,rfl,⟨vs,c5,cG⟩,ok,_⟩:=bC;have ol:=fE (ay.dQ b2) dC;have h4:oP m bo L (ab.drop p)=(dX (.tup [.str "call",L.1,.tup (Ts.map (·.1))]) (L::Ts)).map λt=>(t,ab.drop aS):=by unfold oP;rw[am];rfl
  rw[h4] at aZ bn;refine⟨_,I,_,I,0,_,_,I,ol,I,λIc u3=>?_⟩;refine⟨_,I,l,I,⟨_,bg.of c5⟩,FQ (j:=0) (bg.of c5) cG (by rw[eV];omega) (UK Ts 0 dU) λbM aB ed aN hQ=>?_⟩;obtain⟨hT,fJ,cY⟩:=hQ;rw[show(Ts.map k5).map (ra 0)=Ts.map (·.1) by rw[kS];rfl] at cY;refine⟨bM,hT,I,.inl ⟨bg.of fJ,λbI gs=>dz gs λa7 a2 fK=>⟨lO,λkt kL=>dz kL λb1 dp ng=>?_⟩⟩⟩;have OV:=aN.trans a2;have OW:=OV.trans dp;have Yz:At K b1 (.tup [.str "call",L.1,.tup (Ts.map (·.1))]) (.ref kt):=iG dp ng (my (cz.mpr I) (dB OV u3) (iG a2 fK cY));refine⟨_,I,ki,λeT ix=>dz ix λdS dq jd=>⟨_,I,?_⟩⟩;have OX:=OW.trans dq;have dT:vs.length=Ts.length:=by rw[cG.len,eV]
  refine⟨eT,l,_,_,I,I,jd,OX _ _ c5,?_,λlp w'=>dz w' λgV na Ie=>?_⟩
  ·show [_].length+vs.length<=_;rw[dT,jH];show 1+Ts.length<=_;omega
  have xa:=OX.trans na;have YA:∀T∈L::Ts,oX T:=λT de=>by
   rcases gZ.mp de with rfl|h
   ·exact m0
   ·exact ok T h
  obtain⟨kp,gq⟩:=yy YA;rw[en] at kp;refine⟨r,n,aA,ab,aS,_,_,_,lp,L::Ts,I,cu.same xa,dB (dq.trans na) Yz,⟨_,Ie,?_⟩,by rw[en];omega,by omega,by omega,λT gl fV iS iM de=>?_,λiS=>?_⟩
  ·rw[kR];exact fQ.mpr ⟨_,_,I,dB xa ol,oU xa cG⟩
  ·exact aZ T aS gl fV (by rw[iS];rfl) cm et (b2.trans (.of (xa.trans iM))) (cu.same (xa.trans iM)) ⟨de,dX.ok iS⟩
  ·exact(bn (by rw[iS];rfl)).mono (b2.trans (.of xa))
end
mutual
theorem MZ:∀a b,cx a b=cx b a
 |.a3,b=>by cases b<;>simp[cx]
 |.aM a,b=>by
  cases b with
  |aM c=>simp only[cx];cases a<;>cases c<;>rfl
  |int c=>simp only[cx];exact AF
  |_=>simp[cx]
 |.int a,b=>by
  cases b with
  |aM c=>simp only[cx];exact AF
  |int c=>simp only[cx];exact AF
  |_=>simp[cx]
 |.str a,b=>by
  cases b with
  |str c=>simp only[cx];exact AF
  |_=>simp[cx]
 |.tup xs,b=>by
  cases b with
  |tup ys=>simp only[cx];exact M0 xs ys
  |_=>simp[cx]
theorem M0:∀a b,iE a b=iE b a
 |[],b=>by cases b<;>simp[iE]
 |x::xs,b=>by
  cases b with
  |nil=>simp[iE]
  |cons y ys=>simp only[iE];rw[MZ x y,M0 xs ys]
end
def BF {X:a8} {k}(al:dj k X.A):eX X (compareOp .In) (LD X false):=by
 intro ac s aa H x y v u Q J a0 bj h;obtain⟨d,ds,ak,aT,hd,q⟩:=h;obtain⟨p,xs,rfl,aD,aq⟩:=eI.mp aT;cases bj;obtain⟨aL,r,pl,hz⟩:=J.tuple aD;obtain⟨f,f1,f2⟩:=Sp J a0 ak aq r X.A.in1 (λe he=>by have:=al.units;have:=hd e he;show X.A.units+1+_ < _;omega);refine SeqAt.in_tupleAt f pl (λw ay=>f1 w (by simpa using ay)) ⟨.aM _,H,J,I,?_⟩;rw[show aL.toArray.any f=aL.any f by simp,f2];exact q
def BG {sg:List bJ}(h:∀w∈sg,p2 w=true) (o:Option bJ):((sg.map dK).any λe=>cx e (gS o))=o.any (sg.contains ·):=by
 rw[List.any_map];have e:∀w∈sg,((λe=>cx e (gS o))∘dK) w=decide (o=some w):=λw ay=>by
  show cx (dK w) (gS o)=_;rw[MZ];exact yq (h w ay)
 rw[mR,tg];constructor
 ·rintro⟨w,ay,ae⟩;rw[e w ay] at ae;rw[gP ae];exact vB.mpr ay
 ·intro ae;cases o with
  |none=>cases ae
  |some w=>
   have ay:w∈sg:=vB.mp ae;exact⟨w,ay,by rw[e w ay];exact fv I⟩
def BH (sg:List bJ):∀e∈sg.map dK,c2 e<=60:=λe he=>by
 obtain⟨w,_,rfl⟩:=mU.mp he;exact ww (some w)
def UM {m}{bo:cq bL} {k L ab}(h:ab.head?≠some gE) (ae:ab.head?≠some dt):hZ m bo k L ab=some (L,ab):=by
 cases k with
 |zero=>rfl
 |succ k=>unfold hZ;rw[bP h,bP ae]
def UN {L:bL}{ab:List bJ}(h:∀x,ab.head?≠some (.name x)):sh L ab=none:=by
 cases ab with
 |nil=>rfl
 |cons w r=>
  cases w with
  |name x=>exact absurd rfl (h x)
  |_=>rfl
section
variable {K:aJ}{P:Program}{w:World}{mg:Str->cn}{base:Heap}{f:Addr}{as:FuncData}{C aF SB:Addr}
inductive wz (K:aJ) (C:Addr) (H:ap) (r:Addr) (n:Nat) (aA:Addr) (ab:List bJ) (p b:Nat) (R:Option (bL×List bJ)) (G:Nat->bL->List bJ->Option (bL×List bJ)) (S:V->L2.St->Prop) (m:Nat) (aa:L2.St) (Z:ap):Prop
 |mk av (L:bL) dP k:S dP aa->m=ab.length - av->p<=av->av<=ab.length->bD r H Z->bT K C Z r n aA ab av b->At K Z (k5 L) dP->oX L->ab.length - av<=k->R=G k L (ab.drop av)->wz K C H r n aA ab p b R G S m aa Z
def BI:cE qz cD (bF yD):=dm
def UO {bo:cq bL}{m k:Nat}(g:f9 K mg) (F:b5 K "read_reach" "read_reach" yD f as) (nj:nW P w K mg base "seen" C mP 1 (oW K C)) (jR:hh P w K mg base "skips" C lr 2 (ud K C)) (iQ:hh P w K mg base "wants_name" C h7 3 (BA K C aF)) (iw:dv P w K mg base "sized" qy 3 (rb K C aF)) (jX:dv P w K mg base "read_single" cD k (ea K C aF m (el K) (m6 m bo))) (ma:dv P w K mg base "read_call" qz k (BE K C aF m bo)) (aU:3<=k):bK P w K mg base (bQ P w) (k+1) f as cD (ea K C aF m (el K) (pV m bo)):=by
 refine F.fl BI (λvs H Q E h=>?_) (λbk A outer s H vs Q E al h=>?_)
 ·obtain⟨_,_,_,_,_,rfl,_⟩:=h;rfl
 obtain⟨r,n,aA,ab,p,rfl,ay,ar,aZ,bn⟩:=h;have bN:ff (bQ P w) (fj (bQ P w) P w K mg base qz "read_reach" (bF yD) f bk A outer s H E) E:=f6 λ_ _ _ h=>h;refine⟨_,(aX (ct 1 BI.bp (f7 bN jX (bx (ah 0)))) (aX (nK rX (ey (BF al) (oV bN nj (ah 0)) (cP (c6 (ii g.MC) (ii g.FK))) I) (a9 (ck (hD (iH bN jR (ah 0) (bx (ii g.MC)))) (a9 (ct 1 BI.bp (f7 bN iw (fb (ah 0) (cP (fb aV (ef (ah 1)) (q' bN iQ (ah 0)))) (eL (bx (ah 1))))))) (a9 (ct 1 BI.bp (f7 bN ma (c6 (ah 0) (ah 1)))))))) (a9 (bE (ah 1))))),?main⟩
 case main=>
  refine⟨_,I,r,n,aA,ab,p,I,ay,ar,λL aS v ai am cm et b2 cu bC=>?_,λam=>?_⟩
  rotate_left
  ·exact bn (by unfold pV;rw[am];rfl)
  refine⟨wz K C H r n aA ab p (12 - m) (pV m bo (ab.drop p)) (hZ m bo) (λdP aa=>aa=[some (.ref r),some dP]),⟨_,aS,L,v,(ab.drop aS).length,I,I,cm,et,b2,cu,bC.1,bC.2,by rw[j6];exact bf _,?_⟩,?_⟩
  ·unfold pV;rw[am];rfl
  rintro jg aa a7 ⟨bI,L,dP,cL,rfl,rfl,gs,mN,eu,d4,dC,m0,eS,bq⟩;refine⟨_,I,d4.gm ⟨r,n,aA,ab,bI,_,0,bI,I,d4,by omega,λw5 zP=>?_⟩⟩;refine λnk YB ac3 YC=>⟨e',λpt YD=>dz YD λb1 dp ng=>⟨_,_,dB dp zP,iG dp ng (ht (YB a7) (YC a7)),BH [gE,dt],_,I,?_⟩⟩;rw[show(if false=true then !(([dK gE,dK dt]:d8).any λe=>cx e (gS ab[bI]?)) else([dK gE,dK dt]:d8).any λe=>cx e (gS ab[bI]?))=ab[bI]?.any ([gE,dt].contains ·) from BG (sg:=[gE,dt]) (λw ay=>by
   rcases gZ.mp ay with rfl|ay
   ·rfl
   ·rw[kv.mp ay];rfl) _]
  have jf:=d4.same dp;have e1:=eu.trans (.of dp);have Ig:=dB dp dC;have step:∀(T:bL) eT pj dS,bI < eT->eT<=ab.length->bD r b1 dS->bT K C dS r n aA ab eT (12 - m)->At K dS (k5 T) pj->oX T->(∀k,cL=k+1->hZ m bo cL L (ab.drop bI)=hZ m bo k T (ab.drop eT))->∃c8,c8 < ab.length - bI/\wz K C H r n aA ab p (12 - m) (pV m bo (ab.drop p)) (hZ m bo) (λdP aa=>aa=[some (.ref r),some dP]) c8 [some (.ref r),some pj] dS:=λT eT pj dS ag ae aW bm b7 dZ g9=>by
   obtain⟨k',rfl⟩:∃j,cL=j+1:=⟨cL - 1,by omega⟩;exact⟨ab.length - eT,by omega,eT,T,pj,k',I,I,by omega,ae,e1.trans aW,bm,b7,dZ,by omega,by rw[bq];exact g9 k' I⟩
  refine fR (λcX=>?_) λcX=>?_
  rotate_left
  ·have aP:∀w∈[gE,dt],(ab.drop bI).head?≠some w:=λw ay z=>by
    rw[m8] at z;rw[z] at cX;have:[gE,dt].contains w=true:=vB.mpr ay;have zQ:[gE,dt].contains w=false:=cX;rw[this] at zQ;cases zQ
   exact⟨_,I,aZ L bI _ b1 (by rw[bq];exact UM (aP _ jG) (aP _ (j4 _ jG))) gs mN e1 jf ⟨Ig,m0⟩⟩
  refine⟨λσ' Z=>∃c8,c8 < ab.length - bI/\wz K C H r n aA ab p (12 - m) (pV m bo (ab.drop p)) (hZ m bo) (λdP aa=>aa=[some (.ref r),some dP]) c8 σ' Z,λσ' Z z=>z,?_⟩;refine⟨_,I,jf.gm λYE YF=>⟨r,n,aA,ab,bI,_,YE,some gE,I,jf,YF b1,sx,λdG dS jB lh=>⟨_,I,?_⟩,λdG=>⟨_,I,?_⟩⟩⟩
  ·obtain⟨eP,cM⟩:=drop_cons dG;have OY:=fE (jf.dQ jB) Ig;have f':∀k,cL=k+1->hZ m bo cL L (ab.drop bI)=(sh L (ab.drop (bI+1))).bind λy=>hZ m bo k y.1 y.2:=λk aU=>by
    subst aU;show(if(ab.drop bI).head?=some gE then _ else _)=_;rw[b8 (by rw[m8];exact dG),eP];rfl
   obtain⟨k',Ih⟩:∃j,cL=j+1:=⟨cL - 1,by omega⟩;have Ii:=f' k' Ih;refine⟨_,I,_,I,0,_,_,I,OY,I,λIc u3=>⟨_,I,lh.gm ⟨r,n,aA,ab,bI+1,_,I,lh,λx ex gV mO rz=>⟨lO,λpk zR=>dz zR λfV iM rA=>⟨_,I,ki,λs1 qp=>dz qp λnd lZ qq=>?_⟩⟩,λak=>?_⟩⟩⟩
   rotate_left
   ·have pn:=iM.trans lZ;have YG:=fE (lh.dQ mO) OY;obtain⟨Ij,sN⟩:=drop_cons ex;have CP:sh L (ab.drop (bI+1))=(dX (.tup [.str "field",L.1,.str (S x)]) [L]).map λt=>(t,ab.drop (bI+1+1)):=by rw[Ij];rfl
    rw[CP] at f' Ii;have lT:At K fV (.tup [.str "field",L.1,.str (S x)]) (.ref pk):=iG iM rA (my (cz.mpr I) (fE (lh.dQ mO) u3) (cz.mpr I));obtain⟨kp,gq⟩:=yy (Ts:=[L]) λT de=>by rw[kv.mp de];exact m0
    refine⟨r,n,aA,ab,bI+1+1,_,_,_,s1,[L],I,rz.same pn,dB lZ lT,⟨_,qq,bB.jS (dB pn YG)⟩,(by decide:1<=5000),dW kp (by decide:60*1<=400000),dW gq (by decide:12<=400000),λT ru mK iS oc de=>?_,λiS=>?_⟩
    ·exact step T (bI+1+1) ru mK (by omega) sN ((jB.trans mO).trans (.of (pn.trans oc))) (rz.same (pn.trans oc)) de (dX.ok iS) λk aU=>by rw[f' k aU,iS];rfl
    ·exact(bn (by rw[bq,Ii,iS];rfl)).mono (((e1.trans jB).trans mO).trans (.of pn))
   ·exact(bn (by rw[bq,Ii,UN λx z=>ak x (by rw[<-m8];exact z)];rfl)).mono (e1.trans jB)
  ·have ft:ab[bI]?=some dt:=by
    cases e:ab[bI]? with
    |none=>rw[e] at cX;cases cX
    |some w=>
     rw[e] at cX;have ay:w∈[gE,dt]:=vB.mp cX;rcases gZ.mp ay with rfl|ay
     ·exact absurd e dG
     ·rw[kv.mp ay]
   have f':∀k,cL=k+1->hZ m bo cL L (ab.drop bI)=(oP m bo L (ab.drop bI)).bind λy=>hZ m bo k y.1 y.2:=λk aU=>by
    subst aU;show(if(ab.drop bI).head?=some gE then _ else if(ab.drop bI).head?=some dt then _ else _)=_;rw[bP (by rw[m8];exact dG),b8 (by rw[m8];exact ft)]
   obtain⟨k',Ih⟩:∃j,cL=j+1:=⟨cL - 1,by have:=(drop_cons ft).2;omega⟩;refine⟨_,I,_,I,r,n,aA,ab,bI,dP,L,I,jf,mN,Ig,m0,λT lp v6 gV f8 w' YH mO rz bC=>?_,λf8=>?_⟩
   ·exact step T lp v6 gV (by omega) YH mO rz bC.1 bC.2 λk aU=>by rw[f' k aU,f8];rfl
   ·exact(bn (by rw[bq,f' k' Ih,f8];rfl)).mono e1
abbrev yE:Stmt:=top 30
abbrev yF:Stmt:=top 31
abbrev yG:Stmt:=top 32
inductive yH (P:Program) (w:World) (K:aJ) (mg:Str->cn) (base:Heap) (C aF:Addr) (k:Nat) (vs:br) (H:ap) (Q:bz) (E:cJ):Prop
 |mk (bo:cq bL) r n aA ab p m f x kind dP (L:bL) cF:vs=[.ref r,.str kind,dP,.ref f]->bT K C H r n aA ab p (12 - m)->ab[p]?=some cF->At K H (k5 L) dP->oX L->jv P w K mg base f x k (ea K C aF m (el K) bo)->(∀x av v Z,pairF kind L bo (ab.drop p)=some (x,ab.drop av)->p < av->av<=ab.length->bD r H Z->bT K C Z r n aA ab av (12 - m)->(el K).R x Z v->Q v Z)->(pairF kind L bo (ab.drop p)=none->Out aF r n H E)->yH P w K mg base C aF k vs H Q E
def FW:cE Jv vl (bF yF):=dm
def UP (F:b5 K "read_pair" "read_pair" yF f as) (lm:hh P w K mg base "taken" C h7 2 (wx K C)) (iw:dv P w K mg base "sized" qy 3 (rb K C aF)) (k:Nat) (aU:3<=k):bK P w K mg base (bQ P w) (k+1) f as vl (yH P w K mg base C aF k):=by
 refine F.fl FW (λvs H Q E h=>?_) (λbk A outer s H vs Q E al h=>?_)
 ·obtain⟨_,_,_,_,_,_,_,_,_,_,_,_,_,rfl,_⟩:=h;rfl
 obtain⟨bo,r,n,aA,ab,p,m,df,x,kind,dP,L,cF,rfl,ay,uQ,dC,m0,bl,aZ,bn⟩:=h;have bN:ff (bQ P w) (fj (bQ P w) P w K mg base Jv "read_pair" (bF yF) f bk A outer s H E) E:=f6 λ_ _ _ h=>h;refine⟨_,(aX (ct 4 FW.bp (ef (q' bN lm (ah 0)))) (aX (ct 5 FW.bp (wm 3 bN (bx (ah 0)))) (a9 (bE (f7 bN iw (fb (ah 0) (cP (i3 (ah 1) (ah 4) (ef (ah 2)) (ef (ah 5)))) (eL (c6 (ah 2) (ah 5))))))))),?main⟩
 case main=>
  obtain⟨eP,cM⟩:=drop_cons uQ;rw[eP] at aZ bn;refine⟨_,I,ay.gm ⟨r,n,aA,ab,p,_,I,ay,λv ai b2 cu aK=>?_⟩⟩;rw[uQ] at aK;refine⟨1,_,_,I,aK,I,λvs pc=>?_⟩;have ol:=fE (ay.dQ b2) dC;refine⟨df,x,_,I,bl.mono (by omega),_,I,r,n,aA,ab,p+1,I,cu,cM,λT bM hT aB aE ed hQ dM dd bC=>?_,λaE=>?_⟩
  rotate_left
  ·exact(bn (by show(bo (ab.drop (p+1))).bind _=none;rw[aE];rfl)).mono b2
  have cp:pairF kind L bo (cF::ab.drop (p+1))=(dX (.tup [.str kind,jr cF,L.1,T.1]) [L,T]).map λt=>(t,ab.drop bM):=by show(bo (ab.drop (p+1))).bind _=_;rw[aE];rfl
  rw[cp] at aZ bn;have C2:=fE (cu.dQ dM) ol;have gq:=fE (cu.dQ dM) pc;have nh:=b2.trans dM;refine⟨_,I,_,I,_,I,_,I,0,_,_,I,C2,I,λIc u3=>⟨_,I,0,_,_,I,bC.1,I,λCM Ik=>⟨q6,λpk zR=>dz zR λfV iM rA=>⟨_,I,_,I,e',λs1 qp=>dz qp λnd lZ qq=>?_⟩⟩⟩⟩;have xb:=iM.trans lZ;have lT:At K fV (.tup [.str kind,jr cF,L.1,T.1]) (.ref pk):=iG iM rA (MQ (cz.mpr I) gq u3 Ik);obtain⟨kp,mH⟩:=yy (Ts:=[L,T]) λzS de=>by
   rcases gZ.mp de with rfl|de
   ·exact m0
   ·rw[kv.mp de];exact bC.2
  refine⟨r,n,aA,ab,bM,_,_,_,s1,[L,T],I,dd.same xb,dB lZ lT,⟨_,qq,ht (dB xb C2) (dB xb bC.1)⟩,(by decide:2<=5000),dW kp (by decide:60*2<=400000),dW mH (by decide:12<=400000),λzS ru mK iS oc de=>?_,λiS=>?_⟩
  ·exact aZ zS bM ru mK (by rw[iS];rfl) (by omega) hQ (nh.trans (.of (xb.trans oc))) (dd.same (xb.trans oc)) ⟨de,dX.ok iS⟩
  ·exact(bn (by rw[iS];rfl)).mono (nh.trans (.of xb))
inductive uf (P:Program) (w:World) (K:aJ) (mg:Str->cn) (base:Heap) (C aF:Addr) (k:Nat) (vs:br) (H:ap) (Q:bz) (E:cJ):Prop
 |mk (bo:cq bL) r n aA ab p m f x kind gt (sg:List bJ):vs=[.ref r,.str kind,gt,.ref f]->bT K C H r n aA ab p (12 - m)->p<=ab.length->(∀Z,At K Z (.tup (sg.map dK)) gt)->(∀w∈sg,p2 w=true)->jv P w K mg base f x k (ea K C aF m (el K) bo)->(∀x av v Z,lM kind sg bo (ab.drop p)=some (x,ab.drop av)->p<=av->av<=ab.length->bD r H Z->bT K C Z r n aA ab av (12 - m)->(el K).R x Z v->Q v Z)->(lM kind sg bo (ab.drop p)=none->Out aF r n H E)->uf P w K mg base C aF k vs H Q E
def FX:cE ["row","kind","signs","inner","left"] rM (bF yG):=dm
def UQ {kind sg}{bo:cq bL} {k L ab}(h:ab.head?.any (sg.contains ·)=false):hE kind sg bo k L ab=some (L,ab):=by
 cases k with
 |zero=>rfl
 |succ k=>unfold hE;rw[h];rfl
def UR (F:b5 K "read_from_left" "read_from_left" yG f as) (nj:nW P w K mg base "seen" C mP 1 (oW K C)) (k:Nat) (jc:dv P w K mg base "read_pair" vl (k+1) (yH P w K mg base C aF k)):bK P w K mg base (bQ P w) (k+2) f as rM (uf P w K mg base C aF k):=by
 refine F.fl FX (λvs H Q E h=>?_) (λbk A outer s H vs Q E al h=>?_)
 ·obtain⟨_,_,_,_,_,_,_,_,_,_,_,_,rfl,_⟩:=h;rfl
 obtain⟨bo,r,n,aA,ab,p,m,df,x,kind,gt,sg,rfl,ay,ar,a1,Il,bl,aZ,bn⟩:=h;have bN:ff (bQ P w) (fj (bQ P w) P w K mg base ["row","kind","signs","inner","left"] "read_from_left" (bF yG) f bk A outer s H E) E:=f6 λ_ _ _ h=>h;refine⟨_,(aX (ct 4 FX.bp (wm 3 bN (bx (ah 0)))) (aX (nK rX (ey (BF al) (oV bN nj (ah 0)) (ah 2) I) (a9 (ct 4 FX.bp (f7 bN jc (i3 (ah 0) (ah 1) (ah 4) (ah 3)))))) (a9 (bE (ah 4))))),?main⟩
 case main=>
  refine⟨df,x,_,I,bl.mono (by omega),_,I,r,n,aA,ab,p,I,ay,ar,λL aS v ai am cm et b2 cu bC=>?_,λam=>?_⟩
  rotate_left
  ·exact bn (by unfold lM;rw[am];rfl)
  refine⟨wz K C H r n aA ab p (12 - m) (lM kind sg bo (ab.drop p)) (hE kind sg bo) (λdP aa=>aa=[some (.ref r),some (.str kind),some gt,some (.ref df),some dP]),⟨_,aS,L,v,(ab.drop aS).length,I,I,cm,et,b2,cu,bC.1,bC.2,by rw[j6];exact bf _,?_⟩,?_⟩
  ·unfold lM;rw[am];rfl
  rintro jg aa a7 ⟨bI,L,dP,cL,rfl,rfl,gs,mN,eu,d4,dC,m0,eS,bq⟩;refine⟨_,I,d4.gm ⟨r,n,aA,ab,bI,_,0,bI,I,d4,by omega,λw5 zP=>⟨_,I,_,_,zP,a1 a7,BH sg,_,I,?_⟩⟩⟩;rw[show(if false=true then !((sg.map dK).any λe=>cx e (gS ab[bI]?)) else(sg.map dK).any λe=>cx e (gS ab[bI]?))=ab[bI]?.any (sg.contains ·) from BG Il _];refine fR (λcX=>?_) λcX=>?_
  rotate_left
  ·exact⟨_,I,aZ L bI _ a7 (by rw[bq];exact UQ (by rw[m8];exact cX)) gs mN eu d4 ⟨dC,m0⟩⟩
  obtain⟨cF,C3⟩:∃cF,ab[bI]?=some cF:=by
   cases e:ab[bI]? with
   |none=>rw[e] at cX;cases cX
   |some cF=>exact⟨cF,I⟩
  have cM:=(drop_cons C3).2;obtain⟨cL,rfl⟩:∃j,cL=j+1:=⟨cL - 1,by omega⟩;have f':hE kind sg bo (cL+1) L (ab.drop bI)=(pairF kind L bo (ab.drop bI)).bind λy=>hE kind sg bo cL y.1 y.2:=by
   show(if(ab.drop bI).head?.any (sg.contains ·)=true then _ else _)=_;rw[b8 (by rw[m8];exact cX)]
  rw[f'] at bq;refine⟨λσ' Z=>∃c8,c8 < ab.length - bI/\wz K C H r n aA ab p (12 - m) (lM kind sg bo (ab.drop p)) (hE kind sg bo) (λdP aa=>aa=[some (.ref r),some (.str kind),some gt,some (.ref df),some dP]) c8 σ' Z,λσ' Z z=>z,?_⟩;refine⟨_,I,_,I,_,I,_,I,bo,r,n,aA,ab,bI,m,df,x,kind,dP,L,cF,I,d4,C3,dC,m0,bl,λT eT pj dS dG ix sV jB lh bC=>?_,λdG=>?_⟩
  ·exact⟨ab.length - eT,by omega,eT,T,pj,cL,I,I,by omega,sV,eu.trans jB,lh,bC.1,bC.2,by omega,by rw[bq,dG];rfl⟩
  ·exact(bn (by rw[bq,dG];rfl)).mono eu
inductive yI (P:Program) (w:World) (K:aJ) (mg:Str->cn) (base:Heap) (C aF:Addr) (k:Nat) (vs:br) (H:ap) (Q:bz) (E:cJ):Prop
 |mk (bo:cq bL) r n aA ab p m f x kind gt (cF:bJ):vs=[.ref r,gt,.str kind,.ref f]->bT K C H r n aA ab p (12 - m)->p<=ab.length->(∀Z,At K Z (dK cF) gt)->p2 cF=true->jv P w K mg base f x k (ea K C aF m (el K) bo)->(∀x av v Z,kf kind cF bo (ab.drop p)=some (x,ab.drop av)->p<=av->av<=ab.length->bD r H Z->bT K C Z r n aA ab av (12 - m)->(el K).R x Z v->Q v Z)->(kf kind cF bo (ab.drop p)=none->Out aF r n H E)->yI P w K mg base C aF k vs H Q E
def wA:cE Js vm (bF yE):=dm
inductive FY (K:aJ) (C:Addr) (H:ap) (r:Addr) (n:Nat) (aA:Addr) (ab:List bJ) (p b:Nat) (cF:bJ) (gt:V) (kind:Str) (df:Addr) (m:Nat) (aa:L2.St) (Z:ap):Prop
 |mk av:aa=[some (.ref r),some gt,some (.str kind),some (.ref df),some (.int ((av - p:Nat):Int)),none,none]->m=ab.length - av->p<=av->av<=ab.length->bD r H Z->bT K C Z r n aA ab av b->(ab.drop p).dropWhile (· == cF)=(ab.drop av).dropWhile (· == cF)->((ab.drop p).takeWhile (· == cF)).length=(av - p)+((ab.drop av).takeWhile (· == cF)).length->FY K C H r n aA ab p b cF gt kind df m aa Z
inductive M1 (K:aJ) (C:Addr) (H:ap) (r:Addr) (n:Nat) (aA:Addr) (ab:List bJ) (p b:Nat) (gt:V) (kind:Str) (df:Addr) (c:Nat) (R:Option bL) (i:Nat) (aa:L2.St) (Z:ap):Prop
 |mk (T:bL) zT h6:aa=[some (.ref r),some gt,some (.str kind),some (.ref df),some (.int (c:Nat)),some zT,h6]->bD r H Z->bT K C Z r n aA ab p b->At K Z (k5 T) zT->oX T->R=kB kind (c - i) T->M1 K C H r n aA ab p b gt kind df c R i aa Z
def US (g:f9 K mg) (F:b5 K "read_repeated" "read_repeated" yE f as) (jR:hh P w K mg base "skips" C lr 2 (ud K C)) (iw:dv P w K mg base "sized" qy 3 (rb K C aF)) (k:Nat) (aU:3<=k):bK P w K mg base (bQ P w) (k+1) f as vm (yI P w K mg base C aF k):=by
 refine F.fl wA (λvs H Q E h=>?_) (λbk A outer s H vs Q E al h=>?_)
 ·obtain⟨_,_,_,_,_,_,_,_,_,_,_,_,rfl,_⟩:=h;rfl
 obtain⟨bo,r,n,aA,ab,p,m,df,x,kind,gt,cF,rfl,ay,ar,a1,Il,bl,aZ,bn⟩:=h;have bN:ff (bQ P w) (fj (bQ P w) P w K mg base Js "read_repeated" (bF yE) f bk A outer s H E) E:=f6 λ_ _ _ h=>h;refine⟨_,(aX (ct 4 wA.bp aO) (aX (nK rX (hD (iH bN jR (ah 0) (bx (ah 1)))) (a9 (ct 4 wA.bp (a5 f3 (ah 4) aO)))) (aX (ct 5 wA.bp (wm 3 bN (bx (ah 0)))) (aX (mo rX I (oI I g.g2.g.v8 (bx (ah 4))) (h1 6 wA.bp) (a9 (ct 5 wA.bp (f7 bN iw (fb (ah 0) (cP (c6 (ah 2) (ef (ah 5)))) (eL (bx (ah 5)))))))) (a9 (bE (ah 5))))))),?main⟩
 case main=>
  have lY:ab.length<=5000:=by obtain⟨_,_,_,_,b7⟩:=ay;exact b7
  refine⟨FY K C H r n aA ab p (12 - m) cF gt kind df,⟨_,p,by rw[Nat.sub_self];rfl,I,bf _,ar,bD.refl _ _,ay,I,by omega⟩,?_⟩;rintro jg aa a7 ⟨bI,rfl,rfl,gs,mN,eu,d4,eP,l5⟩;refine⟨_,I,d4.gm ⟨_,I,r,n,aA,ab,bI,_,gt,some cF,I,d4,a1 a7,sx Il,λbX b1 e1 jf=>⟨_,I,?_⟩,λbX=>⟨_,I,?_⟩⟩⟩
  ·obtain⟨h4,cM⟩:=drop_cons bX;refine fz ⟨λσ' Z=>∃c8,c8 < ab.length - bI/\FY K C H r n aA ab p (12 - m) cF gt kind df c8 σ' Z,λσ' Z z=>z,_,I,_,_,I,I,ab.length - (bI+1),by omega,bI+1,?_,I,by omega,cM,eu.trans e1,jf,?_,?_⟩
   ·have qm:(((bI - p:Nat):Int)+1)=((bI+1 - p:Nat):Int):=by omega
    rw[<-qm];rfl
   ·rw[eP,h4,List.dropWhile_cons_of_pos (by simp)]
   ·rw[l5,h4,List.takeWhile_cons_of_pos (by simp),en];omega
  have e0:(ab.drop bI).dropWhile (· == cF)=ab.drop bI/\((ab.drop bI).takeWhile (· == cF)).length=0:=by
   cases e:ab[bI]? with
   |none=>rw[yz e];exact⟨I,I⟩
   |some y=>
    have aT:¬(y == cF)=true:=λz=>bX (by rw[e,eq_of_beq z]);rw[(drop_cons e).1];exact⟨List.dropWhile_cons_of_neg aT,by rw[qA,bP aT];rfl⟩
  have f':kf kind cF bo (ab.drop p)=(bo (ab.drop bI)).bind λy=>(kB kind (bI - p) y.1).map λt=>(t,y.2):=by
   unfold kf;rw[eP,l5,e0.1,e0.2,Nat.add_zero]
  rw[f'] at aZ bn;refine dr ⟨df,x,_,I,bl.mono (by omega),_,I,r,n,aA,ab,bI,I,d4,mN,λT eT pj dS dG ix sV jB lh bC=>?_,λdG=>?_⟩
  rotate_left
  ·exact(bn (by rw[dG];rfl)).mono eu
  have Ib:=eu.trans jB;have YI:(bo (ab.drop bI)).bind (λy=>(kB kind (bI - p) y.1).map λt=>(t,y.2))=(kB kind (bI - p) T).map λt=>(t,ab.drop eT):=by rw[dG];rfl
  rw[YI] at aZ bn;refine⟨_,I,_,I,by omega,by omega,Qz (M1 K C H r n aA ab eT (12 - m) gt kind df (bI - p) (kB kind (bI - p) T)) ⟨T,pj,none,I,Ib,lh,bC.1,bC.2,by rw[Nat.sub_zero]⟩ ?_ ?_⟩
  ·rintro i aa gV aR ⟨s2,zT,h6,rfl,mO,rz,C4,Im,f8⟩;have zO:i < bI - p:=by have:(((bI - p:Nat):Int)).toNat=bI - p:=rfl;omega
   have fH:kB kind (bI - p - i) s2=(dX (.tup [.str kind,s2.1]) [s2]).bind (kB kind (bI - p - (i+1))):=by
    obtain⟨j,l'⟩:∃j,bI - p - i=j+1:=⟨bI - p - i - 1,by omega⟩;rw[l',show bI - p - (i+1)=j by omega];rfl
   rw[fH] at f8;refine⟨_,I,_,I,_,I,0,_,_,I,C4,I,λIc u3=>⟨e',λpk zR=>dz zR λfV iM rA=>⟨_,I,ki,λs1 qp=>dz qp λnd lZ qq=>?_⟩⟩⟩;have pn:=iM.trans lZ;have lT:At K fV (.tup [.str kind,s2.1]) (.ref pk):=iG iM rA (ht (cz.mpr I) u3);obtain⟨kp,mH⟩:=yy (Ts:=[s2]) λzS de=>by rw[kv.mp de];exact Im
   refine⟨r,n,aA,ab,eT,_,_,_,s1,[s2],I,rz.same pn,dB lZ lT,⟨_,qq,bB.jS (dB pn C4)⟩,(by decide:1<=5000),dW kp (by decide:60*1<=400000),dW mH (by decide:12<=400000),λzS ru mK iS oc de=>?_,λiS=>?_⟩
   ·exact⟨zS,ru,_,I,mO.trans (.of (pn.trans oc)),rz.same (pn.trans oc),de,dX.ok iS,by rw[f8,iS];rfl⟩
   ·exact(bn (by rw[f8,iS];rfl)).mono (mO.trans (.of pn))
  ·rintro aa gV ⟨s2,zT,h6,rfl,mO,rz,C4,Im,f8⟩;have dD:(((bI - p:Nat):Int)).toNat=bI - p:=rfl;rw[dD,Nat.sub_self] at f8;exact⟨_,I,aZ s2 eT zT gV (by rw[f8];rfl) (by omega) sV mO rz ⟨C4,Im⟩⟩
abbrev BJ:Stmt:=top 33
def UT:cE cD cD (bF BJ):=dm
def UU {bo:cq bL}{m k:Nat}{df:Addr}(g:f9 K mg) (F:b5 K "read_minus" "read_minus" BJ f as) (nn:mg "read_reach"=some (.ref df)) (kK:jv P w K mg base df "row" k (ea K C aF m (el K) bo)) (gM:dv P w K mg base "read_repeated" vm (k+1) (yI P w K mg base C aF k)):bK P w K mg base (bQ P w) (k+2) f as cD (ea K C aF m (el K) (kf "minus" k4 bo)):=by
 refine F.fl UT (λvs H Q E h=>?_) (λbk A outer s H vs Q E al h=>?_)
 ·obtain⟨_,_,_,_,_,rfl,_⟩:=h;rfl
 obtain⟨r,n,aA,ab,p,rfl,ay,ar,aZ,bn⟩:=h;refine⟨_,(a9 (bE (f7 (f6 λ_ _ _ h=>h) gM (i3 (ah 0) (ii g.TR) aV (bc.iY (v:=.ref df) I nn I))))),?_⟩;exact⟨_,I,λgt a1=>⟨bo,r,n,aA,ab,p,m,df,"row",_,gt,k4,I,ay,ar,a1,I,kK,aZ,bn⟩⟩
abbrev BK:Stmt:=top 34
def UW:cE cD cD (bF BK):=dm
def UX {bo:cq bL}{m k:Nat}{df:Addr}(g:f9 K mg) (F:b5 K "read_product" "read_product" BK f as) (nn:mg "read_minus"=some (.ref df)) (kK:jv P w K mg base df "row" k (ea K C aF m (el K) bo)) (gM:dv P w K mg base "read_from_left" rM (k+2) (uf P w K mg base C aF k)):bK P w K mg base (bQ P w) (k+3) f as cD (ea K C aF m (el K) (lM "two" sf bo)):=by
 refine F.fl UW (λvs H Q E h=>?_) (λbk A outer s H vs Q E al h=>?_)
 ·obtain⟨_,_,_,_,_,rfl,_⟩:=h;rfl
 obtain⟨r,n,aA,ab,p,rfl,ay,ar,aZ,bn⟩:=h;refine⟨_,(a9 (bE (f7 (f6 λ_ _ _ h=>h) gM (i3 (ah 0) aV (ii g.TY) (bc.iY (v:=.ref df) I nn I))))),?_⟩;exact⟨_,I,λgt a1=>⟨bo,r,n,aA,ab,p,m,df,"row",_,gt,sf,I,ay,ar,a1,by decide +kernel,kK,aZ,bn⟩⟩
abbrev BL:Stmt:=top 35
def UY:cE cD cD (bF BL):=dm
def UZ {bo:cq bL}{m k:Nat}{df:Addr}(g:f9 K mg) (F:b5 K "read_sum" "read_sum" BL f as) (nn:mg "read_product"=some (.ref df)) (kK:jv P w K mg base df "row" k (ea K C aF m (el K) bo)) (gM:dv P w K mg base "read_from_left" rM (k+2) (uf P w K mg base C aF k)):bK P w K mg base (bQ P w) (k+3) f as cD (ea K C aF m (el K) (lM "two" se bo)):=by
 refine F.fl UY (λvs H Q E h=>?_) (λbk A outer s H vs Q E al h=>?_)
 ·obtain⟨_,_,_,_,_,rfl,_⟩:=h;rfl
 obtain⟨r,n,aA,ab,p,rfl,ay,ar,aZ,bn⟩:=h;refine⟨_,(a9 (bE (f7 (f6 λ_ _ _ h=>h) gM (i3 (ah 0) aV (ii g.TX) (bc.iY (v:=.ref df) I nn I))))),?_⟩;exact⟨_,I,λgt a1=>⟨bo,r,n,aA,ab,p,m,df,"row",_,gt,se,I,ay,ar,a1,by decide +kernel,kK,aZ,bn⟩⟩
abbrev yJ:Stmt:=top 36
def M2:cE qz cD (bF yJ):=dm
def U0:∀w∈m5,p2 w=true:=by decide +kernel
def U1 {bo:cq bL}{m k:Nat}{df:Addr}(g:f9 K mg) (F:b5 K "read_compare" "read_compare" yJ f as) (nj:nW P w K mg base "seen" C mP 1 (oW K C)) (nn:mg "read_sum"=some (.ref df)) (zC:dv P w K mg base "read_sum" cD k (ea K C aF m (el K) bo)) (kK:jv P w K mg base df "row" k (ea K C aF m (el K) bo)) (jc:dv P w K mg base "read_pair" vl (k+1) (yH P w K mg base C aF k)):bK P w K mg base (bQ P w) (k+2) f as cD (ea K C aF m (el K) (v9 bo)):=by
 refine F.fl M2 (λvs H Q E h=>?_) (λbk A outer s H vs Q E al h=>?_)
 ·obtain⟨_,_,_,_,_,rfl,_⟩:=h;rfl
 obtain⟨r,n,aA,ab,p,rfl,ay,ar,aZ,bn⟩:=h;have bN:ff (bQ P w) (fj (bQ P w) P w K mg base qz "read_compare" (bF yJ) f bk A outer s H E) E:=f6 λ_ _ _ h=>h;refine⟨_,(aX (ct 1 M2.bp (f7 bN zC (bx (ah 0)))) (a9 (bE (mY (ey (BF al) (oV bN nj (ah 0)) (ii g.TV) I) (f7 bN jc (i3 (ah 0) aV (ah 1) (bc.iY (v:=.ref df) I nn I))) (ah 1))))),?_⟩;refine⟨_,I,r,n,aA,ab,p,I,ay,ar,λL aS v ai am cm et b2 cu bC=>?_,λam=>?_⟩
 rotate_left
 ·exact bn (by unfold v9;rw[am];rfl)
 have h4:v9 bo (ab.drop p)=if(ab.drop aS).head?.any (m5.contains ·)=true then pairF "two" L bo (ab.drop aS) else some (L,ab.drop aS):=by unfold v9;rw[am];rfl
 rw[h4,m8] at aZ bn;refine⟨_,I,cu.gm ⟨r,n,aA,ab,aS,_,0,aS,I,cu,by omega,λw5 zP gt a1=>⟨_,_,zP,a1 ai,BH m5,_,I,?_⟩⟩⟩;rw[show(if false=true then !((m5.map dK).any λe=>cx e (gS ab[aS]?)) else(m5.map dK).any λe=>cx e (gS ab[aS]?))=ab[aS]?.any (m5.contains ·) from BG U0 _];refine fR (λcX=>?_) λcX=>?_
 ·rw[b8 cX] at aZ bn;obtain⟨cF,C3⟩:∃cF,ab[aS]?=some cF:=by
   cases e:ab[aS]? with
   |none=>rw[e] at cX;cases cX
   |some cF=>exact⟨cF,I⟩
  exact⟨_,I,_,I,bo,r,n,aA,ab,aS,m,df,"row",_,v,L,cF,I,cu,C3,bC.1,bC.2,kK,λx av gl Z e ag ae b w r=>aZ x av gl Z e (by omega) ae (b2.trans b) w r,λe=>(bn e).mono b2⟩
 ·rw[bP (by rw[cX];exact gf)] at aZ;exact⟨_,I,aZ L aS v ai I cm et b2 cu bC⟩
abbrev BM:Stmt:=top 37
def U2:cE cD cD (bF BM):=dm
def U3 {bo:cq bL}{m k:Nat}{df:Addr}(g:f9 K mg) (F:b5 K "read_not" "read_not" BM f as) (nn:mg "read_compare"=some (.ref df)) (kK:jv P w K mg base df "row" k (ea K C aF m (el K) bo)) (gM:dv P w K mg base "read_repeated" vm (k+1) (yI P w K mg base C aF k)):bK P w K mg base (bQ P w) (k+2) f as cD (ea K C aF m (el K) (kf "not" hO bo)):=by
 refine F.fl U2 (λvs H Q E h=>?_) (λbk A outer s H vs Q E al h=>?_)
 ·obtain⟨_,_,_,_,_,rfl,_⟩:=h;rfl
 obtain⟨r,n,aA,ab,p,rfl,ay,ar,aZ,bn⟩:=h;refine⟨_,(a9 (bE (f7 (f6 λ_ _ _ h=>h) gM (i3 (ah 0) (ii g.TQ) aV (bc.iY (v:=.ref df) I nn I))))),?_⟩;exact⟨_,I,λgt a1=>⟨bo,r,n,aA,ab,p,m,df,"row",_,gt,hO,I,ay,ar,a1,I,kK,aZ,bn⟩⟩
abbrev BN:Stmt:=top 38
def U4:cE cD cD (bF BN):=dm
def U5 {bo:cq bL}{m k:Nat}{df:Addr}(g:f9 K mg) (F:b5 K "read_and" "read_and" BN f as) (nn:mg "read_not"=some (.ref df)) (kK:jv P w K mg base df "row" k (ea K C aF m (el K) bo)) (gM:dv P w K mg base "read_from_left" rM (k+2) (uf P w K mg base C aF k)):bK P w K mg base (bQ P w) (k+3) f as cD (ea K C aF m (el K) (lM "both" sd bo)):=by
 refine F.fl U4 (λvs H Q E h=>?_) (λbk A outer s H vs Q E al h=>?_)
 ·obtain⟨_,_,_,_,_,rfl,_⟩:=h;rfl
 obtain⟨r,n,aA,ab,p,rfl,ay,ar,aZ,bn⟩:=h;refine⟨_,(a9 (bE (f7 (f6 λ_ _ _ h=>h) gM (i3 (ah 0) aV (ii g.TU) (bc.iY (v:=.ref df) I nn I))))),?_⟩;exact⟨_,I,λgt a1=>⟨bo,r,n,aA,ab,p,m,df,"row",_,gt,sd,I,ay,ar,a1,by decide +kernel,kK,aZ,bn⟩⟩
abbrev BO:Stmt:=top 39
def U6:cE cD cD (bF BO):=dm
def U7 {bo:cq bL}{m k:Nat}{df:Addr}(g:f9 K mg) (F:b5 K "read_or" "read_or" BO f as) (nn:mg "read_and"=some (.ref df)) (kK:jv P w K mg base df "row" k (ea K C aF m (el K) bo)) (gM:dv P w K mg base "read_from_left" rM (k+2) (uf P w K mg base C aF k)):bK P w K mg base (bQ P w) (k+3) f as cD (ea K C aF m (el K) (lM "both" q0 bo)):=by
 refine F.fl U6 (λvs H Q E h=>?_) (λbk A outer s H vs Q E al h=>?_)
 ·obtain⟨_,_,_,_,_,rfl,_⟩:=h;rfl
 obtain⟨r,n,aA,ab,p,rfl,ay,ar,aZ,bn⟩:=h;refine⟨_,(a9 (bE (f7 (f6 λ_ _ _ h=>h) gM (i3 (ah 0) aV (ii g.TS) (bc.iY (v:=.ref df) I nn I))))),?_⟩;exact⟨_,I,λgt a1=>⟨bo,r,n,aA,ab,p,m,df,"row",_,gt,q0,I,ay,ar,a1,by decide +kernel,kK,aZ,bn⟩⟩
abbrev BP:Stmt:=top 40
def U8:cE cD cD (bF BP):=dm
def wB (K:aJ):yx D K:=⟨λx H v=>At K H x v,λh b ⟨_,_,_,al⟩=>fE (b.q8 al) h⟩
def ug (bo:cq bL):cq D:=λab=>(bo ab).map λy=>(y.1.1,y.2)
def U9 {bo:cq bL}{m k:Nat}(F:b5 K "read_expression" "read_expression" BP f as) (zC:dv P w K mg base "read_or" cD k (ea K C aF m (el K) bo)):bK P w K mg base (bQ P w) (k+1) f as cD (ea K C aF m (wB K) (ug bo)):=by
 refine F.fl U8 (λvs H Q E h=>?_) (λbk A outer s H vs Q E al h=>?_)
 ·obtain⟨_,_,_,_,_,rfl,_⟩:=h;rfl
 obtain⟨r,n,aA,ab,p,rfl,ay,ar,aZ,bn⟩:=h;refine⟨_,(a9 (bE (ef (f7 (f6 λ_ _ _ h=>h) zC (bx (ah 0)))))),?_⟩;refine⟨_,I,r,n,aA,ab,p,I,ay,ar,λL aS v ai am cm et b2 cu bC=>⟨0,_,_,I,bC.1,I,λy aT=>?_⟩,λam=>?_⟩
 ·exact aZ L.1 aS y ai (by unfold ug;rw[am];rfl) cm et b2 cu aT
 ·exact bn (by unfold ug;rw[am];rfl)
end
structure h3 (K:aJ) (mg:Str->cn) (name:Str) (st:Stmt) (aG:dH):Prop where
 ex:∃f as,mg name=some (.ref f)/\b5 K name name st f as/\Binds K as aG []
section
variable {K:aJ}{P:Program}{w:World}{mg:Str->cn}{base:Heap}{C aF SB:Addr}
def h3.mk' {name st aG k sp}(h:h3 K mg name st aG) (ok:∀f as,b5 K name name st f as->bK P w K mg base (bQ P w) k f as aG sp):dv P w K mg base name aG k sp:=
 let ⟨f,as,a,b,c⟩:=h.ex;⟨f,as,a,b.cZ,c,ok f as b⟩
def h3.adr {name st aG}(h:h3 K mg name st aG):∃f,mg name=some (.ref f):=let ⟨f,_,a,_⟩:=h.ex;⟨f,a⟩
def dv.p4 {name x k sp hy}(D:dv P w K mg base name [x] k sp) (h:mg name=some (.ref hy)):jv P w K mg base hy x k sp:=by
 obtain⟨f,as,a,b,c,d⟩:=D.ex;rw[h] at a;cases a;exact⟨as,b,c,d⟩
structure BQ (K:aJ) (mg:Str->cn):Prop where
 oE:h3 K mg "sized" BB qy
 pt:h3 K mg "parted" yt oz
 oQ:h3 K mg "in_brackets" yu oz
 M3:h3 K mg "perhaps_parted" yv cD
 dP:h3 K mg "values_in_brackets" yw xA
 U':h3 K mg "read_single" yB cD
 cl:h3 K mg "read_call" yC qz
 M4:h3 K mg "read_reach" yD cD
 Va:h3 K mg "read_repeated" yE vm
 pr:h3 K mg "read_pair" yF vl
 lf:h3 K mg "read_from_left" yG rM
 gx:h3 K mg "read_minus" BJ cD
 wC:h3 K mg "read_product" BK cD
 M5:h3 K mg "read_sum" BL cD
 ue:h3 K mg "read_compare" yJ cD
 fC:h3 K mg "read_not" BM cD
 an:h3 K mg "read_and" BN cD
 or:h3 K mg "read_or" BO cD
 Vb:h3 K mg "read_expression" BP cD
structure oY (P:Program) (w:World) (K:aJ) (mg:Str->cn) (base:Heap) (C aF:Addr):Prop where
 z:nW P w K mg base "seen" C mP 1 (oW K C)
 t:hh P w K mg base "taken" C h7 2 (wx K C)
 s:hh P w K mg base "skips" C lr 2 (ud K C)
 x:hh P w K mg base "wants" C lr 3 (Bz K C aF)
 n:hh P w K mg base "wants_name" C h7 3 (BA K C aF)
def M6 (g:f9 K mg) (B:TvG w K mg) (c:iI K C) (gL:mw P w K mg base "BadText" aF SB ls 1 (mx K aF)) (M:oY P w K mg base C aF) (A:BQ K mg){m k:Nat}(aQ:m<=12) (aU:3<=k) (pb:m≠0->dv P w K mg base "read_or" cD k (ea K C aF (m - 1) (el K) (du m))):dv P w K mg base "read_or" cD (k+24) (ea K C aF m (el K) (i2 m)):=by
 obtain⟨hy,sY⟩:=A.or.adr;obtain⟨fp,sZ⟩:=A.M3.adr;have iw:dv P w K mg base "sized" qy 3 (rb K C aF):=A.oE.mk' λf as F=>Uu g c F gL;have qo:∀k,3<=k->dv P w K mg base "in_brackets" oz (k+1) (yA P w K mg base C aF k):=λk aU=>A.oQ.mk' λf as F=>Ux g c F gL M.x k aU;have jc:dv P w K mg base "parted" oz (k+1) (BC P w K mg base C aF k):=A.pt.mk' λf as F=>Uz g c F M.s k aU;have YJ:m≠0->dv P w K mg base "perhaps_parted" cD (k+2) (ea K C aF (m - 1) (wy K) (oO (du m))):=λh=>A.M3.mk' λf as F=>UE g F M.z sY ((pb h).p4 sY) jc;have kJ:dv P w K mg base "values_in_brackets" xA (k+4) (BD K C aF m (du m)):=A.dP.mk' λf as F=>UG g c F gL aQ sZ (λh=>(YJ h).p4 sZ) (qo (k+2) (by omega)) (by omega);have YK:dv P w K mg base "read_single" cD (k+5) (ea K C aF m (el K) (m6 m (du m))):=A.U'.mk' λf as F=>(UJ g B c F gL M.z M.t iw aQ sY (λh=>(pb h).p4 sY) (qo k aU) aU).mono (by omega);have ma:dv P w K mg base "read_call" qz (k+5) (BE K C aF m (du m)):=A.cl.mk' λf as F=>UL g F iw kJ (by omega);have gM:dv P w K mg base "read_reach" cD (k+6) (ea K C aF m (el K) (pV m (du m))):=A.M4.mk' λf as F=>UO g F M.z M.s M.n iw YK ma (by omega);have OZ:∀k,3<=k->dv P w K mg base "read_repeated" vm (k+1) (yI P w K mg base C aF k):=λk aU=>A.Va.mk' λf as F=>US g F M.s iw k aU;have O0:∀k,3<=k->dv P w K mg base "read_pair" vl (k+1) (yH P w K mg base C aF k):=λk aU=>A.pr.mk' λf as F=>UP F M.t iw k aU;have C5:∀k,3<=k->dv P w K mg base "read_from_left" rM (k+2) (uf P w K mg base C aF k):=λk aU=>A.lf.mk' λf as F=>UR F M.z k (O0 k aU);obtain⟨f1,d3⟩:=A.M4.adr;have eB:dv P w K mg base "read_minus" cD (k+8) (ea K C aF m (el K) (tW m (du m))):=A.gx.mk' λf as F=>UU g F d3 (gM.p4 d3) (OZ _ (by omega));obtain⟨f2,im⟩:=A.gx.adr;have gA:dv P w K mg base "read_product" cD (k+11) (ea K C aF m (el K) (tX m (du m))):=A.wC.mk' λf as F=>UX g F im (eB.p4 im) (C5 _ (by omega));obtain⟨dy,s3⟩:=A.wC.adr;have sS:dv P w K mg base "read_sum" cD (k+14) (ea K C aF m (el K) (sumF m (du m))):=A.M5.mk' λf as F=>UZ g F s3 (gA.p4 s3) (C5 _ (by omega));obtain⟨hf,xc⟩:=A.M5.adr;have u0:dv P w K mg base "read_compare" cD (k+16) (ea K C aF m (el K) (Fm m (du m))):=A.ue.mk' λf as F=>U1 g F M.z xc sS (sS.p4 xc) (O0 _ (by omega));obtain⟨hj,om⟩:=A.ue.adr;have rB:dv P w K mg base "read_not" cD (k+18) (ea K C aF m (el K) (tY m (du m))):=A.fC.mk' λf as F=>U3 g F om (u0.p4 om) (OZ _ (by omega));obtain⟨O1,u4⟩:=A.fC.adr;have xd:dv P w K mg base "read_and" cD (k+21) (ea K C aF m (el K) (si m (du m))):=A.an.mk' λf as F=>U5 g F u4 (rB.p4 u4) (C5 _ (by omega));obtain⟨O2,rC⟩:=A.an.adr;rw[LM];exact A.or.mk' λf as F=>U7 g F rC (xd.p4 rC) (C5 _ (by omega))
theorem M7 (g:f9 K mg) (B:TvG w K mg) (c:iI K C) (gL:mw P w K mg base "BadText" aF SB ls 1 (mx K aF)) (M:oY P w K mg base C aF) (A:BQ K mg):∀m,m<=12->dv P w K mg base "read_or" cD (27+24*m) (ea K C aF m (el K) (i2 m))
 |0,h=>M6 g B c gL M A (k:=3) h (bf _) λz=>absurd rfl z
 |m+1,h=>M6 g B c gL M A (k:=27+24*m) h (by omega) λ_=>M7 g B c gL M A m (by omega)
def Vc (g:f9 K mg) (B:TvG w K mg) (c:iI K C) (gL:mw P w K mg base "BadText" aF SB ls 1 (mx K aF)) (M:oY P w K mg base C aF) (A:BQ K mg):dv P w K mg base "read_expression" cD 316 (ea K C aF 12 (wB K) (ug (i2 12))):=A.Vb.mk' λf as F=>U9 F (M7 g B c gL M A 12 (bf _))
end
def k7 {X:a8}{b:vi}:ic X b (λ_ _ _=>False):=.mk λac s aa H D J h=>h.elim
abbrev BR:Stmt:=top 87
abbrev BS:Stmt:=top 88
abbrev BU:Stmt:=top 89
abbrev BV:Stmt:=top 90
def hu:bJ:=.mark [61]
def k8:bJ:=.mark [58]
def BW:bJ:=.ee [121,105,101,108,100]
def g6:cq D:=ug (i2 12)
def nX:List bJ:=[.mark [61],.mark [43,61],.mark [45,61],.mark [42,61]]
structure BX (K:aJ) (mg:Str->cn):Prop where
 g:f9 K mg
 Vd:kk K mg "COLON" (dK k8)
 Ve:kk K mg "EQUALS" (dK hu)
 Vf:kk K mg "YIELD" (dK BW)
 Vg:kk K mg "SETTING_MARKS" (.tup (nX.map dK))
section
variable {K:aJ}{P:Program}{w:World}{mg:Str->cn}{base:Heap}{f:Addr}{as:FuncData}{C aF SB:Addr}
def sz:cq D:=λab=>if ab=[] then some (.tup [.str "return",.a3],[]) else(g6 ab).map λy=>(.tup [.str "return",y.1],y.2)
inductive yK (K:aJ) (C aF:Addr) (vs:br) (H:ap) (Q:bz) (E:cJ):Prop
 |ret r n aA ab p:vs=[.ref r,.str "return"]->bT K C H r n aA ab p 0->p<=ab.length->(∀x av v Z,sz (ab.drop p)=some (x,ab.drop av)->p<=av->av<=ab.length->bD r H Z->bT K C Z r n aA ab av 0->At K Z x v->Q v Z)->(sz (ab.drop p)=none->Out aF r n H E)->yK K C aF vs H Q E
 |p5 r:vs=[.ref r,.str "pass"]->(∀v Z,ba H Z->At K Z (.tup [.str "pass"]) v->Q v Z)->yK K C aF vs H Q E
def Vh:cE nx nx (bF BR):=dm
def Vi (g:f9 K mg) (F:b5 K "read_told" "read_told" BR f as) (M:oY P w K mg base C aF) (jC:dv P w K mg base "read_expression" cD 316 (ea K C aF 12 (wB K) g6)):bK P w K mg base (bQ P w) 317 f as nx (yK K C aF):=by
 refine F.fl Vh (λvs H Q E h=>?_) (λbk A outer s H vs Q E al h=>?_)
 ·rcases h with ⟨_,_,_,_,_,rfl,_⟩|⟨_,rfl,_⟩<;>rfl
 have bN:ff (bQ P w) (fj (bQ P w) P w K mg base nx "read_told" (bF BR) f bk A outer s H E) E:=f6 λ_ _ _ h=>h;refine⟨_,(aX (ck (c3 eY (ah 1) aV) (a9 (bE (cP (c6 aV (mY (c3 (A7 al) (oV bN M.z (ah 0)) (ii g.FJ)) nH (f7 bN jC (bx (ah 0)))))))) cA) (aX (ck (c3 eY (ah 1) aV) k7 cA) (aX (ck (ey ms (ah 1) (cP (c6 aV aV)) I) k7 cA) (aX (ck (c3 eY (ah 1) aV) k7 cA) (a9 (bE (cP (bx (ah 1))))))))),?main⟩
 case main=>
  rcases h with ⟨r,n,aA,ab,p,rfl,ay,ar,aZ,bn⟩|⟨r,rfl,q⟩
  ·refine⟨_,I,I,_,I,?_⟩;rw[fv (show V.str "return"=V.str "return" from I)];refine fz ⟨_,I,ay.gm ⟨r,n,aA,ab,p,_,0,p,I,ay,by omega,λv aK xe u5=>⟨_,_,aK,u5 H,ww _,_,I,?_⟩⟩⟩;rw[MJ];refine nU (λe=>?_) λe=>?_
   ·have eP:=yz e;refine⟨e',λaS cm=>dz cm λai az c5=>?_⟩;have au:ab.length<=p:=AE.mp e;exact aZ _ p _ ai (by rw[eP];rfl) (bf _) ar (.of az) (ay.same az) (iG az c5 (ht (cz.mpr I) (kA.mpr I)))
   have e0:ab.drop p≠[]:=λz=>e (by rw[AE];exact DW.mp z);have f':sz (ab.drop p)=(g6 (ab.drop p)).map λy=>(.tup [.str "return",y.1],y.2):=bP e0;rw[f'] at aZ bn;refine⟨_,I,r,n,aA,ab,p,I,ay,ar,λt aS j1 ai am cm et b2 cu bO=>⟨e',λbM ed=>dz ed λaB aN fJ=>?_⟩,λam=>bn (by rw[am];rfl)⟩;exact aZ _ aS _ aB (by rw[am];rfl) cm et (b2.trans (.of aN)) (cu.same aN) (iG aN fJ (ht (cz.mpr I) bO))
  ·have no:∀z:Str,(decide (V.str "pass"=V.str z))=decide (("pass":Str)=z):=λz=>wk _ _;refine⟨_,I,I,_,I,?_⟩;rw[no,ew (by decide +kernel)];refine dr ⟨_,I,I,_,I,?_⟩;rw[no,ew (by decide +kernel)];refine dr ⟨_,I,e',λaS cm=>dz cm λai az c5=>⟨aS,_,I,.inr (dI.of c5),I,I,_,I,?_⟩⟩;show if(e8 (.str "pass") [.str "global",.str "nonlocal"])=true then _ else _
   rw[show e8 (.str "pass") [.str "global",.str "nonlocal"]=false by decide +kernel];refine dr ⟨_,I,I,_,I,?_⟩;rw[no,ew (by decide +kernel)];exact dr ⟨_,I,ki,λbM ed=>dz ed λaB aN fJ=>q _ aB (az.trans aN) (iG aN fJ (bB.jS (cz.mpr I)))⟩
def mz (x:bh):cq D:=λab=>if ab.head?=some BW then(g6 ab.tail).map λy=>(.tup [.str "yield",.str (S x),y.1],y.2) else(g6 ab).map λy=>(.tup [.str "set",.str (S x),y.1],y.2)
inductive BY (K:aJ) (C aF:Addr) (vs:br) (H:ap) (Q:bz) (E:cJ):Prop
 |mk r n aA ab p x:vs=[.ref r]->bT K C H r n aA ab p 0->ab[p]?=some (.name x)->ab[p+1]?=some hu->(∀d av v Z,mz x (ab.drop (p+2))=some (d,ab.drop av)->p+2<=av->av<=ab.length->bD r H Z->bT K C Z r n aA ab av 0->At K Z d v->Q v Z)->(mz x (ab.drop (p+2))=none->Out aF r n H E)->BY K C aF vs H Q E
def FZ:cE ["row","name","mark"] cD (bF BS):=dm
def Vj (g:BX K mg) (F:b5 K "read_binding" "read_binding" BS f as) (M:oY P w K mg base C aF) (jC:dv P w K mg base "read_expression" cD 316 (ea K C aF 12 (wB K) g6)):bK P w K mg base (bQ P w) 317 f as cD (BY K C aF):=by
 refine F.fl FZ (λvs H Q E h=>?_) (λbk A outer s H vs Q E al h=>?_)
 ·obtain⟨_,_,_,_,_,_,rfl,_⟩:=h;rfl
 obtain⟨r,n,aA,ab,p,x,rfl,ay,ex,em,aZ,bn⟩:=h;have bN:ff (bQ P w) (fj (bQ P w) P w K mg base ["row","name","mark"] "read_binding" (bF BS) f bk A outer s H E) E:=f6 λ_ _ _ h=>h;refine⟨_,(aX (ct 1 FZ.bp (q' bN M.n (ah 0))) (aX (ct 2 FZ.bp (ef (q' bN M.t (ah 0)))) (aX (ck (c3 pP (ah 2) aV) k7 cA) (aX (ck (hD (iH bN M.s (ah 0) (bx (ii g.Vf)))) (a9 (bE (cP (fb aV (ah 1) (f7 bN jC (bx (ah 0))))))) cA) (a9 (bE (cP (fb aV (ah 1) (f7 bN jC (bx (ah 0))))))))))),?main⟩
 case main=>
  refine⟨_,I,ay.gm ⟨r,n,aA,ab,p,_,I,ay,λw1 Ev ai b2 cu=>?_,λak=>absurd ex (ak x)⟩⟩;rw[ex] at Ev;cases Ev;refine⟨_,I,cu.gm ⟨r,n,aA,ab,p+1,_,I,cu,λv aB dM dd aK=>?_⟩⟩;rw[em] at aK;have hQ:=(drop_cons em).2;have nh:=b2.trans dM;refine⟨1,_,_,I,aK,I,fm ⟨_,I,I,_,I,?_⟩⟩;rw[fv (show V.str (S [61])=V.str "=" from I)];refine dr ⟨_,I,dd.gm λYL YM=>⟨r,n,aA,ab,p+1+1,_,YL,some BW,I,dd,YM aB,sx,λc1 a7 eu d4=>⟨_,I,?_⟩,λc1=>⟨_,I,?_⟩⟩⟩
  ·obtain⟨eP,mN⟩:=drop_cons c1;have gH:mz x (ab.drop (p+2))=(g6 (ab.drop (p+3))).map λy=>(.tup [.str "yield",.str (S x),y.1],y.2):=by
    unfold mz;rw[b8 (by rw[m8];exact c1),show ab.drop (p+2)=BW::ab.drop (p+3) from eP];rfl
   rw[gH] at aZ bn;have oj:=nh.trans eu;exact fz ⟨_,I,_,I,r,n,aA,ab,p+1+1+1,I,d4,mN,λt aS j1 b1 am cm et e1 jf bO=>⟨lO,λbM ed=>dz ed λdS dq jd=>aZ _ aS _ dS (by rw[am];rfl) (by omega) et ((oj.trans e1).trans (.of dq)) (jf.same dq) (iG dq jd (my (cz.mpr I) (cz.mpr I) bO))⟩,λam=>(bn (by rw[am];rfl)).mono oj⟩
  ·have gH:mz x (ab.drop (p+2))=(g6 (ab.drop (p+2))).map λy=>(.tup [.str "set",.str (S x),y.1],y.2):=by
    unfold mz;rw[bP (by rw[m8];exact c1)]
   rw[gH] at aZ bn;exact dr ⟨_,I,_,I,r,n,aA,ab,p+1+1,I,dd,hQ,λt aS j1 b1 am cm et e1 jf bO=>⟨lO,λbM ed=>dz ed λdS dq jd=>aZ _ aS _ dS (by rw[am];rfl) (by omega) et ((nh.trans e1).trans (.of dq)) (jf.same dq) (iG dq jd (my (cz.mpr I) (cz.mpr I) bO))⟩,λam=>(bn (by rw[am];rfl)).mono nh⟩
def Vk {ab x r}(h:g6 ab=some (x,r)):r.length < ab.length:=by
 obtain⟨⟨a,t⟩,ag,ae⟩:=wb h;cases ae;exact yh 12 _ _ _ ag
inductive BZ (K:aJ) (C aF:Addr) (vs:br) (H:ap) (Q:bz) (E:cJ):Prop
 |mk r n aA ab p:vs=[.ref r]->bT K C H r n aA ab p 0->p<=ab.length->
   (∀t aS,g6 (ab.drop p)=some (t,ab.drop aS)->p < aS->aS<=ab.length->(ab[aS]?≠some hu->∀v Z,bD r H Z->bT K C Z r n aA ab aS 0->At K Z (.tup [.str "do",t]) v->Q v Z)/\(ab[aS]?=some hu->ab[aS - 1]?≠some dR/\∃a b,t=.tup [.str "field",a,b]/\(∀x av v Z,g6 (ab.drop (aS+1))=some (x,ab.drop av)->aS < av->av<=ab.length->bD r H Z->bT K C Z r n aA ab av 0->At K Z (.tup [.str "put",a,b,x]) v->Q v Z)/\(g6 (ab.drop (aS+1))=none->Out aF r n H E)))->
   (g6 (ab.drop p)=none->Out aF r n H E)->BZ K C aF vs H Q E
def F0:cE ["row","tree","ends_with_bracket"] cD (bF BU):=dm
def Vl (g:BX K mg) (F:b5 K "read_doing" "read_doing" BU f as) (M:oY P w K mg base C aF) (jC:dv P w K mg base "read_expression" cD 316 (ea K C aF 12 (wB K) g6)):bK P w K mg base (bQ P w) 317 f as cD (BZ K C aF):=by
 refine F.fl F0 (λvs H Q E h=>?_) (λbk A outer s H vs Q E al h=>?_)
 ·obtain⟨_,_,_,_,_,rfl,_⟩:=h;rfl
 obtain⟨r,n,aA,ab,p,rfl,ay,ar,aZ,bn⟩:=h;have bN:ff (bQ P w) (fj (bQ P w) P w K mg base ["row","tree","ends_with_bracket"] "read_doing" (bF BU) f bk A outer s H E) E:=f6 λ_ _ _ h=>h;refine⟨_,(aX (ct 1 F0.bp (f7 bN jC (bx (ah 0)))) (aX (ct 2 F0.bp (jP (A7 al) (iH bN M.z.toF (ah 0) (bx (mZ r6 aO))) (ii g.g.FL))) (aX (ck (nI (hD (iH bN M.s (ah 0) (bx (ii g.Ve))))) (a9 (bE (cP (c6 aV (ah 1))))) cA) (aX (ck (gy.pt (ib (c3 pP (ef (ah 1)) aV) (jK (hD (ah 2))))) k7 cA) (a9 (bE (cP (i3 aV (ef (ah 1)) (ef (ah 1)) (f7 bN jC (bx (ah 0))))))))))),?main⟩
 case main=>
  refine⟨_,I,r,n,aA,ab,p,I,ay,ar,λt aS j1 ai am _ et b2 cu bO=>?_,bn⟩;have cM:p < aS:=by
   have:=Vk am;rw[j6,j6] at this;omega
  obtain⟨s4,rD⟩:=aZ t aS am cM et;refine⟨_,I,cu.gm ⟨_,I,r,n,aA,ab,aS,_,-1,aS - 1,I,cu,by omega,λvs pc sW pi=>⟨_,_,pc,pi ai,ww _,?_⟩⟩⟩;rw[yq rfl];refine⟨_,I,cu.gm λxe u5=>⟨r,n,aA,ab,aS,_,xe,some hu,I,cu,u5 ai,sx,λw6 aB dM dd=>⟨_,I,?_⟩,λw6=>⟨_,I,?_⟩⟩⟩
  ·obtain⟨aw,a,b,rfl,YN,YO⟩:=rD w6;have Io:=fE (cu.dQ dM) bO;have nh:=b2.trans dM;refine dr ⟨_,I,0,_,_,I,Io,I,fm ⟨I,_,I,?_⟩⟩;rw[fv (show V.str "field"=V.str "field" from I)];refine dr ⟨_,I,_,I,?_⟩;rw[ew aw];have hQ:=(drop_cons w6).2;refine dr ⟨_,I,1,_,_,I,Io,I,λac4 YQ=>⟨_,I,2,_,_,I,Io,I,λac5 YR=>⟨_,I,r,n,aA,ab,aS+1,I,dd,hQ,λx bI ac6 a7 bq gs mN eu d4 ak=>⟨q6,λkt kL=>dz kL λb1 dp ng=>?_⟩,λbq=>(YO bq).mono nh⟩⟩⟩;exact YN x bI _ b1 bq (by omega) mN ((nh.trans eu).trans (.of dp)) (d4.same dp) (iG dp ng (MQ (cz.mpr I) (fE (dd.dQ eu) YQ) (fE (dd.dQ eu) YR) ak))
  ·exact fz ⟨_,I,e',λkt kL=>dz kL λb1 dp ng=>s4 w6 _ b1 (b2.trans (.of dp)) (cu.same dp) (iG dp ng (ht (cz.mpr I) bO))⟩
def nY:D:=.tup [.str "pass"]
def mA:bJ:=.ee [112,97,115,115]
def yL:bJ:=.ee [114,101,116,117,114,110]
def oZ:bJ:=.ee [119,104,105,108,101]
inductive hI (ab:List bJ):Option (D×Nat)->Prop
 |yM:ab=[mA]->hI ab (some (nY,1))
 |ret aj t av:ab=yL::aj->aj≠[]->g6 aj=some (t,ab.drop av)->av<=ab.length->hI ab (some (.tup [.str "return",t],av))
 |bind x aj d av:ab=.name x::hu::aj->mz x aj=some (d,ab.drop av)->av<=ab.length->hI ab (some (d,av))
 |yN x aj:ab=.name x::hu::aj->mz x aj=none->hI ab none
 |p6 x y aj t:ab=.name x::y::aj->nX.contains y=false->g6 ab=some (t,[])->hI ab (some (.tup [.str "do",t],ab.length))
 |put x z aj t:ab=.name x::gE::.name z::hu::aj->g6 ab=some (.tup [.str "field",.tup [.str "name",.str (S x)],.str (S z)],hu::aj)->g6 aj=some (t,[])->hI ab (some (.tup [.str "put",.tup [.str "name",.str (S x)],.str (S z),t],ab.length))
def B0 {ab:List bJ} {p q}(h:ab.drop p=ab.drop q) (ar:p<=ab.length) (aD:q<=ab.length):p=q:=by
 have:=fM List.length h;rw[j6,j6] at this;omega
inductive F1 (K:aJ) (C aF:Addr) (vs:br) (H:ap) (Q:bz) (E:cJ):Prop
 |mk r n aA ab o:vs=[.ref r]->bT K C H r n aA ab 0 0->hI ab o->(∀d av v Z,o=some (d,av)->av<=ab.length->bD r H Z->bT K C Z r n aA ab av 0->At K Z d v->Q v Z)->(o=none->Out aF r n H E)->F1 K C aF vs H Q E
def M8:cE nx cD (bF BV):=dm
def M9:br:=[.str "pass",.str "break",.str "continue",.str "return",.str "raise",.str "global",.str "nonlocal",.str "yield"]
def Vm (g:BX K mg) (F:b5 K "read_single_row" "read_single_row" BV f as) (M:oY P w K mg base C aF) (gv:dv P w K mg base "read_told" nx 317 (yK K C aF)) (qo:dv P w K mg base "read_binding" cD 317 (BY K C aF)) (YS:dv P w K mg base "read_doing" cD 317 (BZ K C aF)):bK P w K mg base (bQ P w) 318 f as cD (F1 K C aF):=by
 refine F.fl M8 (λvs H Q E h=>?_) (λbk A outer s H vs Q E al h=>?_)
 ·obtain⟨_,_,_,_,_,rfl,_⟩:=h;rfl
 obtain⟨r,n,aA,ab,o,rfl,ay,ax,aZ,bn⟩:=h;have bN:ff (bQ P w) (fj (bQ P w) P w K mg base nx "read_single_row" (bF BV) f bk A outer s H E) E:=f6 λ_ _ _ h=>h;refine⟨_,(aX (ct 1 M8.bp (oV bN M.z (ah 0))) (aX (ck (gy.pt (kb (c3 eY (ef (ah 1)) aV) (kz (ey ms (ef (ah 1)) (cP (cg aV (cg aV (cg aV (cg aV (i3 aV aV aV aV)))))) I)))) (aX (gQ (q' bN M.t (ah 0))) (a9 (bE (f7 bN gv (c6 (ah 0) (ef (ah 1))))))) cA) (aX (ck (gy.pt (kb (c3 eY (ef (ah 1)) aV) (kz (ey (BF al) (iH bN M.z.toF (ah 0) (bx aO)) (ii g.Vg) I)))) (a9 (bE (f7 bN qo (bx (ah 0))))) cA) (a9 (bE (f7 bN YS (bx (ah 0)))))))),?main⟩
 case main=>
  have key:(∃l,ab[0]?=some (.ee l)/\e8 (.str (S l)) M9=true/\∀ai,bD r H ai->bT K C ai r n aA ab 1 0->yK K C aF [.ref r,.str (S l)] ai Q E)\/(∃x y,ab[0]?=some (.name x)/\ab[1]?=some y/\if nX.contains y=true then BY K C aF [.ref r] H Q E else BZ K C aF [.ref r] H Q E):=by
   cases ax with
   |yM e=>
    subst e;exact .inl ⟨_,I,by decide +kernel,λai b2 cu=>.p5 r I λv Z s' h=>aZ nY 1 v Z I (bf _) (b2.trans (.of s')) (cu.same s') h⟩
   |ret aj t av e e0 ak ar=>
    subst e;refine .inl ⟨_,I,by decide +kernel,λai b2 cu=>.ret r n aA _ 1 I cu (by simp) (λx aS v Z am _ et dM dd h=>?_) λam=>?_⟩
    ·have f':sz aj=some (.tup [.str "return",t],(yL::aj).drop av):=by unfold sz;rw[bP e0,ak];rfl
     have am:sz aj=some (x,(yL::aj).drop aS):=am;rw[f'] at am;have aE:=hB am;have ex:x=.tup [.str "return",t]:=(fM Prod.fst aE).symm;have cp:aS=av:=B0 (fM Prod.snd aE).symm et ar;subst ex cp;exact aZ _ _ v Z rfl et (b2.trans dM) dd h
    ·have am:sz aj=none:=am;unfold sz at am;rw[bP e0,ak] at am;cases am
   |bind x aj d av e af ar=>
    subst e;refine .inr ⟨x,hu,I,I,?_⟩;rw[show nX.contains hu=true by decide +kernel,b8 rfl];refine⟨r,n,aA,_,0,x,I,ay,I,I,λgA aS v Z am _ et b2 cu h=>?_,λam=>?_⟩
    ·have am:mz x aj=some (gA,(.name x::hu::aj:List bJ).drop aS):=am;rw[af] at am;have aE:=hB am;have ex:gA=d:=(fM Prod.fst aE).symm;have cp:aS=av:=B0 (fM Prod.snd aE).symm et ar;subst ex cp;exact aZ _ _ v Z rfl et b2 cu h
    ·have am:mz x aj=none:=am;rw[af] at am;cases am
   |yN x aj e af=>
    subst e;refine .inr ⟨x,hu,I,I,?_⟩;rw[show nX.contains hu=true by decide +kernel,b8 rfl];refine⟨r,n,aA,_,0,x,I,ay,I,I,λgA aS v Z am _ et b2 cu h=>?_,λam=>bn I⟩;have am:mz x aj=some (gA,(.name x::hu::aj:List bJ).drop aS):=am;rw[af] at am;cases am
   |p6 x y aj t e aT ak=>
    refine .inr ⟨x,y,by rw[e];rfl,by rw[e];rfl,?_⟩;rw[aT,bP gf];refine⟨r,n,aA,_,0,I,ay,fN _,λgr aS am _ et=>?_,λam=>?_⟩
    ·rw[xR,ak] at am;have aE:=hB am;have l5:gr=t:=(fM Prod.fst aE).symm;have eP:ab.drop aS=[]:=(fM Prod.snd aE).symm;have cp:aS=ab.length:=by have:=DW.mp eP;omega
     subst l5 cp;exact⟨λ_ v Z b w h=>aZ _ _ v Z I (bf _) b w h,λz=>by rw[DV (bf _)] at z;cases z⟩
    ·rw[xR,ak] at am;cases am
   |put x z aj t e ak bO=>
    refine .inr ⟨x,gE,by rw[e];rfl,by rw[e];rfl,?_⟩;rw[show nX.contains gE=false by decide +kernel,bP gf];have hd:ab.drop 3=hu::aj:=by rw[e];rfl
    have C6:ab.drop 4=aj:=by rw[e];rfl
    have au:ab.length=aj.length+4:=by rw[e];rfl
    refine⟨r,n,aA,_,0,I,ay,fN _,λgr aS am _ et=>?_,λam=>?_⟩
    ·rw[xR,ak] at am;have aE:=hB am;have l5:gr=_:=(fM Prod.fst aE).symm;have eP:ab.drop aS=ab.drop 3:=by rw[hd];exact(fM Prod.snd aE).symm
     have cp:aS=3:=B0 eP et (by omega);subst cp;have aW:ab[3]?=some hu:=by rw[e];rfl
     refine⟨λz=>absurd aW z,λ_=>⟨(by rw[e];exact λz=>by cases z),_,_,l5,λrn av v Z bq _ mN b w h=>?_,λbq=>?_⟩⟩
     ·rw[C6,bO] at bq;have bX:=hB bq;have ex:rn=t:=(fM Prod.fst bX).symm;have Ij:ab.drop av=[]:=(fM Prod.snd bX).symm;have cp:av=ab.length:=by have:=DW.mp Ij;omega
      subst ex cp;exact aZ _ _ v Z rfl (bf _) b w h
     ·rw[C6,bO] at bq;cases bq
    ·rw[xR,ak] at am;cases am
  refine⟨_,I,ay.gm ⟨r,n,aA,ab,0,_,0,0,I,ay,by omega,λv aK=>?_⟩⟩;rcases key with ⟨l,au,aR,k⟩|⟨x,y,ak,aT,k⟩
  ·rw[au] at aK;refine⟨_,I,0,_,_,I,aK,I,fm ⟨I,_,I,?_⟩⟩;rw[fv (show V.str (ez (.ee l))=V.str "told" from I)];refine fz ⟨_,I,1,_,_,I,aK,I,fm ⟨(by decide:8<=sizeLine),λaS cm=>dz cm λai az c5=>⟨aS,_,I,.inr (dI.of c5),I,I,_,I,?_⟩⟩⟩;show if(e8 (.str (S l)) M9)=true then _ else _
   rw[aR];have cu:=ay.same az;exact fz ⟨_,I,cu.gm ⟨r,n,aA,ab,0,_,I,cu,λhT aB dM dd ko=>⟨_,I,_,I,1,_,_,I,fE (cu.dQ dM) (dB az aK),I,fm (k aB ((bD.of az).trans dM) dd)⟩⟩⟩
  ·rw[ak] at aK;refine⟨_,I,0,_,_,I,aK,I,fm ⟨I,_,I,?_⟩⟩;rw[ew (show ¬V.str (ez (.name x))=V.str "told" from λz=>absurd (V.str.inj z) (by simp only[ez];decide +kernel))];refine dr ⟨_,I,0,_,_,I,aK,I,fm ⟨I,_,I,?_⟩⟩;rw[fv (show V.str (ez (.name x))=V.str "name" from I)];refine fz ⟨_,I,ay.gm ⟨r,n,aA,ab,0,_,1,1,I,ay,by omega,λj1 fo gt a1=>⟨_,_,fo,a1 H,BH nX,_,I,?_⟩⟩⟩;rw[show(if false=true then !((nX.map dK).any λe=>cx e (gS ab[1]?)) else(nX.map dK).any λe=>cx e (gS ab[1]?))=ab[1]?.any (nX.contains ·) from BG (by decide +kernel) _,aT];show if nX.contains y=true then _ else _
   by_cases aw:nX.contains y=true
   ·rw[b8 aw] at k⊢;exact⟨_,I,k⟩
   ·rw[bP aw] at k⊢;exact⟨_,I,k⟩
end
abbrev F2:Stmt:=top 85
abbrev F3:Stmt:=top 94
abbrev B1:Stmt:=kC 0 (top 95)
abbrev B2:Stmt:=kC 1 (top 95)
abbrev yO:Stmt:=kC 2 (top 95)
section
variable {K:aJ}{P:Program}{w:World}{mg:Str->cn}{base:Heap}{f:Addr}{as:FuncData}{C aF SB CL:Addr}
inductive F4 (K:aJ) (C aF:Addr) (vs:br) (H:ap) (Q:bz) (E:cJ):Prop
 |mk r n aA ab p:vs=[.ref r,.str "while"]->bT K C H r n aA ab p 0->p<=ab.length->(∀x av v Z,g6 (ab.drop p)=some (x,ab.drop av)->p<=av->av<=ab.length->bD r H Z->bT K C Z r n aA ab av 0->At K Z (.tup [x]) v->Q v Z)->(g6 (ab.drop p)=none->Out aF r n H E)->F4 K C aF vs H Q E
def Vn:cE ["row","word","name"] nx (bF F2):=dm
def Vo (F:b5 K "read_head" "read_head" F2 f as) (jC:dv P w K mg base "read_expression" cD 316 (ea K C aF 12 (wB K) g6)):bK P w K mg base (bQ P w) 317 f as nx (F4 K C aF):=by
 refine F.fl Vn (λvs H Q E h=>?_) (λbk A outer s H vs Q E al h=>?_)
 ·obtain⟨_,_,_,_,_,rfl,_⟩:=h;rfl
 obtain⟨r,n,aA,ab,p,rfl,ay,ar,aZ,bn⟩:=h;refine⟨_,(aX (ck (ey ms (ah 1) (cP (fb aV aV aV)) I) (a9 (bE (cP (bx (f7 (f6 λ_ _ _ h=>h) jC (bx (ah 0))))))) cA) k7),?_⟩;refine⟨_,I,lO,λaS cm=>dz cm λai az c5=>⟨aS,_,I,.inr (dI.of c5),I,I,_,I,?_⟩⟩;show if(e8 (.str "while") [.str "if",.str "elif",.str "while"])=true then _ else _
 rw[show e8 (.str "while") [.str "if",.str "elif",.str "while"]=true by decide +kernel];have cu:=ay.same az;exact fz ⟨_,I,r,n,aA,ab,p,I,cu,ar,λt bM hT aB aE ed hQ dM dd bO=>⟨ki,λbI gs=>dz gs λa7 a2 fK=>aZ t bM _ a7 aE ed hQ (((bD.of az).trans dM).trans (.of a2)) (dd.same a2) (iG a2 fK (bB.jS bO))⟩,λaE=>(bn aE).mono (.of az)⟩
def B3 (t:D) (bs:d8):D:=.tup [.str "while",t,.tup bs,.tup []]
inductive uh (K:aJ) (H:ap) (b0 az:Addr) (t:D):Prop
 |mk on:H b0=some (.tup [.str "while",on,.ref az])->At K H (.tup [t]) on->uh K H b0 az t
def uh.dQ {H Z b0 az t}(h:uh K H b0 az t) (e:∀o,H b0=some o->Z b0=some o) (s:h2 H Z):uh K Z b0 az t:=let ⟨on,a,b⟩:=h;⟨on,e _ a,fE s b⟩
inductive F5 (K:aJ) (vs:br) (H:ap) (Q:bz) (E:cJ):Prop
 |mk c b0 az t bs:vs=[.ref c]->H c=some (.lst [.ref b0])->uh K H b0 az t->hG K H az bs->(∀v Z,ba H Z->At K Z (B3 t bs) v->Q v Z)->F5 K vs H Q E
def yP:cE ["clauses","word","second","clause"] ["clauses"] (bF F3):=dm
def Vp (g:f9 K mg) (YT:mg "reversed"=none) (F:b5 K "tree_of" "tree_of" F3 f as):bK P w K mg base (bQ P w) 2 f as ["clauses"] (F5 K):=by
 refine F.fl yP (λvs H Q E h=>?_) (λbk A outer s H vs Q E al h=>?_)
 ·obtain⟨_,_,_,_,_,rfl,_⟩:=h;rfl
 obtain⟨c,b0,az,t,bs,rfl,aw,⟨on,s5,Ip⟩,kp,q⟩:=h;refine⟨_,(aX (ct 1 yP.bp (gj (r:=tL K) vV (hs K (ah 0) aO) aO (λ_ _=>I))) (aX (ck (c3 eY (ah 1) aV) k7 cA) (aX (ck (ey ms (ah 1) (cP (c6 aV aV)) I) k7 cA) (aX (ct 2 yP.bp (cP dc)) (aX (mo rX I (.mk (L2.S5 I YT (gD.out (bx (ah 0))))) (h1 3 yP.bp) (a9 (ck (c3 eY (gj (r:=tL K) vV (ah 3) aO (λ_ _=>I)) aV) k7 (a9 (ct 2 yP.bp (cP (bx (a5 LK (a5 LK (cP (bx (ah 1))) (gj (r:=tL K) vV (ah 3) aO (λ_ _=>I))) (cP (c6 (ke x8 I g.sv su (bx (gj (r:=tL K) vV (ah 3) aO (λ_ _=>I)))) (ah 2))))))))))) (a9 (bE (ef (ah 2))))))))),?main⟩
 case main=>
  obtain⟨YU,af,kr⟩:=kp;have no:∀z:Str,(decide (V.str "while"=V.str z))=decide (("while":Str)=z):=λz=>wk _ _;refine⟨_,I,c,_,0,.ref b0,I,I,bg.of aw,I,b0,_,0,.str "while",I,I,dI.of s5,I,?_⟩;refine⟨_,I,I,_,I,?_⟩;rw[no,ew (by decide +kernel)];refine dr ⟨_,I,e',λaS cm=>dz cm λai O3 c5=>⟨aS,_,I,.inr (dI.of c5),I,I,_,I,?_⟩⟩;show if(e8 (.str "while") [.str "def",.str "class"])=true then _ else _
  rw[show e8 (.str "while") [.str "def",.str "class"]=false by decide +kernel];refine dr ⟨kh,λbM ed=>dz ed λaB aN fJ=>?_⟩;have C7:=O3.trans aN;have rn:At K aB (.tup []) (.ref bM):=iG aN fJ (f5.mpr I);refine⟨_,I,c,[.ref b0],I,bg.of (C7 _ _ aw),S6 (bg.of (C7 _ _ aw)) ?_⟩;refine⟨_,I,b0,_,0,.str "while",I,I,dI.of (C7 _ _ s5),I,I,_,I,?_⟩;rw[no,ew (by decide +kernel)];refine dr ⟨_,I,ki,λbI gs=>dz gs λa7 a2 fK=>?_⟩;have Iq:=C7.trans a2;refine⟨_,I,b0,_,1,on,I,I,dI.of (Iq _ _ s5),I,[.str "while"],[t],iG a2 fK (bB.jS (cz.mpr I)),dB Iq Ip,e',λze b1 dp bm=>?_⟩;have C8:=Iq.trans dp;refine⟨_,I,b0,_,2,.ref az,I,I,dI.of (C8 _ _ s5),I,az,YU,I,.inl ⟨bg.of (C8 _ _ af),λeT ix=>dz ix λdS dq jd=>⟨_,I,e',λlp w'=>dz w' λgV na Ie=>?_⟩⟩⟩;have YV:=(C8.trans dq).trans na;have ac7:=((a2.trans dp).trans dq).trans na;have YW:At K dS (.tup bs) (.ref eT):=iG dq jd (oU C8 kr);have YX:At K gV (.tup [.tup bs,.tup []]) (.ref lp):=iG na Ie (ht YW (dB ((a2.trans dp).trans dq) rn));refine⟨_,_,dB (dq.trans na) bm,YX,q6,λwf fV iM g9=>⟨ki,λs1 qp=>dz qp λnd lZ qq=>?_⟩⟩;have YY:At K nd (.tup [B3 t bs]) (.ref s1):=iG lZ qq (bB.jS g9);exact⟨_,I,0,_,_,I,YY,I,λy aT=>q y nd ((YV.trans iM).trans lZ) aT⟩
def jw (s c:Addr):mV:=[("statements",.ref s),("clauses",.ref c)]
structure sA (K:aJ) (C:Addr):Prop where
 cls:jo K C
 bS:NoAttr K C "statements"
 cH:NoAttr K C "clauses"
def ui {s c}:(jw s c).lookup ("statements":Str)=some (V.ref s):=rfl
def wD {s c}:(jw s c).lookup ("clauses":Str)=some (V.ref c):=by
 unfold jw;rw[h9,show(("clauses":Str) == "statements")=false by decide +kernel];rfl
def Vq {s c dF}:hq "clauses" (.ref dF) (jw s c)=jw s dF:=by unfold jw;rw[uc fP];rfl
inductive B4 (CL:Addr) (vs:br) (H:ap) (Q:bz) (dA:cJ):Prop
 |mk x ao:vs=[.ref x]->H x=some (.ins CL ao [])->(∀s c Z,H s=none->H c=none->s≠c->s≠x->c≠x->bD x H Z->Z x=some (.ins CL ao (jw s c))->Z s=some (.lst [])->Z c=some (.lst [])->Q .a3 Z)->B4 CL vs H Q dA
def Vr:cE h7 h7 (bF B1):=dm
def Vs (c:sA K CL) (F:b5 K "__init__" "Level.__init__" B1 f as):bK P w K mg base dJ 1 f as h7 (B4 CL):=by
 refine F.kj Vr ?_;rintro bk A outer s H vs Q E al ⟨x,ao,rfl,ak,q⟩ ll;refine⟨_,(aX (bc.k0 (ah 0) (eL dc)) (a9 (bc.k0 (ah 0) (eL dc)))),?_⟩;refine⟨kh,λs ax=>dz ax λai az c5=>⟨_,I,x,CL,ao,_,I,az _ _ ak,c.cls,c.bS,dU,?_⟩⟩;have Ir:s≠x:=λz=>by rw[z,ak] at ax;cases ax
 refine q7 x ai λaB dM aE=>⟨kh,λdF aw=>dz aw λa7 a2 fK=>⟨_,I,x,CL,ao,_,I,a2 _ _ aE,c.cls,c.cH,eG (pz 1) dU,?_⟩⟩;have It:dF≠x:=λz=>by rw[z,aE] at aw;cases aw
 have gq:aB s=some (.lst []):=dM _ _ Ir c5;have YZ:s≠dF:=λz=>by rw[<-z,gq] at aw;cases aw
 refine q7 x a7 λb1 e1 bX=>?_;have sb:bD x H b1:=(((bD.of az).trans dM).trans (.of a2)).trans e1;refine q s dF b1 ax ?_ YZ Ir It sb bX (e1 _ _ Ir (a2 _ _ gq)) (e1 _ _ It fK);cases e:H dF with
 |none=>rfl
 |some o=>rw[((bD.of az).trans dM) dF o It e] at aw;cases aw
inductive F6 (K:aJ) (CL:Addr) (vs:br) (H:ap) (Q:bz) (dA:cJ):Prop
 |mk x ao s c xs:vs=[.ref x]->H x=some (.ins CL ao (jw s c))->H s=some (.lst xs)->H c=some (.lst [])->(∀Z,ba H Z->Q (.aM xs.isEmpty) Z)->F6 K CL vs H Q dA
def Vt:cE h7 h7 (bF B2):=dm
def Vu (c:sA K CL) (F:b5 K "is_empty" "Level.is_empty" B2 f as):bK P w K mg base dJ 1 f as h7 (F6 K CL):=by
 refine F.kj Vt ?_;rintro bk A outer s H vs Q E al ⟨x,ao,s,dF,xs,rfl,ak,ax,aw,q⟩ ll;refine⟨_,(a9 (bE (qL (jP (Fl al) (bc.eZ (ah 0)) (eL dc)) (oH (jP (Fl al) (bc.eZ (ah 0)) (eL dc)))))),?_⟩;refine⟨_,I,x,CL,ao,_,_,I,ak,c.cls,c.bS,ui,kh,λaS cm=>dz cm λai az c5=>⟨s,aS,xs,I,I,bg.of (az _ _ ax),bg.of c5,_,I,?_⟩⟩;refine fR (λe=>?_) λe=>?_
 ·refine⟨_,I,x,CL,ao,_,_,I,az _ _ ak,c.cls,c.cH,wD,kh,λbM ed=>dz ed λaB aN fJ=>⟨dF,bM,[],I,I,bg.of ((az.trans aN) _ _ aw),bg.of fJ,?_⟩⟩;have:=q aB (az.trans aN);rw[e] at this;exact this
 ·have:=q ai az;rw[e] at this;exact this
inductive wF (K:aJ) (CL:Addr) (vs:br) (H:ap) (Q:bz) (E:cJ):Prop
 |nil L y ao s c:vs=[.ref L,y]->H L=some (.ins CL ao (jw s c))->H c=some (.lst [])->(∀Z,ba H Z->Q .a3 Z)->wF K CL vs H Q E
 |one L y ao s c b0 az t ds bs:vs=[.ref L,y]->H L=some (.ins CL ao (jw s c))->H c=some (.lst [.ref b0])->uh K H b0 az t->hG K H az bs->hG K H s ds->ds.length<=1000->s≠c->s≠az->(∀Z dF,(∀p o,p≠L->p≠s->H p=some o->Z p=some o)->Z L=some (.ins CL ao (jw s dF))->H dF=none->Z dF=some (.lst [])->hG K Z s (ds++[B3 t bs])->Q .a3 Z)->wF K CL vs H Q E
def Vv:cE kN kN (bF yO):=dm
def Vw (c:sA K CL) (F:b5 K "settle" "Level.settle" yO f as) (gv:dv P w K mg base "tree_of" ["clauses"] 2 (F5 K)):bK P w K mg base (bQ P w) 3 f as kN (wF K CL):=by
 refine F.fl Vv (λvs H Q E h=>?_) (λbk A outer s H vs Q E al h=>?_)
 ·rcases h with ⟨_,_,_,_,_,rfl,_⟩|⟨_,_,_,_,_,_,_,_,_,_,rfl,_⟩<;>rfl
 have bN:ff (bQ P w) (fj (bQ P w) P w K mg base kN "Level.settle" (bF yO) f bk A outer s H E) E:=f6 λ_ _ _ h=>h;refine⟨_,(aX (ck (c3 (Fl al) (bc.eZ (ah 0)) (eL dc)) (a9 vL) cA) (aX (ck (c3 eY (gj (r:=tL K) vV (hs K (bc.eZ (ah 0)) (mZ r6 aO)) aO (λ_ _=>I)) aV) k7 cA) (aX (gQ (hb pC pB qG oK (bc.eZ (ah 0)) (bx (f7 bN gv (bx (bc.eZ (ah 0))))))) (a9 (bc.k0 (ah 0) (eL dc)))))),?main⟩
 case main=>
  rcases h with ⟨L,y,ao,s,dF,rfl,dC,aw,q⟩|⟨L,y,ao,s,dF,b0,az,t,ds,bs,rfl,dC,aw,s5,kp,ax,sK,C9,ac8,q⟩
  ·refine⟨_,I,L,CL,ao,_,_,I,dC,c.cls,c.cH,wD,kh,λaS cm=>dz cm λai am c5=>⟨dF,aS,[],I,I,bg.of (am _ _ aw),bg.of c5,_,I,fz (q ai am)⟩⟩
  ·have no:∀z:Str,(decide (V.str "while"=V.str z))=decide (("while":Str)=z):=λz=>wk _ _;refine⟨_,I,L,CL,ao,_,_,I,dC,c.cls,c.cH,wD,kh,λaS cm=>dz cm λai am c5=>⟨dF,aS,[.ref b0],I,I,bg.of (am _ _ aw),bg.of c5,_,I,dr ?_⟩⟩;have ol:=am _ _ dC;obtain⟨on,O4,Ip⟩:=id s5;refine⟨_,I,L,CL,ao,_,_,I,ol,c.cls,c.cH,wD,_,I,dF,_,-1,.ref b0,I,I,bg.of (am _ _ aw),I,b0,_,0,.str "while",I,I,dI.of (am _ _ O4),I,I,_,I,?_⟩;rw[no,ew (by decide +kernel)];obtain⟨vs,aK,aq⟩:=id ax;refine dr ⟨_,I,L,CL,ao,_,_,I,ol,c.cls,c.bS,ui,.inl ⟨I,_,bg.of (am _ _ aK)⟩,_,I,L,CL,ao,_,_,I,ol,c.cls,c.cH,wD,dF,b0,az,t,bs,I,am _ _ aw,⟨on,am _ _ O4,dB am Ip⟩,kp.same am,λhT aB aE ko=>?_⟩;have u6:=am.trans aE;have dT:vs.length=ds.length:=aq.len;refine⟨s,vs,hT,I,I,u6 _ _ aK,by rw[dT,jH];omega,kh,λfK zU=>?_⟩;have O5:L≠s:=λz=>by rw[z,aK] at dC;cases dC
   have O6:upd aB s (.lst (vs++[hT])) L=some (.ins CL ao (jw s dF)):=by rw[cj O5];exact u6 _ _ dC
   have O7:fK≠s:=λz=>by rw[z,b'] at zU;cases zU
   have zV:aB fK=none:=by rw[cj O7] at zU;exact zU
   have Iu:fK≠L:=λz=>by rw[z,u6 _ _ dC] at zV;cases zV
   refine⟨_,I,L,CL,ao,jw s dF,I,by rw[cj (d0 Iu)];exact O6,c.cls,c.cH,show(jw s dF).length < 1000 from(by decide:2 < 1000),?_⟩;rw[Vq];have dQ:=nV (ys:=vs++[hT]) (u6 _ _ aK);have Y0:h2 (upd aB s (.lst (vs++[hT]))) (upd (upd aB s (.lst (vs++[hT]))) fK (.lst [])):=.of (cK zU _);have Y1:h2 (upd (upd aB s (.lst (vs++[hT]))) fK (.lst [])) (upd (upd (upd aB s (.lst (vs++[hT]))) fK (.lst [])) L (.ins CL ao (jw s fK))):=(bD.i4 L _ _).q8 (by rw[cj (d0 Iu)];exact O6);have O8:=(dQ.trans Y0).trans Y1;refine q _ fK (λp o ag ae aW=>?_) b' ?_ ?_ ⟨vs++[hT],?_,?_⟩
   ·have b7:=u6 _ _ aW;rw[cj ag,cj (λz=>by rw[z,zV] at b7;cases b7),cj ae];exact b7
   ·cases e:H fK with
    |none=>rfl
    |some o=>rw[u6 _ _ e] at zV;cases zV
   ·rw[cj Iu,b']
   ·rw[cj (d0 O5),cj (d0 O7),b']
   ·exact bB.append (jQ O8 (oU u6 aq)) (bB.jS (fE O8 ko))
end
abbrev B5:Stmt:=kC 0 (top 96)
abbrev pClose:Stmt:=kC 1 (top 96)
abbrev B6:Stmt:=kC 2 (top 96)
abbrev yQ:Stmt:=kC 3 (top 96)
abbrev yR:Stmt:=kC 5 (top 96)
abbrev yS:Stmt:=kC 6 (top 96)
abbrev yT:Stmt:=kC 7 (top 96)
def i5 (bb:Addr) (k:Nat):mV:=[("levels",.ref bb),("many",.int (k:Nat))]
structure uj (K:aJ) (C:Addr):Prop where
 cls:jo K C
 bS:NoAttr K C "levels"
 cH:NoAttr K C "many"
def i6 {bb k}:(i5 bb k).lookup ("levels":Str)=some (V.ref bb):=rfl
def M' {bb k}:(i5 bb k).lookup ("many":Str)=some (V.int (k:Nat)):=by
 unfold i5;rw[h9,show(("many":Str) == "levels")=false by decide +kernel];rfl
def Vx {bb k k'}:hq "many" (.int (k':Nat)) (i5 bb k)=i5 bb k':=by unfold i5;rw[uc fP];rfl
def o1 {bb k m}(h:autoParam ((m == ("levels":Str))=false/\(m == ("many":Str))=false) Ic):(i5 bb k).lookup m=none:=by
 unfold i5;rw[h9,h.1,h9,h.2];rfl
def sC {s c m}(h:autoParam ((m == ("statements":Str))=false/\(m == ("clauses":Str))=false) Ic):(jw s c).lookup m=none:=by
 unfold jw;rw[h9,h.1,h9,h.2];rfl
inductive er (K:aJ) (aY CL:Addr) (aI H:ap) (aC:Addr) (ds:d8) (k:Nat) (own:gd):Prop
 |mk ao bb b6 dV s0 cQ:ba aI H->H aC=some (.ins aY ao (i5 bb k))->H bb=some (.lst [.ref b6])->H b6=some (.ins CL dV (jw s0 cQ))->hG K H s0 ds->H cQ=some (.lst [])->(bb≠s0/\bb≠cQ/\s0≠cQ/\aC≠b6/\own=[aC,bb,b6,s0,cQ]/\∀a∈own,aI a=none)->er K aY CL aI H aC ds k own
inductive eh (K:aJ) (aY CL:Addr) (aI H:ap) (aC:Addr) (ds:d8) (k:Nat) (t:D) (bs:d8) (op:Bool) (own:gd):Prop
 |mk ao bb b6 dV s0 cQ b0 d6 hM az c5:ba aI H->H aC=some (.ins aY ao (i5 bb k))->H bb=some (.lst (if op then [.ref b6,.ref d6] else [.ref b6]))->H b6=some (.ins CL dV (jw s0 cQ))->hG K H s0 ds->H cQ=some (.lst [.ref b0])->uh K H b0 az t->H d6=some (.ins CL hM (jw az c5))->hG K H az bs->H c5=some (.lst [])->([bb,s0,cQ,az,c5].Nodup/\[aC,b6,d6].Nodup/\own=[aC,bb,b6,s0,cQ,d6,az,c5]/\∀a∈own,aI a=none)->eh K aY CL aI H aC ds k t bs op own
def sD (aF n:Nat) (aI:ap) (E:cJ):Prop:=∀d Z,ba aI Z->Z d=some (.nF [("at",.int (n:Nat))])->E (.ref aF) (some d) Z
def sD.out {aF r n aI H E}(o:sD aF n aI E) (s:ba aI H) (al:aI r=none):Out aF r n H E:=λd Z b h=>o d Z (λp c0 e=>b p c0 (d9 e al) (s p c0 e)) h
section
variable {K:aJ}{P:Program}{w:World}{mg:Str->cn}{base:Heap}{f:Addr}{as:FuncData}{C aF SB CL aY:Addr}{aI H Z:ap}{aC:Addr}{ds:d8}{k:Nat}{t:D}{bs:d8}{op:Bool}{own:gd}
def er.same (h:er K aY CL aI H aC ds k own) (s:ba H Z):er K aY CL aI Z aC ds k own:=let ⟨ao,bb,b6,dV,s0,cQ,ag,ae,aW,bm,b7,dZ,g9⟩:=h;⟨ao,bb,b6,dV,s0,cQ,ag.trans s,s _ _ ae,s _ _ aW,s _ _ bm,b7.same s,s _ _ dZ,g9⟩
def eh.same (h:eh K aY CL aI H aC ds k t bs op own) (s:ba H Z):eh K aY CL aI Z aC ds k t bs op own:=let ⟨ao,bb,b6,dV,s0,cQ,b0,d6,hM,az,c5,ag,ae,aW,bm,b7,dZ,g9,iz,jD,j2,zW⟩:=h;⟨ao,bb,b6,dV,s0,cQ,b0,d6,hM,az,c5,ag.trans s,s _ _ ae,s _ _ aW,s _ _ bm,b7.same s,s _ _ dZ,g9.dQ (λo e=>s _ _ e) (.of s),s _ _ iz,jD.same s,s _ _ j2,zW⟩
def bD.ne' {r:Addr}(b:bD r H Z) (al:∃C ao bi,H r=some (.ins C ao bi)) {l xs}(h:H l=some (.lst xs)):Z l=some (.lst xs):=let ⟨_,_,_,e⟩:=al;b _ _ (λz=>by rw[z,e] at h;cases h) h
def er.but {r:Addr}(h:er K aY CL aI H aC ds k own) (b:bD r H Z) (al:∃C ao bi,H r=some (.ins C ao bi)) (hF:aI r=none) (bS:r∉own):er K aY CL aI Z aC ds k own:=by
 obtain⟨ao,bb,b6,dV,s0,cQ,ag,ae,aW,bm,b7,dZ,d3,im,s3,xc,rfl,om⟩:=h;have ne:∀a∈[aC,bb,b6,s0,cQ],a≠r:=λa aq z=>bS (z▸aq);exact⟨ao,bb,b6,dV,s0,cQ,λp o e=>b p o (d9 e hF) (ag p o e),b _ _ (ne _ (by simp)) ae,b.ne' al aW,b _ _ (ne _ (by simp)) bm,b7.but b al,b.ne' al dZ,d3,im,s3,xc,I,om⟩
def eh.but {r:Addr}(h:eh K aY CL aI H aC ds k t bs op own) (b:bD r H Z) (al:∃C ao bi,H r=some (.ins C ao bi)) (hF:aI r=none) (bS:r∉own):eh K aY CL aI Z aC ds k t bs op own:=by
 obtain⟨ao,bb,b6,dV,s0,cQ,b0,d6,hM,az,c5,ag,ae,aW,bm,b7,dZ,g9,iz,jD,j2,d3,im,rfl,s3⟩:=h;obtain⟨_,_,_,f'⟩:=id al;have ne:∀a∈[aC,bb,b6,s0,cQ,d6,az,c5],a≠r:=λa aq z=>bS (z▸aq);refine⟨ao,bb,b6,dV,s0,cQ,b0,d6,hM,az,c5,λp o e=>b p o (d9 e hF) (ag p o e),b _ _ (ne _ (by simp)) ae,b.ne' al aW,b _ _ (ne _ (by simp)) bm,b7.but b al,b.ne' al dZ,g9.dQ (λo e=>b _ _ (λz=>?_) e) (b.q8 f'),b _ _ (ne _ (by simp)) iz,jD.but b al,b.ne' al j2,d3,im,I,s3⟩;obtain⟨on,a,_⟩:=g9;rw[z,f'] at a;cases a
def F7 {X:a8} {name C aG k k' sp p pos}(M:t6 X.prog X.w X.K X.mg X.base name C aG k sp) (al:dj (k'+1) X.A) (aU:autoParam (k<=k') Ty) (a1:autoParam (eH X name) dl) (eN:autoParam (e4 name) Cl):LE X (.Call (.Name name p) [] [] pos) (AS C sp [] oL lH):=by
 obtain⟨f,as,ag,ae,aW,bm⟩:=M.ex;exact .mk (L2.QY ae (bm.mono aU) al a1 ag aW .nil AW eN)
inductive F8 (K:aJ) (aY CL:Addr) (vs:br) (H:ap) (Q:bz) (dA:cJ):Prop
 |mk x ao aI:vs=[.ref x]->H x=some (.ins aY ao [])->ba aI H->aI x=none->(∀own Z,er K aY CL aI Z x [] 0 own->Q .a3 Z)->F8 K aY CL vs H Q dA
def Vy:cE h7 h7 (bF B5):=dm
def lQ {A B:ap}{p:Addr}(s:ba A B) (h:B p=none):A p=none:=by
 cases e:A p with
 |none=>rfl
 |some o=>rw[s _ _ e] at h;cases h
def Vz (c:uj K aY) (F:b5 K "__init__" "Reader.__init__" B5 f as) (xf:t6 P w K mg base "Level" CL h7 1 (B4 CL)):bK P w K mg base dJ 3 f as h7 (F8 K aY CL):=by
 refine F.kj Vy ?_;rintro bk A outer s H vs Q E al ⟨x,ao,aI,rfl,ak,dD,cd,q⟩ ll;refine⟨_,(aX (bc.k0 (ah 0) (eL (bx (F7 xf al)))) (a9 (bc.k0 (ah 0) aO))),?_⟩;intro L jX dC Iv Y2;have O9:L≠x:=λz=>by rw[z,ak] at dC;cases dC
 have bS:ba H (upd (upd H jX (.own L)) L (.ins CL jX [])):=λp o e=>by rw[cj (d9 e dC),cj (d9 e Iv)];exact e
 refine⟨L,jX,I,b',λs0 cQ ai C' Iw C9 Y3 Y4 b2 am aj h4=>⟨I,ki,λbb xg=>dz xg λaB aN fJ=>?_⟩⟩;have Ix:=lQ bS C';have Iy:=lQ bS Iw;have az:ba H ai:=λp o e=>b2 p o (d9 e dC) (bS p o e);have mM:=az.trans aN;refine⟨_,I,x,aY,ao,[],I,mM _ _ ak,c.cls,c.bS,dU,?_⟩;have Iz:=lQ az xg;refine q7 x aB λa7 eu bq=>⟨_,I,x,aY,ao,_,I,bq,c.cls,c.cH,eG (pz 1) dU,?_⟩;refine q7 x a7 λb1 e1 bX=>?_;have zX:=eu.trans e1;have Y5:bb≠x:=λz=>by rw[z,ak] at Iz;cases Iz
 have u7:s0≠x:=λz=>by rw[z,ak] at Ix;cases Ix
 have Y6:cQ≠x:=λz=>by rw[z,ak] at Iy;cases Iy
 refine q _ b1 ⟨ao,bb,L,jX,s0,cQ,λp o e=>zX p o (d9 e cd) (mM p o (dD p o e)),bX,zX _ _ Y5 fJ,zX _ _ O9 (aN _ _ am),⟨[],zX _ _ u7 (aN _ _ aj),f5.mpr I⟩,zX _ _ Y6 (aN _ _ h4),λz=>?_,λz=>?_,C9,d0 O9,I,λa aq=>?_⟩
 ·rw[z,aj] at xg;cases xg
 ·rw[z,h4] at xg;cases xg
 ·simp only[List.mem_cons,List.not_mem_nil,or_false] at aq;rcases aq with rfl|rfl|rfl|rfl|rfl
  ·exact cd
  ·exact lQ dD Iz
  ·exact lQ dD dC
  ·exact lQ dD Ix
  ·exact lQ dD Iy
end
section
variable {K:aJ}{P:Program}{w:World}{mg:Str->cn}{base:Heap}{f:Addr}{as:FuncData}{C aF SB CL aY:Addr}
inductive uk (K:aJ) (aY CL:Addr) (vs:br) (H:ap) (Q:bz) (E:cJ):Prop
 |a aC y aI ds k own:vs=[.ref aC,.int 0,y]->er K aY CL aI H aC ds k own->(∀Z,er K aY CL aI Z aC ds k own->Q .a3 Z)->uk K aY CL vs H Q E
 |F9 aC y aI ds k t own:vs=[.ref aC,.int 1,y]->eh K aY CL aI H aC ds k t [] true own->(∀Z,eh K aY CL aI Z aC ds k t [] true own->Q .a3 Z)->uk K aY CL vs H Q E
 |b2 aC y aI ds k t b bs own:vs=[.ref aC,.int 0,y]->eh K aY CL aI H aC ds k t (b::bs) true own->(∀Z,eh K aY CL aI Z aC ds k t (b::bs) false own->Q .a3 Z)->uk K aY CL vs H Q E
def F':cE Jt Ag (bF pClose):=dm
def VA (g:f9 K mg) (c:uj K aY) (cl:sA K CL) (F:b5 K "close" "Reader.close" pClose f as) (IA:hh P w K mg base "is_empty" CL h7 1 (F6 K CL)) (jR:hh P w K mg base "settle" CL kN 3 (wF K CL)):bK P w K mg base (bQ P w) 4 f as Ag (uk K aY CL):=by
 refine F.fl F' (λvs H Q E h=>?_) (λbk A outer s H vs Q E al h=>?_)
 ·rcases h with ⟨_,_,_,_,_,_,rfl,_⟩|⟨_,_,_,_,_,_,_,rfl,_⟩|⟨_,_,_,_,_,_,_,_,_,rfl,_⟩<;>rfl
 have bN:ff (bQ P w) (fj (bQ P w) P w K mg base Jt "Reader.close" (bF pClose) f bk A outer s H E) E:=f6 λ_ _ _ h=>h;refine⟨_,(aX (ct 3 F'.bp (a5 kZ (e7 r' I g.g2.g.jp sr (bx (bc.eZ (ah 0)))) aO)) (aX (ct 4 F'.bp (qL (jP kd (ah 3) aO) (oH (q' bN IA (hs K (bc.eZ (ah 0)) (mZ r6 aO)))))) (aX (ck (gy.pt (ib (c3 kd (ah 1) (ah 3)) (jK (gy.pt (kb (hD (ah 4)) (kz (c3 jn (ah 1) (ah 3)))))))) k7 cA) (a9 (nK rX (c3 kd (a5 kZ (e7 r' I g.g2.g.jp sr (bx (bc.eZ (ah 0)))) aO) (ah 1)) (a9 (gQ (iH bN jR (vW pC PySem.F.slot_list_pop PySem.F.type_list_pop Rm (bc.eZ (ah 0))) (bx (ah 2)))))))))),?main⟩
 case main=>
  rcases h with ⟨aC,y,aI,ds,k,own,rfl,bC,q⟩|⟨aC,y,aI,ds,k,t,own,rfl,bC,q⟩|⟨aC,y,aI,ds,k,t,b,bs,own,rfl,bC,q⟩
  ·obtain⟨ao,bb,b6,dV,s0,cQ,ag,ae,aW,bm,b7,dZ,g9⟩:=id bC;refine⟨_,I,aC,aY,ao,_,_,I,ae,c.cls,c.bS,i6,bb,_,I,.inl (bg.of aW),_,_,I,I,?_⟩;refine⟨_,I,_,_,I,I,_,I,?_⟩;refine dr ⟨_,I,_,I,_,_,I,I,_,I,dr ⟨_,I,_,I,dr ?_⟩⟩;refine⟨λm aa Z=>m=0/\aa=[some (.ref aC),some (.int 0),some y,some (.int 0),some (.aM false)]/\Z=H,⟨0,I,I,I⟩,?_⟩;rintro m aa Z ⟨rfl,rfl,rfl⟩;exact⟨_,I,aC,aY,ao,_,_,I,ae,c.cls,c.bS,i6,bb,_,I,.inl (bg.of aW),_,_,I,I,_,I,_,_,I,I,_,I,dr (q _ bC)⟩
  ·obtain⟨ao,bb,b6,dV,s0,cQ,b0,d6,hM,az,c5,ag,ae,aW,bm,b7,dZ,g9,iz,jD,j2,zW⟩:=id bC;obtain⟨j1,g1,g2⟩:=id jD;have am:=f5.mp g2;subst am;refine⟨_,I,aC,aY,ao,_,_,I,ae,c.cls,c.bS,i6,bb,_,I,.inl (bg.of aW),_,_,I,I,?_⟩;refine⟨_,I,_,_,I,I,_,I,fz ⟨_,I,aC,aY,ao,_,_,I,ae,c.cls,c.bS,i6,_,I,bb,_,-1,.ref d6,I,I,bg.of aW,I,d6,hM,_,I,iz,sC,d6,hM,az,c5,[],I,iz,g1,j2,λaB aE=>?_⟩⟩;have O':=bC.same aE;have xh:=aE _ _ ae;have s6:=aE _ _ aW;refine⟨_,I,_,I,_,_,I,I,_,I,dr ⟨_,I,_,I,fz ⟨_,I,_,I,_,_,I,I,_,I,dr ?_⟩⟩⟩;refine⟨λm aa Z=>m=0/\aa=[some (.ref aC),some (.int 1),some y,some (.int 1),some (.aM true)]/\Z=aB,⟨0,I,I,I⟩,?_⟩;rintro m aa Z ⟨rfl,rfl,rfl⟩;exact⟨_,I,aC,aY,ao,_,_,I,xh,c.cls,c.bS,i6,bb,_,I,.inl (bg.of s6),_,_,I,I,_,I,_,_,I,I,_,I,dr (q _ O')⟩
  ·obtain⟨ao,bb,b6,dV,s0,cQ,b0,d6,hM,az,c5,ag,ae,aW,bm,b7,dZ,g9,iz,jD,j2,zW⟩:=id bC;obtain⟨j1,g1,g2⟩:=id jD;obtain⟨u,ac9,am,_,_⟩:=fQ.mp g2;subst am;refine⟨_,I,aC,aY,ao,_,_,I,ae,c.cls,c.bS,i6,bb,_,I,.inl (bg.of aW),_,_,I,I,?_⟩;refine⟨_,I,_,_,I,I,_,I,fz ⟨_,I,aC,aY,ao,_,_,I,ae,c.cls,c.bS,i6,_,I,bb,_,-1,.ref d6,I,I,bg.of aW,I,d6,hM,_,I,iz,sC,d6,hM,az,c5,_,I,iz,g1,j2,λaB aE=>?_⟩⟩;have O':=bC.same aE;have xh:=aE _ _ ae;have s6:=aE _ _ aW;refine⟨_,I,_,I,_,_,I,I,_,I,dr ⟨_,I,_,I,dr ?_⟩⟩;refine⟨λm aa Z=>aa=[some (.ref aC),some (.int 0),some y,some (.int 1),some (.aM false)]/\((m=1/\Z=aB)\/(m=0/\eh K aY CL aI Z aC ds k t (b::bs) false own)),⟨1,I,.inl ⟨I,I⟩⟩,?_⟩;rintro m aa Z ⟨rfl,⟨rfl,rfl⟩|⟨rfl,Da⟩⟩
   ·refine⟨_,I,aC,aY,ao,_,_,I,xh,c.cls,c.bS,i6,bb,_,I,.inl (bg.of s6),_,_,I,I,_,I,_,_,I,I,_,I,fz ⟨_,λσ' Z z=>z,_,I,aC,aY,ao,_,_,I,xh,c.cls,c.bS,i6,.inl ⟨I,_,bg.of s6⟩,bb,[.ref b6,.ref d6],.ref d6,I,I,s6,I,?_⟩⟩;have au:∀{p o},Z p=some o->p≠bb->upd Z bb (.lst [.ref b6,.ref d6].dropLast) p=some o:=λ{p o} e n=>by rw[cj n];exact e
    have lU:∀{p C ao bi},Z p=some (.ins C ao bi)->p≠bb:=λ{p C ao bi} e z=>by rw[z,s6] at e;cases e
    obtain⟨iT,nq,ft,fr⟩:=zW;simp only[List.nodup_cons,List.mem_cons,List.not_mem_nil,or_false,not_or,not_false_eq_true,and_true] at iT;have B:=bD.i4 bb Z (.lst [.ref b6,.ref d6].dropLast);have dQ:=nV (ys:=[.ref b6,.ref d6].dropLast) s6;have xi:=aE _ _ iz;refine⟨d6,hM,_,I,au xi (lU xi),sC,_,I,.nil d6 y hM az c5 I (au xi (lU xi)) (au (aE _ _ j2) (d0 iT.1.2.2.2)) λa7 bq=>⟨0,by decide,I,.inr ⟨I,?_⟩⟩⟩;refine eh.same ⟨ao,bb,b6,dV,s0,cQ,b0,d6,hM,az,c5,λp o e=>au ((ag.trans aE) p o e) (d9 e (fr bb (by rw[ft];simp))),au xh (lU xh),b',au (aE _ _ bm) (lU (aE _ _ bm)),?_,au (aE _ _ dZ) (d0 iT.1.2.1),?_,au xi (lU xi),?_,au (aE _ _ j2) (d0 iT.1.2.2.2),?_⟩ bq
    ·obtain⟨v,a,b⟩:=b7.same aE;exact⟨v,au a (d0 iT.1.1),jQ dQ b⟩
    ·exact(g9.dQ (λo e=>aE _ _ e) (.of aE)).dQ (λo e=>au e (λz=>by obtain⟨on,a,_⟩:=g9;rw[z] at a;have:=aE _ _ a;rw[s6] at this;cases this)) dQ
    ·obtain⟨v,a,b⟩:=jD.same aE;exact⟨v,au a (d0 iT.1.2.2.1),jQ dQ b⟩
    ·exact⟨by simp only[List.nodup_cons,List.mem_cons,List.not_mem_nil,or_false,not_or,not_false_eq_true,and_true];exact iT,nq,ft,fr⟩
   ·obtain⟨ao,bb,b6,dV,s0,cQ,b0,d6,hM,az,c5,ag,ae,aW,bm⟩:=id Da;exact⟨_,I,aC,aY,ao,_,_,I,ae,c.cls,c.bS,i6,bb,_,I,.inl (bg.of aW),_,_,I,I,_,I,_,_,I,I,_,I,dr (q _ Da)⟩
def ul:br:=[.str "def",.str "class",.str "if",.str "while",.str "for",.str "try"]
def Ga:br:=[.str "elif",.str "else",.str "except",.str "finally"]
structure Glb5 (K:aJ) (mg:Str->cn):Prop where
 g:BX K mg
 VB:∃t,mg "MOST_STATEMENTS"=some (.int 150 t)
 VC:∃t,mg "MOST_SIGNS"=some (.int 4000 t)
 VD:∃t,mg "MOST_ROWS"=some (.int 200 t)
 lG:qW K mg "OPENERS" ul
 VE:qW K mg "CLAUSES" Ga
 VF:mg "reversed"=none
 tR:mg "isinstance"=none
structure k9 (aI:ap) (own:gd) (r aA:Addr):Prop where
 hF:aI r=none
 bS:r∉own
 cH:aA∉own
def er.row {aI H Z aC ds k own r n aA ab p b}(h:er K aY CL aI H aC ds k own) (ay:bT K C H r n aA ab p b) (B:k9 aI own r aA) (sb:bD r H Z):er K aY CL aI Z aC ds k own:=h.but sb ay.ins B.hF B.bS
def eh.row {aI H Z aC ds k t bs op own r n aA ab p b}(h:eh K aY CL aI H aC ds k t bs op own) (ay:bT K C H r n aA ab p b) (B:k9 aI own r aA) (sb:bD r H Z):eh K aY CL aI Z aC ds k t bs op own:=h.but sb ay.ins B.hF B.bS
def er.s0 {aI H aC ds k own}(h:er K aY CL aI H aC ds k own):ba aI H:=by obtain⟨_,_,_,_,_,_,h,_⟩:=h;exact h
def eh.s0 {aI H aC ds k t bs op own}(h:eh K aY CL aI H aC ds k t bs op own):ba aI H:=by obtain⟨_,_,_,_,_,_,_,_,_,_,_,h,_⟩:=h;exact h
inductive B7 (K:aJ) (aY CL:Addr) (vs:br) (H:ap) (Q:bz) (E:cJ):Prop
 |mk aC y aI ds k own:vs=[.ref aC,y]->er K aY CL aI H aC ds k own->k < 150->(∀Z,bD aC H Z->er K aY CL aI Z aC ds (k+1) own->Q .a3 Z)->B7 K aY CL vs H Q E
 |b aC y aI ds k t bs op own:vs=[.ref aC,y]->eh K aY CL aI H aC ds k t bs op own->k < 150->(∀Z,bD aC H Z->eh K aY CL aI Z aC ds (k+1) t bs op own->Q .a3 Z)->B7 K aY CL vs H Q E
def VG:cE kN kN (bF B6):=dm
def VH (g:Glb5 K mg) (c:uj K aY) (F:b5 K "add_statement" "Reader.add_statement" B6 f as):bK P w K mg base (bQ P w) 1 f as kN (B7 K aY CL):=by
 refine F.fl VG (λvs H Q E h=>?_) (λbk A outer s H vs Q E al h=>?_)
 ·rcases h with ⟨_,_,_,_,_,_,rfl,_⟩|⟨_,_,_,_,_,_,_,_,_,rfl,_⟩<;>rfl
 refine⟨_,(aX (bc.k0 (ah 0) (a5 f3 (bc.eZ (ah 0)) aO)) (a9 (ck (c3 kd (bc.eZ (ah 0)) (bc.lJ I g.VB)) k7 cA))),?_⟩;obtain⟨aC,y,k,ao,bb,rfl,ae,aU,q⟩:∃aC y k ao bb,vs=[.ref aC,y]/\H aC=some (.ins aY ao (i5 bb k))/\k < 150/\∀ai,bD aC H ai->ai aC=some (.ins aY ao (i5 bb (k+1)))->Q .a3 ai:=by
  rcases h with ⟨aC,y,aI,ds,k,own,e,bC,aU,q⟩|⟨aC,y,aI,ds,k,t,bs,op,own,e,bC,aU,q⟩
  ·obtain⟨ao,bb,b6,dV,s0,cQ,ag,ae,aW,bm,b7,dZ,bS,cH,g4,ij,ft,fr⟩:=id bC;refine⟨aC,y,k,ao,bb,e,ae,aU,λai b2 am=>?_⟩;have au:∀{p xs},H p=some (.lst xs)->ai p=some (.lst xs):=λ{p xs} e=>b2 _ _ (λz=>by rw[z,ae] at e;cases e) e;exact q ai b2 ⟨ao,bb,b6,dV,s0,cQ,λp o e=>b2 p o (d9 e (fr aC (by rw[ft];simp))) (ag p o e),am,au aW,b2 _ _ (d0 ij) bm,b7.but b2 ⟨_,_,_,ae⟩,au dZ,bS,cH,g4,ij,ft,fr⟩
  ·obtain⟨ao,bb,b6,dV,s0,cQ,b0,d6,hM,az,c5,ag,ae,aW,bm,b7,dZ,g9,iz,jD,j2,iT,nq,ft,fr⟩:=id bC;refine⟨aC,y,k,ao,bb,e,ae,aU,λai b2 am=>?_⟩;have au:∀{p xs},H p=some (.lst xs)->ai p=some (.lst xs):=λ{p xs} e=>b2 _ _ (λz=>by rw[z,ae] at e;cases e) e;have bp:=nq;simp only[List.nodup_cons,List.mem_cons,List.not_mem_nil,or_false,not_or,not_false_eq_true,and_true] at bp;exact q ai b2 ⟨ao,bb,b6,dV,s0,cQ,b0,d6,hM,az,c5,λp o e=>b2 p o (d9 e (fr aC (by rw[ft];simp))) (ag p o e),am,au aW,b2 _ _ (d0 bp.1.1) bm,b7.but b2 ⟨_,_,_,ae⟩,au dZ,g9.dQ (λo e=>b2 _ _ (λz=>by obtain⟨on,a,_⟩:=g9;rw[z,ae] at a;cases a) e) (b2.q8 ae),b2 _ _ (d0 bp.1.2) iz,jD.but b2 ⟨_,_,_,ae⟩,au j2,iT,nq,ft,fr⟩
 refine⟨_,I,aC,aY,ao,_,_,I,ae,c.cls,c.cH,M',_,_,I,I,_,I,aC,aY,ao,i5 bb k,I,ae,c.cls,c.cH,show(i5 bb k).length < 1000 from(by decide:2 < 1000),?_⟩;have qm:(((k:Nat):Int)+1)=((k+1:Nat):Int):=by omega
 dsimp only;rw[qm,Vx];refine q7 aC H λai b2 am=>⟨_,I,aC,aY,ao,_,_,I,am,c.cls,c.cH,M',_,_,I,I,_,I,?_⟩;rw[ew (show ¬((150:Int) < ((k+1:Nat):Int)) by omega)];exact dr (q ai b2 am)
inductive B8 (K:aJ) (C aY CL:Addr) (vs:br) (H:ap) (Q:bz) (E:cJ):Prop
 |mk aC r aI ds k own n aA ab t aS:vs=[.ref aC,.ref r]->er K aY CL aI H aC ds k own->bT K C H r n aA ab 0 0->k9 aI own r aA->ab[0]?=some oZ->g6 (ab.drop 1)=some (t,ab.drop aS)->aS<=ab.length->ab[aS]?=some k8->(∀eK Z,(∀a,H a≠none->a∉own->a∉eK)->eh K aY CL aI Z aC ds k t [] true eK->bT K C Z r n aA ab (aS+1) 0->Q .a3 Z)->B8 K C aY CL vs H Q E
def B9:cE ["self","row","word","head","inner"] vp (bF yQ):=dm
def VI (g:Glb5 K mg) (c:uj K aY) (cl:sA K CL) (F:b5 K "begin_block" "Reader.begin_block" yQ f as) (M:oY P w K mg base C aF) (xf:t6 P w K mg base "Level" CL h7 1 (B4 CL)) (Y7:dv P w K mg base "read_head" nx 317 (F4 K C aF)):bK P w K mg base (bQ P w) 318 f as vp (B8 K C aY CL):=by
 refine F.fl B9 (λvs H Q E h=>?_) (λbk A outer s H vs Q E al h=>?_)
 ·obtain⟨_,_,_,_,_,_,_,_,_,_,_,rfl,_⟩:=h;rfl
 obtain⟨aC,r,aI,ds,k,own,n,aA,ab,t,aS,rfl,bC,ay,B,dD,ex,cm,h4,q⟩:=h;have bN:ff (bQ P w) (fj (bQ P w) P w K mg base ["self","row","word","head","inner"] "Reader.begin_block" (bF yQ) f bk A outer s H E) E:=f6 λ_ _ _ h=>h;refine⟨_,(aX (ct 2 B9.bp (ef (q' bN M.t (ah 1)))) (aX (ct 3 B9.bp (f7 bN Y7 (c6 (ah 1) (ah 2)))) (aX (gQ (iH bN M.x (ah 1) (bx (ii g.g.Vd)))) (aX (ct 4 B9.bp (F7 xf (al.mono (show 2<=317 by decide))))
  (aX (gQ (hb pC pB qG oK (bc.eZ (hs K (bc.eZ (ah 0)) (mZ r6 aO))) (bx (cP (fb (ah 2) (ah 3) (bc.eZ (ah 4))))))) (a9 (gQ (hb pC pB qG oK (bc.eZ (ah 0)) (bx (ah 4)))))))))),?main⟩
 case main=>
  refine⟨_,I,ay.gm ⟨r,n,aA,ab,0,_,I,ay,λv ai b2 cu aK=>?_⟩⟩;rw[dD] at aK;refine⟨1,_,_,I,aK,I,fm ?_⟩;refine⟨_,I,_,I,r,n,aA,ab,1,I,cu,(drop_cons dD).2,λx bM hT aB aE ed hQ dM dd ak=>?_,λaE=>by rw[ex] at aE;cases aE⟩;have bq:=hB (ex.symm.trans aE);have bX:x=t:=(fM Prod.fst bq).symm;have dG:bM=aS:=B0 (fM Prod.snd bq).symm hQ cm;subst bX dG;refine⟨_,I,dd.gm λsW pi=>⟨r,n,aA,ab,bM,_,sW,some k8,I,dd,pi aB,sx,λ_ a7 eu d4=>?_,λz=>absurd h4 z⟩⟩;have oj:=(b2.trans dM).trans eu;have s7:=bC.row ay B oj;have Y8:=fE (dd.dQ eu) ak;intro L jX dC Iv Y2;have d3:ba a7 (upd (upd a7 jX (.own L)) L (.ins CL jX [])):=λp o e=>by rw[cj (d9 e dC),cj (d9 e Iv)];exact e
  refine⟨L,jX,I,b',λaz c5 b1 kp Y9 C9 Y3 Y4 e1 bX aj Y'=>⟨I,?_⟩⟩;have IB:=lQ d3 kp;have IC:=lQ d3 Y9;have s8:ba a7 b1:=λp o e=>e1 p o (d9 e dC) (d3 p o e);have jf:=d4.same s8;have pp:=dB s8 Y8;obtain⟨ao,bb,b6,dV,s0,cQ,g1,g2,g3,je,j0,mL,bS,cH,g4,ij,rfl,fr⟩:=s7;have ag:=g1.trans s8;have ae:=s8 _ _ g2;have aW:=s8 _ _ g3;have bm:=s8 _ _ je;have b7:=j0.same s8;have dZ:=s8 _ _ mL;refine⟨_,I,aC,aY,ao,_,_,I,ae,c.cls,c.bS,i6,_,I,bb,_,-1,.ref b6,I,I,bg.of aW,I,b6,CL,dV,_,_,I,bm,cl.cls,cl.cH,wD,.inl ⟨I,_,bg.of dZ⟩,_,I,_,I,_,I,L,CL,jX,_,_,I,bX,cl.cls,cl.bS,ui,lO,λb0 s5=>dz s5 λdS dq jd=>?_⟩;refine⟨cQ,[],.ref b0,I,I,dq _ _ dZ,(by decide:0 < sizeLine),?_⟩;have Pa:=nV (ys:=[]++[.ref b0]) (dq _ _ dZ);have Db:=bD.i4 cQ dS (.lst ([]++[.ref b0]));have f8:upd dS cQ (.lst ([]++[.ref b0])) cQ=some (.lst [.ref b0]):=b';generalize upd dS cQ (.lst ([]++[.ref b0]))=gV at Db f8 Pa⊢;have Pb:∀{p C d bi},dS p=some (.ins C d bi)->gV p=some (.ins C d bi):=λ{p C d bi} e=>Db _ _ (λz=>by rw[z,dq _ _ dZ] at e;cases e) e;have Za:=Pb (dq _ _ ae);have ID:=Db _ _ cH (dq _ _ aW);refine⟨_,I,aC,aY,ao,_,_,I,Za,c.cls,c.bS,i6,.inl ⟨I,_,bg.of ID⟩,_,I,bb,[.ref b6],.ref L,I,I,ID,(by decide:1 < sizeLine),?_⟩;have Pc:=nV (ys:=[.ref b6]++[.ref L]) ID;have Dc:=bD.i4 bb gV (.lst ([.ref b6]++[.ref L]));have od:upd gV bb (.lst ([.ref b6]++[.ref L])) bb=some (.lst [.ref b6,.ref L]):=b';generalize upd gV bb (.lst ([.ref b6]++[.ref L]))=fV at Dc od Pc⊢;have Dd:∀{p C d bi},dS p=some (.ins C d bi)->fV p=some (.ins C d bi):=λ{p C d bi} e=>Dc _ _ (λz=>by rw[z,dq _ _ aW] at e;cases e) (Pb e);have dQ:=Pa.trans Pc;have qk:∀{p o},dS p=some o->p≠cQ->p≠bb->fV p=some o:=λ{p o} e a b=>Dc _ _ b (Db _ _ a e);have zY:∀{a},a7 a=none->a≠aC/\a≠bb/\a≠b6/\a≠s0/\a≠cQ:=λ{a} e=>by
   obtain⟨_,Zb,_⟩:=j0;exact⟨(λz=>by rw[z,g2] at e;cases e),(λz=>by rw[z,g3] at e;cases e),(λz=>by rw[z,je] at e;cases e),(λz=>by rw[z,Zb] at e;cases e),(λz=>by rw[z,mL] at e;cases e)⟩
  obtain⟨cG,cY,jy,ln,ni⟩:=zY IB;obtain⟨eB,gA,sS,u0,rB⟩:=zY IC;obtain⟨eJ,it,w2,Ot,aca⟩:=zY dC;have fresh:∀a,H a≠none->a≠r->a7 a=none->False:=λa aq al aW=>by
   cases e:H a with
   |none=>exact aq e
   |some o=>rw[oj a o al e] at aW;cases aW
  refine q [aC,bb,b6,s0,cQ,L,az,c5] fV (λa aq aP z=>?_) ⟨ao,bb,b6,dV,s0,cQ,b0,L,jX,az,c5,λp o e=>qk (dq _ _ (ag p o e)) (d9 e (fr cQ (by simp))) (d9 e (fr bb (by simp))),Dd (dq _ _ ae),od,Dd (dq _ _ bm),?_,Dc _ _ (d0 cH) f8,⟨hT,?_,fE dQ (dB dq pp)⟩,Dd (dq _ _ bX),⟨[],qk (dq _ _ aj) ni cY,f5.mpr I⟩,qk (dq _ _ Y') rB gA,?_,?_,I,λa aq=>?_⟩ ?_
  ·simp only[List.mem_cons,List.not_mem_nil,or_false] at z aP;have al:a≠r\/a=r:=(Nat.decEq a r).byCases (λe=>.inr e) λe=>.inl e;have IE:a7 a≠none:=by
    rcases al with al|rfl
    ·exact λe=>fresh a aq al e
    ·obtain⟨_,_,_,e⟩:=d4.ins;rw[e];exact λz=>by cases z
   rcases z with z|z|z|z|z|z|z|z
   ·exact aP (.inl z)
   ·exact aP (.inr (.inl z))
   ·exact aP (.inr (.inr (.inl z)))
   ·exact aP (.inr (.inr (.inr (.inl z))))
   ·exact aP (.inr (.inr (.inr (.inr z))))
   ·exact IE (z▸dC)
   ·exact IE (z▸IB)
   ·exact IE (z▸IC)
  ·obtain⟨v,a,b⟩:=b7.same dq;exact⟨v,qk a g4 (d0 bS),jQ dQ b⟩
  ·exact qk jd (λz=>by rw[z,dq _ _ dZ] at jd;cases jd) (λz=>by rw[z,dq _ _ aW] at jd;cases jd)
  ·simp only[List.nodup_cons,List.mem_cons,List.not_mem_nil,or_false,not_or,not_false_eq_true,and_true,List.nodup_nil];exact⟨⟨bS,cH,d0 cY,d0 gA⟩,⟨g4,d0 ln,d0 u0⟩,⟨d0 ni,d0 rB⟩,C9⟩
  ·simp only[List.nodup_cons,List.mem_cons,List.not_mem_nil,or_false,not_or,not_false_eq_true,and_true,List.nodup_nil];exact⟨⟨ij,d0 eJ⟩,d0 w2⟩
  ·simp only[List.mem_cons,List.not_mem_nil,or_false] at aq;rcases aq with rfl|rfl|rfl|rfl|rfl|rfl|rfl|rfl
   ·exact fr _ (by simp)
   ·exact fr _ (by simp)
   ·exact fr _ (by simp)
   ·exact fr _ (by simp)
   ·exact fr _ (by simp)
   ·exact lQ g1 dC
   ·exact lQ g1 IB
   ·exact lQ g1 IC
  ·obtain⟨ks,xj,⟨w8,zZ,z0⟩,IF,IG⟩:=jf;have no:=B.cH;simp only[List.mem_cons,List.not_mem_nil,or_false,not_or] at no;exact⟨ks,Dd (dq _ _ xj),⟨w8,qk (dq _ _ zZ) no.2.2.2.2 no.2.1,jQ dQ (oU dq z0)⟩,IF,IG⟩
def kD (ds:d8):Option (D×d8)->d8
 |none=>ds
 |some (t,bs)=>ds++[B3 t bs]
def sE (K:aJ) (aY CL:Addr) (aI H:ap) (aC:Addr) (ds:d8) (k:Nat) (o:Option (D×d8)) (own:gd):Prop:=match o with
 |none=>er K aY CL aI H aC ds k own
 |some (t,bs)=>eh K aY CL aI H aC ds k t bs false own
def Gb (o:Option bJ):Prop:=∃k v,gS o=.tup [.str k,v]/\(k≠"told"\/∃z,v=.str z/\e8 (.str z) ul=false)
def hI.Gb {ab x}(h:hI ab x):Gb ab[0]?:=by
 cases h with
 |yM e=>subst e;exact⟨_,_,I,.inr ⟨_,I,by decide +kernel⟩⟩
 |ret aj t av e _ _ _=>subst e;exact⟨_,_,I,.inr ⟨_,I,by decide +kernel⟩⟩
 |bind x aj d av e _ _=>subst e;exact⟨_,_,I,.inl (by simp only[ez];decide +kernel)⟩
 |yN x aj e _=>subst e;exact⟨_,_,I,.inl (by simp only[ez];decide +kernel)⟩
 |p6 x y aj t e _ _=>subst e;exact⟨_,_,I,.inl (by simp only[ez];decide +kernel)⟩
 |put x z aj t e _ _=>subst e;exact⟨_,_,I,.inl (by simp only[ez];decide +kernel)⟩
def bT.keep {H Z r n aA ab p b}(h:bT K C H r n aA ab p b) (am:∀o,H r=some o->Z r=some o) (aE:∀o,H aA=some o->Z aA=some o) (s:h2 H Z):bT K C Z r n aA ab p b:=by
 obtain⟨ao,a,⟨v,b,c⟩,d,e⟩:=h;exact⟨ao,am _ a,⟨v,aE _ b,jQ s c⟩,d,e⟩
def VJ {H Z:ap}{L s:Addr} {C ao bi xs}(k:∀p o,p≠L->p≠s->H p=some o->Z p=some o) (ag:H L=some (.ins C ao bi)) (ae:H s=some (.lst xs)):h2 H Z:=λp vs e=>by
 have ne:∀o,H p=some o->(∀c d f,o≠.ins c d f)->(∀ys,o≠.lst ys)->Z p=some o:=λo e a b=>k p o (λz=>by rw[z,ag] at e;cases e;exact a _ _ _ I) (λz=>by rw[z,ae] at e;cases e;exact b _ I) e;rcases e with e|⟨o,e⟩
 ·exact .inl (ne _ e (λ_ _ _ z=>by cases z) λ_ z=>by cases z)
 ·exact .inr ⟨o,ne _ e (λ_ _ _ z=>by cases z) λ_ z=>by cases z⟩
inductive Gc (K:aJ) (C aF aY CL:Addr) (vs:br) (H:ap) (Q:bz) (E:cJ):Prop
 |one aC r aI ds k o own n aA ab x:vs=[.ref aC,.ref r]->sE K aY CL aI H aC ds k o own->bT K C H r n aA ab 0 0->k9 aI own r aA->k < 150->ds.length<=900->hI ab x->(∀d av eK Z,x=some (d,av)->av<=ab.length->r∉eK->er K aY CL aI Z aC (kD ds o++[d]) (k+1) eK->bT K C Z r n aA ab av 0->Q .a3 Z)->(x=none->sD aF n aI E)->Gc K C aF aY CL vs H Q E
 |o2 aC r aI ds k o own n aA ab t aS:vs=[.ref aC,.ref r]->sE K aY CL aI H aC ds k o own->bT K C H r n aA ab 0 0->k9 aI own r aA->k < 150->ds.length<=900->ab[0]?=some oZ->g6 (ab.drop 1)=some (t,ab.drop aS)->aS<=ab.length->ab[aS]?=some k8->(∀eK Z,r∉eK->eh K aY CL aI Z aC (kD ds o) (k+1) t [] true eK->bT K C Z r n aA ab (aS+1) 0->Q .a3 Z)->Gc K C aF aY CL vs H Q E
inductive Na (K:aJ) (C aY CL:Addr) (vs:br) (H:ap) (Q:bz):Prop
 |mk aC r aI ds k t own n aA:vs=[.ref aC,.ref r]->eh K aY CL aI H aC ds k t [] true own->bT K C H r n aA [mA] 0 0->k9 aI own r aA->k < 150->(∀Z,eh K aY CL aI Z aC ds (k+1) t [nY] true own->bT K C Z r n aA [mA] 1 0->Q .a3 Z)->Na K C aY CL vs H Q
def wG (K:aJ) (C aF aY CL:Addr):e6:=λvs H Q E=>Gc K C aF aY CL vs H Q E\/Na K C aY CL vs H Q
def Nb:cE ["self","row","word"] vp (bF yR):=dm
inductive Gd (K:aJ) (C aY CL:Addr) (D:Ends) (aa:L2.St) (H:ap):Prop
 |mk aC r aI ds k o own n aA ab:aa=[some (.ref aC),some (.ref r),none]->sE K aY CL aI H aC ds k o own->bT K C H r n aA ab 0 0->k9 aI own r aA->ds.length<=900->(∀nr ai,k9 aI nr r aA->er K aY CL aI ai aC (kD ds o) k nr->bT K C ai r n aA ab 0 0->D.c4 aa ai)->Gd K C aY CL D aa H
 |p5 aC r aI ds k t own n aA:aa=[some (.ref aC),some (.ref r),none]->eh K aY CL aI H aC ds k t [] true own->bT K C H r n aA [mA] 0 0->(∀ai,ba H ai->D.c4 aa ai)->Gd K C aY CL D aa H
inductive Ge (K:aJ) (C aF aY CL:Addr) (E:cJ) (D:Ends) (aa:L2.St) (H:ap):Prop
 |mk aC r aI ds k own n aA ab x v:aa=[some (.ref aC),some (.ref r),some v]->er K aY CL aI H aC ds k own->bT K C H r n aA ab 0 0->k9 aI own r aA->ds.length<=901->hI ab x->(∀d av eK Z,x=some (d,av)->av<=ab.length->r∉eK->er K aY CL aI Z aC (ds++[d]) k eK->bT K C Z r n aA ab av 0->D.c4 aa Z)->(x=none->sD aF n aI E)->Ge K C aF aY CL E D aa H
 |p5 aC r aI ds k t own n aA v:aa=[some (.ref aC),some (.ref r),some v]->eh K aY CL aI H aC ds k t [] true own->bT K C H r n aA [mA] 0 0->k9 aI own r aA->(∀Z,eh K aY CL aI Z aC ds k t [nY] true own->bT K C Z r n aA [mA] 1 0->D.c4 aa Z)->Ge K C aF aY CL E D aa H
def VK (g:Glb5 K mg) (c:uj K aY) (cl:sA K CL) (gX:iI K C) (F:b5 K "take_statement" "Reader.take_statement" yR f as) (M:oY P w K mg base C aF) (jR:hh P w K mg base "settle" CL kN 3 (wF K CL)) (eb:hh P w K mg base "add_statement" aY kN 1 (B7 K aY CL)) (B':hh P w K mg base "begin_block" aY vp 318 (B8 K C aY CL)) (gM:dv P w K mg base "read_single_row" cD 318 (F1 K C aF)):bK P w K mg base (bQ P w) 319 f as vp (wG K C aF aY CL):=by
 refine F.fl Nb (λvs H Q E h=>?_) (λbk A outer s H vs Q E al h=>?_)
 ·rcases h with (⟨_,_,_,_,_,_,_,_,_,_,_,rfl,_⟩|⟨_,_,_,_,_,_,_,_,_,_,_,_,rfl,_⟩)|⟨_,_,_,_,_,_,_,_,_,rfl,_⟩<;>rfl
 have bN:ff (bQ P w) (fj (bQ P w) P w K mg base ["self","row","word"] "Reader.take_statement" (bF yR) f bk A outer s H E) E:=f6 λ_ _ _ h=>h;refine⟨_,(aX (oM (t':=Gd K C aY CL) (gQ (iH bN jR (hs K (bc.eZ (ah 0)) (mZ r6 aO)) (bx (bc.eZ (ah 1))))) ?iN) (aX (gQ (iH bN eb (ah 0) (bx (bc.eZ (ah 1))))) (aX (ct 2 Nb.bp (oV bN M.z (ah 1))) (a9 (ck (gy.pt (kb (c3 eY (ef (ah 2)) aV) (kz (ey ms (ef (ah 2)) (bc.qX I g.lG) I)))) (a9 (gQ (iH bN B' (ah 0) (bx (ah 1))))) (a9 (oM (t':=Ge K C aF aY CL E) (gQ (hb pC pB qG oK (bc.eZ (hs K (bc.eZ (ah 0)) (mZ r6 aO))) (bx (f7 bN gM (bx (ah 1)))))) ?lU))))))),?main⟩
 case main=>
  rcases h with h|⟨aC,r,aI,ds,k,t,own,n,aA,rfl,bC,ay,B,aU,q⟩
  rotate_left
  ·refine .p5 aC r aI ds k t own n aA rfl bC ay λai az=>?_;have eF:=bC.same az;have cu:=ay.same az;obtain⟨ao,bb,b6,dV,s0,cQ,b0,d6,hM,acb,acc,ag,ae,aW,bm,b7,dZ,g9,iz,jD,j2,iT,nq,ft,fr⟩:=id eF;have j3:=B.bS;have nl:=B.cH;rw[ft] at j3 nl;simp only[List.mem_cons,List.not_mem_nil,or_false,not_or] at j3 nl;refine⟨_,I,aC,ao,_,I,ae,o1,_,I,cu.num gX (.b aC _ aI _ k t [] true own I eF aU λaB dM g5=>?_)⟩;have dd:bT K C aB r n aA [mA] 0 0:=cu.keep (λo e=>dM _ _ j3.1 e) (λo e=>dM _ _ nl.1 e) (dM.q8 ae);refine⟨_,I,dd.gm ⟨r,n,aA,_,0,_,0,0,I,dd,by omega,λv aK=>?_⟩⟩;have aK:At K aB (dK mA) v:=aK;refine⟨_,I,0,_,_,I,aK,I,fm ⟨I,_,I,?_⟩⟩;rw[fv (show V.str (ez mA)=V.str "told" from I)];refine fz ⟨_,I,1,_,_,I,aK,I,fm λpo u8=>⟨po,_,I,.inr u8,I,I,_,I,?_⟩⟩;show if(e8 (.str (S [112,97,115,115])) ul)=true then _ else _
   rw[show e8 (.str (S [112,97,115,115])) ul=false by decide +kernel];exact dr (.p5 aC r aI ds (k+1) t own n aA _ I g5 dd B q)
  obtain⟨aC,r,aI,ds,k,o,own,n,aA,ab,rfl,De,ay,B,aU,au,cL⟩:∃aC r aI ds k o own n aA ab,vs=[.ref aC,.ref r]/\sE K aY CL aI H aC ds k o own/\bT K C H r n aA ab 0 0/\k9 aI own r aA/\k < 150/\ds.length<=900/\∀nr ai,k9 aI nr r aA->er K aY CL aI ai aC (kD ds o) (k+1) nr->bT K C ai r n aA ab 0 0->(∃x,hI ab x/\(∀d av eK Z,x=some (d,av)->av<=ab.length->r∉eK->er K aY CL aI Z aC (kD ds o++[d]) (k+1) eK->bT K C Z r n aA ab av 0->Q .a3 Z)/\(x=none->sD aF n aI E))\/(ab[0]?=some oZ/\B8 K C aY CL [.ref aC,.ref r] ai (λ_ Z=>Q .a3 Z) E):=by
   rcases h with ⟨aC,r,aI,ds,k,o,own,n,aA,ab,x,e,cG,cY,jy,ln,ni,qr,xk,Df⟩|⟨aC,r,aI,ds,k,o,own,n,aA,ab,t,aS,e,cG,cY,jy,ln,ni,qr,xk,Df,Pd,Zc⟩
   ·exact⟨aC,r,aI,ds,k,o,own,n,aA,ab,e,cG,cY,jy,ln,ni,λnr ai _ _ _=>.inl ⟨x,qr,xk,Df⟩⟩
   ·refine⟨aC,r,aI,ds,k,o,own,n,aA,ab,e,cG,cY,jy,ln,ni,λnr ai b2 bR cu=>.inr ⟨qr,aC,r,aI,_,_,nr,n,aA,ab,t,aS,I,bR,cu,b2,qr,xk,Df,Pd,λeK Z aP bC eE=>Zc eK Z (aP r ?_ b2.bS) bC eE⟩⟩;obtain⟨_,_,_,e⟩:=cu.ins;rw[e];exact λz=>by cases z
  refine .mk aC r aI ds k o own n aA ab rfl De ay B au λnr ai mb eF cu=>?_;obtain⟨ao,bb,b6,dV,s0,cQ,g1,g2,g3,je,j0,mL,bS,cH,g4,ij,ft,fr⟩:=id eF;have j3:=mb.bS;have nl:=mb.cH;rw[ft] at j3 nl;simp only[List.mem_cons,List.not_mem_nil,or_false,not_or] at j3 nl;refine⟨_,I,aC,ao,_,I,g2,o1,_,I,cu.num gX (.mk aC _ aI _ k nr I eF aU λaB dM g5=>?_)⟩;have dd:bT K C aB r n aA ab 0 0:=cu.keep (λo e=>dM _ _ j3.1 e) (λo e=>dM _ _ nl.1 e) (dM.q8 g2);refine⟨_,I,dd.gm ⟨r,n,aA,ab,0,_,0,0,I,dd,by omega,λv aK=>?_⟩⟩;rcases cL nr aB mb g5 dd with ⟨x,ax,s4,rD⟩|⟨cd,iZ⟩
  ·obtain⟨k',H5,am,aE⟩:=ax.Gb;rw[am] at aK;have et:(kD ds o).length<=901:=by
    cases o with
    |none=>exact dW au (by decide)
    |some bH=>show(ds++[_]).length<=901;rw[cy];show ds.length+1<=901;omega
   refine⟨_,I,0,_,_,I,aK,I,fm ⟨I,_,I,?_⟩⟩;rw[wk];refine nU (λz=>?_) λz=>?_
   ·obtain⟨iA,rfl,bq⟩:=aE.resolve_left (λh=>h z);refine⟨_,I,1,_,_,I,aK,I,fm λpo u8=>⟨po,_,I,.inr u8,I,I,_,I,?_⟩⟩;show if(e8 (.str iA) ul)=true then _ else _
    rw[bq];exact dr (.mk aC r aI _ _ nr n aA ab x _ I g5 dd mb et ax s4 rD)
   ·exact .mk aC r aI _ _ nr n aA ab x _ rfl g5 dd mb et ax s4 rD
  ·rw[cd] at aK;refine⟨_,I,0,_,_,I,aK,I,fm ⟨I,_,I,?_⟩⟩;rw[fv (show V.str (ez oZ)=V.str "told" from I)];refine fz ⟨_,I,1,_,_,I,aK,I,fm λpo u8=>⟨po,_,I,.inr u8,I,I,_,I,?_⟩⟩;show if(e8 (.str (S [119,104,105,108,101])) ul)=true then _ else _
   rw[show e8 (.str (S [119,104,105,108,101])) ul=true by decide +kernel];obtain⟨ao,bb,b6,dV,s0,cQ,g1,g2,_⟩:=id g5;exact fz ⟨_,I,aC,ao,_,I,g2,o1,_,I,iZ⟩
 case iN=>
  rintro D aa H (⟨aC,r,aI,ds,k,o,own,n,aA,ab,rfl,De,ay,B,au,q⟩|⟨aC,r,aI,ds,k,t,own,n,aA,rfl,bC,ay,q⟩)
  rotate_left
  ·obtain⟨ao,bb,b6,dV,s0,cQ,b0,d6,hM,az,c5,ag,ae,aW,bm,b7,dZ,g9,iz,jD,j2,zW⟩:=id bC;exact⟨_,I,aC,aY,ao,_,_,I,ae,c.cls,c.bS,i6,_,I,bb,_,-1,.ref d6,I,I,bg.of aW,I,d6,hM,_,I,iz,sC,_,I,ay.num gX (.nil d6 _ hM az c5 I iz j2 q)⟩
  cases o with
  |none=>
   have bC:er K aY CL aI H aC ds k own:=De;obtain⟨ao,bb,b6,dV,s0,cQ,g1,g2,g3,je,j0,mL,w7⟩:=id bC;exact⟨_,I,aC,aY,ao,_,_,I,g2,c.cls,c.bS,i6,_,I,bb,_,-1,.ref b6,I,I,bg.of g3,I,b6,dV,_,I,je,sC,_,I,ay.num gX (.nil b6 _ dV s0 cQ I je mL λZ e=>q own Z B (bC.same e) (ay.same e))⟩
  |some bH=>
   obtain⟨t,bs⟩:=bH;have bC:eh K aY CL aI H aC ds k t bs false own:=De;obtain⟨ao,bb,b6,dV,s0,cQ,b0,d6,hM,az,c5,ag,ae,aW,bm,b7,dZ,g9,iz,jD,j2,iT,nq,ft,fr⟩:=id bC;have j3:=B.bS;have nl:=B.cH;rw[ft] at j3 nl fr;simp only[List.mem_cons,List.not_mem_nil,or_false,not_or] at j3 nl;simp only[List.nodup_cons,List.mem_cons,List.not_mem_nil,or_false,not_or,not_false_eq_true,and_true] at iT nq;obtain⟨pj,j0,_⟩:=id b7;have IH:∀{p xs},H p=some (.lst xs)->p≠b6:=λ{p xs} e z=>by rw[z,bm] at e;cases e
   have oo:∀{p C d bi},H p=some (.ins C d bi)->p≠s0:=λ{p C d bi} e z=>by rw[z,j0] at e;cases e
   refine⟨_,I,aC,aY,ao,_,_,I,ae,c.cls,c.bS,i6,_,I,bb,_,-1,.ref b6,I,I,bg.of aW,I,b6,dV,_,I,bm,sC,_,I,ay.num gX (.one b6 _ dV s0 cQ b0 az t ds bs I bm dZ g9 jD b7 (dW au (by decide)) iT.2.1.1 iT.2.1.2.1 λZ dF cZ II n3 h4 aj=>?_)⟩;have gK:∀p o,p≠b6->p≠s0->H p=some o->Z p=some o:=cZ;have Iw:=lQ ag n3;have Dg:∀{p o},H p=some o->p≠dF:=λ{p o} e z=>by rw[z,n3] at e;cases e
   refine q [aC,bb,b6,s0,dF] Z ⟨B.hF,?_,?_⟩ ⟨ao,bb,b6,dV,s0,dF,λp o e=>cZ p o (d9 e (fr b6 (by simp))) (d9 e (fr s0 (by simp))) (ag p o e),cZ _ _ nq.1.1 (oo ae) ae,cZ _ _ (IH aW) iT.1.1 aW,II,aj,h4,iT.1.1,Dg aW,Dg j0,nq.1.1,I,λa aq=>?_⟩ (ay.keep (λo e=>cZ _ _ j3.2.2.1 j3.2.2.2.1 e) (λo e=>cZ _ _ nl.2.2.1 nl.2.2.2.1 e) (VJ cZ bm j0))
   ·simp only[List.mem_cons,List.not_mem_nil,or_false,not_or];obtain⟨_,_,_,f'⟩:=ay.ins;exact⟨j3.1,j3.2.1,j3.2.2.1,j3.2.2.2.1,Dg f'⟩
   ·simp only[List.mem_cons,List.not_mem_nil,or_false,not_or];obtain⟨_,_,⟨_,hl,_⟩,_⟩:=ay;exact⟨nl.1,nl.2.1,nl.2.2.1,nl.2.2.2.1,Dg hl⟩
   ·simp only[List.mem_cons,List.not_mem_nil,or_false] at aq;rcases aq with rfl|rfl|rfl|rfl|rfl
    ·exact fr _ (by simp)
    ·exact fr _ (by simp)
    ·exact fr _ (by simp)
    ·exact fr _ (by simp)
    ·exact Iw
 case lU=>
  rintro D aa H (⟨aC,r,aI,ds,k,own,n,aA,ab,x,v,rfl,g5,dd,mb,au,ax,s4,rD⟩|⟨aC,r,aI,ds,k,t,own,n,aA,v,rfl,g5,dd,mb,q⟩)
  rotate_left
  ·obtain⟨ao,bb,b6,dV,s0,cQ,b0,d6,hM,az,c5,ag,ae,aW,bm,b7,dZ,g9,iz,jD,j2,iT,nq,ft,fr⟩:=id g5;obtain⟨nk,rE,qs⟩:=id jD;have fd:=f5.mp qs;subst fd;refine⟨_,I,aC,aY,ao,_,_,I,ae,c.cls,c.bS,i6,_,I,bb,_,-1,.ref d6,I,I,bg.of aW,I,d6,CL,hM,_,_,I,iz,cl.cls,cl.bS,ui,.inl ⟨I,_,bg.of rE⟩,_,I,r,n,aA,_,_,I,dd,.yM I,λd av nt a7 ex ar eu d4 hd=>?_,λex=>by cases ex⟩;cases ex;obtain⟨ao,IJ,acd,Zd,ace,acf,Ze,acg,Zf,O3,ach,xj,zZ,z0,IF,IG,Zg,Pe,Zh,aci,Zi,d3,im,IK,acj⟩:=g5.row dd mb eu;rw[ft] at IK;simp only[List.cons.injEq,and_true,true_and] at IK;obtain⟨rfl,rfl,rfl,rfl,rfl,rfl,rfl⟩:=IK;have s9:=eu.ne' dd.ins rE;refine⟨az,[],nt,I,I,s9,(by decide:0 < sizeLine),?_⟩;have dQ:=nV (ys:=[]++[nt]) s9;have lq:=bD.i4 az a7 (.lst ([]++[nt]));have aj:upd a7 az (.lst ([]++[nt])) az=some (.lst ([]++[nt])):=b';generalize upd a7 az (.lst ([]++[nt]))=b1 at dQ lq aj⊢;have oo:∀{p C d bi},a7 p=some (.ins C d bi)->b1 p=some (.ins C d bi):=λ{p C d bi} e=>lq _ _ (λz=>by rw[z,s9] at e;cases e) e;have nl:=mb.cH;rw[ft] at nl;simp only[List.mem_cons,List.not_mem_nil,or_false,not_or] at nl;have bp:=d3;simp only[List.nodup_cons,List.mem_cons,List.not_mem_nil,or_false,not_or,not_false_eq_true,and_true] at bp;refine q b1 ⟨ao,bb,b6,Zd,s0,cQ,Ze,d6,Zf,az,c5,λp o e=>lq _ _ (d9 e (fr az (by rw[ft];simp))) (xj p o e),oo zZ,lq _ _ bp.1.2.2.1 z0,oo IF,?_,lq _ _ bp.2.2.1.1 Zg,Pe.dQ (λo e=>lq _ _ (λz=>by obtain⟨on,a,_⟩:=Pe;rw[z,s9] at a;cases a) e) dQ,oo Zh,⟨_,aj,bB.jS (fE dQ hd)⟩,lq _ _ (d0 bp.2.2.2.1) Zi,d3,im,ft,fr⟩ ?_
   ·obtain⟨v,a,b⟩:=IG;exact⟨v,lq _ _ bp.2.1.2.1 a,jQ dQ b⟩
   ·obtain⟨_,_,_,f'⟩:=d4.ins;exact d4.keep (λo e=>by rw[f'] at e;cases e;exact oo f') (λo e=>lq _ _ nl.2.2.2.2.2.2.1 e) dQ
  obtain⟨ao,bb,b6,dV,s0,cQ,g1,g2,g3,je,j0,mL,bS,cH,g4,ij,ft,fr⟩:=id g5;obtain⟨nk,rE,qs⟩:=id j0;refine⟨_,I,aC,aY,ao,_,_,I,g2,c.cls,c.bS,i6,_,I,bb,_,-1,.ref b6,I,I,bg.of g3,I,b6,CL,dV,_,_,I,je,cl.cls,cl.bS,ui,.inl ⟨I,_,bg.of rE⟩,_,I,r,n,aA,ab,x,I,dd,ax,λd av nt a7 ex ar eu d4 hd=>?_,λex=>(rD ex).out g1 mb.hF⟩;have el:=g5.row dd mb eu;have nl:=mb.cH;have j3:=mb.bS;have dT:nk.length=ds.length:=qs.len;have s9:=eu.ne' dd.ins rE;refine⟨s0,nk,nt,I,I,s9,by rw[dT,jH];omega,?_⟩;have dQ:=nV (ys:=nk++[nt]) s9;have lq:=bD.i4 s0 a7 (.lst (nk++[nt]));have aj:upd a7 s0 (.lst (nk++[nt])) s0=some (.lst (nk++[nt])):=b';generalize upd a7 s0 (.lst (nk++[nt]))=b1 at dQ lq aj⊢;have oo:∀{p C d bi},a7 p=some (.ins C d bi)->b1 p=some (.ins C d bi):=λ{p C d bi} e=>lq _ _ (λz=>by rw[z,s9] at e;cases e) e;rw[ft] at nl j3;simp only[List.mem_cons,List.not_mem_nil,or_false,not_or] at nl j3;have ne:∀{a},a∈own->a≠r:=λ{a} aq z=>mb.bS (z▸aq);have dL:=eu _ _ (ne (by rw[ft];simp)) g2;have ze:=eu _ _ (ne (by rw[ft];simp)) je;refine s4 d av own b1 ex ar mb.bS ⟨ao,bb,b6,dV,s0,cQ,λp o e=>lq _ _ (d9 e (fr s0 (by rw[ft];simp))) (el.s0 p o e),oo dL,lq _ _ bS (eu.ne' dd.ins g3),oo ze,⟨_,aj,bB.append (jQ dQ (jQ (dd.dQ eu) qs)) (bB.jS (fE dQ hd))⟩,lq _ _ (d0 g4) (eu.ne' dd.ins mL),bS,cH,g4,ij,ft,fr⟩ ?_;obtain⟨_,_,_,f'⟩:=d4.ins;exact d4.keep (λo e=>by rw[f'] at e;cases e;exact oo f') (λo e=>lq _ _ nl.2.2.2.1 e) dQ
def wH (o:Option bJ):Prop:=∃k v,gS o=.tup [.str k,v]/\(k≠"told"\/∃z,v=.str z/\e8 (.str z) Ga=false)
def hI.wH {ab x}(h:hI ab x):wH ab[0]?:=by
 cases h with
 |yM e=>subst e;exact⟨_,_,I,.inr ⟨_,I,by decide +kernel⟩⟩
 |ret aj t av e _ _ _=>subst e;exact⟨_,_,I,.inr ⟨_,I,by decide +kernel⟩⟩
 |bind x aj d av e _ _=>subst e;exact⟨_,_,I,.inl (by simp only[ez];decide +kernel)⟩
 |yN x aj e _=>subst e;exact⟨_,_,I,.inl (by simp only[ez];decide +kernel)⟩
 |p6 x y aj t e _ _=>subst e;exact⟨_,_,I,.inl (by simp only[ez];decide +kernel)⟩
 |put x z aj t e _ _=>subst e;exact⟨_,_,I,.inl (by simp only[ez];decide +kernel)⟩
def Ca (K:aJ) (aY CL:Addr) (aI H:ap) (aC:Addr) (ds:d8) (k:Nat) (o:Option (D×d8)) (own:gd):Prop:=match o with
 |none=>er K aY CL aI H aC ds k own
 |some (t,bs)=>eh K aY CL aI H aC ds k t bs true own/\bs≠[]
def er.um {aI H aC ds k own}(h:er K aY CL aI H aC ds k own):∀a∈own,H a≠none:=λa aq z=>by
 obtain⟨ao,bb,b6,dV,s0,cQ,ag,ae,aW,bm,⟨_,b7,_⟩,dZ,bS,cH,g4,ij,rfl,fr⟩:=h;simp only[List.mem_cons,List.not_mem_nil,or_false] at aq;rcases aq with rfl|rfl|rfl|rfl|rfl
 ·rw[ae] at z;cases z
 ·rw[aW] at z;cases z
 ·rw[bm] at z;cases z
 ·rw[b7] at z;cases z
 ·rw[dZ] at z;cases z
def eh.um {aI H aC ds k t bs op own}(h:eh K aY CL aI H aC ds k t bs op own):∀a∈own,H a≠none:=λa aq z=>by
 obtain⟨ao,bb,b6,dV,s0,cQ,b0,d6,hM,az,c5,ag,ae,aW,bm,⟨_,b7,_⟩,dZ,g9,iz,⟨_,jD,_⟩,j2,bS,cH,rfl,fr⟩:=h;simp only[List.mem_cons,List.not_mem_nil,or_false] at aq;rcases aq with rfl|rfl|rfl|rfl|rfl|rfl|rfl|rfl
 ·rw[ae] at z;cases z
 ·rw[aW] at z;cases z
 ·rw[bm] at z;cases z
 ·rw[b7] at z;cases z
 ·rw[dZ] at z;cases z
 ·rw[iz] at z;cases z
 ·rw[jD] at z;cases z
 ·rw[j2] at z;cases z
def er.kE {aI H aC ds k own}(h:er K aY CL aI H aC ds k own):∃ao bb,H aC=some (.ins aY ao (i5 bb k)):=by obtain⟨ao,bb,_,_,_,_,_,h,_⟩:=h;exact⟨ao,bb,h⟩
def eh.kE {aI H aC ds k t bs op own}(h:eh K aY CL aI H aC ds k t bs op own):∃ao bb,H aC=some (.ins aY ao (i5 bb k)):=by obtain⟨ao,bb,_,_,_,_,_,_,_,_,_,_,h,_⟩:=h;exact⟨ao,bb,h⟩
inductive wI (K:aJ) (aF aY CL:Addr) (vs:br) (H:ap) (Q:bz) (E:cJ):Prop
 |one aC (n:Nat) a aI ds k o own (ab:List bJ) x:vs=[.ref aC,.int (n:Nat),.int 0,.ref a]->Ca K aY CL aI H aC ds k o own->hG K aI a (ab.map dK)->ab.length<=5000->n<=100000->k < 150->ds.length<=900->hI ab x->(∀d eK Z,x=some (d,ab.length)->er K aY CL aI Z aC (kD ds o++[d]) (k+1) eK->Q .a3 Z)->((∀d,x≠some (d,ab.length))->sD aF n aI E)->wI K aF aY CL vs H Q E
 |o2 aC (n:Nat) a aI ds k o own (ab:List bJ) t aS:vs=[.ref aC,.int (n:Nat),.int 0,.ref a]->Ca K aY CL aI H aC ds k o own->hG K aI a (ab.map dK)->ab.length<=5000->n<=100000->k < 150->ds.length<=900->ab[0]?=some oZ->g6 (ab.drop 1)=some (t,ab.drop aS)->aS<=ab.length->ab[aS]?=some k8->aS+1=ab.length->(∀eK Z,eh K aY CL aI Z aC (kD ds o) (k+1) t [] true eK->Q .a3 Z)->wI K aF aY CL vs H Q E
 |p5 aC (n:Nat) a aI ds k t own:vs=[.ref aC,.int (n:Nat),.int 1,.ref a]->eh K aY CL aI H aC ds k t [] true own->hG K aI a ([mA].map dK)->n<=100000->k < 150->(∀Z,eh K aY CL aI Z aC ds (k+1) t [nY] true own->Q .a3 Z)->wI K aF aY CL vs H Q E
def Gf:cE Ju Dw (bF yS):=dm
inductive Nc (K:aJ) (C aF aY CL:Addr) (E:cJ) (D:Ends) (aa:L2.St) (H:ap):Prop
 |mk aC r ao bb k:aa[0]?=some (some (.ref aC))->aa[4]?=some (some (.ref r))->H aC=some (.ins aY ao (i5 bb k))->wG K C aF aY CL [.ref aC,.ref r] H (λ_ Z=>D.c4 aa Z) E->Nc K C aF aY CL E D aa H
def VL (g:Glb5 K mg) (gX:iI K C) (F:b5 K "take_row" "Reader.take_row" yS f as) (M:oY P w K mg base C aF) (z1:t6 P w K mg base "Row" C Ah 1 (FO K C)) (IL:hh P w K mg base "close" aY Ag 4 (uk K aY CL)) (lm:hh P w K mg base "take_statement" aY vp 319 (wG K C aF aY CL)):bK P w K mg base (bQ P w) 320 f as Dw (wI K aF aY CL):=by
 refine F.fl Gf (λvs H Q E h=>?_) (λbk A outer s H vs Q E al h=>?_)
 ·rcases h with ⟨_,_,_,_,_,_,_,_,_,_,rfl,_⟩|⟨_,_,_,_,_,_,_,_,_,_,_,rfl,_⟩|⟨_,_,_,_,_,_,_,_,rfl,_⟩<;>rfl
 have bN:ff (bQ P w) (fj (bQ P w) P w K mg base Ju "Reader.take_row" (bF yS) f bk A outer s H E) E:=f6 λ_ _ _ h=>h;refine⟨_,(aX (ck (gy.pt (ib (c3 Ei (ah 2) nH) (jK (c3 Ei (ah 3) nH)))) k7 cA) (aX (gQ (iH bN IL (ah 0) (c6 (ah 2) (ah 1)))) (aX (ct 4 Gf.bp (bc.S7 z1 (al.mono (show 2<=319 by decide)) (bf _) I (c6 (ah 1) (ah 3))))
  (aX (ct 5 Gf.bp (oV bN M.z (ah 4))) (aX (ck (gy.pt (kb (c3 eY (ef (ah 5)) aV) (kz (ey ms (ef (ah 5)) (bc.qX I g.VE) I)))) k7 (a9 (oM (t':=Nc K C aF aY CL E) (gQ (iH bN lm (ah 0) (bx (ah 4)))) ?iN))) (a9 (gQ (iH bN M.x (ah 4) (bx (ii g.g.g.FJ)))))))))),?main⟩
 case iN=>
  rintro D aa H ⟨aC,r,ao,bb,k,dD,bX,ae,sp⟩;exact⟨_,dD,aC,ao,_,I,ae,o1,_,bX,sp⟩
 case main=>
  obtain⟨aC,n,i,a,aI,ab,own,rfl,au,Zj,aP,z2,ao,bb,k,ae,aU⟩:∃(aC:Addr) (n:Nat) (i:Int) (a:Addr) (aI:ap) (ab:List bJ) (own:gd),vs=[.ref aC,.int ((n:Nat):Int),.int i,.ref a]/\hG K aI a (ab.map dK)/\ab.length<=5000/\n<=100000/\wH ab[0]?/\
    ∃ao bb k,H aC=some (.ins aY ao (i5 bb k))/\∀u9:bz,(∀ai,(∃ao bb k,ai aC=some (.ins aY ao (i5 bb k)))->ba aI ai->(∀a∈own,ai a≠none)->(∀r aA aB,ba ai aB->bT K C aB r n aA ab 0 0->k9 aI own r aA->∀oq:bz,(∀a7 av,bT K C a7 r n aA ab av 0->av<=ab.length->(av=ab.length->∀b1,bD r a7 b1->Q .a3 b1)->(av≠ab.length->Out aF r n a7 E)->oq .a3 a7)->wG K C aF aY CL [.ref aC,.ref r] aB oq E)->u9 .a3 ai)->uk K aY CL [.ref aC,.int i,.int ((n:Nat):Int)] H u9 E:=by
   rcases h with ⟨aC,n,a,aI,ds,k,o,own,ab,x,e,jb,au,cG,cY,jy,ln,ax,s4,rD⟩|⟨aC,n,a,aI,ds,k,o,own,ab,t,aS,e,jb,au,cG,cY,jy,ln,b2,dM,eu,e1,jB,q⟩|⟨aC,n,a,aI,ds,k,t,own,e,bC,au,cY,jy,q⟩
   ·have go:∀ai,sE K aY CL aI ai aC ds k o own->∀r aA aB,ba ai aB->bT K C aB r n aA ab 0 0->k9 aI own r aA->∀oq:bz,(∀a7 av,bT K C a7 r n aA ab av 0->av<=ab.length->(av=ab.length->∀b1,bD r a7 b1->Q .a3 b1)->(av≠ab.length->Out aF r n a7 E)->oq .a3 a7)->wG K C aF aY CL [.ref aC,.ref r] aB oq E:=λai eF r aA aB aN dd B oq eS=>by
     have g5:sE K aY CL aI aB aC ds k o own:=by
      cases o with
      |none=>exact er.same eF aN
      |some bH=>exact eh.same eF aN
     refine .inl (.one aC r aI ds k o own n aA ab x I g5 dd B jy ln ax (λd av eK Z ex ar al xl ta=>eS Z av ta ar (λe b1 e1=>s4 d eK b1 (by rw[ex,e]) (xl.but e1 ta.ins B.hF al)) λe=>(rD λd' z=>?_).out xl.s0 B.hF) λex=>rD λd' z=>?_)
     ·rw[ex] at z;cases z;exact e rfl
     ·rw[ex] at z;cases z
    cases o with
    |none=>
     have bC:er K aY CL aI H aC ds k own:=jb;obtain⟨ao,bb,ae⟩:=bC.kE;exact⟨aC,n,0,a,aI,ab,own,e,au,cG,cY,ax.wH,ao,bb,k,ae,λu9 cN=>.a aC _ aI ds k own I bC λai eF=>cN ai (let ⟨ao,bb,h⟩:=eF.kE;⟨ao,bb,k,h⟩) eF.s0 eF.um (go ai eF)⟩
    |some bH=>
     obtain⟨t,bs⟩:=bH;obtain⟨bC,af⟩:eh K aY CL aI H aC ds k t bs true own/\bs≠[]:=jb;cases bs with
     |nil=>exact absurd rfl af
     |cons b bs=>
      obtain⟨ao,bb,ae⟩:=bC.kE;exact⟨aC,n,0,a,aI,ab,own,e,au,cG,cY,ax.wH,ao,bb,k,ae,λu9 cN=>.b2 aC _ aI ds k t b bs own I bC λai eF=>cN ai (let ⟨ao,bb,h⟩:=eF.kE;⟨ao,bb,k,h⟩) eF.s0 eF.um (go ai eF)⟩
   ·have go:∀ai,sE K aY CL aI ai aC ds k o own->∀r aA aB,ba ai aB->bT K C aB r n aA ab 0 0->k9 aI own r aA->∀oq:bz,(∀a7 av,bT K C a7 r n aA ab av 0->av<=ab.length->(av=ab.length->∀b1,bD r a7 b1->Q .a3 b1)->(av≠ab.length->Out aF r n a7 E)->oq .a3 a7)->wG K C aF aY CL [.ref aC,.ref r] aB oq E:=λai eF r aA aB aN dd B oq eS=>by
     have g5:sE K aY CL aI aB aC ds k o own:=by
      cases o with
      |none=>exact er.same eF aN
      |some bH=>exact eh.same eF aN
     exact .inl (.o2 aC r aI ds k o own n aA ab t aS I g5 dd B jy ln b2 dM eu e1 λeK Z al xl ta=>eS Z (aS+1) ta (by omega) (λe b1 e1=>q eK b1 (xl.but e1 ta.ins B.hF al)) λe=>absurd jB e)
    have z2:wH ab[0]?:=by rw[b2];exact⟨_,_,I,.inr ⟨_,I,by decide +kernel⟩⟩
    cases o with
    |none=>
     have bC:er K aY CL aI H aC ds k own:=jb;obtain⟨ao,bb,ae⟩:=bC.kE;exact⟨aC,n,0,a,aI,ab,own,e,au,cG,cY,z2,ao,bb,k,ae,λu9 cN=>.a aC _ aI ds k own I bC λai eF=>cN ai (let ⟨ao,bb,h⟩:=eF.kE;⟨ao,bb,k,h⟩) eF.s0 eF.um (go ai eF)⟩
    |some bH=>
     obtain⟨t',bs⟩:=bH;obtain⟨bC,af⟩:eh K aY CL aI H aC ds k t' bs true own/\bs≠[]:=jb;cases bs with
     |nil=>exact absurd rfl af
     |cons b bs=>
      obtain⟨ao,bb,ae⟩:=bC.kE;exact⟨aC,n,0,a,aI,ab,own,e,au,cG,cY,z2,ao,bb,k,ae,λu9 cN=>.b2 aC _ aI ds k t' b bs own I bC λai eF=>cN ai (let ⟨ao,bb,h⟩:=eF.kE;⟨ao,bb,k,h⟩) eF.s0 eF.um (go ai eF)⟩
   ·obtain⟨ao,bb,ae⟩:=bC.kE;refine⟨aC,n,1,a,aI,[mA],own,e,au,(by decide:1<=5000),cY,⟨_,_,I,.inr ⟨_,I,by decide +kernel⟩⟩,ao,bb,k,ae,λu9 cN=>.F9 aC _ aI ds k t own I bC λai eF=>cN ai (let ⟨ao,bb,h⟩:=eF.kE;⟨ao,bb,k,h⟩) eF.s0 eF.um λr aA aB aN dd B oq eS=>?_⟩;exact .inr ⟨aC,r,aI,ds,k,t,own,n,aA,I,eF.same aN,dd,B,jy,λZ xl ta=>eS Z 1 ta (bf _) (λ_ b1 e1=>q b1 (xl.but e1 ta.ins B.hF B.bS)) λz=>absurd I z⟩
  refine⟨_,I,I,_,I,?_⟩;rw[ew (show ¬V.int i=V.a3 from λz=>by cases z)];refine dr ⟨_,I,I,_,I,?_⟩;rw[ew (show ¬V.ref a=V.a3 from λz=>by cases z)];refine dr ⟨_,I,aC,ao,_,I,ae,o1,_,I,_,I,aU _ λai zj az Pf bO=>⟨_,I,_,I,λr ks al IM Zk=>?_⟩⟩;have d3:ba ai (upd (upd ai ks (.own r)) r (.ins C ks [])):=λp o e=>by rw[cj (d9 e al),cj (d9 e IM)];exact e
  refine⟨r,ks,n,a,ab,I,b',au.same (az.trans d3),aP,Zj,λaA aB Zl dM dd=>⟨I,?_⟩⟩;have mM:ba ai aB:=λp o e=>dM p o (d9 e al) (d3 p o e);have B:k9 aI own r aA:=⟨lQ az al,λz=>Pf r z al,λz=>Pf aA z (lQ d3 Zl)⟩;refine⟨_,I,dd.gm ⟨r,n,aA,ab,0,_,0,0,I,dd,by omega,λv aK=>?_⟩⟩;obtain⟨k',H5,am,aE⟩:=z2;rw[am] at aK;obtain⟨CY,IJ,cN,Pg⟩:=zj;have fin:∀(a7:ap) (av:Nat),av<=ab.length->(av=ab.length->∀b1,bD r a7 b1->Q .a3 b1)->(av≠ab.length->Out aF r n a7 E)->(ab[av]?=none->∀b1,bD r a7 b1->bT K C b1 r n aA ab (av+1) 0->Q .a3 b1)/\(ab[av]?≠none->Out aF r n a7 E):=λa7 av ar c d=>by
   refine⟨λe b1 e1 _=>c ?_ b1 e1,λe=>d λz=>e (by rw[z];exact DV (bf _))⟩;have:=AE.mp e;omega
  refine⟨_,I,0,_,_,I,aK,I,fm ⟨I,_,I,?_⟩⟩;rw[wk];refine nU (λz=>?_) λz=>?_
  ·obtain⟨iA,rfl,bq⟩:=aE.resolve_left (λh=>h z);refine⟨_,I,1,_,_,I,aK,I,fm λpo u8=>⟨po,_,I,.inr u8,I,I,_,I,?_⟩⟩;show if(e8 (.str iA) Ga)=true then _ else _
   rw[bq];exact dr (.mk aC r CY IJ cN I I (mM _ _ Pg) (bO r aA aB mM dd B _ λa7 av d4 ar c d=>⟨_,I,d4.gm λxe u5=>⟨r,n,aA,ab,av,_,xe,none,I,d4,u5 a7,(λz h=>by cases h),(fin a7 av ar c d).1,(fin a7 av ar c d).2⟩⟩))
  ·exact .mk aC r CY IJ cN rfl rfl (mM _ _ Pg) (bO r aA aB mM dd B _ λa7 av d4 ar c d=>⟨_,I,d4.gm λxe u5=>⟨r,n,aA,ab,av,_,xe,none,I,d4,u5 a7,(λz h=>by cases h),(fin a7 av ar c d).1,(fin a7 av ar c d).2⟩⟩)
inductive Gg (K:aJ) (aY CL:Addr) (vs:br) (H:ap) (Q:bz) (E:cJ):Prop
 |mk aC y aI ds k o own:vs=[.ref aC,y]->Ca K aY CL aI H aC ds k o own->ds.length<=900->(∀v Z,ba aI Z->At K Z (.tup (kD ds o)) v->Q v Z)->Gg K aY CL vs H Q E
def VM:cE kN kN (bF yT):=dm
def VN (g:Glb5 K mg) (c:uj K aY) (cl:sA K CL) (F:b5 K "finished" "Reader.finished" yT f as) (IL:hh P w K mg base "close" aY Ag 4 (uk K aY CL)) (jR:hh P w K mg base "settle" CL kN 3 (wF K CL)):bK P w K mg base (bQ P w) 5 f as kN (Gg K aY CL):=by
 refine F.fl VM (λvs H Q E h=>?_) (λbk A outer s H vs Q E al h=>?_)
 ·obtain⟨_,_,_,_,_,_,_,rfl,_⟩:=h;rfl
 obtain⟨aC,y,aI,ds,k,o,own,rfl,jb,hd,q⟩:=h;have bN:ff (bQ P w) (fj (bQ P w) P w K mg base kN "Reader.finished" (bF yT) f bk A outer s H E) E:=f6 λ_ _ _ h=>h;refine⟨_,(aX (gQ (iH bN IL (ah 0) (c6 aO (ah 1)))) (aX (gQ (iH bN jR (hs K (bc.eZ (ah 0)) aO) (bx (ah 1)))) (a9 (bE (ke x8 I g.g.g.sv su (bx (bc.eZ (hs K (bc.eZ (ah 0)) aO)))))))),?main⟩
 case main=>
  cases o with
  |none=>
   have bC:er K aY CL aI H aC ds k own:=jb;obtain⟨ao,bb,ae⟩:=bC.kE;refine⟨_,I,aC,ao,_,I,ae,o1,_,I,.a aC y aI ds k own I bC λai eF=>?_⟩;obtain⟨ao,bb,b6,dV,s0,cQ,g1,g2,g3,je,j0,mL,w7⟩:=eF;refine⟨_,I,aC,aY,ao,_,_,I,g2,c.cls,c.bS,i6,bb,_,0,.ref b6,I,I,bg.of g3,I,b6,dV,_,I,je,sC,_,I,.nil b6 y dV s0 cQ I je mL λaB aN=>?_⟩;obtain⟨nk,rE,qs⟩:=j0;exact⟨_,I,aC,aY,ao,_,_,I,aN _ _ g2,c.cls,c.bS,i6,bb,_,0,.ref b6,I,I,bg.of (aN _ _ g3),I,b6,CL,dV,_,_,I,aN _ _ je,cl.cls,cl.bS,ui,s0,nk,I,.inl ⟨bg.of (aN _ _ rE),λp ar=>dz ar λa7 a2 fK=>q _ a7 ((g1.trans aN).trans a2) (iG a2 fK (oU aN qs))⟩⟩
  |some bH=>
   obtain⟨t,bs⟩:=bH;obtain⟨bC,af⟩:eh K aY CL aI H aC ds k t bs true own/\bs≠[]:=jb;cases bs with
   |nil=>exact absurd rfl af
   |cons b bs=>
    obtain⟨ao,bb,ae⟩:=bC.kE;refine⟨_,I,aC,ao,_,I,ae,o1,_,I,.b2 aC y aI ds k t b bs own I bC λai eF=>?_⟩;obtain⟨ao,bb,b6,dV,s0,cQ,b0,d6,hM,az,c5,ag,ae,aW,bm,b7,dZ,g9,iz,jD,j2,iT,nq,ft,fr⟩:=eF;rw[ft] at fr;simp only[List.nodup_cons,List.mem_cons,List.not_mem_nil,or_false,not_or,not_false_eq_true,and_true] at iT nq;obtain⟨pj,j0,_⟩:=id b7;have IH:∀{p xs},ai p=some (.lst xs)->p≠b6:=λ{p xs} e z=>by rw[z,bm] at e;cases e
    have oo:∀{p C d bi},ai p=some (.ins C d bi)->p≠s0:=λ{p C d bi} e z=>by rw[z,j0] at e;cases e
    refine⟨_,I,aC,aY,ao,_,_,I,ae,c.cls,c.bS,i6,bb,_,0,.ref b6,I,I,bg.of aW,I,b6,dV,_,I,bm,sC,_,I,.one b6 y dV s0 cQ b0 az t ds (b::bs) I bm dZ g9 jD b7 (dW hd (by decide)) iT.2.1.1 iT.2.1.2.1 λZ dF cZ II n3 h4 aj=>?_⟩;have cN:=cZ _ _ nq.1.1 (oo ae) ae;have eS:=cZ _ _ (IH aW) iT.1.1 aW;obtain⟨nk,rE,qs⟩:=aj;exact⟨_,I,aC,aY,ao,_,_,I,cN,c.cls,c.bS,i6,bb,_,0,.ref b6,I,I,bg.of eS,I,b6,CL,dV,_,_,I,II,cl.cls,cl.bS,ui,s0,nk,I,.inl ⟨bg.of rE,λp ar=>dz ar λa7 a2 fK=>q _ a7 (λp o e=>a2 p o (cZ p o (d9 e (fr b6 (by simp))) (d9 e (fr s0 (by simp))) (ag p o e))) (iG a2 fK qs)⟩⟩
abbrev Cb:Stmt:=top 97
inductive Nd where
 |ok (ds:d8)|bad (n:Nat)
def sF (o:Option (D×d8)):Prop:=∀t bs,o=some (t,bs)->bs≠[]
inductive Run:List oD->d8->Option (D×d8)->Nd->Prop
 |nil ds o:sF o->Run [] ds o (.ok (kD ds o))
 |one n l ab d r ds o R:nD l=some 0->sF o->ab.length<=5000->hI ab (some (d,ab.length))->Run r (kD ds o++[d]) none R->Run ((n,l,some ab)::r) ds o R
 |bad n l ab x r ds o:nD l=some 0->sF o->ab.length<=5000->hI ab x->(∀d,x≠some (d,ab.length))->Run ((n,l,some ab)::r) ds o (.bad n)
 |o2 n l ab t aS r ds o R:nD l=some 0->sF o->ab.length<=5000->ab[0]?=some oZ->g6 (ab.drop 1)=some (t,ab.drop aS)->aS<=ab.length->ab[aS]?=some k8->aS+1=ab.length->Run r (kD ds o) (some (t,[])) R->Run ((n,l,some ab)::r) ds o R
 |p5 n l t r ds R:nD l=some 1->Run r ds (some (t,[nY])) R->Run ((n,l,some [mA])::r) ds (some (t,[])) R
def Ng {X:a8}:qR X "str.count" (λx xs H Q=>∃z y,x=.str z/\xs=[.str y]/\Q (.int (Txt.count z y)) H):=by
 intro ac s aa H x xs v us Q J a0 eD h;obtain⟨z,y,rfl,rfl,q⟩:=h;obtain⟨t,rfl⟩:=a0;obtain⟨u,rfl,d5,rfl⟩:=vals1 eD;exact SC.count ⟨.int _,H,J.tok _,⟨_,I⟩,q⟩
def lK.lst {H a ab}(h:lK H a ab):hG K H a (ab.map dK):=by
 obtain⟨aG,ag,ae⟩:=h;refine⟨_,ag,?_⟩;clear ag
 induction ae with
 |nil=>exact f5.mpr rfl
 |@cons p cF aG ab ar _ ih=>
  refine fQ.mpr ⟨_,_,I,eI.mpr ⟨p,_,I,dI.of ar,?_⟩,ih⟩;cases cF
  ·exact ht (cz.mpr I) (cz.mpr I)
  ·exact ht (cz.mpr I) (cz.mpr I)
  ·exact ht (cz.mpr I) (hg.mpr I)
  ·exact ht (cz.mpr I) (cz.mpr I)
  ·exact ht (cz.mpr I) (cz.mpr I)
theorem Nh {cC kw:Type}{F:cC->kw->Prop}:∀{l₁:List cC}{l₂:List kw}{i:Nat} {a b},Paired F l₁ l₂->l₁[i]?=some a->l₂[i]?=some b->F a b
 |_,_,i,a,b,.nil,h,_=>by simp at h
 |_,_,0,a,b,.cons r _,h,h'=>by cases h;cases h';exact r
 |_,_,i+1,a,b,.cons _ t,h,h'=>Nh (i:=i) t (by simpa using h) (by simpa using h')
def less (H:ap) (own:gd):ap:=λp=>if p∈own then none else H p
def VO (H own):ba (less H own) H:=λp o e=>by unfold less at e;split at e;cases e;exact e
def yU {H own p o}(h:H p=some o) (n:p∉own):less H own p=some o:=by unfold less;rw[bP n];exact h
def er.less {aI H aC ds k own}(h:er K aY CL aI H aC ds k own):er K aY CL (less H own) H aC ds k own/\ba aI (GS.less H own):=by
 obtain⟨ao,bb,b6,dV,s0,cQ,ag,ae,aW,bm,b7,dZ,bS,cH,g4,ij,ft,fr⟩:=h;exact⟨⟨ao,bb,b6,dV,s0,cQ,VO _ _,ae,aW,bm,b7,dZ,bS,cH,g4,ij,ft,λa aq=>b8 aq⟩,λp o e=>yU (ag p o e) λz=>by rw[fr p z] at e;cases e⟩
inductive Gh (K:aJ) (aF:Addr) (vs:br) (H:ap) (Q:bz) (E:cJ):Prop
 |mk (z:Str) (rows:List (bh)) R:vs=[.str z]->z.length<=4000->(Builtin.Str.occurrences z "\t" 0 z.length 1).isEmpty=true->Txt.count z "\n"<=199->Txt.split z ⟨#[10]⟩=rows.map S->(∀l∈rows,l.length<=100000)->rows.length<=100->Run (rowsOf true 0 rows) [] none R->(∀ds,R=.ok ds->∀v Z,ba H Z->At K Z (.tup ds) v->Q v Z)->(∀n,R=.bad n->sD aF n H E)->Gh K aF vs H Q E
def wJ:cE Jr ["text"] (bF Cb):=dm
inductive Cc (K:aJ) (aY CL:Addr) (aI:ap) (z:Str) (aC:Addr) (xm:V) (eD:List oD) (R:Nd) (i:Nat) (aa:L2.St) (Z:ap):Prop
 |a eQ fX gN ds own:aa=[some (.str z),some xm,some (.ref aC),eQ,fX,gN]->er K aY CL aI Z aC ds i own->ds.length<=2*i->Run (eD.drop i) ds none R->Cc K aY CL aI z aC xm eD R i aa Z
 |b eQ fX gN ds t bs own:aa=[some (.str z),some xm,some (.ref aC),eQ,fX,gN]->eh K aY CL aI Z aC ds i t bs true own->ds.length<=2*i->Run (eD.drop i) ds (some (t,bs)) R->Cc K aY CL aI z aC xm eD R i aa Z
def VP (g:Glb5 K mg) (gL:mw P w K mg base "BadText" aF SB ls 1 (mx K aF)) (F:b5 K "read" "read" Cb f as) (gM:d7 P w K mg base "rows_of" ["text"] 5 Lp) (z1:t6 P w K mg base "Reader" aY h7 3 (F8 K aY CL)) (lm:hh P w K mg base "take_row" aY Dw 320 (wI K aF aY CL)) (Zm:hh P w K mg base "finished" aY kN 5 (Gg K aY CL)):bK P w K mg base (bQ P w) 321 f as ["text"] (Gh K aF):=by
 refine F.fl wJ (λvs H Q E h=>?_) (λbk A outer s H vs Q E al h=>?_)
 ·obtain⟨_,_,_,rfl,_⟩:=h;rfl
 obtain⟨z,rows,R,rfl,hz,bO,aw,lg,qg,HA,z3,aZ,bn⟩:=h;have bN:ff (bQ P w) (fj (bQ P w) P w K mg base Jr "read" (bF Cb) f bk A outer s H E) E:=f6 λ_ _ _ h=>h;refine⟨_,(aX (ck (gy.pt (ib (nI (hD (e7 EI I g.tR v3 (c6 (ah 0) (bc.oG (v:=.ty "str") I g.g.g.g2.g.A3 A2 I))))) (ib (ey AQ aV (ah 0) I) (jK (c3 kd (e7 nN I g.g.g.g2.g.jp nP (bx (ah 0))) (bc.lJ I g.VC)))))) k7 cA) (aX (ct 1 wJ.bp (a5 f3 (hb lu PySem.F.slot_str_count PySem.F.type_str_count Ng (ah 0) (bx aV)) aO)) (aX (ck (c3 kd (ah 1) (bc.lJ I g.VD)) k7 cA) (aX (ct 2 wJ.bp (F7 z1 (al.mono (show 4<=320 by decide))))
  (aX (mo rX I (pO (bc.k3 gM (al.mono (show 5<=320 by decide)) (bf _) I (bx (ah 0)))) (pL I (kX (h1 3 wJ.bp) (kX (h1 4 wJ.bp) (kX (h1 5 wJ.bp) pK)))) (a9 (gQ (iH bN lm (ah 2) (fb (ah 3) (ah 4) (ah 5))))))
  (a9 (bE (iH bN Zm (ah 2) (bx (ah 1)))))))))),?main⟩
 case main=>
  have uR:z.length<=sizeLine:=dW hz (by rw[jH];decide);refine⟨_,I,_,_,_,_,I,.str _,tS K _,_,I,dr ⟨_,I,_,_,I,I,_,I,?_⟩⟩;rw[bO];refine dr ⟨_,I,_,I,uR,_,_,I,I,_,I,?_⟩;rw[ew (show ¬((4000:Int) < ((z.length:Nat):Int)) by omega)];refine dr ⟨_,I,I,_,_,I,I,_,_,I,I,?_⟩;refine⟨_,I,_,_,I,I,_,I,?_⟩;rw[ew (show ¬((200:Int) < Txt.count z "\n"+1) by omega)];refine dr λaC ks zj IM Zk=>?_;have d3:ba H (upd (upd H ks (.own aC)) aC (.ins aY ks [])):=λp o e=>by rw[cj (d9 e zj),cj (d9 e IM)];exact e
  refine⟨aC,ks,H,I,b',d3,zj,λown ai eF=>⟨I,?_⟩⟩;refine⟨_,I,z,rows,I,dW hz (by decide),lg,qg,dW HA (by decide),λa aB aq aN Zn=>?_⟩;have g5:=eF.same aN;obtain⟨el,Zo⟩:=g5.less;obtain⟨aG,cX,Ph⟩:=Zn;have Hx:a∉own:=λiA=>eF.um a iA aq;have zQ:=yU cX Hx;have Zp:∀(i:Nat) (p:Addr) (r:oD),aG[i]?=some p->(rowsOf true 0 rows)[i]?=some r->∃x,less aB own p=some (.tup [.int (r.1:Nat),lL r.2.1,x])/\∀ab,r.2.2=some ab->ab≠[]->∃km,x=.ref km/\hG K (less aB own) km (ab.map dK):=λi p r am aE=>by
   obtain⟨x,ar,ak,_⟩:=Nh Ph am aE;obtain⟨ao,bb,b6,dV,ot,cQ,_,g2,g3,je,⟨pj,j0,qs⟩,mL,_,_,_,_,ft,_⟩:=id g5;have fd:=f5.mp qs;subst fd;have fC:∀{p vs},aB p=some (.tup vs)->p∉own:=λ{p vs} e iA=>by
    rw[ft] at iA;simp only[List.mem_cons,List.not_mem_nil,or_false] at iA;rcases iA with rfl|rfl|rfl|rfl|rfl
    ·rw[g2] at e;cases e
    ·rw[g3] at e;cases e
    ·rw[je] at e;cases e
    ·rw[j0] at e;cases e
    ·rw[mL] at e;cases e
   refine⟨x,yU ar (fC ar),λab fH e0=>?_⟩;rw[fH] at ak;obtain⟨km,rfl,jY,aD,w0⟩:=ak;have IN:jY≠[]:=λiA=>by subst iA;cases w0;exact e0 rfl
   have zY:km∉own:=λiA=>by
    rw[ft] at iA;simp only[List.mem_cons,List.not_mem_nil,or_false] at iA;rcases iA with rfl|rfl|rfl|rfl|rfl
    ·rw[g2] at aD;cases aD
    ·rw[g3] at aD;cases jY with
     |nil=>exact IN rfl
     |cons q jY=>
      have iq:=hB aD;injection iq with iq;injection iq with iq _;injection iq with iq;subst iq;cases w0 with
      |cons r _=>rw[je] at r;cases r
    ·rw[je] at aD;cases aD
    ·rw[j0] at aD;cases jY with
     |nil=>exact IN rfl
     |cons q jY=>cases aD
    ·rw[mL] at aD;cases jY with
     |nil=>exact IN rfl
     |cons q jY=>cases aD
   exact⟨km,I,lK.lst ⟨jY,yU aD zY,Paired.rY w0 λq cF e=>yU e (fC e)⟩⟩
  have dT:aG.length=(rowsOf true 0 rows).length:=Paired.len Ph;have ack:(rowsOf true 0 rows).length<=100:=dW (D4 true rows 0) HA;have s0:∀{Z},ba (less aB own) Z->ba H Z:=λ{Z} s'=>Zo.trans s';refine⟨a,I,⟨_,bg.of cX⟩,Qy (K:=K) (a:=a) (xs:=aG.map V.ref) (Cc K aY CL (less aB own) z aC (.int (Txt.count z "\n"+1)) (rowsOf true 0 rows) R) (.a _ _ _ [] own I el (bf _) (by rw[xR];exact z3)) (λi aa Z _ h=>?_) ?_ ?_⟩
  ·rcases h with ⟨_,_,_,_,_,_,h,_⟩|⟨_,_,_,_,_,_,_,_,h,_⟩
   ·exact bg.of (h.s0 _ _ zQ)
   ·exact bg.of (h.s0 _ _ zQ)
  ·intro i u aa Z bY eE;rw[rS] at bY;obtain⟨p,cp,rfl⟩:∃p,aG[i]?=some p/\u=.ref p:=by
    cases e:aG[i]? with
    |none=>rw[e] at bY;cases bY
    |some p=>rw[e] at bY;exact⟨p,I,(hB bY).symm⟩
   have aR:i < (rowsOf true 0 rows).length:=by rw[<-dT];exact(kP.mp cp).1
   have f':(rowsOf true 0 rows)[i]?=some (rowsOf true 0 rows)[i]:=iB aR;have eP:(rowsOf true 0 rows).drop i=(rowsOf true 0 rows)[i]::(rowsOf true 0 rows).drop (i+1):=vA aR;obtain⟨x,ar,ak⟩:=Zp i p _ cp f';have qg:(rowsOf true 0 rows)[i].1<=100000:=by
    have:=(JG true rows 0 _ (Ax aR)).1;omega
   have go:∀ds o eK,(match o with|none=>er K aY CL (less aB own) Z aC ds i eK|some (t,bs)=>eh K aY CL (less aB own) Z aC ds i t bs true eK)->ds.length<=2*i->Run ((rowsOf true 0 rows).drop i) ds o R->ba (less aB own) Z/\(∃ao bb,Z aC=some (.ins aY ao (i5 bb i)))/\wI K aF aY CL [.ref aC,.int (((rowsOf true 0 rows)[i].1:Nat):Int),lL (rowsOf true 0 rows)[i].2.1,x] Z (λ_ hR=>Cc K aY CL (less aB own) z aC (.int (Txt.count z "\n"+1)) (rowsOf true 0 rows) R (i+1) [some (.str z),some (.int (Txt.count z "\n"+1)),some (.ref aC),some (.int (((rowsOf true 0 rows)[i].1:Nat):Int)),some (lL (rowsOf true 0 rows)[i].2.1),some x] hR) E:=λds o eK fI hd nu=>by
    rw[eP] at nu;have acl:i < 100:=by omega
    have Dh:∀{l k},nD l=some k->lL l=.int ((k:Nat):Int):=λ{l k} e=>by unfold lL;rw[e]
    have Pi:∀{o:Option (D×d8)},(kD ds o).length<=ds.length+1:=λ{o}=>by
     cases o with
     |none=>exact mf _
     |some bH=>show(ds++[_]).length<=_;rw[cy];exact bf _
    have C':ba (less aB own) Z/\∃ao bb,Z aC=some (.ins aY ao (i5 bb i)):=by
     cases o with
     |none=>exact⟨er.s0 fI,er.kE fI⟩
     |some bH=>exact⟨eh.s0 fI,eh.kE fI⟩
    have jb:sF o->Ca K aY CL (less aB own) Z aC ds i o eK:=λaT=>by
     cases o with
     |none=>exact fI
     |some bH=>exact⟨fI,aT bH.1 bH.2 I⟩
    refine⟨C'.1,C'.2,?_⟩;have Zq:∀n,R=.bad n->sD aF n (less aB own) E:=λn e d hR lV h=>bn n e d hR (s0 lV) h;generalize Os:(rowsOf true 0 rows)[i]=row at nu qg ak ar⊢;clear eP f';cases nu with
    |one n l ab d _ _ _ _ u' aT ay ax al=>
     obtain⟨km,rfl,lY⟩:=ak ab rfl (λiA=>by subst iA;cases ax<;>contradiction);refine .one aC n km _ ds i o eK ab _ (by rw[Dh u'];rfl) (jb aT) lY ay qg (by omega) (by omega) ax (λd' Di hR e bC=>?_) λaP=>absurd rfl (aP d);cases e;exact .a _ _ _ _ Di rfl bC (by rw[cy];have:=Pi (o:=o);show _+1<=_;omega) al
    |bad n l ab w1 _ _ _ u' aT ay ax aP=>
     obtain⟨km,rfl,lY⟩:=ak ab rfl (λiA=>by subst iA;cases ax<;>contradiction);exact .one aC n km _ ds i o eK ab w1 (by rw[Dh u'];rfl) (jb aT) lY ay qg (by omega) (by omega) ax (λd' Di hR e bC=>absurd e (aP d')) λ_=>Zq n rfl
    |o2 n l ab t aS _ _ _ _ u' aT ay cd ag ae aW bm al=>
     obtain⟨km,rfl,lY⟩:=ak ab rfl (λiA=>by subst iA;cases cd);exact .o2 aC n km _ ds i o eK ab t aS (by rw[Dh u'];rfl) (jb aT) lY ay qg (by omega) (by omega) cd ag ae aW bm λDi hR bC=>.b _ _ _ _ t [] Di rfl bC (by have:=Pi (o:=o);omega) al
    |p5 n l t _ _ _ u' al=>
     obtain⟨km,rfl,lY⟩:=ak [mA] rfl (λiA=>by cases iA);exact .p5 aC n km _ ds i t eK (by rw[Dh u'];rfl) fI lY qg (by omega) λhR bC=>.b _ _ _ _ t [nY] eK rfl bC (by omega) al
   rcases eE with ⟨eQ,fX,gN,ds,eK,rfl,bC,hd,nu⟩|⟨eQ,fX,gN,ds,t,bs,eK,rfl,bC,hd,nu⟩
   ·obtain⟨tG,⟨ao,bb,ae⟩,sp⟩:=go ds none eK bC hd nu;exact⟨p,_,I,dI.of (tG _ _ ar),I,_,_,I,_,_,I,_,_,I,I,_,I,aC,ao,_,I,ae,o1,_,I,_,I,_,I,sp⟩
   ·obtain⟨tG,⟨ao,bb,ae⟩,sp⟩:=go ds (some (t,bs)) eK bC hd nu;exact⟨p,_,I,dI.of (tG _ _ ar),I,_,_,I,_,_,I,_,_,I,I,_,I,aC,ao,_,I,ae,o1,_,I,_,I,_,I,sp⟩
  ·intro aa Z eE;rw[eV,dT] at eE;rcases eE with ⟨eQ,fX,gN,ds,eK,rfl,bC,hd,nu⟩|⟨eQ,fX,gN,ds,t,bs,eK,rfl,bC,hd,nu⟩
   ·rw[qF] at nu;obtain⟨ao,bb,ae⟩:=bC.kE;cases nu with
    |nil _ _ aT=>exact⟨_,I,aC,ao,_,I,ae,o1,_,I,aC,_,_,ds,_,none,eK,I,bC,by omega,λv hR lV aK=>aZ _ I v hR (s0 lV) aK⟩
   ·rw[qF] at nu;obtain⟨ao,bb,ae⟩:=bC.kE;cases nu with
    |nil _ _ aT=>exact⟨_,I,aC,ao,_,I,ae,o1,_,I,aC,_,_,ds,_,some (t,bs),eK,I,⟨bC,aT t bs I⟩,by omega,λv hR lV aK=>aZ _ I v hR (s0 lV) aK⟩
end
abbrev Gi:Stmt:=top 100
abbrev Gj:Stmt:=top 99
def wK {cC:Type}{xs:List cC}{k:Int}(cd:0<=k) (ag:k < (xs.length:Nat)):∃v,v∈xs/\k1 xs k=some v:=by
 obtain⟨n,rfl⟩:∃n:Nat,k=(n:Int):=⟨k.toNat,co⟩;have aP:n < xs.length:=by omega
 exact⟨xs[n],Ax aP,iD (by simp[aP])⟩
section
variable {K:aJ}{P:Program}{w:World}{mg:Str->cn}{base:Heap}{f:Addr}{as:FuncData}
structure rc (K:aJ) (H:ap) (a b:Addr) (n:Nat) (ys:br):Prop where
 cells:∃ns:List Int,bg K H a (ns.map V.int)/\ns.length<=63
 ne:a≠b
 yV:H b=some (.lst (.int (n:Nat)::ys))
 Fx:ys.length<=1
def rc.go {H Z a b n bv ys uW}(h:rc K H a b n ys) (af:bD b H Z) (ax:Z b=some (.lst (.int (bv:Nat)::uW))) (aT:uW.length<=1):rc K Z a b bv uW:=by
 obtain⟨⟨ns,ag,ae⟩,aW,_,_⟩:=h;exact⟨⟨ns,af.FH aW ag,ae⟩,aW,ax,aT⟩
def rc.same {H Z a b n ys}(h:rc K H a b n ys) (ax:ba H Z):rc K Z a b n ys:=h.go (.of ax) (ax _ _ h.yV) h.Fx
inductive Gk (K:aJ) (vs:br) (H:ap) (Q:bz) (dA:cJ):Prop
 |mk a (ns:List Int) (k:Int):vs=[.ref a,.int k]->bg K H a (ns.map V.int)->ns.length<=63->0<=k->(∀i,i∈ns\/i=0->Q (.int i) H)->Gk K vs H Q dA
def VQ:cE Aj Aj (bF Gj):=dm
def VR (g:f9 K mg) (F:b5 K "_law_cell_at" "_law_cell_at" Gj f as):bK P w K mg base dJ 1 f as Aj (Gk K):=by
 refine F.kj VQ ?_;rintro bk A outer s H vs Q E al ⟨a,ns,k,rfl,fI,va,cd,q⟩ ll;refine⟨_,aX (ck (c3 jn (ah 1) (e7 r' I g.g2.g.jp sr (bx (ah 0)))) (a9 (bE (gj tM (ah 0) (ah 1) (λ_ _=>I)))) cA) (a9 (bE aO)),?_⟩;refine⟨_,I,_,I,a,_,I,.inl fI,_,_,I,I,_,I,fR (λe=>?_) (λe=>?_)⟩
 ·have ag:k < ((ns.map V.int).length:Nat):=gP e;obtain⟨v,aK,aq⟩:=wK cd ag;obtain⟨i,aR,rfl⟩:=mU.mp aK;exact⟨_,I,_,I,a,_,_,_,I,I,fI,aq,q i (.inl aR)⟩
 ·exact q 0 (.inr I)
inductive wL (K:aJ) (vs:br) (H:ap) (Q:bz) (dA:cJ):Prop
 |mk a b n ys:vs=[.ref a,.ref b]->rc K H a b n ys->n<=1000000000000->(∀i Z,0<=i->i < 306783380->bD b H Z->Z b=some (.lst (.int ((n+1:Nat):Int)::ys))->Q (.int i) Z)->wL K vs H Q dA
def Cd:cE ["_law_cells","_law_spot","_law_k","_law_base"] vo (bF Gi):=dm
def VS (g:f9 K mg) (F:b5 K "_law_cell" "_law_cell" Gi f as):bK P w K mg base dJ 1 f as vo (wL K):=by
 refine F.kj Cd ?_;rintro bk A outer s H vs Q E al ⟨a,b,n,ys,rfl,⟨⟨ns,fI,va⟩,wv,af,aT⟩,aP,q⟩ ll;refine⟨_,aX (pM (a5 f3 (gj tM (ah 1) aO (λ_ _=>I)) aO) (.mk (L2.J0 (L2.ah 1) L2.aO set_list))) (aX (ct 2 Cd.bp (gj tM (ah 1) aO (λ_ _=>I))) (aX (ct 3 Cd.bp (a5 f3 (a5 m1 (a5 m1 aO (ah 2)) (ah 2)) (a5 m1 aO (ah 2)))) (aX (ck (c3 kd (e7 r' I g.g2.g.jp sr (bx (ah 0))) aO) (a9 (ct 3 Cd.bp (a5 f3 (ah 3) (a5 m1 (gj tM (ah 0) (a5 fx (ah 2) (e7 r' I g.g2.g.jp sr (bx (ah 0)))) (λ_ _=>I)) (a5 f3 aO (a5 hW (ah 2) (e7 r' I g.g2.g.jp sr (bx (ah 0))))))))) cA) (a9 (bE (a5 hW (a5 fx (a5 m1 (ah 3) aO) aO) aO)))))),?_⟩;have oi:∀o,bg K (upd H b o) a (ns.map V.int):=λo=>(bD.i4 b H o).FH wv fI;have Zr:m4 (V.int (n:Int)::ys).length 0=some 0:=by
  unfold m4;rw[b8 dU,b8 (by rw[en];omega)];rfl
 refine⟨_,I,b,_,_,_,I,I,bg.of af,iD (j:=0) I,_,_,I,I,_,I,b,_,_,0,I,I,af,Zr,?_⟩;have am:((n:Int)+1)=((n+1:Nat):Int):=by omega
 refine⟨_,I,b,_,_,_,I,I,bg.of b',iD (j:=0) I,?_⟩;dsimp only;show D9 _ _ _ _ (upd H b (.lst (V.int ((n:Int)+1)::ys)));rw[am];generalize aQ:n+1=m at q;have acm:m<=1000000000001:=by omega
 have fin:∀B:Int,0<=B*48271 % 2147483647 / 7/\B*48271 % 2147483647 / 7 < 306783380:=λB=>by
  have:=DX (B*48271) (b:=2147483647) dU;have:=DY (B*48271) (b:=2147483647) dU;omega
 refine⟨_,I,_,_,I,I,.inl ⟨dU,dU⟩,_,I,_,_,I,I,.inr ⟨co,co⟩,_,I,_,_,I,I,.inl ⟨dU,dU⟩,_,_,I,I,_,I,a,_,I,.inl (oi _),_,_,I,I,_,I,fR (λe=>?_) (λe=>?_)⟩
 ·have cd:(0:Int) < ((ns.map V.int).length:Nat):=gP e;have dT:((ns.map V.int).length:Nat)<=63:=by rw[eV];exact va
  have gK:=DX (m:Int) (b:=((ns.map V.int).length:Nat)) co;have cB:=DY (m:Int) (b:=((ns.map V.int).length:Nat)) cd;obtain⟨v,aK,IP⟩:=wK gK cB;obtain⟨z,_,rfl⟩:=mU.mp aK;have HD:0<=(m:Int) / ((ns.map V.int).length:Nat):=Int.ediv_nonneg co co;have eB:(m:Int) / ((ns.map V.int).length:Nat)<=m:=Int.ediv_le_self _ co;exact⟨_,I,_,I,_,I,_,I,a,_,I,.inl (oi _),_,_,I,I,cd,a,_,_,_,I,I,oi _,IP,_,I,_,I,a,_,I,.inl (oi _),_,_,I,I,⟨cd,by show _ < (1073741824:Int);omega⟩,_,_,I,I,_,_,I,I,.inr ⟨by show _ < 1+(m:Int) / _;omega,by show 1+(m:Int) / _ < _;omega⟩,_,_,I,I,_,I,_,_,I,I,.inr ⟨dU,dU⟩,_,_,I,I,(by show(0:Int) < 2147483647;decide),_,_,I,I,⟨dU,dU⟩,q _ _ (fin _).1 (fin _).2 (bD.i4 b H _) b'⟩
 ·exact⟨_,I,_,_,I,I,.inr ⟨dU,dU⟩,_,_,I,I,(by show(0:Int) < 2147483647;decide),_,_,I,I,⟨dU,dU⟩,q _ _ (fin _).1 (fin _).2 (bD.i4 b H _) b'⟩
end
abbrev wM (js:bh) (vs:br) (aa:L2.St):Prop:=vs.length=js.length/\∀(j i:Nat),js[j]?=some i->∃v,vs[j]?=some v/\aa[i]?=some (some v)
def Ni {a b:Nat}{x y:V}{aa:L2.St}(h:aa[a]?=some (some x)) (h':aa[b]?=some (some y)):wM [a,b] [x,y] aa:=⟨I,λj i e=>by
 match j,e with
 |0,e=>cases e;exact⟨x,I,h⟩
 |1,e=>cases e;exact⟨y,I,h'⟩
 |_+2,e=>cases e⟩
def VT {a:Nat}{x:V}{aa:L2.St}(h:aa[a]?=some (some x)):wM [a] [x] aa:=⟨I,λj i e=>by
 match j,e with
 |0,e=>cases e;exact⟨x,I,h⟩
 |_+1,e=>cases e⟩
def VU {a b c:Nat}{x y z:V}{aa:L2.St}(h:aa[a]?=some (some x)) (h':aa[b]?=some (some y)) (Zs:aa[c]?=some (some z)):wM [a,b,c] [x,y,z] aa:=⟨I,λj i e=>by
 match j,e with
 |0,e=>cases e;exact⟨x,I,h⟩
 |1,e=>cases e;exact⟨y,I,h'⟩
 |2,e=>cases e;exact⟨z,I,Zs⟩
 |_+3,e=>cases e⟩
def VV {aa:L2.St}:wM [] [] aa:=⟨I,λj i e=>by cases e⟩
section
variable {js:bh}{bw:TE}{aa:L2.St}{ai:ap}{Q:Addr->ap->Prop}{vs:br}(W:Addr->br->ap->Prop)
def Gl (N:Nat) (dx:N<=1000) (aK:wM js vs aa) (cd:∀D,ai D=none->W D [] (upd ai D (.lst []))) (st:∀D,ai D=none->∀ys H (QQ:bz),ys.length < N->H D=some (.lst ys)->W D ys H->(∀v b1,b1 D=some (.lst ys)->W D (ys++[v]) (upd b1 D (.lst (ys++[v])))->QQ v b1)->bw (some (.int (ys.length:Nat))::vs.map some) H QQ) (fin:∀D,ai D=none->∀ys H,ys.length=N->H D=some (.lst ys)->W D ys H->Q D H):Bf 1 js (tE 0 N) (qM 0) t7 bw aa ai Q:=by
 refine⟨vs,aK,λD dh=>⟨λi m ys H=>m=N - i/\i<=N/\ys.length=i/\H D=some (.lst ys)/\W D ys H,⟨N,I,fN _,I,b',cd D dh⟩,?_⟩⟩;rintro i m ys H ⟨rfl,aR,rfl,aT,eE⟩;by_cases cM:ys.length < N
 ·refine .inr ⟨cM,λx Z fq uV ak=>?_⟩;obtain⟨rfl,rfl⟩:=ak
  match fq,uV with
  |[pe],_=>
   refine⟨[_],I,I,?_⟩;unfold t7;dsimp only;rw[b8 I,Int.zero_add];exact st D dh ys Z _ cM aT eE λv b1 am aE=>⟨am,eG (show ys.length < 1001 by omega) (ua (by decide)),N - (ys.length+1),by omega,I,cM,by rw[cy];rfl,b',aE⟩
 ·have e:ys.length=N:=by omega
  exact .inl ⟨by show N<=ys.length;omega,fin D dh ys H e aT eE⟩
def Nj {K:aJ}{a:Addr}(xs:br) (dx:xs.length<=1000) (aK:wM js vs aa) (ak:∀D,ai D=none->∀ys H,W D ys H->dI K H a xs) (cd:∀D,ai D=none->W D [] (upd ai D (.lst []))) (st:∀D,ai D=none->∀x ys H (QQ:bz),xs[ys.length]?=some x->H D=some (.lst ys)->W D ys H->(∀v b1,b1 D=some (.lst ys)->W D (ys++[v]) (upd b1 D (.lst (ys++[v])))->QQ v b1)->bw (some x::vs.map some) H QQ) (fin:∀D,ai D=none->∀ys H,ys.length=xs.length->H D=some (.lst ys)->W D ys H->Q D H):Bf 1 js (Ec K a) (qM 0) t7 bw aa ai Q:=by
 refine⟨vs,aK,λD dh=>⟨λi m ys H=>m=xs.length - i/\i<=xs.length/\ys.length=i/\H D=some (.lst ys)/\W D ys H,⟨xs.length,I,fN _,I,b',cd D dh⟩,?_⟩⟩;rintro i m ys H ⟨rfl,aR,rfl,aT,eE⟩;have ax:=ak D dh ys H eE;by_cases cM:ys.length < xs.length
 ·refine .inr ⟨⟨xs,xs[ys.length],ax,iB cM⟩,λx Z fq uV qf=>?_⟩;obtain⟨rfl,qf⟩:=qf;have ex:=qf xs ax
  match fq,uV with
  |[pe],_=>
   refine⟨[_],I,I,?_⟩;unfold t7;dsimp only;rw[b8 rfl];exact st D dh x ys Z _ ex aT eE λv b1 am aE=>⟨am,eG (show ys.length < 1001 by omega) (ua (by decide)),xs.length - (ys.length+1),by omega,I,cM,by rw[cy];rfl,b',aE⟩
 ·have e:ys.length=xs.length:=by omega
  exact .inl ⟨⟨xs,ax,by omega⟩,fin D dh ys H e aT eE⟩
end
abbrev Gm:Stmt:=top 102
abbrev Gn:Stmt:=top 101
def VW:Txt.split ("and as break class continue def elif else except False finally for from global if in None"++" nonlocal not or pass raise return True try while yield") " "=qH.map S:=by decide +kernel
def eA (a b:bh):S a++S b=S (a++b):=by
 show(⟨(S a).cps++(S b).cps⟩:Str)=_;simp[S]
def Gp {l:bh}{f:Nat->Bool}{m:Nat}{k:Int}(au:m<=l.length) (aq:(l.take m).all f=true) (cd:0<=k) (ag:k < m):∃c,k1 l k=some c/\f c=true:=by
 obtain⟨n,rfl⟩:∃n:Nat,k=(n:Int):=⟨k.toNat,by omega⟩;have aP:n < l.length:=by omega
 refine⟨l[n],iD (by simp[aP]),eW.mp aq _ ?_⟩;rw[List.mem_take_iff_getElem];exact⟨n,by omega,I⟩
def Nk (cs:bh):Txt.join "" (cs.map λc=>S [c])=S cs:=by
 show Builtin.Str.glued "" _=_;rw[AG]
 induction cs with
 |nil=>rfl
 |cons c t ih=>
  cases t with
  |nil=>rfl
  |cons d r=>
   show S [c]++("":Str)++Str.join "" ((d::r).map λc=>S [c])=_;rw[ih];have:(S [c]++("":Str))=S [c]:=Str.append_empty _;rw[this,eA];rfl
def Nl (cs:bh):((cs.map λc=>S [c]).map (·.length)).sum=cs.length:=by
 induction cs with
 |nil=>rfl
 |cons c t ih=>rw[kR,kR,vF,ih,ek,en,en];simp;omega
def yW (f:Nat->Bool) (ys:br):Prop:=∃cs:bh,ys=(cs.map λc=>S [c]).map V.str/\cs.all f=true
def yW.snoc {f ys c}(h:yW f ys) (aw:f c=true):yW f (ys++[.str ⟨#[c]⟩]):=by
 obtain⟨cs,rfl,aq⟩:=h;exact⟨cs++[c],by simp[S],by rw[fY,aq];simp[aw]⟩
section
variable {K:aJ}{P:Program}{w:World}{mg:Str->cn}{base:Heap}{f:Addr}{as:FuncData}
inductive Gq (vs:br) (H:ap) (Q:bz) (dA:cJ):Prop
 |mk:vs=[]->(∀p Z,ba H Z->Z p=some (.lst (qH.map λy=>V.str (S y)))->Q (.ref p) Z)->Gq vs H Q dA
def Nm:cE ["_law_found"] [] (bF Gm):=dm
def VX (F:b5 K "_law_told" "_law_told" Gm f as):bK P w K mg base dJ 1 f as [] Gq:=by
 refine F.kj Nm ?_;rintro bk A outer s H vs Q E al ⟨rfl,q⟩ ll;refine⟨_,aX (ct 0 Nm.bp aV) (a9 (bE (hb lu vw DP EE (a5 e5 (ah 0) aV) (bx aV)))),?_⟩;refine⟨_,I,_,_,I,I,by decide +kernel,I,_,_,I,I,by decide,by decide +kernel,λp ar=>?_⟩;have e:=VW;show Q _ _;have:=q p (upd H p (.lst ((Txt.split ("and as break class continue def elif else except False finally for from global if in None"++" nonlocal not or pass raise return True try while yield") " ").map V.str))) (cK ar _);rw[e,kS] at this;rw[e,kS];exact this b'
inductive Ce (vs:br) (H:ap) (Q:bz) (dA:cJ):Prop
 |mk n:vs=[.int n]->(∀cs Z,ba H Z->g0 cs=true->Q (.str (S cs)) Z)->Ce vs H Q dA
def wN:Str:="abcdefghijklmnopqrstuvwxyzABCDEFGHIJKLMNOPQRSTUVWXYZ_0123456789"
def Nn:wN.cps.toList.length=63:=by decide +kernel
def VY:(wN.cps.toList.take 63).all dk=true:=by decide +kernel
def VZ:(wN.cps.toList.take 52).all hC=true:=by decide +kernel
def m9 {a b:Int}(h:0 < b):0<=a % b/\a % b < b:=⟨DX _ (by omega),DY _ h⟩
def yX:cE ["_law_n","_law_some","_law_size","_law_rest","_law_word"] pw (bF Gn):=dm
def V0 (g:f9 K mg) (F:b5 K "_law_name" "_law_name" Gn f as) (gv:d7 P w K mg base "_law_told" [] 1 Gq):bK P w K mg base dJ 2 f as pw Ce:=by
 refine F.kj yX ?_;rintro bk A outer s H vs Q E al ⟨n,rfl,q⟩ ll;refine⟨_,aX (ct 1 yX.bp aV) (aX (ct 2 yX.bp (a5 fx (ah 0) aO)) (aX (.mk (L2.Tc (iy:=3) (Xs:=["_law_k"]) (Bq (js:=[1,0])) I (jM.out (oI I g.g2.g.v8 (bx (ah 2)))) (λC s0 aI fp=>jq.out (h1 0 (show(["_law_k","_law_some","_law_n"]:dH).Nodup by decide +kernel))) (λC s0 aI fp=>so) (λC s0 aI fp=>LE.out (gj nM (ah 1) (a5 fx (a5 f3 (a5 hW (ah 2) aO) (a5 m1 (a5 m1 aO (ah 0)) (a5 f3 aO (a5 fx (ah 2) aO)))) aO) (λ_ _=>I))) yX.bp I (.inl I)))
  (aX (ct 4 yX.bp (a5 e5 (gj nM (ah 1) (a5 fx (a5 hW (ah 0) aO) aO) (λ_ _=>I)) (hb lu tr ts tN aV (bx (ah 3))))) (aX (ck (ey ms (ah 4) (bc.EJ gv al (by decide) I) I) (a9 (bE aV)) cA) (a9 (bE (ah 4))))))),?_⟩
 obtain⟨lc,d3⟩:=m9 (a:=n) (b:=12) (by decide);refine⟨_,I,_,_,I,I,(by show(0:Int) < 12;decide),_,I,_,I,by omega,by omega,?_⟩;refine Gl (vs:=[.str wN,.int n]) (λD ys Z=>ba H Z/\yW dk ys) (n % 12).toNat (by omega) (Ni I I) (λD dh=>⟨cK dh _,[],I,I⟩) (λD dh ys ai QQ cM aT eE k=>?_) λD dh ys ai dT aT eE=>?_
 ·obtain⟨nc,iN⟩:=m9 (a:=n / 624+7*((ys.length:Nat):Int)*(1+n % 5)) (b:=63) (by decide);obtain⟨c,aq,aw⟩:=Gp (l:=wN.cps.toList) (by rw[Nn];exact bf _) VY nc iN;obtain⟨gU,f1⟩:=m9 (a:=n) (b:=5) (by decide);refine⟨_,I,_,I,_,_,I,I,⟨by decide,by decide⟩,_,I,_,_,I,I,.inl ⟨by decide,by decide⟩,_,I,_,_,I,I,(by show(0:Int) < 5;decide),_,_,I,I,_,_,I,I,.inr ⟨by show _ < 1+n % 5;omega,by show 1+n % 5 < _;omega⟩,_,_,I,I,_,_,I,I,(by show(0:Int) < 63;decide),_,_,c,I,I,by decide +kernel,aq,?_⟩;exact k _ ai aT ⟨bD.wl dh eE.1 (bD.i4 D ai _),eE.2.snoc aw⟩
 ·obtain⟨ax,cs,rfl,mG⟩:=eE;rw[eV,eV] at dT;obtain⟨nc,iN⟩:=m9 (a:=n / 12) (b:=52) (by decide);obtain⟨c,aq,aw⟩:=Gp (l:=wN.cps.toList) (by rw[Nn];decide) VZ nc iN;refine⟨_,I,_,I,_,_,I,I,⟨by decide,by decide⟩,_,_,I,I,(by show(0:Int) < 52;decide),_,_,c,I,I,by decide +kernel,aq,I,_,I,_,D,_,I,I,bg.of aT,?_,?_⟩
  ·rw[Nl,eV];show cs.length+cs.length*0<=_;omega
  have l':Txt.join ("":Str) (cs.map λc=>S [c])=S cs:=Nk cs;rw[l'];refine⟨_,_,I,I,?_,?_⟩
  ·rw[ek];exact ua (by show 1+cs.length<=_;omega)
  have fH:((⟨#[c]⟩:Str)++S cs)=S (c::cs):=eA [c] cs;rw[fH];refine⟨_,I,I,λp aB aN ae=>⟨p,_,I,.inl (bg.of ae),I,v0 _,_,I,?_⟩⟩;show if e8 _ _=true then _ else _
  rw[vZ];refine fR (λe=>?_) (λe=>?_)
  ·exact q [120] _ (ax.trans aN) (by decide)
  ·refine⟨_,I,q (c::cs) _ (ax.trans aN) ?_⟩;rw[A4];have:ji (c::cs)=false:=e;have ay:dk c=true:=by unfold dk;rw[aw];rfl
   rw[this,aw,px,ay,mG,fv (show(c::cs).length<=12 by rw[en];omega)];rfl
end
end GS
namespace GS
open PySem
def rd:Nat->bh->Option (List bJ)
 |_,[]=>some []
 |0,_=>none
 |n+1,c::t=>if c=35 then some [] else if c=32 then rd n t else
  match fh true ((c::t).take (fe (c::t))) with
  |none=>none
  |some w=>(rd n ((c::t).drop (fe (c::t)))).map (w::·)
theorem wO:∀n l,l.length<=n->rd n l=words true l
 |0,[],_=>(AJ true).symm
 |n+1,[],_=>(AJ true).symm
 |n+1,c::t,h=>by
  unfold rd;have ag:t.length<=n:=by rw[en] at h;omega
  by_cases am:c=35
  ·subst am;rw[b8 I,Jx]
  ·rw[bP am];by_cases aE:c=32
   ·subst aE;rw[b8 I,D2];exact wO n t ag
   ·rw[bP aE];cases bq:fh true ((c::t).take (fe (c::t))) with
    |none=>exact(Jy am aE bq).symm
    |some w=>
     rw[vG am aE bq,<-wO n _ (by have:=AI c t;rw[j6,en];omega)]
def yY (l:bh):Bool:=match rd l.length l with
 |some (.name [120]::e::aj)=>decide (e=hu)&&(match mz [120] aj with
  |none=>true
  |some (_,r)=>decide (r=(bJ.name [120]::e::aj).drop ((aj.length+2) - r.length))&&decide (r≠[])&&decide (r.length<=aj.length+2))
 |_=>false
def Cf (l:bh):Bool:=match rd l.length l with
 |some (.name [120]::e::aj)=>decide (e=hu)&&(match mz [120] aj with
  |none=>false
  |some (_,r)=>decide (r=[]))
 |_=>false
def V1 {l}(h:yY l=true):∃ab x,words true l=some ab/\hI ab x/\∀d,x≠some (d,ab.length):=by
 unfold yY at h;rw[wO _ _ (bf _)] at h;split at h
 next e aj ay=>
  rw[jh] at h;obtain⟨ag,ae⟩:=h;have ag:=gP ag;subst ag;split at ae
  next af=>exact⟨_,none,ay,.yN [120] aj I af,λd z=>by cases z⟩
  next d r af=>
   simp only[Bool.and_eq_true,decide_eq_true_eq] at ae;obtain⟨⟨aW,bm⟩,b7⟩:=ae;refine⟨_,some (d,(aj.length+2) - r.length),ay,.bind [120] aj d _ I (by rw[af,<-aW]) (by simp),λd' z=>?_⟩;have z:=fM Prod.snd (hB z);simp only[List.length_cons] at z;have:0 < r.length:=List.length_pos_iff.mpr bm;omega
 next=>cases h
def V2 {l}(h:Cf l=true):∃ab d,words true l=some ab/\hI ab (some (d,ab.length)):=by
 unfold Cf at h;rw[wO _ _ (bf _)] at h;split at h
 next e aj ay=>
  rw[jh] at h;obtain⟨ag,ae⟩:=h;have ag:=gP ag;subst ag;split at ae
  next=>cases ae
  next d r af=>
   have ae:=gP ae;subst ae;exact⟨_,d,ay,.bind [120] aj d _ I (by rw[af,qF]) (bf _)⟩
 next=>cases h
def mB (s:bh):bh:=[120,32,61,32]++s
def wQ:List (bh):=["a < b < c","a +","* a","a b","f(a b)","f(a,, b)","f(a, b, c, d, e)","(a","a)","not","a.1","a and","()","f(,)","a == b != c","a < not b","\"a\" \"b\"","5 6","a..b","- ","yield a + 1 + ","True False","a or or b","f(a,)","f(, a)","f(a,, b)","(a,)"].map code
def V3:(wQ.all λs=>yY (mB s))=true:=by decide +kernel
def i7 (k:Nat) (s:bh):bh:=(List.replicate k s).flatten
def uo (s:bh):Nat->bh->bh
 |0,_=>[]
 |1,x=>x
 |n+2,x=>x++(s++uo s (n+1) x)
def uq (j k:Nat):bh×Bool:=match j with
 |0=>(i7 k (code "-")++code "a",decide (k < 12))
 |1=>(i7 k (code "not ")++code "a",decide (k < 12))
 |2=>(i7 k (code "(")++code "a"++i7 k (code ")"),decide (k < 13))
 |3=>(uo (code " + ") k (code "a"),decide (k < 13))
 |4=>(code "a"++i7 k (code ".b"),decide (k < 12))
 |5=>(code "a"++i7 k (code "()"),decide (k < 12))
 |_=>(uo (code " + ") 8 (code "f(1, 2, 3, a)")++code " + "++i7 k (code "-")++code "a",decide (k < 4))
def Gr (x:bh×Bool):Bool:=if x.2=true then Cf (mB x.1) else yY (mB x.1)
def V4:((List.range 6).all λj=>(List.range 8).all λk=>Gr (uq j (8+k)))=true:=by decide +kernel
def V5:((List.range 9).all λk=>Gr (uq 6 k))=true:=by decide +kernel
def Gs (w:bJ):Bool:=(jt w).isSome||decide (w=dt)||decide (w=k4)||decide (w=hO)
def ur (aH:List bJ):Prop:=∃w r,aH=w::r/\Gs w=true
def ur.dE {a}(h:ur a) (b):ur (a++b):=by obtain⟨c,t,rfl,aw⟩:=h;exact⟨c,t++b,I,aw⟩
theorem sG:∀{l d a p n aH},gk l d a p n aH->ur aH
 |_,_,_,_,_,_,.leaf l w d h=>⟨w,[],I,by unfold Gs;rw[h];rfl⟩
 |_,_,_,_,_,_,.oQ ..=>⟨dt,_,I,by decide⟩
 |_,_,_,_,_,_,.fld _ _ _ _ _ _ _ h=>(sG h).dE _
 |_,_,_,_,_,_,.call _ _ _ _ _ _ _ _ _ _ _ h _ _=>(sG h).dE _
 |_,_,_,_,_,_,.gx ..=>⟨k4,_,I,by decide⟩
 |_,_,_,_,_,_,.fC ..=>⟨hO,_,I,by decide⟩
 |_,_,_,_,_,_,.wc _ _ _ _ _ _ _ _ _ _ _ _ _ _ h _=>(sG h).dE _
 |_,_,_,_,_,_,.sum _ _ _ _ _ _ _ _ _ _ _ _ _ _ h _=>(sG h).dE _
 |_,_,_,_,_,_,.cmp _ _ _ _ _ _ _ _ _ _ _ _ _ _ h _=>(sG h).dE _
 |_,_,_,_,_,_,.and _ _ _ _ _ _ _ _ _ _ _ _ _ _ h _=>(sG h).dE _
 |_,_,_,_,_,_,.or _ _ _ _ _ _ _ _ _ _ _ _ _ _ h _=>(sG h).dE _
def ur.no {aH w}(h:ur aH) (ay:Gs w=false):aH.head?≠some w:=by
 obtain⟨c,t,rfl,aw⟩:=h;intro z;cases z;rw[aw] at ay;cases ay
def Cg {d a p n cs}(h:e9 0 d a p n cs) (aP:n<=12) (aq:a<=12) (ar:p<=60):∃ab,cT iF cs ab/\ur ab/\t2 cs/\∀r,St 1 r->g6 (ab++r)=some (d,r):=by
 obtain⟨af,ab,ay,au⟩:=m7 h;obtain⟨_,a'⟩:=ju ay 12 aP aq ar;exact⟨ab,au,sG ay,af,λr al=>by unfold g6 ug;rw[a'.full al];rfl⟩
def V6:iF []:=λ_ z=>by cases z
def cT.whole {cs ab}(h:cT iF cs ab):words true cs=some ab:=by
 have:=h [] V6;rw[me,AJ] at this;rw[this];simp
def Np:cT lN [61] [hu]:=cT.Ft (by decide) (by decide) (by decide)
def Ci (l):St l []:=rfl
section
variable {d:D}{a p n:Nat}{cs:bh}(h:e9 0 d a p n cs) (aP:n<=12) (aq:a<=12) (ar:p<=60)
include h aP aq ar
def V7:∃ab,words true (code "x1 = "++cs)=some ab/\hI ab (some (.tup [.str "set",.str (S [120,49]),d],ab.length)):=by
 obtain⟨ab,au,hd,af,ak⟩:=Cg h aP aq ar;have eJ:cT iF ([120,49]++(aM 1++([61]++(aM 1++cs)))) ([.name [120,49]]++([]++([hu]++([]++ab)))):=
  (cT.word (by decide) (by decide) (by decide)).dE ((cT.blank (λ_=>True) 1).dE (Np.dE ((cT.blank (λ_=>True) 1).dE au λ_ _=>trivial) λr _=>by rw[hU];exact lN.aM (lN.wg af r) 1) λ_ _=>trivial) λr _=>k6 rfl _
 refine⟨.name [120,49]::hu::ab,eJ.whole,.bind [120,49] ab _ _ I ?_ (bf _)⟩;have:=ak [] (Ci 1);rw[me] at this;unfold mz;rw[bP (hd.no (by decide)),this,qF];rfl
def V8:∃ab,words true (code "return "++cs)=some ab/\hI ab (some (.tup [.str "return",d],ab.length)):=by
 obtain⟨ab,au,hd,af,ak⟩:=Cg h aP aq ar;have eJ:cT iF ([114,101,116,117,114,110]++(aM 1++cs)) ([yL]++([]++ab)):=
  (cT.word (by decide) (by decide) (by decide)).dE ((cT.blank (λ_=>True) 1).dE au λ_ _=>trivial) λr _=>k6 rfl _
 have:=ak [] (Ci 1);rw[me] at this;refine⟨yL::ab,eJ.whole,.ret ab _ _ I ?_ (by rw[this,qF]) (bf _)⟩;obtain⟨c,t,rfl,_⟩:=hd;exact Ay _ _
def V9:∃ab,words true (code "y.z = "++cs)=some ab/\hI ab (some (.tup [.str "put",.tup [.str "name",.str (S [121])],.str (S [122]),d],ab.length)):=by
 obtain⟨ab,au,hd,af,ak⟩:=Cg h aP aq ar;have eJ:cT iF ([121]++([46]++([122]++(aM 1++([61]++(aM 1++cs)))))) ([.name [121]]++([gE]++([.name [122]]++([]++([hu]++([]++ab)))))):=
  (cT.word (by decide) (by decide) (by decide)).dE ((q4 46 (by decide)).dE ((cT.word (by decide) (by decide) (by decide)).dE ((cT.blank (λ_=>True) 1).dE (Np.dE ((cT.blank (λ_=>True) 1).dE au λ_ _=>trivial) λr _=>by rw[hU];exact lN.aM (lN.wg af r) 1) λ_ _=>trivial) λr _=>k6 I _) λ_ _=>trivial) λr _=>k6 rfl _
 have am:=ak [] (Ci 1);rw[me] at am;refine⟨.name [121]::gE::.name [122]::hu::ab,eJ.whole,.put [121] [122] ab _ I ?_ am⟩;have ot:gk 0 (.tup [.str "field",.tup [.str "name",.str (S [121])],.str (S [122])]) 2 2 0 [.name [121],gE,.name [122]]:=.fld 0 _ 1 1 0 [.name [121]] [122] (.leaf 8 _ _ I);have:=(ju ot 12 (by decide) (by decide) (by decide)).2.full (r:=hu::ab) (by unfold St;show((cont 1).contains hu)=false;decide);unfold g6 ug;show Option.map _ (i2 12 ([.name [121],gE,.name [122]]++(hu::ab)))=_;rw[this];rfl
def V':∃ab,words true (code "while "++cs++[58])=some (oZ::(ab++[k8]))/\g6 (ab++[k8])=some (d,[k8]):=by
 obtain⟨ab,au,hd,af,ak⟩:=Cg h aP aq ar;have eJ:cT iF ([119,104,105,108,101]++(aM 1++(cs++[58]))) ([oZ]++([]++(ab++[k8]))):=
  (cT.word (by decide) (by decide) (by decide)).dE ((cT.blank (λ_=>True) 1).dE (au.dE ((cT.short (c:=58) (by decide) (by decide) (by decide)).weak λr _ e _=>by unfold gg pE;simp[code]) λr _=>k6 I _) λ_ _=>trivial) λr _=>k6 rfl _
 refine⟨ab,?_,ak _ (by unfold St;show((cont 1).contains k8)=false;decide)⟩;rw[hU];exact eJ.whole
end
def Wa {d:D}{a p n:Nat}{cs:bh}(h:e9 0 d a p n cs) (aP:n<=11) (aq:a<=11) (ar:p<=58):∃ab,words true (code "f_("++cs++[41])=some ab/\hI ab (some (.tup [.str "do",.tup [.str "call",.tup [.str "name",.str (S [102,95])],.tup [d]]],ab.length)):=by
 obtain⟨af,ab,ay,au⟩:=m7 h;have eJ:cT iF ([102,95]++([40]++(cs++[41]))) ([.name [102,95]]++([dt]++(ab++[dR]))):=
  (cT.word (by decide) (by decide) (by decide)).dE ((q4 40 (.inl I)).dE (au.dE ((q4 41 (.inr (.inl I))).weak λ_ _=>trivial) λr _=>k6 I _) λ_ _=>trivial) λr _=>k6 rfl _
 have ot:gk 0 (.tup [.str "call",.tup [.str "name",.str (S [102,95])],.tup [d]]) (1+max 1 a) (1+(1+p)) (max 0 (n+1)) ([.name [102,95]]++(dt::(ab++[dR]))):=
  .call 0 _ 1 1 0 [.name [102,95]] [d] a p n ab (.leaf 8 _ _ I) (.one d a p n ab ay) (show 1<=4 by decide)
 have:=(ju ot 12 (show max 0 (n+1)<=12 by omega) (show 1+max 1 a<=12 by omega) (show 1+(1+p)<=60 by omega)).2.full (Ci 1);refine⟨.name [102,95]::dt::(ab++[dR]),?_,.p6 [102,95] dt (ab++[dR]) _ I (by decide) ?_⟩
 ·rw[hU];exact eJ.whole
 ·rw[me] at this;exact fM (Option.map λy:bL×List bJ=>(y.1.1,y.2)) this
end GS
namespace GS
open PySem PyProof.Rows
open L2 hiding aO kW nH aV ah iY oG a5 mZ mq oH qL vK mY gj vT m3 qQ dc cg eL cP e7 ke hb vW ey hD nI kz jK kb ib qN pK kX pL pO r4 qV oI vX bE vL gQ jL pM ck nK mo cA aX a9
open bc
def StK (K:aJ):Prop:=K.lookup cStatics=some ⟨.none,none,.dict #[] 0,#[]⟩
def StK.nb {X:a8} {ac aa H s}(h:StK X.K) (J:Inv X ac aa H s):NoneBooked s.heap:=
 ⟨λ_=>none,⟨_,#[],0,J.ep _ _ h,I,by intro i aR;simp at aR,λ_=>I⟩,I⟩
def Wb {X:a8} {z y gK hA cB aS cN bM apos gz}(fI:StK X.K) (hz:z.length+(z.length+1)*y.length<=16777216) (n':autoParam (attributeBase (.Constant (.str z) gK hA) "replace" X.env (eval (.Constant (.str z) gK hA) X.env)=eval (.Constant (.str z) gK hA) X.env) dl) (rm:autoParam ((apos.endLine == gz.line)=true) dl):LE X (.Call (.Attribute (.Constant (.str z) gK hA) "replace" apos) [.Constant (.str y) cB aS,.Constant (.str y) cN bM] [] gz) (jm (.str z)):=by
 refine .mk ?_;intro ac s aa H Q J h;refine wpAny_Call_method_late n' rfl rm rfl (xC (k:=gK) (pos:=hA) ?_);refine⟨"str","str.replace",lu,PySem.F.slot_str_replace,PySem.F.type_str_replace,tl _ _ _,(λ_ e=>nomatch e),?_⟩;refine xJ rfl (Au ?_);refine xF (xC (k:=cB) (pos:=aS) (xF (xC (k:=cN) (pos:=bM) (Calls.spliced_nil ?_))));refine SC.replaceA (by show s.toks+1≠0;omega) (by show s.toks+1+1≠0;omega) (by show s.toks+1≠s.toks+1+1;omega) hz (λt' k=>?_) (show NoneBooked s.heap from fI.nb J);rw[Txt.replace_self];exact⟨.str z,H,J.tok _,⟨_,I⟩,h⟩
inductive Cj (xs:br) (H:ap) (Q:bz):Prop
 |t z:xs=[.str z]->Q (.str z) H->Cj xs H Q
 |n i:xs=[.int i]->i.natAbs.log2 < 1920->Q (.str (toString i)) H->Cj xs H Q
 |b k:xs=[.aM k]->Q (.str (if k then "True" else "False")) H->Cj xs H Q
def Wc {X:a8}:kc X (.type "str") Cj:=by
 intro ac s aa H xs us Q J r h;rcases h with ⟨z,rfl,q⟩|⟨i,rfl,hz,q⟩|⟨k,rfl,q⟩
 ·obtain⟨u,rfl,t,rfl⟩:=vals1 r;exact PySem.P.str_of_str ⟨.str _,H,J,⟨_,I⟩,q⟩
 ·obtain⟨u,rfl,t,rfl⟩:=vals1 r;exact PySem.P.str_of_int hz ⟨.str _,H,J.tok _,⟨_,I⟩,q⟩
 ·obtain⟨u,rfl,bR⟩:=vals1 r;cases bR;exact PySem.P.str_of_bool ⟨.str _,H,J.tok _,⟨_,by cases k<;>rfl⟩,q⟩
def i8 (n:Nat):bh:=(Nat.toDigits 10 n).map Char.toNat
inductive m':D->bh->Prop
 |name cs:g0 cs=true->m' (.tup [.str "name",.str (S cs)]) cs
 |num n:n < 10 ^ 12->m' (.tup [.str "number",.int (n:Nat)]) (i8 n)
 |text cs:cs.all (λc=>inR c&&c != 34)=true->cs.length<=40->m' (.tup [.str "text",.str (S cs)]) (34::(cs++[34]))
 |p7:m' (.tup [.str "truth",.aM true]) [84,114,117,101]
 |yZ:m' (.tup [.str "truth",.aM false]) [70,97,108,115,101]
 |a3:m' (.tup [.str "none"]) [78,111,110,101]
def Gu (n:Nat):NumText.AllDigits (i8 n):=λc aw=>by
 obtain⟨ch,kG,rfl⟩:=mU.mp aw;have:=Nat.isDigit_of_mem_toDigits (by decide) (by decide) kG;unfold Char.isDigit at this;simp only[ge_iff_le,Bool.and_eq_true,decide_eq_true_eq] at this;exact⟨this.1,this.2⟩
def Gv (n:Nat):i8 n≠[]:=λe=>by
 have:=W.KIN.val_back n;have cd:n=0:=by rw[<-this,show(Nat.toDigits 10 n).map Char.toNat=[] from e];rfl
 subst cd;revert e;decide
def Wd {n:Nat}(h:n < 10 ^ 12):jj (i8 n)=true/\(i8 n).length<=12:=by
 have au:(i8 n).length<=12:=by
  unfold i8;rw[eV];exact(Nat.length_toDigits_le_iff (by decide) (by decide)).mpr h
 refine⟨?_,au⟩;have aq:(i8 n).all ho=true:=eW.mpr λc aw=>by
  have:=Gu n c aw;unfold ho;rw[fv this.1,fv this.2];rfl
 have mE:(i8 n == [48]||hp (· != 48) (i8 n))=true:=by
  have e:=NumText.toDigits_all (i8 n) (Gu n);have fd:NumText.digitsVal (i8 n)=n:=W.KIN.val_back n;rw[fd] at e;have e0:=Gv n;have z4:(i8 n).length=(Nat.toDigits 10 n).length:=by unfold i8;rw[eV]
  cases hd:i8 n with
  |nil=>exact absurd hd e0
  |cons c t=>
   by_cases z:c=48
   ·subst z;rw[hd] at e z4;rw[List.dropWhile_cons,b8 (by decide)] at e;have cM:(t.dropWhile λx=>x == 48).length<=t.length:=(List.dropWhile_sublist _).length_le;cases aD:t.dropWhile λx=>x == 48 with
    |nil=>
     rw[aD] at e;have e:Nat.toDigits 10 n=['0']:=e;have:t=[]:=by
      rw[e,en] at z4;exact oC (by simpa using z4)
     subst this;rfl
    |cons dF r=>
     rw[aD] at e cM;have e:Nat.toDigits 10 n=(dF::r).map Char.ofNat:=e;rw[e,eV,en] at z4;rw[en] at cM z4;omega
   ·have:(c != 48)=true:=by simpa using z
    show(_||(c != 48))=true;rw[this];simp
 unfold jj;rw[fv au,aq,mE];rfl
def m'.lf {d cs}(h:m' d cs):∃w,yl cs w/\jt w=some d/\cs.length<=42:=by
 cases h with
 |name cs h=>
  cases cs with
  |nil=>exact absurd h (by decide)
  |cons c t=>
   obtain⟨_,aE,_,bX⟩:=JD h;refine⟨.name (c::t),.word _ _ (Ay _ _) aE (by unfold fh;rw[bX,h];rfl),I,?_⟩;unfold g0 at h;simp only[Bool.and_eq_true,decide_eq_true_eq] at h;omega
 |num n h=>
  obtain⟨ag,ae⟩:=Wd h;have aq:=Gu n;have fd:NumText.digitsVal (i8 n)=n:=W.KIN.val_back n;refine⟨.num (i8 n),.word _ _ (Gv n) (eW.mpr λc aw=>?_) ?_,?_,by omega⟩
  ·obtain⟨cG,cY⟩:=aq c aw;unfold dk ho;rw[fv cG,fv cY];simp
  ·cases e:i8 n with
   |nil=>exact absurd e (Gv n)
   |cons c t=>
    rw[e] at ag aq;obtain⟨cG,cY⟩:=aq c jG;have z5:hC c=false:=by unfold hC;simp;omega
    have ot:ji (c::t)=false:=by
     cases bO:ji (c::t) with
     |false=>rfl
     |true=>
      unfold ji at bO;rw[tg] at bO;obtain⟨y,aT,e⟩:=bO;have e:=eq_of_beq e;have nw:(qH.all λy=>hp hC y)=true:=by decide +kernel
      have:=eW.mp nw y aT;rw[e] at this;have:hC c=true:=this;rw[z5] at this;cases this
    have hF:g0 (c::t)=false:=by rw[A4,z5];simp
    unfold fh;rw[ot,hF,ag];rfl
  ·show some (D.tup [.str "number",.int ((NumText.digitsVal (i8 n):Nat):Int)])=_;rw[fd]
 |text cs ag ae=>
  refine⟨.text cs,.text cs (λc aw z=>?_) (eW.mpr λc aw=>?_) ae,I,by simp;omega⟩
  ·have:=eW.mp ag c aw;subst z;revert this;decide
  ·have:=eW.mp ag c aw;rw[jh] at this;exact this.1
 |p7=>exact⟨.ee [84,114,117,101],.word _ _ (by decide) (by decide) (by decide),I,by decide⟩
 |yZ=>exact⟨.ee [70,97,108,115,101],.word _ _ (by decide) (by decide) (by decide),I,by decide⟩
 |a3=>exact⟨.ee [78,111,110,101],.word _ _ (by decide) (by decide) (by decide),I,by decide⟩
abbrev Gw:Stmt:=top 103
def uu:Str:="a b#(:=-,._Z9'&|"
def We:uu.cps.toList.length=16:=by decide +kernel
def Wf:(uu.cps.toList.take 16).all (λc=>inR c&&c != 34)=true:=by decide +kernel
section
variable {K:aJ}{P:Program}{w:World}{mg:Str->cn}{base:Heap}{f:Addr}{as:FuncData}
inductive Gx (K:aJ) (vs:br) (H:ap) (Q:bz) (dA:cJ):Prop
 |mk n:vs=[.int n]->(∀d cs v Z,ba H Z->m' d cs->At K Z d v->Q v Z)->Gx K vs H Q dA
def Gy:cE ["_law_n","_law_some","_law_text_here"] pw (bF Gw):=dm
def at2 {H:ap}{p:Addr}{k:Str}{d:D}{x:V}(ar:H p=none) (h:At K H d x):At K (upd H p (.tup [.str k,x])) (.tup [.str k,d]) (.ref p):=At.new ar (ht (cz.mpr I) h)
def Wg (g:f9 K mg) (fI:StK K) (F:b5 K "_law_least" "_law_least" Gw f as) (ws:d7 P w K mg base "_law_name" pw 2 Ce):bK P w K mg base dJ 3 f as pw (Gx K):=by
 refine F.kj Gy ?_;rintro bk A outer s H vs Q E al ⟨n,rfl,q⟩ ll;refine⟨_,aX (ck (c3 eY (a5 fx (ah 0) aO) aO) (a9 (bE (cP (c6 aV (bc.fg ws (bx (a5 hW (ah 0) aO))))))) cA) (aX (ck (c3 eY (a5 fx (ah 0) aO) aO) (a9 (bE (cP (c6 aV (gj tM (eL (i3 (a5 fx (a5 hW (ah 0) aO) aO) (a5 fx (a5 hW (ah 0) aO) aO) (a5 kZ (a5 kZ (a5 QC aO aO) aO) (a5 fx (a5 hW (ah 0) aO) aO)) aO)) (a5 fx (a5 hW (ah 0) aO) aO) (λ_ _=>I)))))) cA) (aX (ct 1 Gy.bp (Wb (X:=ll) fI (by decide +kernel)))
  (aX (ct 2 Gy.bp (hb lu tr ts tN aV (bx (.mk (L2.t8 (Xs:=["_law_k"]) (Bq (js:=[1,0])) I (jM.out (oI I g.g2.g.v8 (bx (a5 fx (a5 hW (ah 0) aO) aO)))) (λC s0 aI fp=>jq.out (h1 0 (show(["_law_k","_law_some","_law_n"]:dH).Nodup by decide +kernel))) (λC s0 aI fp=>so) (λC s0 aI fp=>LE.out (gj nM (ah 1) (a5 fx (a5 f3 (a5 hW (ah 2) aO) (a5 m1 (a5 m1 aO (ah 0)) (ah 0))) (e7 nN I g.g2.g.jp nP (bx (ah 1)))) (λ_ _=>I))))))))
  (a9 (bE (gj tM (eL (i3 (cP (c6 aV (ah 2))) (cP (c6 aV kW)) (cP (c6 aV kW)) (cP (bx aV)))) (a5 fx (a5 hW (ah 0) aO) aO) (λ_ _=>I))))))),?_⟩
 have Dj:∀{k:Int},0 < k->0<=n / 9 % k/\n / 9 % k < k:=λh=>m9 h;obtain⟨ot,d5⟩:=m9 (a:=n / 3) (b:=4) (by decide);refine⟨_,I,_,_,I,I,(by show(0:Int) < 3;decide),I,_,I,fR (λe=>?_) λe=>?_⟩
 ·refine⟨_,I,_,_,I,I,⟨by decide,by decide⟩,_,I,λcs ai az ag=>⟨e',λp ar=>?_⟩⟩;exact q _ _ _ _ (az.trans (cK ar _)) (.name cs ag) (at2 ar (cz.mpr I))
 refine⟨_,I,_,_,I,I,(by show(0:Int) < 3;decide),I,_,I,fR (λe=>?_) λe=>?_⟩
 ·obtain⟨Zt,cG⟩:=Dj (k:=10) (by decide);obtain⟨F9,b2⟩:=Dj (k:=100000) (by decide);obtain⟨cQ,c5⟩:=Dj (k:=9) (by decide);refine⟨_,I,_,_,I,I,⟨by decide,by decide⟩,_,_,I,I,(by show(0:Int) < 10;decide),_,I,_,_,I,I,⟨by decide,by decide⟩,_,_,I,I,(by show(0:Int) < 100000;decide),_,_,I,I,⟨by decide,by decide,by decide⟩,_,_,I,I,_,I,_,_,I,I,⟨by decide,by decide⟩,_,_,I,I,(by show(0:Int) < 9;decide),_,_,I,I,q6,λp ar=>?_⟩;obtain⟨v,aK,aq⟩:=wK (xs:=[V.int (n / 9 % 10),.int (n / 9 % 100000),.int ((10:Int) ^ (12:Int).toNat - 1 - n / 9 % 9),.int 0]) ot (by show _ < (4:Int);omega);refine⟨_,I,_,_,I,I,⟨by decide,by decide⟩,_,_,I,I,(by show(0:Int) < 4;decide),p,_,_,v,I,I,bg.of b',aq,e',λbM ed=>?_⟩;obtain⟨m,aQ,rfl⟩:∃m:Nat,m < 10 ^ 12/\v=.int (m:Nat):=by
   have key:∀i:Int,0<=i->i < 10 ^ 12->∃m:Nat,m < 10 ^ 12/\V.int i=.int (m:Nat):=λi cd ag=>⟨i.toNat,by omega,by rw[Int.toNat_of_nonneg cd]⟩;simp only[List.mem_cons,List.not_mem_nil,or_false] at aK;rcases aK with rfl|rfl|rfl|rfl
   ·exact key _ Zt (by omega)
   ·exact key _ F9 (by omega)
   ·refine key _ ?_ ?_<;>(show _;simp;omega)
   ·exact key _ (by decide) (by decide)
  exact q _ _ _ _ ((cK ar _).trans (cK ed _)) (.num m aQ) (at2 ed (hg.mpr I))
 obtain⟨lc,d3⟩:=Dj (k:=41) (by decide);refine⟨I,_,I,_,_,I,I,⟨by decide,by decide⟩,_,_,I,I,(by show(0:Int) < 41;decide),_,I,by omega,by omega,?_⟩;refine Gl (vs:=[.str uu,.int n]) (λD ys Z=>ba H Z/\yW (λc=>inR c&&c != 34) ys) (n / 9 % 41).toNat (by omega) (Ni I I) (λD dh=>⟨cK dh _,[],I,I⟩) (λD dh ys ai QQ cM aT eE k=>?_) λD dh ys ai dT aT eE=>?_
 ·have hl:((uu.length:Nat):Int)=16:=by decide +kernel
  obtain⟨nc,iN⟩:=m9 (a:=n / 40+3*((ys.length:Nat):Int)*((ys.length:Nat):Int)) (b:=((uu.length:Nat):Int)) (by rw[hl];decide);obtain⟨c,aq,aw⟩:=Gp (m:=16) (l:=uu.cps.toList) (by rw[We];exact bf _) Wf nc (by rw[hl] at iN⊢;exact iN);refine⟨_,I,_,I,_,_,I,I,⟨by decide,by decide⟩,_,I,_,_,I,I,.inl ⟨by decide,by decide⟩,_,I,_,_,I,I,.inr ⟨?_,?_⟩,_,_,I,I,_,I,_,I,by decide +kernel,_,_,I,I,(by show(0:Int) < ((uu.length:Nat):Int);rw[hl];decide),_,_,c,I,I,by decide +kernel,aq,?_⟩
  ·show _ < ((ys.length:Nat):Int);omega
  ·show((ys.length:Nat):Int) < _;omega
  exact k _ ai aT ⟨bD.wl dh eE.1 (bD.i4 D ai _),eE.2.snoc aw⟩
 ·obtain⟨ax,cs,rfl,mG⟩:=eE;rw[eV,eV] at dT;refine⟨_,D,_,I,I,bg.of aT,?_,?_⟩
  ·rw[Nl,eV];show cs.length+cs.length*0<=_;omega
  have l':Txt.join ("":Str) (cs.map λc=>S [c])=S cs:=Nk cs;rw[l'];refine⟨_,I,e',λaS cm=>⟨e',λbM ed=>⟨e',λbI gs=>⟨ki,λkt kL=>⟨q6,λeT ix=>?_⟩⟩⟩⟩⟩;have az:=cK cm (.tup [.str "text",.str (S cs)]);have aN:=cK ed (.tup [.str "truth",.aM true]);have a2:=cK gs (.tup [.str "truth",.aM false]);have dp:=cK kL (.tup [.str "none"]);have dq:=cK ix (.lst [.ref aS,.ref bM,.ref bI,.ref kt]);have bm:=ax.trans (az.trans (aN.trans (a2.trans (dp.trans dq))));obtain⟨v,aK,aq⟩:=wK (xs:=[V.ref aS,.ref bM,.ref bI,.ref kt]) ot (by show _ < (4:Int);omega);refine⟨_,I,_,_,I,I,⟨by decide,by decide⟩,_,_,I,I,(by show(0:Int) < 4;decide),eT,_,_,v,I,I,bg.of b',aq,?_⟩;simp only[List.mem_cons,List.not_mem_nil,or_false] at aK;rcases aK with rfl|rfl|rfl|rfl
  ·exact q _ _ _ _ bm (.text cs mG (by omega)) (dB (aN.trans (a2.trans (dp.trans dq))) (at2 cm (cz.mpr I)))
  ·exact q _ _ _ _ bm .p7 (dB (a2.trans (dp.trans dq)) (at2 ed (ie.mpr I)))
  ·exact q _ _ _ _ bm .yZ (dB (dp.trans dq) (at2 gs (ie.mpr I)))
  ·exact q _ _ _ _ bm .a3 (dB dq (At.new kL (bB.jS (cz.mpr I))))
end
mutual
inductive d2:D->Nat->Nat->Nat->Prop
 |leaf d cs:m' d cs->d2 d 1 1 8
 |fld d a p k x:d2 d a p k->g0 x=true->d2 (.tup [.str "field",d,.str (S x)]) (1+a) (1+p) 8
 |call d a p k ds be av:d2 d a p k->jx ds be av->ds.length<=4->d2 (.tup [.str "call",d,.tup ds]) (1+max a be) (1+(p+av)) 8
 |gx d a p k:d2 d a p k->d2 (.tup [.str "minus",d]) (1+a) (1+p) 7
 |fC d a p k:d2 d a p k->d2 (.tup [.str "not",d]) (1+a) (1+p) 3
 |two x d a p k d' be av k':x∈oS->d2 d a p k->d2 d' be av k'->d2 (.tup [.str "two",.str (S x),d,d']) (1+max a be) (1+(p+av)) (q1 x)
 |both b d a p k d' be av k':d2 d a p k->d2 d' be av k'->d2 (.tup [.str "both",.str (S (q2 b)),d,d']) (1+max a be) (1+(p+av)) (1+b.toNat)
inductive jx:d8->Nat->Nat->Prop
 |nil:jx [] 0 0
 |cons d a p k ds be av:d2 d a p k->jx ds be av->jx (d::ds) (max a be) (p+av)
end
theorem jx.snoc {d be av k}:∀{ds a p},jx ds a p->d2 d be av k->jx (ds++[d]) (max a be) (p+av)
 |_,_,_,.nil,h'=>by
  have:=jx.cons d be av k [] 0 0 h' .nil;rw[xS] at this;rw[Nat.zero_max,Nat.zero_add];exact this
 |_,_,_,.cons e b q l ds G6 kF he au,h'=>by
  have:=jx.cons e b q l _ _ _ he (au.snoc h');rw[Nat.max_assoc,Nat.add_assoc];exact this
section
variable {K:aJ}{a b:Addr}{n j m c:Nat}{H Z hR:ap}{v:V}
abbrev uv (n j:Nat):jJ:=.lst [.int (n:Nat),.int (j:Nat)]
inductive nZ (K:aJ) (b:Addr) (n j m:Nat) (H:ap) (v:V) (Z:ap):Prop
 |mk d a p k:bD b H Z->Z b=some (uv (n+p) j)->At K Z d v->d2 d a p k->a<=m->p+3<=(j - n)+4*m->(j<=n->p=1)->nZ K b n j m H v Z
inductive y0 (K:aJ) (b:Addr) (n j m:Nat) (H:ap) (vs:br) (Z:ap):Prop
 |mk ds a p:bD b H Z->Z b=some (uv (n+p) j)->bB K Z ds vs->jx ds a p->a<=m->p+4<=(j - n)+4*m+ds.length->y0 K b n j m H vs Z
def y0.snoc {vs ds a p}(t:bD b H Z) (s:Z b=some (uv (n+p) j)) (aK:bB K Z ds vs) (h:jx ds a p) (aq:a<=m) (ar:p+4<=(j - n)+4*m+ds.length) (aQ:1<=m) (h':nZ K b (n+p) j m Z v hR):y0 K b n j m H (vs++[v]) hR:=by
 obtain⟨d,be,av,k,t',s',n6,hd,CZ,h5,ag⟩:=h';refine⟨ds++[d],max a be,p+av,t.trans t',by rw[<-Nat.add_assoc];exact s',bB.append (jQ (t'.hH s) aK) (bB.jS n6),h.snoc hd,by omega,?_⟩;rw[cy];show p+av+4<=j - n+4*m+(ds.length+1);by_cases z:j<=n+p
 ·have:=ag z;omega
 ·omega
end
def nZ.new {K:aJ}{b:Addr}{n j m a p k:Nat}{H a7:ap} {ds vs hA}(t:bD b H a7) (s:a7 b=some (uv (n+p) j)) (aK:bB K a7 ds vs) (hd:d2 (.tup ds) a p k) (aq:a<=m) (ar:p+3<=(j - n)+4*m) (ag:j<=n->p=1) (cd:a7 hA=none):nZ K b n j m H (.ref hA) (upd a7 hA (.tup vs)):=
 ⟨_,a,p,k,t.trans (.of (cK cd _)),cK cd _ _ _ s,At.new cd aK,hd,aq,ar,ag⟩
abbrev Gz:Stmt:=top 104
inductive Nq (K:aJ) (m:Nat) (vs:br) (H:ap) (Q:bz):Prop
 |mk a b n j:vs=[.ref a,.ref b,.int ((m+1:Nat):Int)]->rc K H a b n [.int (j:Nat)]->m<=6->n+100*m<=10000->j+100*m<=10000->(∀v Z,nZ K b n j (m+1) H v Z->Q v Z)->Nq K m vs H Q
def Ck (K:aJ):Nat->e6
 |0=>λ_ _ _ _=>False
 |m+1=>λvs H Q _=>Nq K m vs H Q
inductive Nr (a b:Addr) (m n j:Nat) (x:Int) (D:Ends) (aa:L2.St) (H:ap):Prop
 |mk y:aa=[some (.ref a),some (.ref b),some (.int ((m+1:Nat):Int)),some (.int x),some (.int y),none,none,none]->H b=some (uv (n+1) j)->(∀sP,(sP < 8->1<=m/\n < j)->D.c4 [some (.ref a),some (.ref b),some (.int ((m+1:Nat):Int)),some (.int x),some (.int sP),none,none,none] H)->Nr a b m n j x D aa H
def uw:cE ["_law_cells","_law_spot","_law_deep","_law_n","_law_kind","_law_sign","_law_word","_law_values"] vk (bF Gz):=dm
section
variable {K:aJ}{P:Program}{w:World}{mg:Str->cn}{base:Heap}{f:Addr}{as:FuncData}
theorem Nt (g:f9 K mg) (F:b5 K "_law_tree" "_law_tree" Gz f as) (aQ:mg "_law_tree"=some (.ref f)) (z6:Binds K as vk []) (ma:d7 P w K mg base "_law_cell" vo 1 (wL K)) (ws:d7 P w K mg base "_law_name" pw 2 Ce) (jX:d7 P w K mg base "_law_least" pw 3 (Gx K)):∀m,bK P w K mg base dJ (m+3) f as vk (Ck K m)
 |0=>⟨λvs H Q E h=>h.elim,λA outer s H args us vs Q E _ _ _ _ h=>h.elim⟩
 |m+1=>by
  have gv:d7 P w K mg base "_law_tree" vk (m+3) (Ck K m):=⟨f,as,aQ,F.cZ,z6,Nt g F aQ z6 ma ws jX m⟩;refine F.ye uw (λvs H Q E h=>?_) (λbk A outer s H vs Q E al h=>?_)
  ·obtain⟨_,_,_,_,rfl,_⟩:=h;rfl
  obtain⟨a,b,n,j,rfl,e6,acn,aP,c',q⟩:=h;refine⟨_,(aX (ct 3 uw.bp (bc.fg ma (c6 (ah 0) (ah 1)) al (by omega)))
   (aX (ct 4 uw.bp (a5 fx (ah 3) aO)) (aX (oM (t':=λD aa H=>∃x,Nr a b m n j x D aa H) (ck (gy.pt (ib (c3 jn (ah 2) aO) (jK (c3 kd (hs K (ah 1) aO) (hs K (ah 1) aO))))) (a9 (ct 4 uw.bp aO)) cA) ?imp) (aX (ck (c3 jn (ah 4) aO) (aX (ct 5 uw.bp (hs K (eL (cg aV (cg aV (cg aV (cg aV (cg aV (cg aV (cg aV (cg aV (i3 aV aV aV aV)))))))))) (a5 fx (a5 hW (ah 3) aO) aO))) (a9 (bE (cP (i3 aV (ah 5) (bc.fg gv (fb (ah 0) (ah 1) (a5 kZ (ah 2) aO)) al (bf _)) (bc.fg gv (fb (ah 0) (ah 1) (a5 kZ (ah 2) aO)) al (bf _))))))) cA) (aX (ck (c3 eY (ah 4) aO) (aX (ct 6 uw.bp (hs K (eL (c6 aV aV)) (a5 fx (a5 hW (ah 3) aO) aO))) (a9 (bE (cP (i3 aV (ah 6) (bc.fg gv (fb (ah 0) (ah 1) (a5 kZ (ah 2) aO)) al (bf _)) (bc.fg gv (fb (ah 0) (ah 1) (a5 kZ (ah 2) aO)) al (bf _))))))) cA) (aX (ck (c3 eY (ah 4) aO) (a9 (bE (cP (c6 (hs K (eL (c6 aV aV)) (a5 fx (a5 hW (ah 3) aO) aO)) (bc.fg gv (fb (ah 0) (ah 1) (a5 kZ (ah 2) aO)) al (bf _)))))) cA) (aX (ck (c3 eY (ah 4) aO) (a9 (bE (cP (fb aV (bc.fg gv (fb (ah 0) (ah 1) (a5 kZ (ah 2) aO)) al (bf _)) (bc.fg ws (bx (a5 hW (ah 3) aO)) al (by omega)))))) cA)
   (aX (ck (c3 jn (ah 4) aO) (aX (ct 7 uw.bp (ke x8 I g.sv su (bx (.mk (L2.t8 (Xs:=["_law_k"]) (Bq (js:=[1,2,0])) I (jM.out (oI I g.g2.g.v8 (bx (a5 fx (a5 hW (ah 3) aO) aO)))) (λC s0 aI fp=>jq.out (h1 0 (show(["_law_k","_law_spot","_law_deep","_law_cells"]:dH).Nodup by decide +kernel))) (λC s0 aI fp=>so) (λC s0 aI fp=>LE.out (bc.fg gv (fb (ah 3) (ah 1) (a5 kZ (ah 2) aO)) al (bf _))))))))
     (a9 (bE (cP (fb aV (bc.fg gv (fb (ah 0) (ah 1) (a5 kZ (ah 2) aO)) al (bf _)) (ah 7)))))) cA)
   (a9 (bE (bc.fg jX (bx (a5 hW (ah 3) aO)) al (by omega)))))))))))),?main⟩
  case imp=>
   rintro D aa ai ⟨x,y,rfl,af,k⟩;refine⟨_,I,_,_,I,I,_,I,fR (λe=>k 8 λz=>absurd z (by decide)) (λe=>?_)⟩;refine⟨_,I,b,_,_,_,I,I,bg.of af,iD (j:=0) I,_,I,b,_,_,_,I,I,bg.of af,iD (j:=1) I,_,_,I,I,_,I,fR (λdb=>k 8 λz=>absurd z (by decide)) (λdb=>k y λ_=>?_)⟩;have e:=nB e;have db:=nB db;omega
  case main=>
   refine⟨_,I,_,I,a,b,n,_,I,e6,by omega,λx ai aco n7 d5 az=>?_⟩;refine⟨_,I,_,_,I,I,(by show(0:Int) < 9;decide),x,_,I,az,λy aT=>?_⟩;have tb:1<=m->∀aB cH (iJ:bz) (pd:cJ),bD b H aB->aB b=some (uv cH j)->(cH<=n+50\/cH<=j+50)->(∀v a7,nZ K b cH j m aB v a7->iJ v a7)->Ck K m [.ref a,.ref b,.int (((m+1:Nat):Int) - 1)] aB iJ pd:=λd3 aB cH iJ pd gr aN ae k=>by
    obtain⟨l,rfl⟩:∃l,m=l+1:=⟨m - 1,by omega⟩;have aj:(((l+1+1:Nat):Int) - 1)=((l+1:Nat):Int):=by omega
    exact⟨a,b,cH,j,by rw[aj],e6.go gr aN (bf _),by omega,by omega,by omega,k⟩
   have pick:∀{k:Int}{xs:br},0 < k->xs.length=k.toNat->∃v,v∈xs/\k1 xs (x / 9 % k)=some v:=λ{k xs} aU ak=>by
    obtain⟨gK,cB⟩:=m9 (a:=x / 9) (b:=k) aU;exact wK gK (by omega)
   refine⟨_,I,_,_,I,I,_,I,fR (λe=>?_) (λe=>?_)⟩
   ·obtain⟨d3,Dk⟩:=aT (by have:=gP e;omega);refine⟨by decide +kernel,λaS cm=>⟨_,I,_,_,I,I,⟨by decide,by decide⟩,_,_,I,I,(by show(0:Int) < 12;decide),?_⟩⟩;obtain⟨v,aK,aq⟩:=pick (k:=12) (xs:=oS.map λx=>V.str (S x)) (by decide) (by decide);obtain⟨sg,Zu,rfl⟩:=mU.mp aK;refine⟨aS,_,_,_,I,I,bg.of b',aq,?_⟩;revert az d5;refine dz cm λaB cW _ d5 az=>?_;refine⟨_,I,_,I,_,I,_,I,_,_,I,I,tb d3 aB (n+1) _ _ (d5.trans (.of cW)) (cW _ _ az) (by omega) λj1 a7 ⟨eB,cG,aZ,cB,gb,a2,fo,ql,xn,xo,IQ⟩=>?_⟩;refine⟨_,I,_,I,_,I,_,_,I,I,tb d3 a7 (n+1+aZ) _ _ ((d5.trans (.of cW)).trans gb) a2 (by omega) λhT b1 ⟨gA,cY,bn,cN,nf,dp,ko,qa,rF,Zv,HH⟩=>⟨q6,λeT ix=>q _ _ ?_⟩⟩;exact nZ.new (((d5.trans (.of cW)).trans gb).trans nf) (by rw[show n+(1+(aZ+bn))=n+1+aZ+bn by omega];exact dp) (fQ.mpr ⟨_,_,I,cz.mpr I,my (cz.mpr I) (fE (nf.hH a2) fo) ko⟩) (.two sg eB cG aZ cB gA cY bn cN Zu ql qa) (by omega) (by omega) (by omega) ix
   refine⟨_,I,I,_,I,fR (λe=>?_) (λe=>?_)⟩
   ·obtain⟨d3,Dk⟩:=aT (by have:y=3:=V.int.inj (gP e);omega);refine⟨by decide +kernel,λaS cm=>⟨_,I,_,_,I,I,⟨by decide,by decide⟩,_,_,I,I,(by show(0:Int) < 2;decide),?_⟩⟩;obtain⟨v,aK,aq⟩:=pick (k:=2) (xs:=[true,false].map λx=>V.str (S (q2 x))) (by decide) (by decide);obtain⟨sg,_,rfl⟩:=mU.mp aK;refine⟨aS,_,_,_,I,I,bg.of b',aq,?_⟩;revert az d5;refine dz cm λaB cW _ d5 az=>?_;refine⟨_,I,_,I,_,I,_,I,_,_,I,I,tb d3 aB (n+1) _ _ (d5.trans (.of cW)) (cW _ _ az) (by omega) λj1 a7 ⟨eB,cG,aZ,cB,gb,a2,fo,ql,xn,xo,IQ⟩=>?_⟩;refine⟨_,I,_,I,_,I,_,_,I,I,tb d3 a7 (n+1+aZ) _ _ ((d5.trans (.of cW)).trans gb) a2 (by omega) λhT b1 ⟨gA,cY,bn,cN,nf,dp,ko,qa,rF,Zv,HH⟩=>⟨q6,λeT ix=>q _ _ ?_⟩⟩;exact nZ.new (((d5.trans (.of cW)).trans gb).trans nf) (by rw[show n+(1+(aZ+bn))=n+1+aZ+bn by omega];exact dp) (fQ.mpr ⟨_,_,I,cz.mpr I,my (cz.mpr I) (fE (nf.hH a2) fo) ko⟩) (.both sg eB cG aZ cB gA cY bn cN ql qa) (by omega) (by omega) (by omega) ix
   refine⟨_,I,I,_,I,fR (λe=>?_) (λe=>?_)⟩
   ·obtain⟨d3,Dk⟩:=aT (by have:y=4:=V.int.inj (gP e);omega);refine⟨by decide +kernel,λaS cm=>⟨_,I,_,_,I,I,⟨by decide,by decide⟩,_,_,I,I,(by show(0:Int) < 2;decide),?_⟩⟩;obtain⟨v,aK,aq⟩:=pick (k:=2) (xs:=[.str "not",.str "minus"]) (by decide) (by decide);refine⟨aS,_,_,_,I,I,bg.of b',aq,?_⟩;revert az d5;refine dz cm λaB cW _ d5 az=>?_;refine⟨_,I,_,I,_,I,_,_,I,I,tb d3 aB (n+1) _ _ (d5.trans (.of cW)) (cW _ _ az) (by omega) λj1 a7 ⟨eB,cG,aZ,cB,gb,a2,fo,ql,xn,xo,IQ⟩=>⟨e',λeT ix=>q _ _ ?_⟩⟩;simp only[List.mem_cons,List.not_mem_nil,or_false] at aK;rcases aK with rfl|rfl
    ·exact nZ.new ((d5.trans (.of cW)).trans gb) (by rw[show n+(1+aZ)=n+1+aZ by omega];exact a2) (ht (cz.mpr I) fo) (.fC eB cG aZ cB ql) (by omega) (by omega) (by omega) ix
    ·exact nZ.new ((d5.trans (.of cW)).trans gb) (by rw[show n+(1+aZ)=n+1+aZ by omega];exact a2) (ht (cz.mpr I) fo) (.gx eB cG aZ cB ql) (by omega) (by omega) (by omega) ix
   refine⟨_,I,I,_,I,fR (λe=>?_) (λe=>?_)⟩
   ·obtain⟨d3,Dk⟩:=aT (by have:y=5:=V.int.inj (gP e);omega);refine⟨_,I,_,I,_,I,_,_,I,I,tb d3 ai (n+1) _ _ d5 az (by omega) λj1 a7 ⟨eB,cG,aZ,cB,gb,a2,fo,ql,xn,xo,IQ⟩=>?_⟩;refine⟨_,I,_,_,I,I,⟨by decide,by decide⟩,_,I,λcs b1 hn mG=>⟨lO,λeT ix=>q _ _ ?_⟩⟩;exact nZ.new ((d5.trans gb).trans (.of hn)) (by rw[show n+(1+aZ)=n+1+aZ by omega];exact hn _ _ a2) (my (cz.mpr I) (dB hn fo) (cz.mpr I)) (.fld eB cG aZ cB cs ql mG) (by omega) (by omega) (by omega) ix
   refine⟨_,I,_,_,I,I,_,I,fR (λe=>?_) (λe=>?_)⟩
   ·obtain⟨d3,Dk⟩:=aT (gP e);obtain⟨cQ,c5⟩:=m9 (a:=x / 9) (b:=5) (by decide);refine⟨_,I,_,_,I,I,⟨by decide,by decide⟩,_,_,I,I,(by show(0:Int) < 5;decide),_,I,by omega,by omega,?_⟩;refine Gl (vs:=[.ref b,.int ((m+1:Nat):Int),.ref a]) (λD ys Z=>y0 K b (n+1) j m ai ys Z) (x / 9 % 5).toNat (by omega) (VU I I I) (λD dh=>⟨[],0,0,.of (cK dh _),cK dh _ _ _ az,f5.mpr I,.nil,by omega,by show 0+4<=_+4*m+0;omega⟩) (λD dh ys aB QQ cM oe eE k=>?_) λD dh ys aB dT oe eE=>?_
    ·obtain⟨ds,cG,aZ,gr,aN,aK,hd,xn,xo⟩:=eE;have ld:ds.length=ys.length:=aK.len.symm;have nb:D≠b:=d9 dh az;refine⟨_,I,_,I,_,I,_,_,I,I,tb d3 aB (n+1+aZ) _ _ (d5.trans gr) aN (by omega) λj1 a7 aW=>?_⟩;have eu:bD b aB a7:=by obtain⟨_,_,_,_,t,_⟩:=aW;exact t
     have Pj:=eu D _ nb oe;obtain⟨ou,be,kF,t',s',n6,ge,CZ,iq⟩:=y0.snoc gr aN aK hd xn xo d3 aW;exact k _ a7 Pj ⟨ou,be,kF,λp o ar e=>by rw[cj (d9 e dh)];exact t' p o ar e,by rw[cj (d0 nb)];exact s',jQ (nV Pj) n6,ge,CZ,iq⟩
    ·obtain⟨ds,cG,aZ,gr,aN,aK,hd,xn,xo⟩:=eE;have ld:ds.length=ys.length:=aK.len.symm;refine⟨D,ys,I,.inl ⟨bg.of oe,λl au=>?_⟩⟩;have io:=At.new (K:=K) au aK;have hz:=cK au (.tup ys);generalize upd aB l (.tup ys)=a7 at io hz⊢;refine⟨_,I,_,I,_,I,_,_,I,I,tb d3 a7 (n+1+aZ) _ _ ((d5.trans gr).trans (.of hz)) (hz _ _ aN) (by omega) λj1 b1 ⟨u0,ln,IR,uY,nf,dp,Dl,C6,acp,acq,acr⟩=>?_⟩;refine⟨_,I,lO,λeT ix=>q _ _ ?_⟩;exact nZ.new (((d5.trans gr).trans (.of hz)).trans nf) (by rw[show n+(1+(IR+aZ))=n+1+aZ+IR by omega];exact dp) (my (cz.mpr I) Dl (fE (nf.hH (hz _ _ aN)) io)) (.call u0 ln IR uY ds cG aZ C6 hd (by omega)) (by omega) (by omega) (by omega) ix
   ·refine⟨_,I,_,_,I,I,⟨by decide,by decide⟩,_,I,λd cs v aB cW hd aK=>q _ _ ?_⟩;exact⟨d,1,1,8,d5.trans (.of cW),cW _ _ az,aK,.leaf d cs hd,by omega,by omega,λ_=>I⟩
inductive ik
 |name|number|text|truth|none|field|call|minus|not|two|both
 deriving DecidableEq
def ik.s:ik->Str
 |.name=>"name"
 |.number=>"number"
 |.text=>"text"
 |.truth=>"truth"
 |.none=>"none"
 |.field=>"field"
 |.call=>"call"
 |.minus=>"minus"
 |.not=>"not"
 |.two=>"two"
 |.both=>"both"
def ik.inj {a b:ik}(h:a.s=b.s):a=b:=by
 have key:∀a b:ik,a.s=b.s->a=b:=by
  have:([ik.name,.number,.text,.truth,.none,.field,.call,.minus,.not,.two,.both].all λa=>[ik.name,.number,.text,.truth,.none,.field,.call,.minus,.not,.two,.both].all λb=>decide (a.s=b.s->a=b))=true:=by decide +kernel
  intro a b;have aq:a∈[ik.name,.number,.text,.truth,.none,.field,.call,.minus,.not,.two,.both]:=by cases a<;>decide
  have af:b∈[ik.name,.number,.text,.truth,.none,.field,.call,.minus,.not,.two,.both]:=by cases b<;>decide
  exact gP (eW.mp (eW.mp this a aq) b af)
 exact key a b h
inductive lR:ik->d8->Nat->Nat->Nat->Prop
 |name cs:g0 cs=true->lR .name [.str (S cs)] 1 1 8
 |num n:n < 10 ^ 12->lR .number [.int (n:Nat)] 1 1 8
 |text cs:cs.all (λc=>inR c&&c != 34)=true->cs.length<=40->lR .text [.str (S cs)] 1 1 8
 |p7 b:lR .truth [.aM b] 1 1 8
 |a3:lR .none [] 1 1 8
 |fld d a p k x:d2 d a p k->g0 x=true->lR .field [d,.str (S x)] (1+a) (1+p) 8
 |call d a p k ds be av:d2 d a p k->jx ds be av->ds.length<=4->lR .call [d,.tup ds] (1+max a be) (1+(p+av)) 8
 |gx d a p k:d2 d a p k->lR .minus [d] (1+a) (1+p) 7
 |fC d a p k:d2 d a p k->lR .not [d] (1+a) (1+p) 3
 |two x d a p k d' be av k':x∈oS->d2 d a p k->d2 d' be av k'->lR .two [.str (S x),d,d'] (1+max a be) (1+(p+av)) (q1 x)
 |both b d a p k d' be av k':d2 d a p k->d2 d' be av k'->lR .both [.str (S (q2 b)),d,d'] (1+max a be) (1+(p+av)) (1+b.toNat)
def d2.wR {d a p k}(h:d2 d a p k):∃κ r,d=.tup (.str κ.s::r)/\lR κ r a p k:=by
 cases h with
 |leaf _ cs h=>
  cases h with
  |name cs h=>exact⟨.name,_,I,.name cs h⟩
  |num n h=>exact⟨.number,_,I,.num n h⟩
  |text cs h h'=>exact⟨.text,_,I,.text cs h h'⟩
  |p7=>exact⟨.truth,_,I,.p7 true⟩
  |yZ=>exact⟨.truth,_,I,.p7 false⟩
  |a3=>exact⟨.none,_,I,.a3⟩
 |fld d a p k x h h'=>exact⟨.field,_,I,.fld d a p k x h h'⟩
 |call d a p k ds be av h h' bm=>exact⟨.call,_,I,.call d a p k ds be av h h' bm⟩
 |gx d a p k h=>exact⟨.minus,_,I,.gx d a p k h⟩
 |fC d a p k h=>exact⟨.not,_,I,.fC d a p k h⟩
 |two x d a p k d' be av k' ak h h'=>exact⟨.two,_,I,.two x d a p k d' be av k' ak h h'⟩
 |both b d a p k d' be av k' h h'=>exact⟨.both,_,I,.both b d a p k d' be av k' h h'⟩
def d2.pos {d a p k}(h:d2 d a p k):1<=a/\1<=p/\k<=8:=by
 obtain⟨κ,r,_,aU⟩:=h.wR;cases aU with
 |two x _ _ _ _ _ _ _ _ ak=>
  refine⟨by omega,by omega,?_⟩;unfold q1;split
  ·omega
  ·split<;>omega
 |both b=>exact⟨by omega,by omega,by cases b<;>simp⟩
 |_=>exact⟨by omega,by omega,by omega⟩
inductive Nu (K:aJ) (xp:ik) (bH:gw) (D:Ends) (aa:L2.St) (H:ap):Prop
 |mk v κ r:aa[0]?=some (some v)->At K H (.tup (.str (ik.s κ)::r)) v->(κ=xp->bH D aa H)->(κ≠xp->D.c4 aa H)->Nu K xp bH D aa H
def ux {X:a8}{x:Str} {aS bM bI kt pos iN lU body bH z}(xp:ik) (af:ic X body bH) (hz:autoParam (z=xp.s) dl) (dx:autoParam (X.N[0]?=some x) dl) (aK:autoParam (tz X.env.scope x) zza) (hd:autoParam (e4 x) Cl) (gT:autoParam ((x == ("__classdict__":Str))=false) Cl):hP X (.If (.Compare (.Subscript (.Name x aS) (.Constant (.int 0) iN bM) bI) [.Eq] [.Constant (.str z) lU kt] pos) body [] eT) (Nu X.K xp bH):=by
 subst hz;refine oM (ck (c3 eY (ef (ah 0 dx aK hd gT)) aV) af cA) λD aa H ⟨v,κ,r,e,h,y,n⟩=>?_;exact⟨v,e,0,_,_,I,h,I,fm ⟨I,_,I,eqB (λz=>y (ik.inj z)) λz=>n λw=>z (by rw[w])⟩⟩
abbrev GA:Stmt:=top 105
inductive y1 (K:aJ) (vs:br) (H:ap) (Q:bz) (dA:cJ):Prop
 |mk v d a p k:vs=[v]->At K H d v->d2 d a p k->(∀Z,ba H Z->Q (.int (k:Nat)) Z)->y1 K vs H Q dA
def Wh:cE mQ mQ (bF GA):=dm
def Wi (g:f9 K mg) (F:b5 K "_law_rank" "_law_rank" GA f as):bK P w K mg base dJ 1 f as mQ (y1 K):=by
 refine F.kj Wh ?_;rintro bk A outer s H vs Q E al ⟨v,d,a,p,k,rfl,aK,hd,q⟩ ll;refine⟨_,aX (ux .both (a9 (bE (a5 f3 aO (ke x1 I g.g2.g.v7 v5 (bx (jP eY (ef (ah 0)) aV))))))) (aX (ux .two (a9 (bE (bc.Bd (AY al) (bc.Bc (bc.pX aV aO (bc.pX aV aO (bc.pX aV aO (bc.pX aV aO (bc.pX aV aO (bc.pX aV aO bc.Bb))))))) (ef (ah 0)) aO)))) (a9 (bE (bc.Bd (AY al) (bc.Bc (bc.pX aV aO (bc.pX aV aO bc.Bb))) (ef (ah 0)) aO)))),?_⟩;obtain⟨κ,r,rfl,aU⟩:=hd.wR;refine⟨v,κ,r,I,aK,λe=>?_,λe=>?_⟩
 ·subst e;cases aU with
  |both b eB cG aS cB gA cY bM cN ag ae=>
   refine⟨_,I,1,_,_,I,aK,I,fm ⟨I,.inr ⟨_,I,_,_,I,I,?_⟩⟩⟩;have:=q H (ba.refl H);cases b
   ·exact this
   ·exact this
 refine⟨v,κ,r,I,aK,λe=>?_,λdb=>?_⟩
 ·subst e;cases aU with
  |two x eB cG aS cB gA cY bM cN ak ag ae=>
   refine λwC rG=>⟨b',[(.inr "+",.int 5),(.inr "-",.int 5),(.inr "*",.int 6),(.inr "//",.int 6),(.inr "&",.int 6),(.inr "|",.int 6)],I,by decide,wC,I,.inl ⟨_,.inl b'⟩,_,I,1,_,_,I,dB ?_ aK,I,fm ⟨_,wh.k (k:=.inr (S x)) b',?_⟩⟩
   ·intro p o e;rw[cj (d9 e rG),cj (d9 e rG)];exact e
   have fd:(nS (t5 [] [((.inr "+":Key),V.int 5),(.inr "-",.int 5),(.inr "*",.int 6),(.inr "//",.int 6),(.inr "&",.int 6),(.inr "|",.int 6)]) (.inr (S x))).getD (.int 4)=.int (q1 x:Nat):=by
    simp only[oS,List.mem_cons,List.not_mem_nil,or_false] at ak;rcases ak with rfl|rfl|rfl|rfl|rfl|rfl|rfl|rfl|rfl|rfl|rfl|rfl<;>decide +kernel
   rw[fd];exact q _ λp o e=>by rw[cj (d9 e rG),cj (d9 e rG)];exact e
 ·refine λwC rG=>⟨b',[(.inr "not",.int 3),(.inr "minus",.int 7)],I,by decide,wC,I,.inl ⟨_,.inl b'⟩,_,I,0,_,_,I,dB ?_ aK,I,fm ⟨_,wh.k (k:=.inr κ.s) b',?_⟩⟩
  ·intro p o e;rw[cj (d9 e rG),cj (d9 e rG)];exact e
  have fd:(nS (t5 [] [((.inr "not":Key),V.int 3),(.inr "minus",.int 7)]) (.inr κ.s)).getD (.int 8)=.int (k:Nat):=by
   cases aU with
   |two=>exact absurd rfl db
   |both=>exact absurd rfl e
   |_=>decide +kernel
  rw[fd];exact q _ λp o e=>by rw[cj (d9 e rG),cj (d9 e rG)];exact e
end
def sl {a b:bh}(h:a.length+b.length<=16000000):(S a).length+(S b).length<=sizeLine:=by rw[ek,ek];exact ua h
def rf (l:bh) (n:Nat):Txt.mul (S l) (n:Nat)=S (i7 n l):=by
 have hy:∀(n:Nat) (gJ:Array Nat),(List.replicate n (S l).cps).foldl (·++·) gJ=gJ++(i7 n l).toArray:=by
  intro n
  induction n with
  |zero=>intro gJ;simp[i7]
  |succ n ih=>
   intro gJ;rw[mT,List.foldl_cons,ih];simp[i7,S,List.replicate_succ]
 unfold Txt.mul;by_cases cd:n=0
 ·subst cd;rfl
 rw[bP (by omega)];split
 ·rename_i h;rw[DZ] at h;rcases h with h|h
  ·have:n=1:=by have:=eq_of_beq h;omega
   subst this;simp[i7]
  ·have:l=[]:=by
    have:=eq_of_beq h;rw[ek] at this;exact oC this
   subst this;have:i7 n []=[]:=by unfold i7;simp
   rw[this]
 ·rw[Ar,hy];simp[S]
def Nv (n:Nat):Txt.mul (" ":Str) (n:Nat)=S (aM n):=by
 have:=rf [32] n;have e:i7 n [32]=aM n:=by
  unfold i7 aM
  induction n with
  |zero=>rfl
  |succ n ih=>rw[mT,tm,ih (rf [32] n),mT];rfl
 rw[e] at this;exact this
def fF (b c:Addr) (H Z:ap):Prop:=∀p o,p≠b->p≠c->H p=some o->Z p=some o
section
variable {K:aJ}{M a b c:Addr}{n bv u ec:Nat}{H Z hR:ap}
def fF.trans (h:fF b c H Z) (h':fF b c Z hR):fF b c H hR:=λp o ag ae e=>h' p o ag ae (h p o ag ae e)
def fF.of (h:ba H Z):fF b c H Z:=λp o _ _ e=>h p o e
def fF.GB (h:bD b H Z):fF b c H Z:=λp o ag _ e=>h p o ag e
def fF.of2 (h:bD c H Z):fF b c H Z:=λp o _ ae e=>h p o ae e
structure hi (K:aJ) (H:ap) (M a b c:Addr) (n u:Nat):Prop where
 m:H M=some (.lst [.ref a,.ref b,.ref c])
 s:rc K H a b n []
 k:H c=some (.lst [.int (u:Nat)])
 uy:a≠c
 wU:b≠c
def hi.ky (h:hi K H M a b c n u):M≠b:=λz=>by have:=h.m;rw[z,h.s.yV] at this;cases this
def hi.AV (h:hi K H M a b c n u):M≠c:=λz=>by have:=h.m;rw[z,h.k] at this;cases this
def hi.same (h:hi K H M a b c n u) (s:ba H Z):hi K Z M a b c n u:=⟨s _ _ h.m,h.s.same s,s _ _ h.k,h.uy,h.wU⟩
def hi.cell (h:hi K H M a b c n u) (t:bD b H Z) (s:Z b=some (.lst [.int ((n+1:Nat):Int)])):hi K Z M a b c (n+1) u:=⟨t _ _ h.ky h.m,h.s.go t s (fN _),t _ _ (d0 h.wU) h.k,h.uy,h.wU⟩
def hi.cnt (h:hi K H M a b c n u) (t:bD c H Z) (s:Z c=some (.lst [.int (ec:Nat)])):hi K Z M a b c n ec:=⟨t _ _ h.AV h.m,by
 obtain⟨⟨ns,ag,ae⟩,aW,bm,b7⟩:=h.s;exact⟨⟨ns,t.FH h.uy ag,ae⟩,aW,t _ _ h.wU bm,b7⟩,s,h.uy,h.wU⟩
def fF.hH (h:hi K H M a b c n u) (t:fF b c H Z):h2 H Z:=λp vs e=>by
 have ne:∀o,H p=some o->(∀ys,o≠.lst ys)->p≠b/\p≠c:=λo e ae=>⟨λz=>by rw[z,h.s.yV] at e;cases e;exact ae _ I,λz=>by rw[z,h.k] at e;cases e;exact ae _ I⟩;rcases e with e|⟨o,e⟩
 ·obtain⟨bS,cH⟩:=ne _ e (λ_ z=>by cases z);exact .inl (t p _ bS cH e)
 ·obtain⟨bS,cH⟩:=ne _ e (λ_ z=>by cases z);exact .inr ⟨o,t p _ bS cH e⟩
end
abbrev Cm:Stmt:=top 106
abbrev Cn:Stmt:=top 107
inductive Nw (K:aJ) (m:Nat) (vs:br) (H:ap) (Q:bz):Prop
 |mk v M a b c n u d ad p k:vs=[v,.ref M]->At K H d v->d2 d ad p k->ad<=m->p<=1000->hi K H M a b c n u->n+2*p<=1000000->(∀cs gc bv ec Z,fF b c H Z->hi K Z M a b c bv ec->bv+1<=n+2*p->ec<=u->e9 k d ad p gc cs->gc+1+ec<=ad+u->cs.length+6<=48*p->Q (.str (S cs)) Z)->Nw K m vs H Q
def Co (K:aJ) (m:Nat):e6:=λvs H Q _=>Nw K m vs H Q
inductive Nx (K:aJ) (m:Nat) (vs:br) (H:ap) (Q:bz):Prop
 |mk v l M a b c n u d ad p k:vs=[v,.int (l:Nat),.ref M]->At K H d v->d2 d ad p k->ad<=m->p<=1000->hi K H M a b c n u->n+2*p<=1000000->(∀cs gc bv ec Z,fF b c H Z->hi K Z M a b c bv ec->bv<=n+2*p->ec<=u->e9 l d ad p gc cs->gc+ec<=ad+u->(l=0->gc+1+ec<=ad+u)->cs.length+2<=48*p->Q (.str (S cs)) Z)->Nx K m vs H Q
def Cp (K:aJ) (m:Nat):e6:=λvs H Q _=>Nx K m vs H Q
inductive Ny (K:aJ) (M a b c:Addr) (D:Ends) (aa:L2.St) (H:ap):Prop
 |mk v n u d ad p k l x i:aa=[some v,some (.int ((l:Nat):Int)),some (.ref M),some x,some i,none]->At K H d v->d2 d ad p k->hi K H M a b c n u->(l<=k->1<=u)->(∀ec Z,fF b c H Z->hi K Z M a b c n ec->(ec=u/\k < l\/ec+1=u/\l<=k)->D.c4 aa Z)->Ny K M a b c D aa H
inductive Nz (K:aJ) (M a b c:Addr) (aa:L2.St) (H:ap) (Q:Bool->ap->Prop):Prop
 |mk v n u d ad p k l x i:aa=[some v,some (.int ((l:Nat):Int)),some (.ref M),some x,some (.int i),none]->At K H d v->d2 d ad p k->hi K H M a b c n u->(∀r Z,ba H Z->(r=true->k < l\/l<=k/\1<=u)->(r=false->l<=k)->Q r Z)->Nz K M a b c aa H Q
def NA {X e t t'}(h:LT X e t) (aR:∀aa H Q,t' aa H Q->t aa H Q):LT X e t':=.mk λac s aa H Q J q=>h.out ac s aa H Q J (aR aa H Q q)
def Cq:cE ["_law_tree_here","_law_least_here","_law_more","_law_text_here","_law_n","_law_gap"] vj (bF Cm):=dm
def Wj {v:V}:m4 [v].length 0=some 0:=by unfold m4;rfl
section
variable {K:aJ}{P:Program}{w:World}{mg:Str->cn}{base:Heap}{f:Addr}{as:FuncData}
def NB {m L:Nat}(g:f9 K mg) (F:b5 K "_law_put" "_law_put" Cm f as) (ma:d7 P w K mg base "_law_cell" vo 1 (wL K)) (gM:d7 P w K mg base "_law_rank" mQ 1 (y1 K)) (jC:d7 P w K mg base "_law_text" vn L (Co K m)) (dC:1<=L):bK P w K mg base dJ (L+1) f as vj (Cp K m):=by
 refine F.ye Cq (λvs H Q E h=>?_) (λbk A outer s H vs Q E al h=>?_)
 ·obtain⟨_,_,_,_,_,_,_,_,_,_,_,_,rfl,_⟩:=h;rfl
 obtain⟨v,l,M,a,b,c,n,u,d,ad,p,k,rfl,aK,hd,vb,ar,jV,aP,q⟩:=h;refine⟨_,(aX (ct 3 Cq.bp (bc.fg jC (c6 (ah 0) (ah 2)) al (bf _))) (aX (ct 4 Cq.bp (mY (c3 (LI al) (ah 2) (eL dc)) (bc.fg ma (c6 (hs K (ah 2) aO) (hs K (ah 2) aO)) al dC) aO)) (aX (ck (NA (t':=Nz K M a b c) (gy.pt (ib (c3 jn (bc.fg gM (bx (ah 0)) al dC) (ah 1)) (jK (gy.pt (kb (c3 eY (a5 fx (ah 4) aO) aO) (kz (c3 kd (hs K (hs K (ah 2) aO) aO) aO))))))) ?z7) (aX (oM (t':=Ny K M a b c) (ck (c3 QG (bc.fg gM (bx (ah 0)) al dC) (ah 1)) (a9 (pM (a5 kZ (hs K (hs K (ah 2) aO) aO) aO) (.mk (L2.J0 (LE.out (hs K (ah 2) aO)) L2.aO set_list)))) cA) ?imp) (aX (ct 5 Cq.bp (a5 qU aV (ke x1 I g.g2.g.v7 v5 (bx (jP eY (a5 fx (a5 hW (ah 4) aO) aO) aO))))) (a9 (bE (a5 e5 (a5 e5 (a5 e5 (a5 e5 aV (ah 5)) (ah 3)) (ah 5)) aV))))) cA) (a9 (bE (ah 3)))))),?main⟩
 case imp=>
  rintro D aa ai ⟨v,n,u,d,ad,p,k,l,x,i,rfl,aK,hd,jV,bY,cL⟩;refine⟨_,I,v,d,ad,p,k,I,aK,hd,λaB cW=>⟨_,I,_,_,I,I,_,I,fR (λe=>?_) (λe=>?_)⟩⟩
  ·have jE:=jV.same cW;have e:l<=k:=by have:=gP e;omega
   have Pk:=bY e;refine⟨_,I,M,_,_,_,I,I,bg.of jE.m,iD (j:=2) I,c,_,_,_,I,I,bg.of jE.k,iD (j:=0) I,_,_,I,I,?_⟩;refine⟨_,I,M,_,_,_,I,I,bg.of jE.m,iD (j:=2) I,c,_,_,0,I,I,jE.k,Wj,?_⟩;have uT:((u:Nat):Int) - 1=((u - 1:Nat):Int):=by omega
   show D.c4 _ (upd aB c (.lst [.int (((u:Nat):Int) - 1)]));rw[uT];exact cL (u - 1) _ ((fF.of cW).trans (.of2 (bD.i4 c aB _))) (jE.cnt (bD.i4 c aB _) b') (.inr ⟨by omega,e⟩)
  ·exact cL u aB (.of cW) (jV.same cW) (.inl ⟨I,by have:=nB e;omega⟩)
 case main=>
  have iz:=hd.pos;refine⟨_,I,_,I,v,M,a,b,c,n,u,d,ad,p,k,I,aK,hd,vb,ar,jV,aP,λcs gc bS sU ai d5 pq acs Pk de z8 z2=>?_⟩;have fo:=fE (fF.hH jV d5) aK;refine⟨_,I,kh,λhA nv=>⟨M,hA,_,I,I,bg.of (cK nv _ _ _ pq.m),bg.of b',_,I,fz ?_⟩⟩;have cW:=cK nv (.lst []);generalize upd ai hA (.lst [])=aB at cW⊢;have jE:=pq.same cW;refine⟨_,I,M,_,_,_,I,I,bg.of jE.m,iD (j:=0) I,_,I,M,_,_,_,I,I,bg.of jE.m,iD (j:=1) I,a,b,bS,_,I,jE.s,by omega,λi a7 nc iN gb a2=>?_⟩;have qt:=jE.cell gb a2;have z':=fE ((fF.GB (c:=c) gb).hH jE) (dB cW fo);have bL:fF b c H a7:=(d5.trans (.of cW)).trans (.GB gb);refine⟨v,bS+1,sU,d,ad,p,k,l,_,i,I,z',hd,qt,λr b1 hn bR dL=>fR (λe=>?_) (λe=>?_)⟩
  ·subst e;refine⟨v,bS+1,sU,d,ad,p,k,l,_,_,I,dB hn z',hd,qt.same hn,λe=>?_,λIS dS IT IU b7=>?_⟩
   ·have:=bR rfl;omega
   refine⟨_,I,_,_,I,I,⟨by decide,by decide⟩,_,_,I,I,(by show(0:Int) < 4;decide),I,.inr ⟨_,I,?_⟩⟩;obtain⟨kM,IV,a1⟩:∃kM:Nat,(if decide (V.int (i / 7 % 4)=V.int 1)=true then(1:Int) else 0)=(kM:Nat)/\kM<=1:=by
    cases decide (V.int (i / 7 % 4)=V.int 1)
    ·exact⟨0,I,by decide⟩
    ·exact⟨1,I,by decide⟩
   rw[IV];refine⟨_,_,I,I,by omega,by omega,by decide,?_⟩;rw[Nv];have kq:(aM kM).length=kM:=oB;refine⟨_,I,S [40],_,I,I,sl (by rw[kq,vv];omega),_,I,?_⟩;rw[eA];refine⟨_,_,I,I,sl (by rw[cy,kq,vv];omega),_,I,?_⟩;rw[eA];refine⟨_,_,I,I,sl (by rw[cy,cy,kq,vv];omega),?_⟩;rw[eA];refine⟨_,S [41],I,I,sl (by rw[cy,cy,cy,kq,vv,vv];omega),?_⟩;rw[eA];refine q _ (gc+1) (bS+1) IS dS ((bL.trans (.of hn)).trans IT) IU (by omega) (by omega) ?_ (by omega) (by omega) ?_
   ·have:=e9.oQ l d ad p gc cs kM kM (de.low (fN _));simp only[List.append_assoc];exact this
   ·simp only[List.length_append,kq,List.length_singleton];omega
  ·subst e;have:=dL rfl;exact⟨_,I,q cs gc (bS+1) sU b1 (bL.trans (.of hn)) (qt.same hn) (by omega) Pk (de.low this) (by omega) (by omega) (by omega)⟩
 case z7=>
  rintro aa ai act ⟨v,n,u,d,ad,p,k,l,x,i,rfl,aK,hd,jV,cL⟩;refine⟨_,I,v,d,ad,p,k,I,aK,hd,λaB cW=>⟨_,I,_,_,I,I,_,I,fR (λe=>?_) (λe=>?_)⟩⟩
  ·exact cL true aB cW (λ_=>.inl (by have:=gP e;omega)) λz=>by cases z
  have e:l<=k:=by have:=nB e;omega
  have jE:=jV.same cW;refine⟨_,I,_,_,I,I,(by show(0:Int) < 7;decide),I,_,I,fR (λam=>?_) (λam=>?_)⟩
  ·refine⟨_,I,M,_,_,_,I,I,bg.of jE.m,iD (j:=2) I,c,_,_,_,I,I,bg.of jE.k,iD (j:=0) I,_,_,I,I,_,I,?_⟩;refine cL _ aB cW (λaE=>.inr ⟨e,?_⟩) λ_=>e;have:=gP aE;omega
  ·exact cL false aB cW (λz=>by cases z) λ_=>e
inductive mC:d8->Nat->Nat->Nat->List (bh)->Prop
 |nil:mC [] 0 0 0 []
 |cons d a p n cs ds be av bv e2:e9 0 d a p n cs->mC ds be av bv e2->mC (d::ds) (max a be) (p+av) (max n bv) (cs::e2)
theorem mC.snoc {d be av bv cs}:∀{ds a p n e2},mC ds a p n e2->e9 0 d be av bv cs->mC (ds++[d]) (max a be) (p+av) (max n bv) (e2++[cs])
 |_,_,_,_,_,.nil,h'=>by
  have:=mC.cons d be av bv cs [] 0 0 0 [] h' .nil;rw[xS,xS] at this;rw[Nat.zero_max,Nat.zero_max,Nat.zero_add];exact this
 |_,_,_,_,_,.cons e b q l aj ds G6 kF pf e2 he au,h'=>by
  have:=mC.cons e b q l aj _ _ _ _ _ he (au.snoc h');rw[Nat.max_assoc,Nat.max_assoc,Nat.add_assoc];exact this
def uz:List (bh)->bh
 |[]=>[]
 |[x]=>x
 |x::y::r=>x++([44]++(aM 1++uz (y::r)))
theorem mC.NC:∀{ds a p n e2},mC ds a p n e2->q3 ds a p n (uz e2)
 |_,_,_,_,_,.nil=>.nil
 |_,_,_,_,_,.cons d a p n cs _ _ _ _ _ h .nil=>by
  rw[xS,xS];exact .one d a p n cs h
 |_,_,_,_,_,.cons d a p n cs _ _ _ _ _ h (.cons gA cY bM cH qu ds jy bI g4 e2 ae al)=>.cons d a p n cs _ _ _ _ _ h (mC.NC (.cons gA cY bM cH qu ds jy bI g4 e2 ae al)) (Ay _ _)
def Wk (e2:List (bh)):Txt.join ", " (e2.map S)=S (uz e2):=by
 show Builtin.Str.glued ", " _=_;rw[AG]
 induction e2 with
 |nil=>rfl
 |cons c t ih=>
  cases t with
  |nil=>rfl
  |cons d r=>
   show S c++S [44,32]++Str.join ", " ((d::r).map S)=_;rw[ih,eA,eA,hU];rfl
def Wl {e2:List (bh)}:((e2.map S).map (·.length)).sum=(e2.map List.length).sum:=by
 induction e2 with
 |nil=>rfl
 |cons c t ih=>rw[kR,kR,kR,vF,vF,ih,ek]
theorem ND:∀e2:List (bh),(uz e2).length<=(e2.map List.length).sum+2*e2.length
 |[]=>fN _
 |[x]=>by show x.length<=x.length+0+2;omega
 |x::y::r=>by
  have:=ND (y::r);show(x++([44]++(aM 1++uz (y::r)))).length<=x.length+((y::r).map List.length).sum+2*((y::r).length+1);rw[cy,cy,cy];show x.length+(1+(1+(uz (y::r)).length))<=_;omega
theorem mC.len:∀{ds a p n e2},mC ds a p n e2->e2.length=ds.length
 |_,_,_,_,_,.nil=>rfl
 |_,_,_,_,_,.cons _ _ _ _ _ _ _ _ _ _ _ h=>by rw[en,en,h.len]
def GC {x}(h:g0 x=true):x.length<=12:=by
 unfold g0 at h;simp only[Bool.and_eq_true,decide_eq_true_eq] at h;exact h.1.2.1
inductive Cr (κ:ik) (r:d8) (ad p k:Nat):Prop
 |mk x eB cG aS cB gA cY bM cN eJ:r=[.str (S x),eB,gA]->d2 eB cG aS cB->d2 gA cY bM cN->ad=1+max cG cY->p=1+(aS+bM)->x.length<=3->eJ=k+(if k=4 then 1 else 0)->(∀g tc qu rH rI,(κ≠.two->g=1)->e9 eJ eB cG aS rH tc->e9 (k+1) gA cY bM rI qu->e9 k (.tup [.str κ.s,.str (S x),eB,gA]) (1+max cG cY) (1+(aS+bM)) (max rH rI) (tc++(aM g++(x++(aM g++qu)))))->Cr κ r ad p k
def Cr.of {κ r ad p k}(IW:κ=.two\/κ=.both) (h:lR κ r ad p k):Cr κ r ad p k:=by
 rcases IW with rfl|rfl
 ·cases h with
  |two x eB cG aS cB gA cY bM cN ak ag ae=>
   refine⟨x,eB,cG,aS,cB,gA,cY,bM,cN,_,I,ag,ae,I,I,?_,I,λg tc qu rH rI _ d5 gr=>?_⟩
   ·have:oS.all (λx=>decide (x.length<=3))=true:=by decide
    exact gP (eW.mp this x ak)
   ·refine .two _ x eB cG aS rH tc gA cY bM rI qu g g ak (bf _) ?_ gr;by_cases e:q1 x=4
    ·rw[b8 e] at d5⊢;rw[e] at d5;exact d5
    ·rw[bP e] at d5⊢;exact d5
 ·cases h with
  |both b eB cG aS cB gA cY bM cN ag ae=>
   refine⟨q2 b,eB,cG,aS,cB,gA,cY,bM,cN,_,I,ag,ae,I,I,by cases b<;>decide,I,λg tc qu rH rI a1 d5 gr=>?_⟩;rw[a1 (by decide)];have b2:b.toNat<=1:=by cases b<;>decide
   rw[bP (by omega)] at d5;rw[show 1+b.toNat+1=2+b.toNat by omega] at gr;exact .both _ b eB cG aS rH tc gA cY bM rI qu (bf _) d5 gr
inductive NE (K:aJ) (M a b c:Addr) (n u:Nat) (ai:ap) (ds:d8) (be av:Nat) (D:Addr) (ys:br) (Z:ap):Prop
 |mk ps eD e2 cG aS bS cY bM bv ec:ds=ps++eD->mC ps cG aS bS e2->jx eD cY bM->be=max cG cY->av=aS+bM->ys=e2.map (λc=>V.str (S c))->fF b c ai Z->hi K Z M a b c bv ec->bv<=n+2*aS->ec<=u->(ps≠[]->bS+1+ec<=cG+u)->(e2.map List.length).sum+2*e2.length<=48*aS->NE K M a b c n u ai ds be av D ys Z
def hi.go {K:aJ}{H Z:ap}{M a b c:Addr}{n u bv ec:Nat}(h:hi K H M a b c n u) (t:fF b c H Z) (af:Z b=some (.lst [.int (bv:Nat)])) (aw:Z c=some (.lst [.int (ec:Nat)])):hi K Z M a b c bv ec:=⟨t _ _ h.ky h.AV h.m,by
 obtain⟨⟨ns,ag,ae⟩,aW,bm,b7⟩:=h.s;refine⟨⟨ns,?_,ae⟩,aW,af,b7⟩;rcases ag with (e|⟨o,e⟩)|e
 ·exact .inl (.inl (t _ _ aW h.uy e))
 ·exact .inl (.inr ⟨o,t _ _ aW h.uy e⟩)
 ·exact .inr e,aw,h.uy,h.wU⟩
inductive NF (K:aJ) (bH:gw) (D:Ends) (aa:L2.St) (H:ap):Prop
 |mk v κ r:aa[0]?=some (some v)->At K H (.tup (.str (ik.s κ)::r)) v->(∀Z,ba H Z->κ=.two\/κ=.both->bH D aa Z)->(∀Z,ba H Z->κ≠.two->κ≠.both->D.c4 aa Z)->NF K bH D aa H
inductive NG (K:aJ) (M a b c:Addr) (D:Ends) (aa:L2.St) (H:ap):Prop
 |mk v n u κ r o:aa=[some v,some (.ref M),some o,some (.str (S (aM 1)))]->At K H (.tup (.str (ik.s κ)::r)) v->hi K H M a b c n u->n<=1000000->(∀kM bv Z,fF b c H Z->hi K Z M a b c bv u->bv<=n+1->kM<=2->(κ≠.two->kM=1)->D.c4 [some v,some (.ref M),some o,some (.str (S (aM kM)))] Z)->NG K M a b c D aa H
def Wm {x a b:Str}{A B:Prop}(ag:x=a\/x=b->A) (ae:¬(x=a\/x=b)->B):if(if false=true then !e8 (.str x) [.str a,.str b] else e8 (.str x) [.str a,.str b])=true then A else B:=by
 rw[bP gf];have e:e8 (.str x) [.str a,.str b]=decide (x=a\/x=b):=by
  show((a == x)||((b == x)||false))=_;rw[Bool.or_false,mR,DZ,qB,qB,decide_eq_true_eq];exact⟨λh=>h.imp Eq.symm Eq.symm,λh=>h.imp Eq.symm Eq.symm⟩
 rw[e];exact nU ag ae
def Wn {X:a8}{x:Str} {aS bM bI kt eT lp pk pos iN lU IX eS body bH}(af:ic X body bH) (dx:autoParam (X.N[0]?=some x) dl) (aK:autoParam (tz X.env.scope x) zza) (hd:autoParam (e4 x) Cl) (gT:autoParam ((x == ("__classdict__":Str))=false) Cl):hP X (.If (.Compare (.Subscript (.Name x aS) (.Constant (.int 0) iN bM) bI) [.In] [.Tuple [.Constant (.str "two") lU kt,.Constant (.str "both") IX eT] eS lp] pos) body [] pk) (NF X.K bH):=by
 refine oM (ck (ey ms (ef (ah 0 dx aK hd gT)) (cP (c6 aV aV)) I) af cA) λD aa H ⟨v,κ,r,e,h,y,n⟩=>?_;refine⟨v,e,0,_,_,I,h,I,fm ⟨e',λaS cm=>⟨aS,_,I,.inr (dI.of b'),I,I,_,I,dz cm λai az _=>Wm (λc5=>y ai az (c5.imp (λz=>ik.inj (b:=.two) z) λz=>ik.inj (b:=.both) z)) λc5=>n ai az (λz=>c5 (.inl (by rw[z];rfl))) λz=>c5 (.inr (by rw[z];rfl))⟩⟩⟩
def Cs:cE ["_law_tree_here","_law_more","_law_own","_law_gap"] vn (bF Cn):=dm
def Wo {m L:Nat}(g:f9 K mg) (F:b5 K "_law_text" "_law_text" Cn f as) (ma:d7 P w K mg base "_law_cell" vo 1 (wL K)) (gM:d7 P w K mg base "_law_rank" mQ 1 (y1 K)) (jc:d7 P w K mg base "_law_put" vj L (Cp K m)) (dC:1<=L):bK P w K mg base dJ (L+1) f as vn (Co K (m+1)):=by
 refine F.ye Cs (λvs H Q E h=>?_) (λbk A outer s H vs Q E al h=>?_)
 ·obtain⟨_,_,_,_,_,_,_,_,_,_,_,rfl,_⟩:=h;rfl
 obtain⟨v,M,a,b,c,n,u,d,ad,p,k,rfl,aK,hd,vb,ar,jV,aP,q⟩:=h;refine⟨_,(aX (Wn (aX (ct 2 Cs.bp (bc.fg gM (bx (ah 0)) al dC)) (aX (ct 3 Cs.bp aV) (aX (oM (t':=NG K M a b c) (ck (gy.pt (kb (c3 (LI al) (ah 1) (eL dc)) (kz (c3 eY (ef (ah 0)) aV)))) (a9 (ct 3 Cs.bp (a5 qU aV (a5 fx (bc.fg ma (c6 (hs K (ah 1) aO) (hs K (ah 1) aO)) al dC) aO)))) cA) ?gap) (a9 (bE (a5 e5 (a5 e5 (a5 e5 (a5 e5 (bc.fg jc (fb (ef (ah 0)) (a5 f3 (ah 2) (ke x1 I g.g2.g.v7 v5 (bx (jP eY (ah 2) aO)))) (ah 1)) al (bf _)) (ah 3)) (ef (ah 0))) (ah 3)) (bc.fg jc (fb (ef (ah 0)) (a5 f3 (ah 2) aO) (ah 1)) al (bf _))))))))) (aX (ux .not (a9 (bE (a5 e5 aV (bc.fg jc (fb (ef (ah 0)) aO (ah 1)) al (bf _)))))) (aX (ux .minus (a9 (bE (a5 e5 aV (bc.fg jc (fb (ef (ah 0)) aO (ah 1)) al (bf _)))))) (aX (ux .field (a9 (bE (a5 e5 (a5 e5 (bc.fg jc (fb (ef (ah 0)) aO (ah 1)) al (bf _)) aV) (ef (ah 0)))))) (aX (ux .call (a9 (bE (a5 e5 (a5 e5 (a5 e5 (bc.fg jc (fb (ef (ah 0)) aO (ah 1)) al (bf _)) aV) (hb lu tr ts tN aV (bx (.mk (L2.t8 (Xs:=["_law_one"]) (Bq (js:=[1])) I (jM.out (r4 (ef (ah 0)))) (λC s0 aI fp=>jq.out (h1 0 (show(["_law_one","_law_more"]:dH).Nodup by decide +kernel))) (λC s0 aI fp=>so) (λC s0 aI fp=>LE.out (bc.fg jc (fb (ah 0) aO (ah 1)) al (bf _)))))))) aV))))
  (aX (ux .text (a9 (bE (a5 e5 (a5 e5 aV (ef (ah 0))) aV)))) (a9 (bE (mY (c3 eY (ef (ah 0)) aV) aV (ke Wc I g.g2.g.A3 A2 (bx (ef (ah 0))))))))))))),?main⟩
 case gap=>
  rintro D aa ai ⟨v,n,u,κ,r,o,rfl,aK,jV,aP,cL⟩;refine⟨_,I,kh,λhA nv=>⟨M,hA,_,I,I,bg.of (cK nv _ _ _ jV.m),bg.of b',_,I,fz ?_⟩⟩;have cW:=cK nv (.lst []);generalize upd ai hA (.lst [])=aB at cW⊢;have jE:=jV.same cW;refine⟨v,I,0,_,_,I,dB cW aK,I,fm ⟨I,_,I,eqB (λe=>?_) λe=>?_⟩⟩
  ·refine⟨_,I,M,_,_,_,I,I,bg.of jE.m,iD (j:=0) I,_,I,M,_,_,_,I,I,bg.of jE.m,iD (j:=1) I,a,b,n,_,I,jE.s,by omega,λi a7 nc iN gb a2=>?_⟩;obtain⟨Pl,g1⟩:=m9 (a:=i) (b:=3) (by decide);obtain⟨kM,IV⟩:=D0 Pl;refine⟨_,_,I,I,(by show(0:Int) < 3;decide),_,_,I,I,Pl,by omega,by decide,?_⟩;show D.c4 _ _;rw[IV,Nv];exact cL kM (n+1) a7 ((fF.of cW).trans (.GB gb)) (jE.cell gb a2) (bf _) (by omega) λz=>absurd (ik.inj (b:=.two) e) z
  ·exact cL 1 n aB (.of cW) jE (by omega) (by decide) λ_=>rfl
 case main=>
  obtain⟨κ,r,rfl,aU⟩:=hd.wR;refine⟨v,κ,r,I,aK,λai hK IW=>?_,λai hK bS cH=>?_⟩
  ·obtain⟨x,eB,cG,aS,cB,gA,cY,bM,cN,eJ,xq,ag,ae,Zw,cp,ak,hl,mk⟩:=Cr.of IW aU;subst xq Zw cp;refine⟨_,I,v,_,_,_,k,I,dB hK aK,hd,λaB cW=>?_⟩;have vc:=hK.trans cW;refine⟨v,n,u,κ,_,_,I,dB vc aK,jV.same vc,by omega,λkM g4 a7 gb qt acu a1 Zx=>?_⟩;have xr:=(fF.of vc).trans gb;have z':=fE (fF.hH jV xr) aK;refine⟨_,I,2,_,_,I,z',I,λCM Ik=>⟨_,I,_,I,I,.inr ⟨_,I,_,_,I,I,_,I,CM,eJ,M,a,b,c,g4,u,eB,cG,aS,cB,?_,Ik,ag,by omega,by omega,qt,by omega,λtc rH ij Aa b1 nf Zy Pm Pn Hp acv _ et=>?_⟩⟩⟩
   ·subst hl;by_cases bX:k=4
    ·subst bX;rfl
    ·rw[bP bX,ew (λz=>bX (by have:=V.int.inj z;omega))];rfl
   have kq:(aM kM).length=kM:=oB;have Dl:=fE (fF.hH qt nf) z';refine⟨_,I,_,_,I,I,sl (by rw[kq];omega),?_⟩;rw[eA];refine⟨_,I,1,_,_,I,Dl,I,fm ⟨_,_,I,I,sl (by rw[cy,kq];omega),?_⟩⟩;rw[eA];refine⟨_,I,_,_,I,I,sl (by rw[cy,cy,kq];omega),?_⟩;rw[eA];refine⟨_,I,3,_,_,I,Dl,I,λCN oe=>⟨_,I,_,_,I,I,_,I,CN,k+1,M,a,b,c,ij,Aa,gA,cY,bM,cN,I,oe,ae,by omega,by omega,Zy,by omega,λqu rI Zz IS dS IT IU acw acx Hq acy _ hQ=>?_⟩⟩;refine⟨_,_,I,I,sl (by rw[cy,cy,cy,kq];omega),?_⟩;rw[eA];refine q _ (max rH rI) Zz IS dS ((xr.trans nf).trans IT) IU (by omega) (by omega) ?_ (by omega) ?_
   ·simp only[List.append_assoc];exact mk kM tc qu rH rI Zx Hp Hq
   ·simp only[List.length_append,kq];omega
  have fo:=dB hK aK;have pq:=jV.same hK;refine⟨v,κ,r,I,fo,λe=>?_,λam=>?_⟩
  ·subst e;cases aU with
   |fC eB cG aS cB ag=>
    refine⟨_,I,1,_,_,I,fo,I,λy aT=>⟨_,I,y,3,M,a,b,c,n,u,eB,cG,aS,cB,I,aT,ag,by omega,by omega,pq,by omega,λcs gc bv ec Z t ov y' bY de z8 _ au=>⟨S [110,111,116,32],_,I,I,sl (by show 4+_<=_;omega),?_⟩⟩⟩;rw[eA];exact q _ gc bv ec Z ((fF.of hK).trans t) ov (by omega) bY (.fC 3 eB cG aS gc cs (bf _) de) (by omega) (by rw[cy];show 4+_+6<=_;omega)
  refine⟨v,κ,r,I,fo,λe=>?_,λaE=>?_⟩
  ·subst e;cases aU with
   |gx eB cG aS cB ag=>
    refine⟨_,I,1,_,_,I,fo,I,λy aT=>⟨_,I,y,7,M,a,b,c,n,u,eB,cG,aS,cB,I,aT,ag,by omega,by omega,pq,by omega,λcs gc bv ec Z t ov y' bY de z8 _ au=>⟨S [45],_,I,I,sl (by show 1+_<=_;omega),?_⟩⟩⟩;rw[eA];exact q _ gc bv ec Z ((fF.of hK).trans t) ov (by omega) bY (.gx 7 eB cG aS gc cs (bf _) de) (by omega) (by rw[cy];show 1+_+6<=_;omega)
  refine⟨v,κ,r,I,fo,λe=>?_,λbq=>?_⟩
  ·subst e;cases aU with
   |fld eB cG aS cB x ag ak=>
    have acz:=GC ak;refine⟨_,I,1,_,_,I,fo,I,λy aT=>⟨_,I,y,8,M,a,b,c,n,u,eB,cG,aS,cB,I,aT,ag,by omega,by omega,pq,by omega,λcs gc bv ec Z t ov y' bY de z8 _ au=>⟨_,S [46],I,I,sl (by show _+1<=_;omega),?_⟩⟩⟩;rw[eA];refine⟨_,I,2,_,_,I,fE (fF.hH pq t) fo,I,fm ⟨_,_,I,I,sl (by rw[cy];show _+1+_<=_;omega),?_⟩⟩;rw[eA,hU];exact q _ gc bv ec Z ((fF.of hK).trans t) ov (by omega) bY (.fld 8 eB cG aS gc cs x de ak) (by omega) (by rw[cy,cy];show _+(1+_)+6<=_;omega)
  refine⟨v,κ,r,I,fo,λe=>?_,λbX=>?_⟩
  ·subst e;cases aU with
   |call eB cG aS cB ds be av ag sK bm=>
    refine⟨_,I,1,_,_,I,fo,I,λy aT=>⟨_,I,y,8,M,a,b,c,n,u,eB,cG,aS,cB,I,aT,ag,by omega,by omega,pq,by omega,λcs gc bv ec Z t ov y' bY de z8 _ au=>⟨_,S [40],I,I,sl (by show _+1<=_;omega),?_⟩⟩⟩;rw[eA];have gr:=(fF.of hK).trans t;have ko:=fE (fF.hH pq t) fo;refine⟨I,_,I,2,_,_,I,ko,I,λCN oe=>?_⟩;obtain⟨n9,xs,rfl,ax,u7⟩:=eI.mp oe;have ZA:=u7.len;refine⟨n9,I,⟨xs,ax⟩,?_⟩;refine Nj (vs:=[.ref M]) (NE K M a b c bv ec Z ds be av) xs (by omega) (VT I) (λD dh ys aB eE=>?_) (λD dh=>?_) (λD dh x ys aB QQ ex Dm eE cL=>?_) λD dh ys aB dT Dm eE=>?_
    ·obtain⟨_,_,_,_,_,_,_,_,_,_,_,_,_,_,_,_,gb,_⟩:=eE;exact dI.hH (fF.hH ov gb) ax
    ·exact⟨[],ds,[],0,0,0,be,av,bv,ec,I,.nil,sK,by omega,by omega,I,.of (cK dh _),ov.same (cK dh _),by omega,by omega,λz=>absurd I z,bf _⟩
    ·obtain⟨ps,eD,e2,cY,bM,cH,jy,bI,ij,Aa,vd,ei,bC,cX,cp,c1,gb,qt,Pm,Pn,IY,Ia⟩:=eE;have IZ:=ei.len;have acA:ys.length=ps.length:=by rw[c1,eV,IZ]
     obtain⟨aR,ak⟩:=FF u7 ex;cases bC with
     |nil=>
      rw[vd,me] at aR;omega
     |cons rB ni eT iP ZB qr lp b7 Da=>
      have eP:ds[ys.length]=rB:=by
       have:ds[ys.length]?=some rB:=by rw[vd,xI (by omega),show ys.length - ps.length=0 by omega];rfl
       rw[iB aR] at this;exact hB this
      rw[eP] at ak;refine⟨_,I,_,I,x,0,M,a,b,c,ij,Aa,rB,ni,eT,iP,I,fE (fF.hH ov gb) ak,b7,by omega,by omega,qt,by omega,λPo ZC ZD ZE gV Dn Pp acB acC ZF acD uL sV=>?_⟩;have Pq:D≠b:=d9 dh ov.s.yV;have Pr:D≠c:=d9 dh ov.k;have ZG:=Dn D _ Pq Pr Dm;have Ps:fF b c Z (upd gV D (.lst (ys++[.str (S Po)]))):=λp o ag ae e=>by rw[cj (d9 e dh)];exact Dn p o ag ae (gb p o ag ae e)
      refine cL _ gV ZG ⟨ps++[rB],ZB,e2++[Po],max cY ni,bM+eT,max cH ZC,qr,lp,ZD,ZE,by rw[vd];simp,ei.snoc ZF,Da,by omega,by omega,by rw[c1];simp,Ps,ov.go Ps (by rw[cj (d0 Pq)];exact Pp.s.yV) (by rw[cj (d0 Pr)];exact Pp.k),by omega,by omega,λ_=>?_,?_⟩
      ·have uL:=uL rfl;by_cases z:ps=[]
       ·subst z;cases ei;omega
       ·have:=IY z;omega
      ·simp only[List.map_append,List.sum_append,List.length_append,List.map_cons,List.map_nil,List.sum_cons,List.sum_nil,List.length_cons,List.length_nil];omega
    ·obtain⟨ps,eD,e2,cY,bM,cH,jy,bI,ij,Aa,vd,ei,bC,cX,cp,c1,gb,qt,Pm,Pn,IY,Ia⟩:=eE;have IZ:=ei.len;have f':eD=[]:=by
      have:ds.length=ps.length+eD.length:=by rw[vd,cy]
      have:ys.length=ps.length:=by rw[c1,eV,IZ]
      exact oC (by omega)
     subst f';cases bC;rw[me] at vd;subst vd;have em:e2.map (λc=>V.str (S c))=(e2.map S).map V.str:=by rw[kS];rfl
     rw[c1,em] at Dm;have acE:=ND e2;refine⟨_,D,_,I,I,bg.of Dm,by rw[Wl,eV];show _+e2.length*2<=_;omega,?_⟩;have l':=Wk e2;refine⟨_,_,I,I,?_,?_⟩
     ·rw[l'];exact sl (by rw[cy];show _+1+_<=_;omega)
     rw[l',eA];refine⟨_,S [41],I,I,sl (by rw[cy,cy];show _+1+_+1<=_;omega),?_⟩;rw[eA];have cm:=ag.pos;refine q _ (max gc (cH+1)) ij Aa aB (gr.trans gb) qt (by omega) (by omega) ?_ ?_ ?_
     ·have:=e9.call 8 eB cG aS gc cs ds cY bM cH (uz e2) de ei.NC bm;rw[show max cY 0=cY by omega] at cX;rw[show bM+0=bM by omega] at cp;subst cX cp;simp only[List.append_assoc];exact this
     ·by_cases z:ds=[]
      ·subst z;cases ei;omega
      ·have:=IY z;omega
     ·simp only[List.length_append,List.length_singleton];omega
  refine⟨v,κ,r,I,fo,λe=>?_,λdG=>?_⟩
  ·subst e;cases aU with
   |text cs aw au=>
    refine⟨_,I,1,_,_,I,fo,I,fm ⟨S [34],S cs,I,I,sl (by show 1+_<=_;omega),?_⟩⟩;rw[eA];refine⟨_,S [34],I,I,sl (by rw[cy];show 1+_+1<=_;omega),?_⟩;rw[eA];have h:=m'.text cs aw au;obtain⟨w,eJ,it,w2⟩:=h.lf;exact q _ 0 n u ai (.of hK) pq (by omega) (bf _) (.leaf 8 _ w _ eJ it) (by omega) (by rw[cy,cy];show 1+_+1+6<=_;omega)
  have leaf:∀cs,m' (.tup (.str κ.s::r)) cs->ad=1->p=1->k=8->Q (.str (S cs)) ai:=λcs h cX cp zL=>by
   obtain⟨w,eJ,it,w2⟩:=h.lf;subst cX cp zL;exact q cs 0 n u ai (.of hK) pq (by omega) (bf _) (.leaf 8 _ w _ eJ it) (by omega) (by omega)
  refine⟨v,I,0,_,_,I,fo,I,fm ⟨I,_,I,eqB (λe=>?_) λe=>?_⟩⟩
  ·have e:=ik.inj (b:=.none) e;subst e;cases aU with
   |a3=>exact leaf _ .a3 rfl rfl rfl
  cases aU with
  |name cs h=>exact⟨_,I,1,_,_,I,fo,I,fm (.t _ I (leaf cs (.name cs h) I I I))⟩
  |num hF h=>
   refine⟨_,I,1,_,_,I,fo,I,λy aT=>?_⟩;rw[hg.mp aT];have hl:(((hF:Nat):Int)).natAbs.log2 < 1920:=by
    show hF.log2 < 1920;by_cases hz:hF=0
    ·subst hz;decide
    ·have:hF.log2 < 60:=(Nat.log2_lt hz).mpr (by omega);omega
   refine .n _ rfl hl ?_;have aj:(Str.ofString (toString ((hF:Nat):Int)))=S (i8 hF):=by
    rw[<-EL (Str.ofString (toString ((hF:Nat):Int))),W.KIN.signs_num];rfl
   show Q (.str (Str.ofString (toString ((hF:Nat):Int)))) ai;rw[aj];exact leaf _ (.num hF h) rfl rfl rfl
  |p7 b=>
   refine⟨_,I,1,_,_,I,fo,I,λy aT=>?_⟩;rw[ie.mp aT];refine .b _ rfl ?_;cases b
   ·exact leaf _ .yZ rfl rfl rfl
   ·exact leaf _ .p7 rfl rfl rfl
  |a3=>exact absurd rfl e
  |text=>exact absurd rfl dG
  |fld=>exact absurd rfl bq
  |call=>exact absurd rfl bX
  |gx=>exact absurd rfl aE
  |fC=>exact absurd rfl am
  |two=>exact absurd rfl bS
  |both=>exact absurd rfl cH
theorem NH {fp Do:Addr}{oJ zE:FuncData}(g:f9 K mg) (rJ:b5 K "_law_put" "_law_put" Cm fp oJ) (sZ:mg "_law_put"=some (.ref fp)) (I0:Binds K oJ vj []) (Dp:b5 K "_law_text" "_law_text" Cn Do zE) (lm:mg "_law_text"=some (.ref Do)) (I1:Binds K zE vn []) (ma:d7 P w K mg base "_law_cell" vo 1 (wL K)) (gM:d7 P w K mg base "_law_rank" mQ 1 (y1 K)):∀m,d7 P w K mg base "_law_put" vj (2*m+3) (Cp K m)
 |0=>by
  have jC:d7 P w K mg base "_law_text" vn 2 (Co K 0):=⟨Do,zE,lm,Dp.cZ,I1,⟨λvs H Q E h=>by obtain⟨_,_,_,_,_,_,_,_,_,_,_,rfl,_⟩:=h;rfl,λA outer s H args us vs Q E _ _ _ _ h=>by
   obtain⟨_,_,_,_,_,_,_,_,_,_,_,_,_,h,cd,_⟩:=h;have:=h.pos;omega⟩⟩
  exact⟨fp,oJ,sZ,rJ.cZ,I0,NB g rJ ma gM jC (by decide)⟩
 |m+1=>by
  have jc:=NH g rJ sZ I0 Dp lm I1 ma gM m;have jC:d7 P w K mg base "_law_text" vn (2*m+3+1) (Co K (m+1)):=⟨Do,zE,lm,Dp.cZ,I1,Wo g Dp ma gM jc (by omega)⟩;have:=NB g rJ ma gM jC (by omega);rw[show 2*m+3+1+1=2*(m+1)+3 by omega] at this;exact⟨fp,oJ,sZ,rJ.cZ,I0,this⟩
end
inductive NI (K:aJ) (bw:TE) (aa:L2.St) (H:ap) (Q:bz):Prop
 |mk:(bw aa H λx ai=>∃a xs,x=.ref a/\bg K ai a xs/\∀p ys,ai p=none->(∀y∈ys,y∈xs)->Q (.ref p) (upd ai p (.lst ys)))->NI K bw aa H Q
theorem NJ {xs:br}:∀{us:e3},(∀u∈us,∃v∈xs,RelV v u)->∃ys,b4 ys us/\∀y∈ys,y∈xs
 |[],_=>⟨[],.nil,by simp⟩
 |u::us,h=>by
  obtain⟨v,aK,r⟩:=h u jG;obtain⟨ys,ag,ae⟩:=NJ (us:=us) λz hz=>h z (j4 _ hz);exact⟨v::ys,.cons r ag,λy aT=>by rcases gZ.mp aT with rfl|z;exact aK;exact ae y z⟩
def Wp {xs us}(h:b4 xs us):∀u∈us,∃v∈xs,RelV v u:=by
 induction h with
 |nil=>intro u bY;cases bY
 |cons r _ ih=>
  intro u bY;rcases gZ.mp bY with rfl|z
  ·exact⟨_,jG,r⟩
  ·obtain⟨v,ag,ae⟩:=ih u z;exact⟨v,j4 _ ag,ae⟩
def Wq {X:a8} {e bw bM bI pos j}(he:LE X e bw):LE X (.Subscript e (.Slice none none (some (.Constant (.int 2) j bI)) bM) pos) (NI X.K bw):=bc.LE.mk (by
 intro ac s aa H Q J ⟨h⟩;refine Subscript_ (bW (he.out ac s aa H _ J h) λv az ⟨x,ai,a6,bR,aZ⟩=>?_);obtain⟨a,xs,rfl,aD,q⟩:=aZ;refine wpAny_Slice (by
  rw[evalPart_none];refine b3 ?_;refine b3 ?_;refine bW ((m3 aO (X:=X)).out ac az aa ai (λo H=>o=some 2/\H=ai) a6 ⟨_,I,I,I⟩) λu2 aN ⟨o,aB,ci,pt,ft,u1⟩=>?_;subst ft u1;have lw:Inv X ac aa aB { aN with heap:=aN.heap.push { cls:=.type "slice",data:=.fields #[.none,.none,u2] } }:=ci.kept (t':=aN.toks) λb c7 q=>ej _ q;cases bR;obtain⟨aL,r,Pt,hz⟩:=lw.list aD;have au:=r.length;have a1:wpAny (model X.prog X.w) X.A (getItem (.ref a) (.ref aN.heap.objs.size)) (gC X ac aa Q) X.cR { aN with heap:=aN.heap.push { cls:=.type "slice",data:=.fields #[.none,.none,u2] } }:=by
   refine wpAny_getItem_list_slice Pt.isList (Heap.IsSliceOf.new ..) .none .none pt (by decide) ?_ (by rw[gu];omega);obtain⟨ys,j1,hT⟩:=NJ (xs:=xs) (us:=(slicePick aL.toArray none none (some 2)).toList) λu bY=>by
    refine Wp r u ?_;unfold slicePick at bY;simp only[List.mem_filterMap] at bY;obtain⟨i,_,aR⟩:=bY;rw[List.getElem?_toArray] at aR;exact qE aR
   have aT:ys.length<=sizeLine:=by
    have:=j1.length;have:=slicePick_size_le aL.toArray none none (some 2);rw[<-Array.length_toList,gu] at this;omega
   refine⟨.ref _,_,lw.laid (t':=aN.toks) (o:=.lst ys) (λb c7 q=>ej _ q) (bf _) ?_,I,q _ ys (lw.bA.fresh (bf _)) hT⟩;exact⟨aT,_,0,j1,hN _ I⟩
  show wpAny (model X.prog X.w) X.A (subscriptTail e (.Slice none none (some (.Constant (.int 2) j bI)) bM) (.ref a) (.ref aN.heap.objs.size)) (gC X ac aa Q) X.cR { aN with heap:=aN.heap.push { cls:=.type "slice",data:=.fields #[.none,.none,u2] } };exact tail_any (ops:=[.ref a,.ref aN.heap.objs.size]) Pt.isList.typeIs slot_list_getitem.lookup a1 (by with_unfolding_all rfl)))
mutual
theorem d2.c2:∀{d a p k},d2 d a p k->GS.c2 d<=2*a
 |_,_,_,_,.leaf d cs h=>by cases h<;>simp[GS.c2,fk]
 |_,_,_,_,.fld d a p k x h _=>by have:=h.c2;simp only[GS.c2,fk];omega
 |_,_,_,_,.call d a p k ds be av h h' _=>by have:=h.c2;have:=h'.c2;simp only[GS.c2,fk];omega
 |_,_,_,_,.gx d a p k h=>by have:=h.c2;simp only[GS.c2,fk];omega
 |_,_,_,_,.fC d a p k h=>by have:=h.c2;simp only[GS.c2,fk];omega
 |_,_,_,_,.two x d a p k d' be av k' _ h h'=>by have:=h.c2;have:=h'.c2;simp only[GS.c2,fk];omega
 |_,_,_,_,.both b d a p k d' be av k' h h'=>by have:=h.c2;have:=h'.c2;simp only[GS.c2,fk];omega
theorem jx.c2:∀{ds a p},jx ds a p->fk ds<=2*a
 |_,_,_,.nil=>by simp[fk]
 |_,_,_,.cons d a p k ds be av h h'=>by have:=h.c2;have:=h'.c2;simp only[fk];omega
end
abbrev GD:Stmt:=top 110
inductive uA (m:Nat):D->Nat->Prop
 |str z:uA m (.str z) 0
 |int i:uA m (.int i) 0
 |aM b:uA m (.aM b) 0
 |tree d a p k:d2 d a p k->a<=m->uA m d p
 |args ds a p:jx ds a p->a<=m->ds.length<=4->uA m (.tup ds) p
inductive y2 (m:Nat):d8->Nat->Prop
 |nil:y2 m [] 0
 |cons d p ds q:uA m d p->y2 m ds q->y2 m (d::ds) (p+q)
def lR.vY {κ r a p k m}(h:lR κ r a p k) (aQ:a<=m+1):∃q,y2 m r q/\p=1+q:=by
 cases h with
 |name cs h=>exact⟨_,.cons _ _ _ _ (.str _) .nil,I⟩
 |num n h=>exact⟨_,.cons _ _ _ _ (.int _) .nil,I⟩
 |text cs h h'=>exact⟨_,.cons _ _ _ _ (.str _) .nil,I⟩
 |p7 b=>exact⟨_,.cons _ _ _ _ (.aM _) .nil,I⟩
 |a3=>exact⟨_,.nil,I⟩
 |fld d a p k x h h'=>exact⟨_,.cons _ _ _ _ (.tree d a p k h (by omega)) (.cons _ _ _ _ (.str _) .nil),I⟩
 |call d a p k ds be av h h' bm=>exact⟨_,.cons _ _ _ _ (.tree d a p k h (by omega)) (.cons _ _ _ _ (.args ds be av h' (by omega) bm) .nil),I⟩
 |gx d a p k h=>exact⟨_,.cons _ _ _ _ (.tree d a p k h (by omega)) .nil,I⟩
 |fC d a p k h=>exact⟨_,.cons _ _ _ _ (.tree d a p k h (by omega)) .nil,I⟩
 |two x d a p k d' be av k' _ h h'=>exact⟨_,.cons _ _ _ _ (.str _) (.cons _ _ _ _ (.tree d a p k h (by omega)) (.cons _ _ _ _ (.tree d' be av k' h' (by omega)) .nil)),by omega⟩
 |both b d a p k d' be av k' h h'=>exact⟨_,.cons _ _ _ _ (.str _) (.cons _ _ _ _ (.tree d a p k h (by omega)) (.cons _ _ _ _ (.tree d' be av k' h' (by omega)) .nil)),by omega⟩
def Wr (ds) (n:Nat):cutD ds (some (n:Int)) none=ds.drop n:=by
 unfold cutD;rw[i0.Q5,i0.Q6];by_cases h:n<=ds.length
 ·rw[Nat.min_eq_left h,DN (by rw[j6];exact bf _)]
 ·rw[Nat.min_eq_right co,qF,vz co,List.take_nil]
inductive NK (K:aJ) (m:Nat) (vs:br) (H:ap) (Q:bz):Prop
 |mk v d a p k:vs=[v]->At K H d v->d2 d a p k->a<=m->m<=20->p<=1000->(∀Z,ba H Z->Q (.int (p:Nat)) Z)->NK K m vs H Q
def Ct (K:aJ) (m:Nat):e6:=λvs H Q _=>NK K m vs H Q
def y3:cE ["_law_tree_here","_law_found","_law_part"] mQ (bF GD):=dm
inductive Cu (K:aJ) (m:Nat) (H:ap) (v:V) (r:d8) (p i:Nat) (jg:Nat) (aa:L2.St) (Z:ap):Prop
 |mk hy q op:jg=r.length - i->i<=r.length->aa=[some v,some (.int ((hy:Nat):Int)),op]->ba H Z->y2 m (r.drop i) q->hy+q=p->Cu K m H v r p i jg aa Z
inductive Cv (m:Nat) (d:D) (p:Nat):Prop
 |wV:p=0->(∀K,PySem.W.kitOne K (.type (yf d)) (.type "tuple")=some false)->Cv m d p
 |args ds a:d=.tup ds->jx ds a p->a<=m->ds.length<=4->Cv m d p
inductive NL (K:aJ) (m:Nat) (aa:L2.St) (H:ap) (Q:Bool->ap->Prop):Prop
 |mk v hy x d p:aa=[some v,some hy,some x]->uA m d p->m<=20->At K H d x->(∀a k Z,ba H Z->d2 d a p k->a<=m->Q true Z)->(∀Z,ba H Z->Cv m d p->Q false Z)->NL K m aa H Q
inductive NM (K:aJ) (m:Nat) (H:ap) (ds:d8) (p:Nat) (ys:br) (Z:ap):Prop
 |mk (ns:bh) cY bM:ys=ns.map (λn=>V.int ((n:Nat):Int))->jx (ds.drop ys.length) cY bM->cY<=m->ns.sum+bM=p->ba H Z->NM K m H ds p ys Z
section
variable {K:aJ}{P:Program}{w:World}{mg:Str->cn}{base:Heap}{f:Addr}{as:FuncData}
theorem NN (g:Glb5 K mg) (F:b5 K "_law_parts" "_law_parts" GD f as) (aQ:mg "_law_parts"=some (.ref f)) (z6:Binds K as mQ []):∀m,bK P w K mg base dJ (m+1) f as mQ (Ct K m)
 |0=>⟨λvs H Q E h=>by obtain⟨_,_,_,_,_,rfl,_⟩:=h;rfl,λA outer s H args us vs Q E _ _ _ _ h=>by
   obtain⟨_,_,_,_,_,_,_,h,cd,_⟩:=h;have:=h.pos;omega⟩
 |m+1=>by
  have ve:d7 P w K mg base "_law_parts" mQ (m+1) (Ct K m):=⟨f,as,aQ,F.cZ,z6,NN g F aQ z6 m⟩;refine F.ye y3 (λvs H Q E h=>?_) (λbk A outer s H vs Q E al h=>?_)
  ·obtain⟨_,_,_,_,_,rfl,_⟩:=h;rfl
  obtain⟨v,d,a,p,k,rfl,aK,hd,aq,acF,ar,q⟩:=h;refine⟨_,(aX (ct 1 y3.bp aO) (aX (mo rV I (r4 (qQ Ss (ah 0) (m3 aO) vT)) (h1 2 y3.bp) (a9 (ck (NA (t':=NL K m) (gy.pt (kb (hD (e7 A8 I g.tR v3 (c6 (ah 2) (oG (v:=.ty "tuple") I g.g.g.sv su I)))) (kb (c3 (Ly al) (ah 2) (cP dc)) (kz (hD (e7 A8 I g.tR v3 (c6 (ef (ah 2)) (oG (v:=.ty "str") I g.g.g.g2.g.A3 A2 I)))))))) ?z7) (a9 (ct 1 y3.bp (a5 f3 (ah 1) (bc.fg ve (bx (ah 2)) al (bf _))))) (a9 (ck (hD (e7 A8 I g.tR v3 (c6 (ah 2) (oG (v:=.ty "tuple") I g.g.g.sv su I)))) (a9 (ct 1 y3.bp (a5 f3 (ah 1) (e7 (MP I) I g.g.g.ME L2.boot_sum (bx (.mk (L2.t8 (cl:=[]) (Xs:=["_law_one"]) (Nf:=[]) (js:=[]) Bp I (jM.out (r4 (ah 2))) (λC s0 aI fp=>jq.out (h1 0 (show(["_law_one"]:dH).Nodup by decide +kernel))) (λC s0 aI fp=>so) (λC s0 aI fp=>LE.out (bc.fg ve (bx (ah 0)) al (bf _))))))))))
      cA)))))
   (a9 (bE (ah 1))))),?main⟩
  case main=>
   obtain⟨κ,r,rfl,aU⟩:=hd.wR;obtain⟨ZH,HR,cp⟩:=aU.vY (m:=m) aq;refine⟨_,I,_,I,_,aK,λlz ai az Pu=>?_⟩;rw[show(some (1:Int))=some ((1:Nat):Int) from I,Wr] at Pu;obtain⟨n9,xs,rfl,ax,u7⟩:=eI.mp (show At K ai (.tup r) lz from Pu);have ZA:=u7.len;refine⟨n9,I,⟨xs,ax⟩,Cu K m ai v r p,⟨r.length,1,ZH,none,by omega,fN _,I,ba.refl _,HR,by omega⟩,?_⟩;rintro i jg aa aB ⟨hy,bn,op,rfl,aR,rfl,aN,Ab,CP⟩;have gq:dI K aB n9 xs:=dI.hH (h2.of aN) ax;rcases tp i r.length with cM|I2
   ·refine .inr ⟨⟨xs,xs[i]'(by omega),gq,iB _⟩,λσ' Z=>Cu K m ai v r p (i+1) (r.length - (i+1)) σ' Z,λσ' Z h=>⟨_,by omega,h⟩,λx a7 ak=>?_⟩;obtain⟨rfl,ak⟩:=ak;obtain⟨zO,ak⟩:=FF u7 (ak xs gq);have ak:=dB aN ak;rw[vA cM] at Ab;generalize r[i]=eg at Ab ak;cases Ab with
    |cons _ qv _ ZI he wE=>
     have I3:∀(f2:Nat) (b1:ap),ba a7 b1->f2=hy+qv->Cu K m ai v r p (i+1) (r.length - (i+1)) [some v,some (.int ((f2:Nat):Int)),some x] b1:=λf2 b1 z e=>⟨f2,ZI,_,I,cM,I,aN.trans z,wE,by omega⟩;refine⟨v,_,x,eg,qv,I,he,by omega,ak,λcY cN b1 hn ae rF=>fz ?_,λb1 hn dx=>dr ?_⟩
     ·exact⟨_,I,_,I,x,eg,cY,qv,cN,I,dB hn ak,ae,rF,by omega,by omega,λdS ow=>⟨_,_,I,I,I3 (hy+qv) dS (hn.trans ow) I⟩⟩
     have pp:=dB hn ak;cases dx with
     |wV dD xt=>exact⟨_,I,_,_,_,false,I,pp,xt K,_,I,dr (I3 hy b1 hn (by omega))⟩
     |args ds cY eP ae rF bm=>
      subst eP;obtain⟨ZJ,zs,rfl,af,Pw⟩:=eI.mp pp;have acG:=Pw.len;refine⟨_,I,_,_,_,true,I,pp,tS K _,_,I,fz ⟨_,I,_,I,ZJ,I,⟨zs,af⟩,?_⟩⟩;refine Nj (vs:=[]) (λ_ ys Z=>NM K m b1 ds qv ys Z) zs (by omega) VV (λD dh ys dS eE=>?_) (λD dh=>⟨[],cY,qv,I,ae,rF,by simp,cK dh _⟩) (λD dh y ys dS QQ ex aT eE cL=>?_) λD dh ys dS dT aT eE=>?_
      ·obtain⟨_,_,_,_,_,_,_,ow⟩:=eE;exact dI.hH (h2.of ow) af
      ·obtain⟨ns,ni,eT,c1,b7,ZK,aj,ow⟩:=eE;obtain⟨Px,Py⟩:=FF Pw ex;rw[vA Px] at b7;generalize aD:ds[ys.length]=xd at b7 Py;cases b7 with
       |cons _ qr lp w3 _ xk pk dZ g9=>
        refine⟨_,I,y,xd,qr,lp,w3,I,dB ow Py,dZ,by omega,by omega,by omega,λgV vf=>?_⟩;refine cL _ gV (vf _ _ aT) ⟨ns++[lp],xk,pk,by rw[c1];simp,by rw[cy];exact g9,by omega,by rw[AD];show ns.sum+(lp+0)+pk=qv;omega,bD.wl dh (ow.trans vf) (bD.i4 D gV _)⟩
      ·obtain⟨ns,ni,eT,c1,b7,ZK,aj,ow⟩:=eE;rw[vz (by omega)] at b7;cases b7;rw[c1] at aT;refine⟨D,ns,I,bg.of aT,by omega,_,_,I,I,?_⟩;exact I3 (hy+ns.sum) dS (hn.trans ow) (by omega)
   ·refine .inl ⟨⟨xs,gq,by omega⟩,_,I,?_⟩;rw[vz (by omega)] at Ab;cases Ab;rw[show hy=p by omega];exact q aB (az.trans aN)
  case z7=>
   rintro aa a7 oq ⟨v,hy,x,eg,qv,rfl,he,acH,ak,ZL,xt⟩;have wV:∀b,yf eg=b->(∀K,PySem.W.kitOne K (.type b) (.type "tuple")=some false)->qv=0->Cv m eg qv:=λb e h cd=>.wV cd λK=>by rw[e];exact h K
   cases he with
   |str z=>exact⟨_,I,_,_,_,false,I,ak,I,_,I,dr (xt a7 (ba.refl _) (.wV I λ_=>I))⟩
   |int z=>exact⟨_,I,_,_,_,false,I,ak,I,_,I,dr (xt a7 (ba.refl _) (.wV I λ_=>I))⟩
   |aM z=>exact⟨_,I,_,_,_,false,I,ak,I,_,I,dr (xt a7 (ba.refl _) (.wV I λ_=>I))⟩
   |tree _ cY _ cN ae rF=>
    have ZM:=ae.c2;obtain⟨ZN,dL,aE,_⟩:=ae.wR;have cL:PySem.W.kitOne K (.type (yf eg)) (.type "tuple")=some true:=by rw[aE];exact tS K _
    refine⟨_,I,_,_,_,true,I,ak,cL,_,I,fz ⟨_,I,kh,λhA nv=>?_⟩⟩;have hn:=cK nv (.tup []);have cd:At K (upd a7 hA (.tup [])) (.tup []) (.ref hA):=At.new nv (f5.mpr I);generalize upd a7 hA (.tup [])=b1 at hn cd⊢;have pp:=dB hn ak;refine⟨eg,.tup [],pp,cd,by omega,_,I,?_⟩;have ne:(!cx eg (.tup []))=true:=by rw[aE];rfl
    rw[ne];have Pz:=pp;rw[aE] at Pz;exact fz ⟨_,I,0,_,_,I,Pz,I,fm ⟨_,_,.str ZN.s,true,I,cz.mpr I,tS K _,_,I,ZL cY cN b1 hn ae rF⟩⟩
   |args ds cY _ ae rF bm=>
    have ZM:=ae.c2;have fin:=λZ z=>xt Z z (.args ds cY I ae rF bm);refine⟨_,I,_,_,_,true,I,ak,tS K _,_,I,fz ⟨_,I,kh,λhA nv=>?_⟩⟩;have hn:=cK nv (.tup []);have cd:At K (upd a7 hA (.tup [])) (.tup []) (.ref hA):=At.new nv (f5.mpr I);generalize upd a7 hA (.tup [])=b1 at hn cd⊢;have pp:=dB hn ak;refine⟨.tup ds,.tup [],pp,cd,by simp only[c2];omega,_,I,?_⟩;cases ae with
    |nil=>exact dr (fin b1 hn)
    |cons xd qr lp w3 ou xk pk dZ g9=>
     obtain⟨acI,acJ,f8,_⟩:=dZ.wR;subst f8;exact fz ⟨_,I,0,_,_,I,pp,I,λy aT=>⟨_,_,_,false,I,aT,I,_,I,fin b1 hn⟩⟩
abbrev GF:Stmt:=top 109
inductive GG (K:aJ) (vs:br) (H:ap) (Q:bz) (dA:cJ):Prop
 |mk z v d a p k:vs=[.str z,v]->z.length<=100000->At K H d v->d2 d a p k->a<=7->p<=1000->(∀b Z,ba H Z->Q (.aM b) Z)->GG K vs H Q dA
def uB:cE ["_law_text_here","_law_tree_here","_law_nest","_law_most","_law_part","_law_sign"] Dx (bF GF):=dm
inductive GH (H:ap) (z:Str) (v:V) (vg i:Nat) (jg:Nat) (aa:L2.St) (Z:ap):Prop
 |mk (ne Ac:Int) fX gN:jg=vg - i->i<=vg->aa=[some (.str z),some v,some (.int ne),some (.int Ac),fX,gN]->ba H Z->GH H z v vg i jg aa Z
inductive GI (H:ap) (z:Str) (v y:V) (vg i:Nat) (jg:Nat) (aa:L2.St) (Z:ap):Prop
 |mk (ne Ac:Int) gN:jg=vg - i->i<=vg->aa=[some (.str z),some v,some (.int ne),some (.int Ac),some y,gN]->ba H Z->GI H z v y vg i jg aa Z
def Ws (g:Glb5 K mg) (F:b5 K "_law_fits" "_law_fits" GF f as) (ve:d7 P w K mg base "_law_parts" mQ 8 (Ct K 7)):bK P w K mg base dJ 9 f as Dx (GG K):=by
 refine F.kj uB ?_;rintro bk A outer s H vs Q E al ⟨z,v,d,a,p,k,rfl,hz,aK,hd,aq,ar,q⟩ ll;refine⟨_,(aX (ct 2 uB.bp aO) (aX (ct 3 uB.bp aO) (aX (mo rV I (pO (Wq (hb lu vw DP EE (ah 0) (bx aV)))) (h1 4 uB.bp) (a9 (mo rV I (qV (ah 4)) (h1 5 uB.bp) (aX (ct 2 uB.bp (a5 kZ (a5 f3 (ah 2) (ke x1 I g.g.g.g2.g.v7 v5 (bx (jP eY (ah 5) aV)))) (ke x1 I g.g.g.g2.g.v7 v5 (bx (jP eY (ah 5) aV))))) (a9 (ct 3 uB.bp (e7 (QH I) I g.g.g.MD L2.boot_max (c6 (ah 3) (ah 2))))))))) (a9 (bE (qL (jP jn (bc.fg ve (bx (ah 1))) aO) (oH (jP jn (ah 3) aO)))))))),?_⟩;refine⟨_,I,I,_,_,I,I,by decide,by rw[jH];omega,λhA nv=>⟨hA,_,I,bg.of b',λaS ys cm HS=>?_⟩⟩;have hK:=(cK nv (.lst ((Txt.split z "\"").map V.str))).trans (cK cm (.lst ys));have am:upd (upd H hA (.lst ((Txt.split z "\"").map V.str))) aS (.lst ys) aS=some (.lst ys):=b';generalize upd (upd H hA (.lst ((Txt.split z "\"").map V.str))) aS (.lst ys)=ai at hK am⊢;refine⟨aS,I,⟨ys,bg.of am⟩,GH ai z v ys.length,⟨ys.length,0,0,none,none,by omega,fN _,I,ba.refl _⟩,?_⟩;rintro i jg aa aB ⟨ne,Ac,fX,gN,rfl,aR,rfl,aN⟩;have gq:bg K aB aS ys:=bg.of (aN _ _ am);rcases tp i ys.length with cM|I2
 ·refine .inr ⟨⟨ys,ys[i],gq,iB _⟩,λσ' Z=>GH ai z v ys.length (i+1) (ys.length - (i+1)) σ' Z,λσ' Z h=>⟨_,by omega,h⟩,λx a7 ak=>?_⟩;obtain⟨rfl,ak⟩:=ak;have ak:=ak ys gq;obtain⟨y,_,rfl⟩:=mU.mp (HS x (qE ak));refine⟨_,I,y,I,GI a7 z v (.str y) y.length,⟨y.length,ne,Ac,gN,by omega,fN _,I,ba.refl _⟩,?_⟩;rintro j im ip b1 ⟨ZO,ZP,gN,rfl,c',rfl,dp⟩;rcases tp j y.length with sN|ZQ
  ·refine .inr ⟨?_,λσ' Z=>GI a7 z v (.str y) y.length (j+1) (y.length - (j+1)) σ' Z,λσ' Z h=>⟨_,by omega,h⟩,λc dS aw=>?_⟩
   ·exact sN
   ·obtain⟨rfl,c,_,rfl⟩:=aw;exact⟨_,I,_,I,I,.inr ⟨_,I,_,_,I,I,_,I,I,.inr ⟨_,I,_,_,I,I,_,I,_,I,_,_,I,_,_,_,I,sN,I,dp⟩⟩⟩
  ·refine .inl ⟨?_,?_⟩
   ·exact ZQ
   ·exact⟨ZO,ZP,_,_,I,cM,I,aN.trans dp⟩
 ·refine .inl ⟨⟨ys,gq,by omega⟩,?_⟩;refine⟨_,I,v,d,a,p,k,I,dB (hK.trans aN) aK,hd,aq,by decide,ar,λa7 a2=>⟨_,_,I,I,_,I,fR (λ_=>⟨_,I,_,_,I,I,q _ a7 ((hK.trans aN).trans a2)⟩) λ_=>q _ a7 ((hK.trans aN).trans a2)⟩⟩
abbrev GJ:Stmt:=top 112
inductive o3 (cs:bh) (d:D):bh->D->Prop
 |set:o3 cs d (code "x1 = "++cs) (.tup [.str "set",.str (S [120,49]),d])
 |ret:o3 cs d (code "return "++cs) (.tup [.str "return",d])
 |p6:o3 cs d (code "f_("++cs++[41]) (.tup [.str "do",.tup [.str "call",.tup [.str "name",.str (S [102,95])],.tup [d]]])
 |put:o3 cs d (code "y.z = "++cs) (.tup [.str "put",.tup [.str "name",.str (S [121])],.str (S [122]),d])
 |o2:o3 cs d (code "while "++cs++code ":\n    pass") (.tup [.str "while",d,.tup [nY],.tup []])
inductive GK (K:aJ) (vs:br) (H:ap) (Q:bz) (dA:cJ):Prop
 |mk cs d v i:vs=[.str (S cs),v,.int i]->At K H d v->cs.length<=100000->(∀l e x Z,ba H Z->o3 cs d l e->At K Z (.tup [.str (S l),e]) x->Q x Z)->GK K vs H Q dA
def Wt:cE Af Af (bF GJ):=dm
def Wu (g:Glb5 K mg) (F:b5 K "_law_shape" "_law_shape" GJ f as):bK P w K mg base dJ 1 f as Af (GK K):=by
 refine F.kj Wt ?_;rintro bk A outer s H vs Q E al ⟨cs,d,v,i,rfl,aK,au,q⟩ ll;refine⟨_,(aX (ck (c3 eY (a5 fx (ah 2) aO) aO) (a9 (bE (cP (c6 (a5 e5 aV (ah 0)) (cP (fb aV aV (ah 1))))))) cA) (aX (ck (c3 eY (a5 fx (ah 2) aO) aO) (a9 (bE (cP (c6 (a5 e5 aV (ah 0)) (cP (c6 aV (ah 1))))))) cA) (aX (ck (c3 eY (a5 fx (ah 2) aO) aO) (a9 (bE (cP (c6 (a5 e5 (a5 e5 aV (ah 0)) aV) (cP (c6 aV (cP (fb aV (cP (c6 aV aV)) (cP (bx (ah 1))))))))))) cA) (aX (ck (c3 eY (a5 fx (ah 2) aO) aO) (a9 (bE (cP (c6 (a5 e5 aV (ah 0)) (cP (i3 aV (cP (c6 aV aV)) aV (ah 1))))))) cA) (a9 (bE (cP (c6 (a5 e5 (a5 e5 aV (ah 0)) aV) (cP (i3 aV (ah 1) (cP (bx (cP (bx aV)))) (cP dc))))))))))),?_⟩;have om:(0:Int) < 5:=by decide
 have fin:∀l e ai y,ba H ai->o3 cs d l e->At K ai e y->∀p,ai p=none->Q (.ref p) (upd ai p (.tup [.str (S l),y])):=λl e ai y z h aT p ar=>q l e _ _ (z.trans (cK ar _)) h (At.new ar (ht (cz.mpr I) aT));have og:∀a:bh,a.length<=20->(S a).length+(S cs).length<=sizeLine:=λa h=>sl (by omega);have PA:∀a b:bh,a.length<=20->b.length<=20->(S (a++cs)).length+(S b).length<=sizeLine:=λa b h h'=>sl (by rw[cy];omega);refine⟨_,I,_,_,I,I,om,I,_,I,fR (λ_=>?_) λ_=>?_⟩
 ·refine⟨_,I,S (code "x1 = "),S cs,I,I,og _ (by decide),?_⟩;rw[eA];refine⟨_,I,lO,λaS cm=>⟨e',fin _ _ _ _ (cK cm _) .set (At.new cm (my (cz.mpr I) (cz.mpr I) aK))⟩⟩
 refine⟨_,I,_,_,I,I,om,I,_,I,fR (λ_=>?_) λ_=>?_⟩
 ·refine⟨_,I,S (code "return "),S cs,I,I,og _ (by decide),?_⟩;rw[eA];refine⟨_,I,e',λaS cm=>⟨e',fin _ _ _ _ (cK cm _) .ret (At.new cm (ht (cz.mpr I) aK))⟩⟩
 refine⟨_,I,_,_,I,I,om,I,_,I,fR (λ_=>?_) λ_=>?_⟩
 ·refine⟨_,I,S (code "f_("),S cs,I,I,og _ (by decide),?_⟩;rw[eA];refine⟨_,S [41],I,I,PA _ _ (by decide) (by decide),?_⟩;rw[eA];refine⟨e',λaS cm=>⟨_,I,ki,λbM ed=>⟨lO,λbI gs=>⟨e',λkt kL=>⟨e',?_⟩⟩⟩⟩⟩;have az:=cK cm (.tup [.str "name",.str "f_"]);have aN:=cK ed (.tup [v]);have a2:=cK gs (.tup [.str "call",.ref aS,.ref bM]);have ag:At K _ (.tup [.str "name",.str (S [102,95])]) (.ref aS):=At.new cm (ht (cz.mpr I) (cz.mpr I));have ae:At K _ (.tup [d]) (.ref bM):=At.new ed (bB.jS (dB az aK));have aW:At K _ (.tup [.str "call",.tup [.str "name",.str (S [102,95])],.tup [d]]) (.ref bI):=At.new gs (my (cz.mpr I) (dB aN ag) ae);exact fin _ _ _ _ (az.trans (aN.trans (a2.trans (cK kL _)))) .p6 (At.new kL (ht (cz.mpr I) aW))
 refine⟨_,I,_,_,I,I,om,I,_,I,fR (λ_=>?_) λ_=>?_⟩
 ·refine⟨_,I,S (code "y.z = "),S cs,I,I,og _ (by decide),?_⟩;rw[eA];refine⟨e',λaS cm=>⟨_,I,q6,λbM ed=>⟨e',?_⟩⟩⟩;have az:=cK cm (.tup [.str "name",.str "y"]);have ag:At K _ (.tup [.str "name",.str (S [121])]) (.ref aS):=At.new cm (ht (cz.mpr I) (cz.mpr I));exact fin _ _ _ _ (az.trans (cK ed _)) .put (At.new ed (fQ.mpr ⟨_,_,I,cz.mpr I,my ag (cz.mpr I) (dB az aK)⟩))
 refine⟨_,I,S (code "while "),S cs,I,I,og _ (by decide),?_⟩;rw[eA];refine⟨_,S (code ":\n    pass"),I,I,PA _ _ (by decide) (by decide),?_⟩;rw[eA];refine⟨_,I,ki,λaS cm=>⟨ki,λbM ed=>⟨kh,λbI gs=>⟨q6,λkt kL=>⟨e',?_⟩⟩⟩⟩⟩;have az:=cK cm (.tup [.str "pass"]);have aN:=cK ed (.tup [.ref aS]);have a2:=cK gs (.tup []);have ag:At K _ nY (.ref aS):=At.new cm (bB.jS (cz.mpr I));have ae:=At.new (K:=K) ed (bB.jS ag);have aW:At K _ (.tup []) (.ref bI):=At.new gs (f5.mpr I);exact fin _ _ _ _ (az.trans (aN.trans (a2.trans (cK kL _)))) .o2 (At.new kL (fQ.mpr ⟨_,_,I,cz.mpr I,my (dB (az.trans (aN.trans a2)) aK) (dB a2 ae) aW⟩))
end
theorem GL (c:Nat):∀parts:dH,(Str.join ⟨#[c]⟩ parts).cps.toList=da c (parts.map λz=>z.cps.toList)
 |[]=>rfl
 |[p]=>rfl
 |p::q::r=>by
  have ih:=GL c (q::r);show(p++⟨#[c]⟩++Str.join ⟨#[c]⟩ (q::r)).cps.toList=p.cps.toList++c::da c ((q::r).map λz=>z.cps.toList);simp only[Str.cps_append,Array.toList_append];rw[ih];simp
def Wv (c:Nat) (rows:List (bh)):Txt.join ⟨#[c]⟩ (rows.map S)=S (da c rows):=by
 have aE:Txt.join ⟨#[c]⟩ (rows.map S)=Str.join ⟨#[c]⟩ (rows.map S):=AG _ _;rw[aE,<-EL (Str.join ⟨#[c]⟩ (rows.map S)),GL,kS];congr 2;have:((λz:Str=>z.cps.toList)∘S)=id:=by funext z;exact i1 z
 rw[this,List.map_id]
def wW (rows:List (bh)):Prop:=rows≠[]/\∀l∈rows,l.all inR=true
def NO {l:bh}(h:l.all inR=true){c:Nat}(aw:inR c=false):c∉l:=λz=>by
 have:=eW.mp h c z;rw[aw] at this;cases this
def NP {rows}(h:wW rows):Txt.split (S (da 10 rows)) ⟨#[10]⟩=rows.map S:=by
 have am:=StrLaws.join_split (S (da 10 rows)) ⟨#[10]⟩;have fr:=StrLaws.split_free (S (da 10 rows)) 10;have ne:Txt.split (S (da 10 rows)) ⟨#[10]⟩≠[]:=by
  unfold Txt.split;split
  ·simp
  ·split
   ·simp
   ·intro h;have:=fM List.length h;rw[DK] at this;simp at this
 generalize Txt.split (S (da 10 rows)) ⟨#[10]⟩=parts at am fr ne;have bq:=fM (λz:Str=>z.cps.toList) am;simp only[GL,i1] at bq;have bX:=JI _ _ (by intro z;exact ne (List.map_eq_nil_iff.mp z)) h.1 (λp h5=>by
  obtain⟨z,hz,rfl⟩:=mU.mp h5;exact fr z hz) (λp h5=>NO (h.2 p h5) (by decide)) bq
 rw[<-bX,kS];have iN:(S∘λz:Str=>z.cps.toList)=id:=by funext z;exact EL z
 rw[iN,List.map_id]
def NQ {rows}(h:wW rows):Txt.count (S (da 10 rows)) ⟨#[10]⟩=((rows.length - 1:Nat):Int):=by
 have e:=NP h;have hl:=fM List.length e;rw[eV] at hl;unfold Txt.count;congr 1;have cB:∀z:Str,1<=Builtin.Str.strKind z:=λz=>by
  unfold Builtin.Str.strKind;split
  ·omega
  ·split<;>omega
 have am:(⟨#[10]⟩:Str).length=1:=rfl;have aE:Builtin.Str.strKind (⟨#[10]⟩:Str)=1:=by decide +kernel
 unfold Txt.split at hl;split at hl
 ·rename_i aU;have z5:da 10 rows=[]:=by
   rw[DZ] at aU;rcases aU with aU|aU
   ·have:=gP aU;rw[ek,am] at this;exact oC (by omega)
   ·have:=gP aU;have:=cB (S (da 10 rows));omega
  rw[z5];show _=rows.length - 1;rw[show(Builtin.Str.occurrences (S []) ⟨#[10]⟩ 0 (S []).length ((S []).length+1)).length=0 by decide +kernel];simp at hl;omega
 ·split at hl
  ·rename_i cd;have:=List.isEmpty_iff.mp cd;rw[this];simp at hl⊢;omega
  ·rw[DK] at hl;omega
theorem Cw {c:Nat}:∀{xs ys:List (bh)},xs≠[]->ys≠[]->da c (xs++ys)=da c xs++c::da c ys
 |[],_,h,_=>absurd rfl h
 |[p],[],_,h=>absurd rfl h
 |[p],q::r,_,_=>rfl
 |p::q::r,ys,_,aT=>by
  show p++c::da c ((q::r)++ys)=(p++c::da c (q::r))++c::da c ys;rw[Cw (by simp) aT];simp
def Ww {c}(h:dk c=true):inR c=true:=by
 unfold inR;rcases JB h with h|h|h
 ·unfold hC at h;simp only[Bool.or_eq_true,Bool.and_eq_true,decide_eq_true_eq] at h⊢;omega
 ·unfold ho at h;simp only[Bool.and_eq_true,decide_eq_true_eq] at h⊢;omega
 ·subst h;decide
def Cx {cs:bh}(h:cs.all dk=true):cs.all inR=true:=eW.mpr λc aw=>Ww (eW.mp h c aw)
def Cy (g):(aM g).all inR=true:=eW.mpr λc aw=>by rw[List.eq_of_mem_replicate aw];decide
mutual
theorem e9.inR:∀{l d a p n cs},e9 l d a p n cs->cs.all GS.inR=true
 |_,_,_,_,_,_,.leaf l cs w d h ax=>by
  cases h with
  |word _ _ ag ae aW=>exact Cx ae
  |text s ag ae aW=>rw[px,fY,ae];rfl
 |_,_,_,_,_,_,.oQ l d a p n cs g g' h=>by rw[fY,fY,fY,fY,Cy,Cy,h.inR];rfl
 |_,_,_,_,_,_,.fld l d a p n cs x h ak=>by
  unfold g0 at ak;simp only[Bool.and_eq_true] at ak;rw[fY,fY,Cx ak.2,h.inR];rfl
 |_,_,_,_,_,_,.call l d a p n cs ds be av bv fs h h' aU=>by rw[fY,fY,fY,h.inR,h'.inR];rfl
 |_,_,_,_,_,_,.gx l d a p n cs hS h=>by rw[fY,h.inR];rfl
 |_,_,_,_,_,_,.fC l d a p n cs hS h=>by rw[fY,fY,h.inR];rfl
 |_,_,_,_,_,_,.two l x d a p n cs d' be av bv fs g g' ak hS h h'=>by
  have:oS.all (λx=>x.all GS.inR)=true:=by decide
  rw[fY,fY,fY,fY,Cy,Cy,h.inR,h'.inR,eW.mp this x ak];rfl
 |_,_,_,_,_,_,.both l b d a p n cs d' be av bv fs hS h h'=>by
  rw[fY,fY,fY,fY,h.inR,h'.inR];cases b<;>rfl
theorem q3.inR:∀{ds a p n cs},q3 ds a p n cs->cs.all GS.inR=true
 |_,_,_,_,_,.nil=>rfl
 |_,_,_,_,_,.one d a p n cs h=>h.inR
 |_,_,_,_,_,.cons d a p n cs ds be av bv fs h h' e0=>by rw[fY,fY,fY,h.inR,h'.inR];rfl
end
theorem GN:∀n (l:bh) ab,l.length<=n->rd n l=some ab->ab.length<=l.length
 |0,[],ab,_,h=>by cases h;exact bf _
 |n+1,[],ab,_,h=>by cases h;exact bf _
 |n+1,c::t,ab,aP,h=>by
  unfold rd at h;rw[en] at aP⊢;split at h
  ·cases h;exact fN _
  ·split at h
   ·have:=GN n t ab (by omega) h;omega
   ·have ar:=AI c t;split at h
    ·cases h
    ·cases e:rd n ((c::t).drop (fe (c::t))) with
     |none=>rw[e] at h;cases h
     |some r=>
      rw[e] at h;cases h;have hd:((c::t).drop (fe (c::t))).length<=t.length:=by rw[j6,en];omega
      have:=GN n _ r (by omega) e;rw[en];omega
def km {l ab}(h:words true l=some ab):ab.length<=l.length:=GN l.length l ab (bf _) (by rw[wO _ _ (bf _)];exact h)
structure rg (fu:List (bh)) (e:D):Prop where
 nl:wW fu
 run:∀i more ds o R,sF o->(∀ou c0,sF c0->kD ou c0=kD ds o++[e]->Run (rowsOf true (i+fu.length) more) ou c0 R)->Run (rowsOf true i (fu++more)) ds o R
def y4 {l ab i more}(ay:words true l=some ab) (e0:ab≠[]):rowsOf true i (l::more)=(i,l,some ab)::rowsOf true (i+1) more:=by
 show(if words true l=some [] then _ else _)=_;rw[ay,bP (λz=>e0 (hB z))]
def y5:sF none:=λ_ _ z=>by cases z
def hI.ne {ab x}(h:hI ab x):ab≠[]:=λz=>by
 subst z;cases h with
 |yM h=>cases h
 |ret aj t av h=>cases h
 |bind x aj d av h=>cases h
 |yN x aj h=>cases h
 |p6 x y aj t h=>cases h
 |put x z aj t h=>cases h
def Cz {l ab e}(bC:l.all inR=true) (aR:nD l=some 0) (ay:words true l=some ab) (h:hI ab (some (e,ab.length))) (au:l.length<=5000):rg [l] e:=by
 refine⟨⟨by simp,λx ak=>by rw[kv.mp ak];exact bC⟩,λi more ds o R a' k=>?_⟩;rw[ku,y4 ay h.ne];exact .one i l ab e _ ds o R aR a' (dW (km ay) au) h (k _ none y5 I)
def uC {c t}(h:(c == 32)=false):nD (c::t)=some 0:=by
 have:blanks (c::t)=0:=by rw[P',h];rfl
 unfold nD;rw[this];rfl
def Wx:words true (code "    pass")=some [mA]:=by
 rw[<-wO _ _ (bf _)];decide +kernel
def Wy {d a p n cs l e}(h:e9 0 d a p n cs) (aP:n<=11) (aq:a<=11) (ar:p<=58) (au:cs.length<=4000) (ax:o3 cs d l e):∃fu,l=da 10 fu/\rg fu e/\fu.length<=2:=by
 have bC:=h.inR;cases ax with
 |set=>
  obtain⟨ab,ay,al⟩:=V7 h (by omega) (by omega) (by omega);exact⟨[_],I,Cz (by rw[fY,bC];rfl) (uC (by decide)) ay al (by rw[cy];show 5+_<=_;omega),mf 1⟩
 |ret=>
  obtain⟨ab,ay,al⟩:=V8 h (by omega) (by omega) (by omega);exact⟨[_],I,Cz (by rw[fY,bC];rfl) (uC (by decide)) ay al (by rw[cy];show 7+_<=_;omega),mf 1⟩
 |p6=>
  obtain⟨ab,ay,al⟩:=Wa h aP aq ar;exact⟨[_],I,Cz (by rw[fY,fY,bC];rfl) (uC (by decide)) ay al (by rw[cy,cy];show 3+_+1<=_;omega),mf 1⟩
 |put=>
  obtain⟨ab,ay,al⟩:=V9 h (by omega) (by omega) (by omega);exact⟨[_],I,Cz (by rw[fY,bC];rfl) (uC (by decide)) ay al (by rw[cy];show 6+_<=_;omega),mf 1⟩
 |o2=>
  obtain⟨ab,ay,ak⟩:=V' h (by omega) (by omega) (by omega);refine⟨[code "while "++cs++[58],code "    pass"],?_,⟨⟨by simp,λx ak=>?_⟩,λi more ds o R a' k=>?_⟩,bf _⟩
  ·show _=(code "while "++cs++[58])++10::code "    pass";rw[hU (code "while "++cs)];rfl
  ·rcases gZ.mp ak with rfl|ak
   ·rw[fY,fY,bC];rfl
   ·rw[kv.mp ak];decide
  ·have lY:=km ay;rw[ku,y4 ay (by simp),ku,y4 Wx (by simp)];have am:(oZ::(ab++[k8])).drop 1=ab++[k8]:=rfl;have aE:(oZ::(ab++[k8])).drop (ab.length+1)=[k8]:=by rw[List.drop_succ_cons,List.drop_left]
   have og:(oZ::(ab++[k8])).length=ab.length+2:=by simp
   refine .o2 i _ _ d (ab.length+1) _ ds o R (uC (by decide)) a' ?_ rfl (by rw[am,aE];exact ak) (by rw[og];omega) ?_ (by rw[og]) ?_
   ·refine dW lY ?_;rw[cy,cy];show 6+_+1<=_;omega
   ·rw[List.getElem?_cons_succ,xI (bf _),Nat.sub_self];rfl
   ·refine .p5 _ _ d _ _ R (by decide) (k (kD ds o) (some (d,[nY])) ?_ I);intro t bs e;cases e;simp
theorem NR {c:Nat}:∀{rows:List (bh)} {l},l∈rows->l.length<=(da c rows).length
 |[p],l,h=>by rw[kv.mp h];exact bf _
 |p::q::r,l,h=>by
  show _<=(p++c::da c (q::r)).length;rw[cy,en];rcases gZ.mp h with rfl|h
  ·omega
  ·have:=NR (c:=c) h;omega
theorem NS {c x:Nat}:∀{rows:List (bh)},x∈da c rows->x=c\/∃l∈rows,x∈l
 |[],h=>by cases h
 |[p],h=>.inr ⟨p,kv.mpr I,h⟩
 |p::q::r,h=>by
  have h:x∈p++c::da c (q::r):=h;rcases th.mp h with h|h
  ·exact .inr ⟨p,jG,h⟩
  ·rcases gZ.mp h with h|h
   ·exact .inl h
   ·rcases NS h with z|⟨l,ag,ae⟩
    ·exact .inl z
    ·exact .inr ⟨l,j4 _ ag,ae⟩
def Wz {rows}(h:wW rows):9∉da 10 rows:=λz=>by
 rcases NS z with z|⟨l,ag,ae⟩
 ·cases z
 ·exact NO (h.2 l ag) (by decide) ae
abbrev GO:Stmt:=top 108
section
variable {X:a8}{a d C:Addr}
def WA {ac aa H s bi}(ak:Bn X a d C) (J:Inv X ac aa H s) (hd:H d=some (.nF bi)):∃o dg,PySem.W.InstAt s.heap a o C (some dg)/\∀name,∃u,PySem.W.lookIn name dg=some u/\jI (bi.lookup name) u:=by
 obtain⟨o,vs,ag,ae,aW,bm⟩:=ak.ex;obtain⟨eb,ns,r⟩:=J.bA d _ hd;obtain⟨dg,am,aE⟩:=L2.Kb ns;refine⟨o,dg,⟨(J.pin _ (vr _ ag)).1,ae,?_,?_⟩,λname=>⟨eb name,aE name,r name⟩⟩
 ·unfold PySem.W.notCls;rw[bm]
 ·rw[aW];exact am
inductive NT (a d:Addr) (g:Str) (bu:TE) (aa:L2.St) (H:ap) (Q:bz):Prop
 |mk:(bu aa H λx ai=>∃bi i,x=.ref a/\ai d=some (.nF bi)/\bi.lookup g=some (.int i)/\Q (.int i) ai)->NT a d g bu aa H Q
def WB {e g pos bu}(ak:Bn X a d C) (G:yp X.K C) (aP:PySem.W.findIn X.K (.ref C) g=some none) (he:LE X e bu) (af:autoParam (attributeBase e g X.env (eval e X.env)=eval e X.env) dl):LE X (.Attribute e g pos) (NT a d g bu):=by
 refine .mk ?_;intro ac s aa H Q J ⟨h⟩;refine L2.Ke af (bW (he.out ac s aa H _ J h) λu az aD=>?_);obtain⟨x,ai,a6,a0,bi,i,ex,hd,au,q⟩:=aD;subst ex;obtain rfl:u=Value.ref a:=a0;obtain⟨o,dg,cc,lk⟩:=WA ak a6 hd;obtain⟨u,am,aE⟩:=lk g;rw[au] at aE;obtain⟨v,rfl,cI⟩:∃v,u=some v/\RelV (.int i) v:=by
  cases u with
  |none=>exact aE.elim
  |some v=>exact⟨v,I,aE⟩
 obtain⟨t,rfl⟩:=cI;exact TA G a6.ep cc (PySem.W.findObj_own G.hd aP I am) rfl ⟨.int i,ai,a6.tok _,⟨_,I⟩,q⟩
end
structure NU (K:aJ) (mg:Str->cn) (aF:Addr):Prop where
 u:Bm K aF aF
 g:yp K aF
 fa:PySem.W.findIn K (.ref aF) "at"=some none
 B':mg "BadText"=some (.ref aF)
inductive CA (K:aJ) (vs:br) (H:ap) (Q:bz) (dA:cJ):Prop
 |mk rows R:vs=[.str (S (da 10 rows))]->wW rows->(da 10 rows).length<=4000->rows.length<=100->Run (rowsOf true 0 rows) [] none R->(∀ds v Z,R=.ok ds->ba H Z->At K Z (.tup ds) v->Q v Z)->(∀n p Z,R=.bad n->ba H Z->Z p=some (.lst [.str "text",.int ((n:Nat):Int)])->Q (.ref p) Z)->CA K vs H Q dA
def NV:cE ["_law_text_here","e"] ["_law_text_here"] (bF GO):=dm
section
variable {K:aJ}{P:Program}{w:World}{mg:Str->cn}{base:Heap}{f:Addr}{as:FuncData}{aF:Addr}
def WC (T:NU K mg aF) (F:b5 K "_law_read" "_law_read" GO f as) {I4 PB}(Dq:bK P w K mg base (bQ P w) 321 I4 PB ["text"] (Gh K aF)) (I5:mg "read"=some (.ref I4)) (ZR:PySem.W.keepIn K (.ref I4)=true) (ZS:Binds K PB ["text"] []):bK P w K mg base dJ 322 f as ["_law_text_here"] (CA K):=by
 refine F.kj NV λbk A outer s H vs Q E al h=>?_;obtain⟨rows,R,rfl,dx,au,ZT,z3,aZ,bn⟩:=h;intro ll;refine⟨_,(a9 (.mk (L2.TG (i:=1) T.u I I I T.B' dU NV.bp I I (λE cR ia ar=>ic.out (a9 (bE (.mk (L2.Er (Dq.mono (bf _)) al I I5 ZR ZS .nil ar (gD.out (bx (ah 0)))))))) (λa d ia ak=>ic.out (a9 (bE (eL (c6 aV (WB ak T.g T.fa (ah 1)))))))))),?main⟩
 case main=>
  refine⟨_,I,S (da 10 rows),rows,R,I,by rw[ek];exact au,?_,?_,NP dx,λl aQ=>dW (NR (c:=10) aQ) (by omega),ZT,z3,λds e v Z s aK=>aZ ds v Z e s aK,λn e ao ai az l9=>⟨I,ao,I,λa=>?_⟩⟩
  ·have:=xK (S (da 10 rows)) 9;rw[i1,ew (Wz dx),Bool.not_eq_false'] at this;exact this
  ·have:=NQ dx;rw[show(("\n":Str))=⟨#[10]⟩ from I,this];omega
  ·refine⟨⟨_,I,_,_,I,l9,I,e',λbI gs=>?_⟩⟩;have eS:=cK gs (.lst [.str "text",.int ((n:Nat):Int)]);exact bn n bI _ e (az.trans eS) b'
end
abbrev GP:Stmt:=top 111
def CB (x:bh×Bool):Bool:=decide (x.1.length<=1000)&&x.1.all inR
def WD:((List.range 6).all λj=>(List.range 8).all λk=>CB (uq j (8+k)))=true:=by decide +kernel
def WE:((List.range 9).all λk=>CB (uq 6 k))=true:=by decide +kernel
inductive sH (x:bh×Bool):Prop
 |mk:Gr x=true->x.1.length<=1000->x.1.all inR=true->sH x
def WG {j k:Nat}(c':j < 6) (aU:k < 8):sH (uq j (8+k)):=by
 have ag:=eW.mp (eW.mp V4 j (oA.mpr c')) k (oA.mpr aU);have ae:=eW.mp (eW.mp WD j (oA.mpr c')) k (oA.mpr aU);unfold CB at ae;rw[jh] at ae;exact⟨ag,gP ae.1,ae.2⟩
def WH {k:Nat}(aU:k < 9):sH (uq 6 k):=by
 have ag:=eW.mp V5 k (oA.mpr aU);have ae:=eW.mp WE k (oA.mpr aU);unfold CB at ae;rw[jh] at ae;exact⟨ag,gP ae.1,ae.2⟩
def WI {cC}(k:Nat) (x:cC):(List.replicate k [x]).flatten=List.replicate k x:=by
 induction k with
 |zero=>rfl
 |succ k ih=>rw[mT,tm,ih,mT];rfl
def NW (s x:bh):∀k,Txt.join (S s) (List.replicate k (S x))=S (uo s k x):=by
 intro k;show Builtin.Str.glued (S s) _=_;rw[AG]
 induction k with
 |zero=>rfl
 |succ k ih=>
  cases k with
  |zero=>rfl
  |succ k=>
   show S x++S s++Str.join (S s) (List.replicate (k+1) (S x))=S (x++(s++uo s (k+1) x));rw[ih,eA,eA,hU]
def NX (k:Nat) (x:bh):((List.replicate k (S x)).map (·.length)).sum=k*x.length:=by
 rw[List.map_replicate,ek]
 induction k with
 |zero=>simp
 |succ k ih=>rw[mT,vF,ih,Nat.succ_mul,Nat.add_comm]
def NY (k:Nat) (x:bh):(i7 k x).length=k*x.length:=by
 unfold i7
 induction k with
 |zero=>simp
 |succ k ih=>rw[mT,tm,cy,ih,Nat.succ_mul,Nat.add_comm]
inductive GQ (K:aJ) (vs:br) (H:ap) (Q:bz) (dA:cJ):Prop
 |mk n:vs=[.int n]->(∀l good x Z,ba H Z->sH (l,good)->At K Z (.tup [.str (S l),.aM good]) x->Q x Z)->GQ K vs H Q dA
def GR:cE ["_law_n","_law_k","_law_parts_here"] pw (bF GP):=dm
section
variable {K:aJ}{P:Program}{w:World}{mg:Str->cn}{base:Heap}{f:Addr}{as:FuncData}
def WJ (F:b5 K "_law_bound" "_law_bound" GP f as):bK P w K mg base dJ 1 f as pw (GQ K):=by
 refine F.kj GR ?_;rintro bk A outer s H vs Q E al ⟨n,rfl,q⟩ ll;refine⟨_,(aX (ct 1 GR.bp (a5 f3 aO (a5 fx (a5 hW (ah 0) aO) aO))) (aX (ck (c3 eY (a5 fx (ah 0) aO) aO) (a9 (bE (cP (c6 (a5 e5 (a5 qU aV (ah 1)) aV) (jP jn (ah 1) aO))))) cA) (aX (ck (c3 eY (a5 fx (ah 0) aO) aO) (a9 (bE (cP (c6 (a5 e5 (a5 qU aV (ah 1)) aV) (jP jn (ah 1) aO))))) cA) (aX (ck (c3 eY (a5 fx (ah 0) aO) aO) (a9 (bE (cP (c6 (a5 e5 (a5 e5 (a5 qU aV (ah 1)) aV) (a5 qU aV (ah 1))) (jP jn (ah 1) aO))))) cA) (aX (ck (c3 eY (a5 fx (ah 0) aO) aO) (a9 (bE (cP (c6 (hb lu tr ts tN aV (bx (a5 KV (eL (bx aV)) (ah 1)))) (jP jn (ah 1) aO))))) cA) (aX (ck (c3 eY (a5 fx (ah 0) aO) aO) (a9 (bE (cP (c6 (a5 e5 aV (a5 qU aV (ah 1))) (jP jn (ah 1) aO))))) cA) (aX (ck (c3 eY (a5 fx (ah 0) aO) aO) (a9 (bE (cP (c6 (a5 e5 aV (a5 qU aV (ah 1))) (jP jn (ah 1) aO))))) cA) (aX (ct 2 GR.bp (a5 fx (a5 hW (ah 0) aO) aO)) (a9 (bE (cP (c6 (a5 e5 (a5 e5 (a5 e5 (hb lu tr ts tN aV (bx (a5 KV (eL (bx aV)) aO))) aV) (a5 qU aV (ah 2))) aV) (jP jn (ah 2) aO))))))))))))),?_⟩;obtain⟨gK,cB⟩:=m9 (a:=n / 7) (b:=8) (by decide);obtain⟨cL,zL⟩:=D0 gK;have aU:cL < 8:=by omega
 refine⟨_,I,_,_,I,I,⟨by decide,by decide⟩,_,_,I,I,(by show(0:Int) < 8;decide),_,_,I,I,?_⟩;have mJ:(8:Int)+n / 7 % 8=((8+cL:Nat):Int):=by rw[zL];omega
 have rC:(0:Int) < 7:=by decide
 have fin:∀(l:bh) (good:Bool) (m:Nat) (c:Int) (ai:ap),ba H ai->sH (l,good)->decide ((m:Int) < c)=good->∀p,ai p=none->Q (.ref p) (upd ai p (.tup [.str (S l),.aM (decide ((m:Int) < c))])):=λl good m c ai z h e p ar=>by
  rw[e];exact q l good _ _ (z.trans (cK ar _)) h (At.new ar (ht (cz.mpr I) (ie.mpr I)))
 have xu:∀(c:Nat),decide (((8+cL:Nat):Int) < (c:Nat))=decide (8+cL < c):=λc=>DU.mpr (by omega);have g8:∀j,j < 6->sH (uq j (8+cL)):=λj c'=>WG c' aU;have aQ:8+cL<=15:=by omega
 dsimp only;rw[mJ];generalize 8+cL=m at *;have rK:∀x:bh,x.length<=20->(i7 m x).length<=300:=λx ak=>by
  rw[NY];exact dW (Nat.mul_le_mul aQ ak) (by decide)
 refine⟨_,I,_,_,I,I,rC,I,_,I,fR (λ_=>?_) λ_=>?_⟩
 ·refine⟨_,I,S (code "-"),_,I,I,by omega,by omega,by decide +kernel,?_⟩;rw[rf];refine⟨_,S (code "a"),I,I,sl (by have:=rK (code "-") (by decide);show _+1<=_;omega),?_⟩;rw[eA];exact⟨_,I,_,_,I,I,e',fin _ _ m 12 H (ba.refl _) (g8 0 (by decide)) (xu 12)⟩
 refine⟨_,I,_,_,I,I,rC,I,_,I,fR (λ_=>?_) λ_=>?_⟩
 ·refine⟨_,I,S (code "not "),_,I,I,by omega,by omega,by decide +kernel,?_⟩;rw[rf];refine⟨_,S (code "a"),I,I,sl (by have:=rK (code "not ") (by decide);show _+1<=_;omega),?_⟩;rw[eA];exact⟨_,I,_,_,I,I,e',fin _ _ m 12 H (ba.refl _) (g8 1 (by decide)) (xu 12)⟩
 refine⟨_,I,_,_,I,I,rC,I,_,I,fR (λ_=>?_) λ_=>?_⟩
 ·refine⟨_,I,S (code "("),_,I,I,by omega,by omega,by decide +kernel,?_⟩;rw[rf];refine⟨_,S (code "a"),I,I,sl (by have:=rK (code "(") (by decide);show _+1<=_;omega),?_⟩;rw[eA];refine⟨_,I,S (code ")"),_,I,I,by omega,by omega,by decide +kernel,?_⟩;rw[rf];refine⟨_,_,I,I,sl (by have:=rK (code "(") (by decide);have:=rK (code ")") (by decide);rw[cy];show _+1+_<=_;omega),?_⟩;rw[eA];exact⟨_,I,_,_,I,I,e',fin _ _ m 13 H (ba.refl _) (g8 2 (by decide)) (xu 13)⟩
 refine⟨_,I,_,_,I,I,rC,I,_,I,fR (λ_=>?_) λ_=>?_⟩
 ·refine⟨I,ki,λaS cm=>⟨_,I,aS,_,_,I,I,b',by omega,by omega,?_,λbM ed=>?_⟩⟩
  ·rw[Ar];exact ua (by show 1*m<=_;omega)
  have cW:=(cK cm (.lst [.str "a"])).trans (cK ed (.lst (List.replicate ((m:Nat):Int).toNat [V.str "a"]).flatten));have aE:upd (upd H aS (.lst [.str "a"])) bM (.lst (List.replicate ((m:Nat):Int).toNat [V.str "a"]).flatten) bM=some (.lst ((List.replicate m (S (code "a"))).map V.str)):=by
   rw[b',Ar,WI,List.map_replicate];rfl
  generalize upd (upd H aS (.lst [.str "a"])) bM (.lst (List.replicate ((m:Nat):Int).toNat [V.str "a"]).flatten)=aB at cW aE⊢;refine⟨S (code " + "),bM,_,I,I,bg.of aE,?_,?_⟩
  ·rw[NX,oB];show m*1+m*3<=_;omega
  rw[NW];exact⟨_,I,_,_,I,I,e',fin _ _ m 13 aB cW (g8 3 (by decide)) (xu 13)⟩
 refine⟨_,I,_,_,I,I,rC,I,_,I,fR (λ_=>?_) λ_=>?_⟩
 ·refine⟨_,I,S (code ".b"),_,I,I,by omega,by omega,by decide +kernel,?_⟩;rw[rf];refine⟨S (code "a"),_,I,I,sl (by have:=rK (code ".b") (by decide);show 1+_<=_;omega),?_⟩;rw[eA];exact⟨_,I,_,_,I,I,e',fin _ _ m 12 H (ba.refl _) (g8 4 (by decide)) (xu 12)⟩
 refine⟨_,I,_,_,I,I,rC,I,_,I,fR (λ_=>?_) λ_=>?_⟩
 ·refine⟨_,I,S (code "()"),_,I,I,by omega,by omega,by decide +kernel,?_⟩;rw[rf];refine⟨S (code "a"),_,I,I,sl (by have:=rK (code "()") (by decide);show 1+_<=_;omega),?_⟩;rw[eA];exact⟨_,I,_,_,I,I,e',fin _ _ m 12 H (ba.refl _) (g8 5 (by decide)) (xu 12)⟩
 obtain⟨ZU,xj⟩:=m9 (a:=n / 56) (b:=9) (by decide);obtain⟨xv,l'⟩:=D0 ZU;have c':xv < 9:=by omega
 refine⟨_,I,_,_,I,I,⟨by decide,by decide⟩,_,_,I,I,(by show(0:Int) < 9;decide),?_⟩;dsimp only;rw[l'];refine⟨I,ki,λaS cm=>⟨aS,_,_,I,I,b',by decide,by decide,by decide +kernel,λbM ed=>?_⟩⟩;have cW:=(cK cm (.lst [.str "f(1, 2, 3, a)"])).trans (cK ed (.lst (List.replicate (8:Int).toNat [V.str "f(1, 2, 3, a)"]).flatten));have aE:upd (upd H aS (.lst [.str "f(1, 2, 3, a)"])) bM (.lst (List.replicate (8:Int).toNat [V.str "f(1, 2, 3, a)"]).flatten) bM=some (.lst ((List.replicate 8 (S (code "f(1, 2, 3, a)"))).map V.str)):=by
  rw[b'];rfl
 generalize upd (upd H aS (.lst [.str "f(1, 2, 3, a)"])) bM (.lst (List.replicate (8:Int).toNat [V.str "f(1, 2, 3, a)"]).flatten)=aB at cW aE⊢;refine⟨S (code " + "),bM,_,I,I,bg.of aE,?_,?_⟩
 ·rw[NX,oB];decide +kernel
 rw[NW];have eJ:(uo (code " + ") 8 (code "f(1, 2, 3, a)")).length<=200:=by decide +kernel
 generalize ZV:uo (code " + ") 8 (code "f(1, 2, 3, a)")=ZW at eJ⊢;have it:(i7 xv (code "-")).length<=9:=by rw[NY];show xv*1<=9;omega
 refine⟨_,S (code " + "),I,I,sl (by show _+3<=_;omega),?_⟩;rw[eA];refine⟨_,I,S (code "-"),_,I,I,by omega,by omega,by decide +kernel,?_⟩;rw[rf];refine⟨_,_,I,I,sl (by rw[cy];show _+3+_<=_;omega),?_⟩;rw[eA];refine⟨_,S (code "a"),I,I,sl (by rw[cy,cy];show _+3+_+1<=_;omega),?_⟩;rw[eA];have dZ:sH (ZW++code " + "++i7 xv (code "-")++code "a",decide (xv < 4)):=by rw[<-ZV];exact WH c'
 exact⟨_,I,_,_,I,I,e',fin _ _ xv 4 aB cW dZ (DU.mpr (by omega))⟩
end
structure g7 (d:D) (n:Nat):Prop where
 s:(toPy d).showable=true
 l:(toPy d).shown.length<=n
structure il (ds:d8) (n:Nat):Prop where
 s:PyData.showableAll (hY ds)=true
 l:((PyData.shownAll (hY ds)).map (·.length)).sum<=n
 k:(PyData.shownAll (hY ds)).length=ds.length
def il.nil:il [] 0:=⟨I,bf _,I⟩
def il.cons {d ds n m}(h:g7 d n) (h':il ds m):il (d::ds) (n+m):=by
 refine⟨?_,?_,?_⟩
 ·show((toPy d).showable&&PyData.showableAll (hY ds))=true;rw[h.s,h'.s];rfl
 ·show(((toPy d).shown::PyData.shownAll (hY ds)).map (·.length)).sum<=_;rw[kR,vF];have:=h.l;have:=h'.l;omega
 ·show((toPy d).shown::PyData.shownAll (hY ds)).length=_;rw[en,h'.k,en]
def g7.tup {ds n}(h:il ds n):g7 (.tup ds) (n+2*ds.length+10):=by
 have e:toPy (.tup ds)=.tuple (hY ds):=by rw[toPy]
 refine⟨by rw[e];exact h.s,?_⟩;rw[e];show(tupleText (PyData.shownAll (hY ds))).length<=_;have ag:=tupleText_len_le (PyData.shownAll (hY ds));have:=h.l;have:=h.k;omega
def g7.more {d n m}(h:g7 d n) (e:n<=m):g7 d m:=⟨h.s,dW h.l e⟩
def kn {l:bh}(h:l.all inR=true):g7 (.str (S l)) (10*l.length+2):=by
 have e:toPy (.str (S l))=.str (S l):=by rw[toPy]
 refine⟨by rw[e];rfl,?_⟩;rw[e];show(reprText (S l)).length<=_;have:=StrLaws.reprText_len (S l) (λc aw=>by
  rw[i1] at aw;have:=eW.mp h c aw;unfold inR at this;simp only[Bool.and_eq_true,decide_eq_true_eq] at this;omega)
 rw[ek] at this;exact this
def WK (κ:ik):g7 (.str κ.s) 82:=by cases κ<;>exact⟨I,by decide +kernel⟩
def WL {n:Nat}(h:n < 10 ^ 12):g7 (.int (n:Nat)) 1921:=by
 have hl:(((n:Nat):Int)).natAbs.log2 < 1920:=by
  show n.log2 < 1920;by_cases hz:n=0
  ·subst hz;decide
  ·have:n.log2 < 60:=(Nat.log2_lt hz).mpr (by omega);omega
 have e:toPy (.int ((n:Nat):Int))=.int (n:Nat):=by rw[toPy]
 refine⟨?_,?_⟩
 ·rw[e];show decide (_ < 1920)=true;exact fv hl
 ·rw[e];exact int_text_len_1921 hl
def NZ (b:Bool):g7 (.aM b) 10:=by cases b<;>exact⟨I,by decide +kernel⟩
def il.n0 {κ ds n}(h:il ds n):g7 (.tup (.str (ik.s κ)::ds)) (n+2*ds.length+94):=(g7.tup (il.cons (WK κ) h)).more (by rw[en];omega)
mutual
theorem d2.lS:∀{d a p k},d2 d a p k->g7 d (3000*p)
 |_,_,_,_,.leaf d cs h=>by
  cases h with
  |name cs h=>
   have ae:=GC h;have ay:cs.all inR=true:=by
    unfold g0 at h;simp only[Bool.and_eq_true] at h;exact Cx h.2
   exact(il.n0 (κ:=.name) (.cons (kn ay) .nil)).more (by simp;omega)
  |num n h=>exact(il.n0 (κ:=.number) (.cons (WL h) .nil)).more (by simp)
  |text cs h h'=>
   have ay:cs.all inR=true:=eW.mpr λc aw=>by have:=eW.mp h c aw;rw[jh] at this;exact this.1
   exact(il.n0 (κ:=.text) (.cons (kn ay) .nil)).more (by simp;omega)
  |p7=>exact(il.n0 (κ:=.truth) (.cons (NZ true) .nil)).more (by simp)
  |yZ=>exact(il.n0 (κ:=.truth) (.cons (NZ false) .nil)).more (by simp)
  |a3=>exact(il.n0 (κ:=.none) .nil).more (by simp)
 |_,_,_,_,.fld d a p k x h ak=>by
  have ae:=GC ak;have ay:x.all inR=true:=by
   unfold g0 at ak;simp only[Bool.and_eq_true] at ak;exact Cx ak.2
  exact(il.n0 (κ:=.field) (.cons h.lS (.cons (kn ay) .nil))).more (by simp;omega)
 |_,_,_,_,.call d a p k ds be av h h' bm=>by
  exact(il.n0 (κ:=.call) (.cons h.lS (.cons (g7.tup h'.lS) .nil))).more (by simp;omega)
 |_,_,_,_,.gx d a p k h=>(il.n0 (κ:=.minus) (.cons h.lS .nil)).more (by simp;omega)
 |_,_,_,_,.fC d a p k h=>(il.n0 (κ:=.not) (.cons h.lS .nil)).more (by simp;omega)
 |_,_,_,_,.two x d a p k d' be av k' ak h h'=>by
  have ay:oS.all (λx=>x.all inR&&decide (x.length<=3))=true:=by decide
  have ay:=eW.mp ay x ak;rw[jh] at ay;have:=gP ay.2;exact(il.n0 (κ:=.two) (.cons (kn ay.1) (.cons h.lS (.cons h'.lS .nil)))).more (by simp;omega)
 |_,_,_,_,.both b d a p k d' be av k' h h'=>by
  have ay:(q2 b).all inR=true/\(q2 b).length<=3:=by cases b<;>decide
  exact(il.n0 (κ:=.both) (.cons (kn ay.1) (.cons h.lS (.cons h'.lS .nil)))).more (by have:=ay.2;simp;omega)
theorem jx.lS:∀{ds a p},jx ds a p->il ds (3000*p)
 |_,_,_,.nil=>⟨I,bf _,I⟩
 |_,_,_,.cons d a p k ds be av h h'=>by rw[Nat.mul_add];exact .cons h.lS h'.lS
end
def o3.lS {cs d l e a p k}(h:o3 cs d l e) (hd:d2 d a p k):g7 e (3000*p+2000)/\c2 e<=2*a+3:=by
 have ax:=hd.lS;have ar:=hd.c2;cases h with
 |set=>exact⟨(g7.tup (.cons (kn (l:=code "set") (by decide)) (.cons (kn (by decide)) (.cons ax .nil)))).more (by simp[code];omega),by simp only[c2,fk];omega⟩
 |ret=>exact⟨(g7.tup (.cons (kn (l:=code "return") (by decide)) (.cons ax .nil))).more (by simp[code];omega),by simp only[c2,fk];omega⟩
 |p6=>exact⟨(g7.tup (.cons (kn (l:=code "do") (by decide)) (.cons (g7.tup (.cons (kn (l:=code "call") (by decide)) (.cons (g7.tup (.cons (kn (l:=code "name") (by decide)) (.cons (kn (by decide)) .nil))) (.cons (g7.tup (.cons ax .nil)) .nil)))) .nil))).more (by simp[code];omega),by simp only[c2,fk];omega⟩
 |put=>exact⟨(g7.tup (.cons (kn (l:=code "put") (by decide)) (.cons (g7.tup (.cons (kn (l:=code "name") (by decide)) (.cons (kn (by decide)) .nil))) (.cons (kn (by decide)) (.cons ax .nil))))).more (by simp[code];omega),by simp only[c2,fk];omega⟩
 |o2=>exact⟨(g7.tup (.cons (kn (l:=code "while") (by decide)) (.cons ax (.cons (g7.tup (.cons (d:=nY) (g7.tup (.cons (kn (l:=code "pass") (by decide)) .nil)) .nil)) (.cons (g7.tup .nil) .nil))))).more (by simp[code];omega),by unfold nY;simp only[c2,fk];omega⟩
abbrev GU:Stmt:=top 113
inductive N0 (K:aJ) (t:fi) (aa:L2.St) (H:ap) (Q:bz):Prop
 |mk:(t aa H λxs ai=>xs.length<=sizeLine/\∀p,ai p=none->K.lookup p=none->Q (.ref p) (upd ai p (.lst xs)))->N0 K t aa H Q
def GV {X aj t pos}(h:gD X aj t):LE X (.List aj pos) (N0 X.K t):=.mk (by
 intro ac s aa H Q J ⟨aD⟩;refine wpAny_List_spliced (bW (h.out pos ac s aa H _ J aD) λus az ⟨xs,ai,a6,r,z,q⟩=>⟨by rw[<-r.length];exact z,?_⟩);have bl:ai az.hz=none:=a6.bA.fresh (bf _);have aU:X.K.lookup az.hz=none:=by
  cases e:X.K.lookup az.hz with
  |none=>rfl
  |some o=>exact absurd (di (a6.ep _ _ e)) (j5 _)
 refine⟨.ref az.hz,upd ai az.hz (.lst xs),a6.laid (t':=az.toks) (λb u e=>ej _ e) (bf _) ?_,I,q _ bl aU⟩;exact⟨z,us,0,r,hN _ I⟩)
def GW {K:aJ}{H:ap}{a b:Addr}{xs:br}(fI:bg K H a xs) (af:H b=none) (I6:K.lookup b=none):a≠b:=λz=>by
 rw[z] at fI;rcases fI with (e|⟨c0,e⟩)|⟨o,_,_,e,_⟩
 ·rw[af] at e;cases e
 ·rw[af] at e;cases e
 ·rw[show K.lookup b=none from I6] at e;cases e
inductive GX (K:aJ) (b:Bool) (x:V) (y:V) (H:ap) (Q:bz):Prop
 |mk p q us ab ds:x=.ref p->y=.ref q->H p=some (.lst us)->H q=some (.lst ab)->bB K H ds us->bB K H ds ab->fk ds<=40->Q (.aM b) H->GX K b x y H Q
section
variable {X:a8}
def WM (bY:X.A.units+64 < cLine):eX X (compareOp .Eq) (GX X.K true):=by
 intro ac s aa H x y v u Q J a0 bj h;obtain⟨p,q,us,ab,ds,rfl,rfl,ar,aD,aq,af,hd,n4⟩:=h;cases a0;cases bj;obtain⟨aL,bR,aS,hK⟩:=J.list (.inl (.inl ar));obtain⟨qd,dL,bM,cW⟩:=J.list (.inl (.inl aD));have eJ:aL.toArray.size=ds.length:=by rw[gu,<-bR.length];exact aq.len
 have it:qd.toArray.size=ds.length:=by rw[gu,<-dL.length];exact af.len
 have e:((List.range aL.toArray.size).all λj=>cx (ds.getD j .a3) (ds.getD j .a3))=true:=eW.mpr λ_ _=>Fg _;have R:=SeqAt.RcAt.lists (A:=X.A) (s:=s) (e:=λj=>cx (ds.getD j .a3) (ds.getD j .a3)) aS.isList bM.isList co co (A6 J (A:=X.A.in1) (n:=fk ds) bR dL aq af (bf _) (by show X.A.units+1+fk ds < cLine;omega));rw[e] at R;exact R _ _ _ _ ⟨.aM true,H,J,I,n4⟩
def WN (bY:X.A.units+64 < cLine):eX X (compareOp .NotEq) (GX X.K false):=by
 intro ac s aa H x y v u Q J a0 bj h;obtain⟨p,q,us,ab,ds,rfl,rfl,ar,aD,aq,af,hd,n4⟩:=h;cases a0;cases bj;obtain⟨aL,bR,aS,hK⟩:=J.list (.inl (.inl ar));obtain⟨qd,dL,bM,cW⟩:=J.list (.inl (.inl aD));have eJ:aL.toArray.size=ds.length:=by rw[gu,<-bR.length];exact aq.len
 have it:qd.toArray.size=ds.length:=by rw[gu,<-dL.length];exact af.len
 have e:((List.range aL.toArray.size).all λj=>cx (ds.getD j .a3) (ds.getD j .a3))=true:=eW.mpr λ_ _=>Fg _;have R:=DO (A:=X.A) (s:=s) (e:=λj=>cx (ds.getD j .a3) (ds.getD j .a3)) aS.isList bM.isList co co (A6 J (A:=X.A.in1) (n:=fk ds) bR dL aq af (bf _) (by show X.A.units+1+fk ds < cLine;omega));rw[e] at R;exact R _ _ _ _ ⟨.aM false,H,J,I,n4⟩
inductive GY (K:aJ) (xs:br) (H:ap) (Q:bz):Prop
 |t x ds:xs=[x,.ty "tuple"]->At K H (.tup ds) x->Q (.aM true) H->GY K xs H Q
 |l p ys:xs=[.ref p,.ty "tuple"]->H p=some (.lst ys)->Q (.aM false) H->GY K xs H Q
def WO:kc X (.builtin "isinstance") (GY X.K):=by
 intro ac s aa H xs us Q J r h;rcases h with ⟨x,ds,rfl,ak,q⟩|⟨p,ys,rfl,ar,q⟩
 ·exact A8 ac s aa H _ us Q J r ⟨x,_,_,true,I,ak,tS X.K _,q⟩
 ·exact EI ac s aa H _ us Q J r ⟨_,_,_,false,I,.lst ar,I,q⟩
end
inductive wX (cs:bh) (d:D):Prop
 |mk ad p gc k:e9 0 d ad p gc cs->d2 d ad p k->gc<=11->ad<=7->p<=39->cs.length<=1872->wX cs d
inductive CC (l:bh) (e:D):Prop
 |mk fu:l=da 10 fu->rg fu e->fu.length<=2->l.length<=1900->g7 e 120000->c2 e<=17->CC l e
def wX.shape {cs d l e}(h:wX cs d) (ax:o3 cs d l e):CC l e:=by
 obtain⟨ad,p,gc,k,bO,hd,aP,aq,ar,au⟩:=h;obtain⟨fu,hl,al,ae⟩:=Wy bO aP (by omega) (by omega) (by omega) ax;obtain⟨az,aN⟩:=ax.lS hd;refine⟨fu,hl,al,ae,?_,az.more (by omega),by omega⟩;cases ax with
 |set=>rw[cy];show 5+_<=_;omega
 |ret=>rw[cy];show 7+_<=_;omega
 |p6=>rw[cy,cy];show 3+_+1<=_;omega
 |put=>rw[cy];show 6+_<=_;omega
 |o2=>rw[cy,cy];show 6+_+10<=_;omega
def WQ:wX [49] (.tup [.str "number",.int 1]):=by
 have h:m' (.tup [.str "number",.int ((1:Nat):Int)]) (i8 1):=.num 1 (by decide);obtain⟨w,eJ,it,_⟩:=h.lf;exact⟨1,1,0,8,.leaf 0 _ w _ eJ it,.leaf _ _ h,by decide,by decide,by decide,by decide⟩
inductive rh:List (bh)->d8->Prop
 |nil:rh [] []
 |cons l e bb aj:CC l e->rh bb aj->rh (l::bb) (e::aj)
theorem rh.snoc {l e}(h':CC l e):∀{bb aj},rh bb aj->rh (bb++[l]) (aj++[e])
 |_,_,.nil=>.cons l e [] [] h' .nil
 |_,_,.cons a b bb aj h au=>.cons a b _ _ h (au.snoc h')
def WR {fu e l}(h:rg fu e) (a1:Cf (mB l)=true) (au:l.length<=1000):∃ds,Run (rowsOf true 0 (fu++[mB l])) [] none (.ok ds):=by
 obtain⟨ab,d,ay,ax⟩:=V2 a1;refine⟨[e]++[d],h.run 0 _ [] none _ y5 λou c0 a' eq=>?_⟩;rw[y4 ay ax.ne];refine .one _ _ ab d _ ou c0 _ (uC (by decide)) a' (dW (km ay) (by unfold mB;rw[cy];show 4+_<=_;omega)) ax ?_;rw[eq];exact .nil _ none y5
def N1 {fu e l}(h:rg fu e) (a1:yY (mB l)=true) (au:l.length<=1000):Run (rowsOf true 0 (fu++[mB l])) [] none (.bad fu.length):=by
 obtain⟨ab,x,ay,ax,ak⟩:=V1 a1;refine h.run 0 _ [] none _ y5 λou c0 a' eq=>?_;rw[y4 ay ax.ne,Nat.zero_add];exact .bad _ _ ab x _ ou c0 (uC (by decide)) a' (dW (km ay) (by unfold mB;rw[cy];show 4+_<=_;omega)) ax ak
def WS {hm bR dD am}(cd:rg hm dD) (ag:rg bR am):Run (rowsOf true 0 (hm++bR)) [] none (.ok [dD,am]):=by
 refine cd.run 0 _ [] none _ y5 λou c0 a' eq=>?_;have:=ag.run (0+hm.length) [] ou c0 (.ok [dD,am]) a' λPC l6 rl PD=>by
  rw[eq] at PD;show Run [] PC l6 (.ok [dD,am]);have bq:kD PC l6=[dD,am]:=PD;rw[<-bq];exact .nil _ l6 rl
 rwa [me] at this
def i9:cE ["_law_script","_law_rows","_law_due","_law_k","_law_spot","_law_tree_here","_law_more","_law_text_here","_law_statement","_law_turn","_law_cell_here","_law_good","_law_found","_law_at","_law_bad"] ["_law_script"] (bF GU):=dm
inductive y6 (K:aJ) (vs:br) (H:ap) (Q:bz) (dA:cJ):Prop
 |mk a (ns:List Int):vs=[.ref a]->bg K H a (ns.map V.int)->ns.length<=63->(∀Z,Q (.aM true) Z)->y6 K vs H Q dA
abbrev uD (a R U:Addr) (eQ fX gN h6 ox jF pu td ZX ZY ZZ Z0:mi):L2.St:=[some (.ref a),some (.ref R),some (.ref U),eQ,fX,gN,h6,ox,jF,pu,td,ZX,ZY,ZZ,Z0]
inductive N2 (K:aJ) (D:Ends) (aa:L2.St) (H:ap):Prop
 |mk a R U eQ fX v h6 jF cs d:aa=uD a R U eQ fX (some v) h6 (some (.str (S cs))) jF none none none none none none->wX cs d->At K H d v->(∀gl fs d' Z,ba H Z->wX fs d'->At K Z d' gl->D.c4 (uD a R U eQ fX (some gl) h6 (some (.str (S fs))) jF none none none none none none) Z)->N2 K D aa H
inductive GZ (K:aJ) (H:ap) (a R U:Addr) (i jg:Nat) (aa:L2.St) (Z:ap):Prop
 |mk eQ fX gN h6 ox jF aH aj vs:jg=2 - i->i<=2->aa=uD a R U eQ fX gN h6 ox jF none none none none none none->ba H Z->Z R=some (.lst (aH.map λl=>V.str (S l)))->Z U=some (.lst vs)->bB K Z aj vs->rh aH aj->aH.length=i->GZ K H a R U i jg aa Z
def none_of {H Z:ap}{p:Addr}(s:ba H Z) (h:Z p=none):H p=none:=by
 cases e:H p with
 |none=>rfl
 |some o=>rw[s _ _ e] at h;cases h
theorem rh.len:∀{bb aj},rh bb aj->bb.length=aj.length
 |_,_,.nil=>rfl
 |_,_,.cons _ _ _ _ _ h=>by rw[en,en,h.len]
inductive CD (K:aJ) (good:Bool) (n:Nat) (x:V) (H:ap):Prop
 |t ds:good=true->At K H (.tup ds) x->CD K good n x H
 |l p:good=false->x=.ref p->H p=some (.lst [.str "text",.int ((n:Nat):Int)])->CD K good n x H
inductive N3 (K:aJ) (D:Ends) (aa:L2.St) (H:ap):Prop
 |mk a R U eQ fX gN h6 jF pu td aH l fu e good:aa=uD a R U eQ fX gN h6 (some (.str (S l))) jF pu td (some (.aM good)) none none none->H R=some (.lst (.str (S (da 10 fu))::aH))->rg fu e->fu.length<=2->(da 10 fu).length<=1900->sH (l,good)->(∀x Z,ba H Z->CD K good fu.length x Z->D.c4 (uD a R U eQ fX gN h6 (some (.str (S l))) jF pu td (some (.aM good)) (some x) none none) Z)->N3 K D aa H
inductive N4 (K:aJ) (D:Ends) (aa:L2.St) (H:ap):Prop
 |mk a R U eQ fX gN h6 ox jF pu td good x n:aa=uD a R U eQ fX gN h6 ox jF pu td (some (.aM good)) (some x) (some (.int ((n:Nat):Int))) none->CD K good n x H->(∀Z,ba H Z->D.c4 aa Z)->N4 K D aa H
inductive G0 (H:ap) (a R U:Addr) (eQ fX gN h6 ox jF:mi) (i jg:Nat) (aa:L2.St) (Z:ap):Prop
 |mk pu:jg=2 - i->i<=2->aa=uD a R U eQ fX gN h6 ox jF pu none none none none none->ba H Z->G0 H a R U eQ fX gN h6 ox jF i jg aa Z
def G1 {K:aJ}{H:ap}{Q:bz}{E:cJ} {fu e l R}(h:rg fu e) (ae:fu.length<=2) (au:(da 10 fu).length<=1900) (aR:l.all inR=true) (ag:l.length<=1000) (al:Run (rowsOf true 0 (fu++[mB l])) [] none R) (aZ:∀ds v Z,R=.ok ds->ba H Z->At K Z (.tup ds) v->Q v Z) (bn:∀n p Z,R=.bad n->ba H Z->Z p=some (.lst [.str "text",.int ((n:Nat):Int)])->Q (.ref p) Z):CA K [.str (S (da 10 fu++code "\nx = "++l))] H Q E:=by
 have l':da 10 fu++code "\nx = "++l=da 10 (fu++[mB l]):=by
  rw[Cw h.nl.1 (by simp)];show _=da 10 fu++10::mB l;rw[hU];rfl
 refine⟨fu++[mB l],R,by rw[l'],⟨by simp,λx ak=>?_⟩,?_,by rw[cy];show _+1<=100;omega,al,aZ,bn⟩
 ·rcases th.mp ak with z|z
  ·exact h.nl.2 x z
  ·rw[kv.mp z];unfold mB;rw[fY,aR];rfl
 ·rw[<-l',cy,cy];show _+5+_<=_;omega
section
variable {K:aJ}{P:Program}{w:World}{mg:Str->cn}{base:Heap}{f:Addr}{as:FuncData}
def WT (g:Glb5 K mg) (F:b5 K "law" "law" GU f as) (ve:d7 P w K mg base "_law_cell_at" Aj 1 (Gk K)) (gv:d7 P w K mg base "_law_tree" vk 10 (Ck K 7)) (jc:d7 P w K mg base "_law_put" vj 17 (Cp K 7)) (Z1:d7 P w K mg base "_law_fits" Dx 9 (GG K)) (iw:d7 P w K mg base "_law_shape" Af 1 (GK K)) (qo:d7 P w K mg base "_law_bound" pw 1 (GQ K)) (gM:d7 P w K mg base "_law_read" ["_law_text_here"] 322 (CA K)):bK P w K mg base dJ 323 f as ["_law_script"] (y6 K):=by
 refine F.kj i9 ?_;rintro bk A outer s H vs Q E al ⟨a,ns,rfl,fI,va,q⟩ ll;have bY:=al.units;refine⟨_,(aX (ct 1 i9.bp (eL dc)) (aX (ct 2 i9.bp (eL dc)) (aX (mo rV I (oI I g.g.g.g2.g.v8 (bx aO)) (h1 3 i9.bp) (aX (ct 4 i9.bp (GV (c6 (a5 m1 aO (ah 3)) (a5 f3 (a5 m1 aO (ah 3)) aO)))) (aX (ct 5 i9.bp (bc.fg gv (fb (ah 0) (ah 4) aO))) (aX (ct 6 i9.bp (eL (fb (ah 0) (GV (bx (a5 f3 aO (a5 m1 aO (ah 3))))) (GV (bx aO))))) (aX (ct 7 i9.bp (bc.fg jc (fb (ah 5) aO (ah 6)))) (aX (oM (t':=N2 K) (ck (nI (hD (bc.fg Z1 (c6 (ah 7) (ah 5))))) (a9 (pM (cP (c6 aV (cP (c6 aV aO)))) (pL I (kX (h1 7 i9.bp) (kX (h1 5 i9.bp) pK))))) cA) ?Z2) (aX (pM (bc.fg iw (fb (ah 7) (ah 5) (bc.fg ve (c6 (ah 0) (ah 3))))) (pL I (kX (h1 7 i9.bp) (kX (h1 8 i9.bp) pK)))) (aX (gQ (hb pC pB qG oK (ah 1) (bx (ah 7)))) (a9 (gQ (hb pC pB qG oK (ah 2) (bx (ah 8))))))))))))) (aX (ck (c3 kd (e7 nN I g.g.g.g2.g.jp nP (bx (hb lu tr ts tN aV (bx (ah 1))))) aO) (a9 (bE kW)) cA) (aX (mo rV I (oI I g.g.g.g2.g.v8 (bx aO)) (h1 9 i9.bp) (a9 (ck (c3 pP (e7 (LC al) I g.g.g.g2.g.Lb La (bx (bc.fg gM (bx (hb lu tr ts tN aV (bx (ah 1))))))) (e7 (LC al) I g.g.g.g2.g.Lb La (bx (ke x8 I g.g.g.sv su (bx (ah 2)))))) (a9 (bE kW)) cA))) (aX (ct 10 i9.bp (bc.fg ve (c6 (ah 0) aO))) (aX (pM (bc.fg qo (bx (a5 hW (ah 10) aO))) (pL I (kX (h1 7 i9.bp) (kX (h1 11 i9.bp) pK)))) (aX (oM (t':=N3 K) (ct 12 i9.bp (bc.fg gM (bx (a5 e5 (a5 e5 (hs K (ah 1) aO) aV) (ah 7))))) ?Z3) (aX (ct 13 i9.bp (a5 f3 (hb lu PySem.F.slot_str_count PySem.F.type_str_count Ng (hs K (ah 1) aO) (bx aV)) aO)) (aX (oM (t':=N4 K) (ck (gy.pt (ib (c3 pP (e7 WO I g.tR v3 (c6 (ah 12) (oG (v:=.ty "tuple") I g.g.g.sv su I))) (ah 11)) (jK (gy.pt (kb (nI (hD (ah 11))) (kz (c3 (WN bY) (ah 12) (eL (c6 aV (ah 13)))))))))) (a9 (bE kW)) cA) ?z7) (aX (ct 14 i9.bp (eL (cg aV (cg aV (cg aV (cg aV (cg aV (cg aV (cg aV (i3 aV aV aV aV)))))))) )) (aX (ct 14 i9.bp (a5 EB (ah 14) (eL (cg aV (cg aV (cg aV (cg aV (cg aV (i3 aV aV aV aV)))))) ))) (aX (ct 14 i9.bp (a5 EB (ah 14) (eL (cg aV (cg aV (cg aV (i3 aV aV aV aV)))) ))) (a9 (bE (jP (WM bY) (bc.fg gM (bx (a5 e5 (a5 e5 (hs K (ah 1) aO) aV) (hs K (ah 14) (a5 fx (a5 hW (ah 10) aO) aO))))) (eL (c6 aV (ah 13))))))))))))))))))),?main⟩
 case Z2=>
  rintro D aa ai ⟨a,R,U,eQ,fX,v,h6,jF,cs,d,rfl,bl,aK,cL⟩;obtain⟨ad,p,gc,k,bO,hd,aP,aq,ar,au⟩:=id bl;refine⟨_,I,_,I,S cs,v,d,ad,p,k,I,by rw[ek];omega,aK,hd,aq,by omega,λb aB cW=>⟨_,I,?_⟩⟩;cases b
  ·refine⟨e',λaS cm=>⟨e',λbM ed=>⟨bM,_,I,dI.of b',I,?_⟩⟩⟩;have oh:=cK cm (.tup [.str "number",.int 1]);have hn:=cK ed (.tup [.str "1",.ref aS]);have ag:At K _ (.tup [.str "number",.int 1]) (.ref aS):=At.new cm (ht (cz.mpr I) (hg.mpr I));exact⟨_,_,I,_,_,I,I,cL (.ref aS) [49] _ _ (cW.trans (oh.trans hn)) WQ (dB hn ag)⟩
  ·exact cL v cs d aB cW bl (dB cW aK)
 case Z3=>
  rintro D aa ai ⟨a,R,U,eQ,fX,gN,h6,jF,pu,td,aH,l,fu,e,good,rfl,bC,Dr,ae,au,g8,cL⟩;obtain⟨aw,ag,aR⟩:=g8;refine⟨_,I,R,_,_,_,I,I,bg.of bC,iD (j:=0) I,_,S (code "\nx = "),I,I,sl (by show _+5<=_;omega),?_⟩;rw[eA];refine⟨_,I,_,_,I,I,sl (by rw[cy];show _+5+_<=_;have:l.length<=1000:=ag;omega),?_⟩;rw[eA];cases good
  ·exact G1 Dr ae au aR ag (N1 Dr aw ag) (λds v Z z=>by cases z) λn p Z z s ar=>by
    cases z;exact cL _ Z s (.l p I I ar)
  ·obtain⟨ds,z3⟩:=WR Dr aw ag;exact G1 Dr ae au aR ag z3 (λou v Z z s aK=>by
    cases z;exact cL _ Z s (.t _ I aK)) λn p Z z=>by cases z
 case z7=>
  rintro D aa ai ⟨a,R,U,eQ,fX,gN,h6,ox,jF,pu,td,good,x,n,rfl,zk,cL⟩;cases zk with
  |t ds a1 ak=>
   subst a1;exact⟨_,I,.t x ds I ak ⟨_,I,I,_,I,dr ⟨_,I,_,I,dr (cL ai (ba.refl _))⟩⟩⟩
  |l p a1 ak ar=>
   subst a1 ak;refine⟨_,I,.l p _ I ar ⟨_,I,I,_,I,dr ⟨_,I,_,I,fz ⟨_,I,_,I,e',λbM ed=>?_⟩⟩⟩⟩;have cW:=cK ed (.lst [.str "text",.int ((n:Nat):Int)]);exact⟨p,bM,_,_,[.str "text",.int ((n:Nat):Int)],I,I,cW _ _ ar,b',ht (cz.mpr I) (hg.mpr I),ht (cz.mpr I) (hg.mpr I),by simp[fk,c2],_,I,cL _ cW⟩
 case main=>
  refine⟨kh,λR PE=>⟨kh,λU Ds=>?_⟩⟩;have PF:U≠R:=d9 Ds b';have I7:=cK PE (.lst []);have I8:=cK Ds (.lst []);have Z4:H U=none:=none_of I7 Ds;have PG:upd (upd H R (.lst [])) U (.lst []) R=some (.lst []):=I8 _ _ b';have PH:upd (upd H R (.lst [])) U (.lst []) U=some (.lst []):=b';have PI:=I7.trans I8;generalize upd (upd H R (.lst [])) U (.lst [])=aB at PG PH PI⊢;clear I7 I8 Ds;refine⟨_,I,by decide,by decide,GZ K H a R U,⟨2,none,none,none,none,none,none,[],[],[],I,by decide,I,PI,PG,PH,f5.mpr I,.nil,I⟩,?_⟩;rintro i jg aa a7 ⟨eQ,fX,gN,h6,ox,jF,aH,aj,vs,rfl,aR,rfl,a2,s7,PJ,ei,dC,lt⟩;rcases tp i 2 with cM|I2
  ·refine .inr ⟨cM,λσ' Z=>GZ K H a R U (i+1) (2 - (i+1)) σ' Z,λσ' Z h=>⟨_,by omega,h⟩,λx b1 ak=>?_⟩;obtain⟨rfl,rfl⟩:=ak;refine⟨⟨_,I,_,_,I,I,.inl ⟨by decide,by decide⟩,_,I,_,_,I,I,.inl ⟨by decide,by decide⟩,_,_,I,I,e',λb af I6=>?_⟩⟩;have ow:=cK af (.lst [.int (40*(0+(i:Int))),.int (40*(0+(i:Int))+14)]);have jd:upd b1 b (.lst [.int (40*(0+(i:Int))),.int (40*(0+(i:Int))+14)]) b=some (uv (40*i) (40*i+14)):=by
    rw[b',show 40*(0+(i:Int))=((40*i:Nat):Int) by omega];rfl
   have Dt:bg K b1 a (ns.map V.int):=a2.seq fI;have Z5:=GW Dt af I6;generalize upd b1 b (.lst [.int (40*(0+(i:Int))),.int (40*(0+(i:Int))+14)])=dS at ow jd⊢;refine⟨_,I,_,I,a,b,40*i,40*i+14,I,⟨⟨ns,ow.seq Dt,va⟩,Z5,jd,bf _⟩,by decide,(show 40*i+100*6<=10000 by omega),(show 40*i+14+100*6<=10000 by omega),λv gV bO=>?_⟩;obtain⟨d,ad,p,k,Dn,_,aK,hd,vb,ar,_⟩:=bO;have vb:ad<=7:=vb;have ar:p+3<=(40*i+14 - 40*i)+4*7:=ar;have vf:ba b1 gV:=bD.wl af ow Dn;have I9:bg K gV a (ns.map V.int):=vf.seq Dt;refine⟨_,I,⟨⟨_,I,_,_,I,I,.inl ⟨by decide,by decide⟩,_,_,I,I,ki,λdM zA Z6=>⟨⟨ki,λfJ n8 Z7=>⟨lO,λM I'=>?_⟩⟩⟩⟩⟩⟩;have qw:=cK zA (.lst [.int (100+50*(0+(i:Int)))]);have rA:upd gV dM (.lst [.int (100+50*(0+(i:Int)))]) dM=some (.lst [.int ((100+50*i:Nat):Int)]):=by
    rw[b',show 100+50*(0+(i:Int))=((100+50*i:Nat):Int) by omega]
   have Z8:=GW I9 zA Z6;generalize upd gV dM (.lst [.int (100+50*(0+(i:Int)))])=fV at qw rA n8 I'⊢;have vh:=cK n8 (.lst [.int 4]);have qq:upd fV fJ (.lst [.int 4]) fJ=some (.lst [.int ((4:Nat):Int)]):=b';have Z9:gV fJ=none:=none_of qw n8;have Z':=GW (qw.seq I9) n8 Z7;have aa0:dM≠fJ:=λz=>by rw[<-z,rA] at n8;cases n8
   generalize upd fV fJ (.lst [.int 4])=nd at vh qq I'⊢;have xw:=cK I' (.lst [.ref a,.ref dM,.ref fJ]);have xx:upd nd M (.lst [.ref a,.ref dM,.ref fJ]) M=some (.lst [.ref a,.ref dM,.ref fJ]):=b';generalize upd nd M (.lst [.ref a,.ref dM,.ref fJ])=mK at xw xx⊢;have Du:=qw.trans (vh.trans xw);have jV:hi K mK M a dM fJ (100+50*i) 4:=⟨xx,⟨⟨ns,Du.seq I9,va⟩,Z8,xw _ _ (vh _ _ rA),fN _⟩,xw _ _ qq,Z',aa0⟩;refine⟨_,I,_,I,v,0,M,a,dM,fJ,100+50*i,4,d,ad,p,k,I,dB Du aK,hd,vb,by omega,jV,by omega,λcs gc bv ec sO PK acK _ qi de z8 uL au=>?_⟩;have uL:=uL rfl;have Ja:ba gV sO:=λq o e=>PK q o (d9 e zA) (d9 e Z9) (Du q o e);have aa1:=fE (fF.hH jV PK) (dB Du aK);refine⟨a,R,U,_,_,v,_,_,cs,d,I,⟨ad,p,gc,k,de,hd,by omega,vb,by omega,by omega⟩,aa1,λgl fs d' Jb Jc PL n6=>?_⟩;have PM:ba b1 Jb:=vf.trans (Ja.trans Jc);have acL:fs.length<=1872:=by obtain⟨_,_,_,_,_,_,_,_,_,h⟩:=PL;exact h
   refine⟨_,I,_,I,_,I,_,I,a,ns,_,I,PM.seq Dt,va,by omega,λaa2 _=>⟨fs,d',gl,aa2,I,n6,by omega,λl e x xy vc ax ak=>?_⟩⟩;obtain⟨bN,xs,rfl,aD,Jd⟩:=eI.mp ak;obtain⟨j1,bR,rfl,ag,Je⟩:=fQ.mp Jd;obtain⟨hT,dL,rfl,ae,Jf⟩:=fQ.mp Je;cases f5.mp Jf;rw[cz.mp ag] at aD;have Dv:=PM.trans vc;have Jg:=Dv _ _ s7;have aa3:=Dv _ _ PJ;have rK:=PL.shape ax;have small:∀n,n<=3->n < sizeLine:=λn h=>eG (show n < 4 by omega) (by decide);refine⟨bN,_,I,aD,I,_,_,I,_,_,I,I,?_⟩;refine⟨_,I,.inl ⟨I,_,bg.of Jg⟩,_,I,R,_,_,I,I,Jg,small _ (by rw[eV];omega),?_⟩;have acM:vs.length=i:=by rw[ei.len];exact dC.len.symm.trans lt
   have xr:h2 xy (upd xy R (.lst (aH.map (λl=>V.str (S l))++[.str (S l)]))):=nV Jg;have oj:=bD.i4 R xy (.lst (aH.map (λl=>V.str (S l))++[.str (S l)]));have xz:upd xy R (.lst (aH.map (λl=>V.str (S l))++[.str (S l)])) R=some (.lst ((aH++[l]).map λl=>V.str (S l))):=by rw[b',vx];rfl
   generalize upd xy R (.lst (aH.map (λl=>V.str (S l))++[.str (S l)]))=Jh at xr oj xz⊢;have Ji:=oj _ _ PF aa3;refine⟨_,I,.inl ⟨I,_,bg.of Ji⟩,_,I,U,_,_,I,I,Ji,small _ (by omega),?_⟩;have PN:=nV (ys:=vs++[hT]) Ji;have C1:=bD.i4 U Jh (.lst (vs++[hT]));refine⟨_,_,_,_,_,_,aH++[l],aj++[e],vs++[hT],I,cM,I,?_,C1 _ _ (d0 PF) xz,b',?_,dC.snoc rK,by rw[cy,lt];rfl⟩
   ·exact bD.wl Z4 (bD.wl PE (a2.trans Dv) oj) C1
   ·exact bB.append (jQ PN (jQ xr (oU Dv ei))) (bB.jS (fE PN (fE xr ae)))
  ·refine .inl ⟨I2,?_⟩;have aE:aH.length=2:=by omega
   cases dC with
   |nil=>cases aE
   |cons z5 dD acN acO aa4 ol=>
   cases ol with
   |nil=>cases aE
   |cons eJ am acP acQ ol C2=>
   cases C2 with
   |cons=>simp at aE
   |nil=>
   obtain⟨hm,rfl,qx,PO,PP,aa5,acR⟩:=aa4;obtain⟨bR,rfl,xq,acS,acT,aa6,acU⟩:=ol;have aa7:bg K a7 a (ns.map V.int):=a2.seq fI;have PQ:Txt.join ("\n":Str) [S (da 10 hm),S (da 10 bR)]=S (da 10 (hm++bR)):=by
    have:=Wv 10 [da 10 hm,da 10 bR];rw[Cw qx.nl.1 xq.nl.1];exact this
   have acV:(da 10 (hm++bR)).length<=3801:=by rw[Cw qx.nl.1 xq.nl.1,cy,en];omega
   have sum2:(([S (da 10 hm),S (da 10 bR)]:dH).map (·.length)).sum+([S (da 10 hm),S (da 10 bR)]:dH).length*("\n":Str).length<=16777216:=by
    show(S (da 10 hm)).length+((S (da 10 bR)).length+0)+2*1<=_;rw[ek,ek];omega
   have aa8:wW (hm++bR):=⟨by simp[qx.nl.1],λx ak=>by rcases th.mp ak with z|z;exact qx.nl.2 x z;exact xq.nl.2 x z⟩;refine⟨I,_,I,_,R,[S (da 10 hm),S (da 10 bR)],I,I,bg.of s7,sum2,_,I,?_,_,_,I,I,_,I,fR (λ_=>q _) λ_=>?_⟩
   ·show(Txt.join ("\n":Str) [S (da 10 hm),S (da 10 bR)]).length<=_;rw[PQ,ek];exact ua (by omega)
   have Ad:il [dD,am] (120000+(120000+0)):=.cons aa5 (.cons aa6 .nil);have Ad:=g7.tup Ad;have PR:c2 (.tup [dD,am])<=40:=by simp only[c2,fk];omega
   have PS:(toPy (.tup [dD,am])).shown.length<=sizeLine:=dW Ad.l (ua (by show 240000+2*2+10<=_;omega));refine⟨_,I,by decide,by decide,G0 a7 a R U eQ fX gN h6 ox jF,⟨2,none,I,by decide,I,ba.refl _⟩,?_⟩;rintro Jj om acW dS ⟨pu,rfl,Px,rfl,dq⟩;rcases tp Jj 2 with PT|aa9
   ·refine .inr ⟨PT,λσ' Z=>G0 a7 a R U eQ fX gN h6 ox jF (Jj+1) (2 - (Jj+1)) σ' Z,λσ' Z h=>⟨_,by omega,h⟩,λx gV ak=>?_⟩;obtain⟨rfl,rfl⟩:=ak;refine⟨I,_,I,_,R,[S (da 10 hm),S (da 10 bR)],I,I,bg.of (dq _ _ s7),sum2,?_⟩;refine⟨hm++bR,.ok [dD,am],?_,aa8,by omega,by rw[cy];omega,WS qx xq,λds v fV aaa qw aK=>?_,λn p Z z=>by cases z⟩
    ·show [V.str (Txt.join ("\n":Str) [S (da 10 hm),S (da 10 bR)])]=_;rw[PQ]
    cases aaa;refine⟨v,_,I,aK,Ad.s,PR,PS,_,I,U,vs,I,.inl ⟨bg.of (qw _ _ (dq _ _ PJ)),λs1 qp=>?_⟩⟩;have vh:=cK qp (.tup vs);refine⟨_,[dD,am],I,At.new qp (oU (dq.trans qw) ei),Ad.s,PR,PS,I,_,I,?_⟩;rw[fv rfl];exact dr ⟨_,I,PT,I,dq.trans (qw.trans vh)⟩
   ·refine .inl ⟨aa9,?_⟩;refine⟨_,I,a,ns,_,I,dq.seq aa7,va,by decide,λch _=>?_⟩;refine⟨_,I,_,_,I,I,⟨by decide,by decide⟩,_,I,λl good x gV vf g8 ak=>?_⟩;obtain⟨bN,xs,rfl,aD,Jd⟩:=eI.mp ak;obtain⟨j1,CM,rfl,ag,Je⟩:=fQ.mp Jd;obtain⟨hT,CN,rfl,ae,Jf⟩:=fQ.mp Je;cases f5.mp Jf;rw[cz.mp ag,ie.mp ae] at aD;refine⟨bN,_,I,aD,I,_,_,I,_,_,I,I,?_⟩;have PU:=dq.trans vf;refine⟨a,R,U,_,_,_,_,_,_,_,_,l,hm,dD,good,I,PU _ _ s7,qx,PO,PP,g8,λaab fV qw zk=>?_⟩;have PV:=PU.trans qw;refine⟨_,I,R,_,_,_,I,I,bg.of (PV _ _ s7),iD (j:=0) I,I,_,_,I,I,_,_,I,I,?_⟩;have aac:Txt.count (S (da 10 hm)) ("\n":Str)+1=((hm.length:Nat):Int):=by
     have:=NQ qx.nl;have eJ:1<=hm.length:=List.length_pos_iff.mpr qx.nl.1;rw[show(("\n":Str))=⟨#[10]⟩ from I,this];omega
    dsimp only;rw[aac];refine⟨a,R,U,_,_,_,_,_,_,_,_,good,aab,hm.length,I,zk,λnd vh=>?_⟩;have aad:=vh _ _ (PV _ _ s7);refine⟨by decide +kernel,λaS cm=>dz cm λmK xw xx=>⟨_,I,by decide +kernel,λbM ed=>?_⟩⟩;have xx:mK aS=some (.lst ((wQ.take 11).map λl=>V.str (S l))):=xx;refine⟨aS,bM,_,_,I,I,cK ed _ _ _ xx,b',by decide +kernel,λbI gs=>?_⟩;revert gs;refine dz ed λsO Ja _ gs=>dz gs λJb Jc Jk=>⟨_,I,by decide +kernel,λkt kL=>?_⟩;have Jk:Jb bI=some (.lst ((wQ.take 20).map λl=>V.str (S l))):=Jk;refine⟨bI,kt,_,_,I,I,cK kL _ _ _ Jk,b',by decide +kernel,λeT ix=>?_⟩;revert ix;refine dz kL λxy vc _ ix=>dz ix λJh aae xz=>?_;have xz:Jh eT=some (.lst (wQ.map λl=>V.str (S l))):=xz;have aaf:=xw.trans (Ja.trans (Jc.trans (vc.trans aae)));have aag:=aaf _ _ aad;obtain⟨gK,cB⟩:=m9 (a:=ch / 7) (b:=27) (by decide);obtain⟨v,aK,IP⟩:=wK (xs:=wQ.map λl=>V.str (S l)) gK (by rw[eV];exact cB);obtain⟨kq,PW,rfl⟩:=mU.mp aK;have af:=eW.mp V3 kq PW;have Ae:(wQ.all λl=>decide (l.length<=1000)&&l.all inR)=true:=by decide +kernel
    have Ae:=eW.mp Ae kq PW;rw[jh] at Ae;have et:=gP Ae.1;refine⟨_,I,R,_,_,_,I,I,bg.of aag,iD (j:=0) I,_,S (code "\nx = "),I,I,sl (by show _+5<=_;omega),?_⟩;rw[eA];refine⟨_,I,_,I,_,_,I,I,⟨by decide,by decide⟩,_,_,I,I,(by show(0:Int) < 27;decide),eT,_,_,_,I,I,bg.of xz,IP,_,_,I,I,sl (by rw[cy];show _+5+_<=_;omega),?_⟩;rw[eA];refine G1 qx PO PP Ae.2 et (N1 qx af et) (λds v Z z=>by cases z) λn p acX z OW ar=>?_;cases z;refine⟨_,I,e',λlp w'=>?_⟩;have aah:=cK w' (.lst [.str "text",.int ((hm.length:Nat):Int)]);exact⟨p,lp,_,_,[.str "text",.int ((hm.length:Nat):Int)],I,I,aah _ _ ar,b',ht (cz.mpr I) (hg.mpr I),ht (cz.mpr I) (hg.mpr I),by simp[fk,c2],q _⟩
end
def dw (K:aJ) (mg:Str->cn) (name:Str) (st:Stmt):Prop:=∃f as,mg name=some (.ref f)/\b5 K name name st f as
def fun_at {K h mg name st f gn dg an gI eo fW pm bk b0}(X:K.In h) (G:h.Ns mainGlobals mg) (a:PySem.W.nsIn K mainGlobals name=some (some (.ref f))) (l:K.lookup f=some ⟨gn,dg,.func (PySem.W.fnOf name name (k2 st) (lI st) (bF st) .none eo fW pm an bk b0),gI⟩) (c:PySem.W.codeIn K bk name=true) (k:PySem.W.keepIn K (.ref f)=true):dw K mg name st:=⟨f,_,pD X G a,AX l c k⟩
def hJ (K:aJ) (C:Addr) (name ce:Str) (st:Stmt):Prop:=∃f as,pQ K C name f/\b5 K name ce st f as
def me_at {K C name ce st f gn dg an gI eo fW pm bk b0}(m:pQ K C name f) (l:K.lookup f=some ⟨gn,dg,.func (PySem.W.fnOf name ce (k2 st) (lI st) (bF st) .none eo fW pm an bk b0),gI⟩) (c:PySem.W.codeIn K bk ce=true):hJ K C name ce st:=⟨f,_,m,AX l c m.cZ⟩
def sI (K:aJ) (C:Addr) (ce:Str) (st:Stmt):Prop:=∃f as,vS K C f/\b5 K "__init__" ce st f as
def ini_at {K C ce st f gn dg an gI eo fW pm bk b0}(m:vS K C f) (l:K.lookup f=some ⟨gn,dg,.func (PySem.W.fnOf "__init__" ce (k2 st) (lI st) (bF st) .none eo fW pm an bk b0),gI⟩) (CO:PySem.W.codeIn K bk ce=true) (k:PySem.W.keepIn K (.ref f)=true):sI K C ce st:=
 ⟨f,_,m,AX l CO k⟩
def G2 (K:aJ) (C:Addr):Prop:=∃f as kJ u,pQ K C "seen" f/\Bx K "seen" "Row.seen" wq f as kJ/\RelV (.int 0) u/\Binds K as mP [u]/\Binds K as mP []
def seen_at {K:aJ}{C f T:Addr}{gn fU:Value}{dg an l7:tf}{gI aai:Array (cn)}{eo fW pm bk b0:Value}{n t:Nat}(m:pQ K C "seen" f) (l:K.lookup f=some ⟨gn,dg,.func (PySem.W.fnOf "seen" "Row.seen" (k2 wq) (lI wq) (bF wq) (.ref T) eo fW pm an bk b0),gI⟩) (c:PySem.W.codeIn K bk "Row.seen"=true) (ot:K.lookup T=some ⟨fU,l7,.seq #[.int 0 t] n,aai⟩):G2 K C:=
 ⟨f,_,.ref T,.int 0 t,m,⟨⟨gn,dg,eo,fW,pm,an,bk,b0,gI,I,l,c⟩,m.cZ⟩,⟨t,I⟩,λs us cJ au=>by
  have ae:us.length=1:=by simpa using au
  match us,ae with
  |[_],_=>exact PySem.W.binds_K cJ I ot I I I,λs us cJ au=>by
  have ae:us.length=2:=by simpa using au
  match us,ae with
  |[_,_],_=>exact PySem.W.binds_K cJ I ot I I I⟩
def CE (K:aJ):Value->Option (e3)
 |.ref a=>match K.lookup a with
  |some ⟨.type "tuple",_,.seq aL _,_⟩=>if aL.size<=sizeLine then some aL.toList else none
  |_=>none
 |_=>none
def WU {K:aJ}{v:Value}{vs:e3}(h:CE K v=some vs):∃a,v=.ref a/\∀(H:ap) (us:br),b4 us vs->dI K H a us:=by
 unfold CE at h;split at h
 ·rename_i a;refine⟨a,I,λH us r=>?_⟩;split at h
  ·rename_i d aL n sl au;split at h
   ·rename_i hz;injection h with h;exact .inr ⟨_,aL,n,au,I,I,hz,by rw[h];exact r⟩
   ·cases h
  ·cases h
 ·cases h
def WV:Value->V
 |.str x _=>.str x
 |.bool b=>.aM b
 |.ref a=>.ref a
 |_=>.a3
def WW (x:Bool):Value->Bool
 |.bool y=>x == y
 |_=>false
mutual
def mD (K:aJ):D->Value->Bool
 |.str x,v=>Value.isStrOf x v
 |.aM x,v=>WW x v
 |.tup ds,v=>(match CE K v with|some us=>λf:e3->Bool=>f us|none=>λ_=>false) (y7 K ds)
 |.a3,_=>false
 |.int _,_=>false
def y7 (K:aJ):d8->e3->Bool
 |[],us=>us.isEmpty
 |d::ds,us=>!us.isEmpty&&mD K d (us.headD .none)&&y7 K ds us.tail
end
mutual
theorem G3 {K:aJ}:∀d u,mD K d u=true->∃v,(v=WV u)/\RelV v u/\∀H,At K H d v
 |.str x,u,h=>by
  rw[mD] at h;obtain⟨t,rfl⟩:=Value.isStrOf_shape h;exact⟨.str x,I,⟨t,I⟩,λH=>cz.mpr I⟩
 |.aM x,u,h=>by
  rw[mD] at h;cases u with
  |bool y=>
   have:x=y:=eq_of_beq h;subst this;exact⟨.aM x,I,I,λH=>ie.mpr I⟩
  |_=>cases h
 |.tup ds,u,h=>by
  rw[mD] at h;cases e:CE K u with
  |none=>rw[e] at h;cases h
  |some us=>
   rw[e] at h;obtain⟨a,rfl,q⟩:=WU e;obtain⟨vs,r,ei⟩:=N5 ds us h;exact⟨.ref a,I,I,λH=>eI.mpr ⟨a,vs,I,q H vs r,ei H⟩⟩
 |.a3,u,h=>by rw[mD] at h;cases h
 |.int i,u,h=>by rw[mD] at h;cases h
theorem N5 {K:aJ}:∀ds us,y7 K ds us=true->∃vs,b4 vs us/\∀H,bB K H ds vs
 |[],us,h=>by
  rw[y7] at h;have:=List.isEmpty_iff.mp h;subst this;exact⟨[],.nil,λH=>f5.mpr I⟩
 |d::ds,us,h=>by
  rw[y7,jh,jh] at h;cases us with
  |nil=>exact absurd h.1.1 (by simp)
  |cons u us=>
   obtain⟨v,_,r,aK⟩:=G3 d u h.1.2;obtain⟨vs,eD,ei⟩:=N5 ds us h.2;exact⟨v::vs,.cons r eD,λH=>fQ.mpr ⟨v,vs,I,aK H,ei H⟩⟩
end
def gtr_at {K:aJ}{h:Heap}{mg:Str->cn}{name:Str}{p:Addr}{d:D}(X:K.In h) (G:h.Ns mainGlobals mg) (a:PySem.W.nsIn K mainGlobals name=some (some (.ref p))) (e:mD K d (.ref p)=true):kk K mg name d:=by
 obtain⟨v,fd,r,aK⟩:=G3 d _ e;have fd:v=.ref p:=fd;subst fd;exact⟨p,pD X G a,aK⟩
def tup_at {K:aJ}{h:Heap}{mg:Str->cn}{name:Str}{p:Addr}{zs:dH}(X:K.In h) (G:h.Ns mainGlobals mg) (a:PySem.W.nsIn K mainGlobals name=some (some (.ref p))) (e:mD K (.tup (zs.map D.str)) (.ref p)=true):qW K mg name (zs.map V.str):=by
 obtain⟨q,aQ,aq⟩:=gtr_at X G a e;refine⟨q,aQ,λH=>?_⟩;obtain⟨kF,vs,eq,ax,ei⟩:=eI.mp (aq H);cases eq;have:vs=zs.map V.str:=by
  clear e aq ax
  induction zs generalizing vs with
  |nil=>exact f5.mp ei
  |cons z zs ih=>
   obtain⟨v,r,rfl,ag,ae⟩:=fQ.mp ei;rw[cz.mp ag,ih r ae];rfl
 rw[<-this];exact ax
def tv_at {w:World}{K:aJ}{h:Heap}{mg:Str->cn}{a sU CU Jl:Addr}{d5 gr gb n:Nat}(X:K.In h) (G:h.Ns mainGlobals mg) (e:PySem.W.nsIn K mainGlobals "TOLD_VALUES"=some (some (.ref a))) (ax:(a == sysModules)=false) (l:K.lookup a=some ⟨.type "dict",none,.dict #[⟨PyData.keyHash w.params "True",.str "True" d5,.ref sU⟩,⟨PyData.keyHash w.params "False",.str "False" gr,.ref CU⟩,⟨PyData.keyHash w.params "None",.str "None" gb,.ref Jl⟩] n,#[]⟩) (am:mD K (.tup [.str "truth",.aM true]) (.ref sU)=true) (aE:mD K (.tup [.str "truth",.aM false]) (.ref CU)=true) (bq:mD K (.tup [.str "none"]) (.ref Jl)=true):TvG w K mg:=by
 have Jm:∀{d u},mD K d (.ref u)=true->∀H,At K H d (.ref u):=λ{d u} h H=>by
  obtain⟨v,fd,_,aK⟩:=G3 d _ h;have fd:v=.ref u:=fd;subst fd;exact aK H
 refine⟨a,_,n,pD X G e,ax,l,λe he=>?_,λz=>?_⟩
 ·simp only[Array.mem_def,List.mem_cons,List.not_mem_nil,or_false] at he;rcases he with rfl|rfl|rfl
  ·exact⟨_,_,I,I⟩
  ·exact⟨_,_,I,I⟩
  ·exact⟨_,_,I,I⟩
 ·have aaj:∀aj:List DictEntry,findBy Value.isStrOf aj.toArray z=(aj.find? λe=>Value.isStrOf z e.key).map (·.val):=λaj=>by unfold findBy;simp
  by_cases ag:z="True"
  ·subst ag;exact⟨sU,I,Jm am⟩
  ·by_cases ae:z="False"
   ·subst ae;exact⟨CU,I,Jm aE⟩
   ·by_cases aW:z="None"
    ·subst aW;exact⟨Jl,I,Jm bq⟩
    ·have iN:(("True":Str) == z)=false:=h8.mpr λy=>ag y.symm;have lU:(("False":Str) == z)=false:=h8.mpr λy=>ae y.symm;have IX:(("None":Str) == z)=false:=h8.mpr λy=>aW y.symm;have xj:(z == ("True":Str))=false:=h8.mpr ag;have zZ:(z == ("False":Str))=false:=h8.mpr ae;have z0:(z == ("None":Str))=false:=h8.mpr aW;have lk:sy.lookup z=none:=by unfold sy;rw[h9,xj,h9,zZ,h9,z0];rfl
     rw[lk];show findBy _ _ z=none;rw[aaj];show Option.map _ (List.find? _ [_,_,_])=none;rw[D1,show Value.isStrOf z (Value.str "True" d5)=false from iN,D1,show Value.isStrOf z (Value.str "False" gr)=false from lU,D1,show Value.isStrOf z (Value.str "None" gb)=false from IX];rfl
theorem N6 {cC kw:Type}{f g:cC->Option kw}:∀{l:List cC},(∀x∈l,f x=g x)->l.filterMap f=l.filterMap g
 |[],_=>rfl
 |a::l,h=>by rw[vq,vq,h a (jG ..),N6 λx m=>h x (j4 _ m)]
theorem N7:∀{aG:dH}{us:e3},aG.Nodup->us.length=aG.length->aG.filterMap (λn=>((aG.zip us).lookup n).map (λx=>(n,x)))=aG.zip us
 |[],_,_,_=>rfl
 |p::aG,[],_,h=>by cases h
 |p::aG,u::us,aP,h=>by
  have aP:=xH.mp aP;rw[List.zip_cons_cons,List.filterMap_cons_some (b:=(p,u)) (by simp[List.lookup])];congr 1;refine(N6 (g:=λn=>((aG.zip us).lookup n).map (λx=>(n,x))) ?_).trans ?_
  rotate_left
  ·exact N7 aP.2 (Nat.succ.inj h)
  ·intro x m;have e:(x == p)=false:=h8.mpr λe=>aP.1 (e▸m);simp[List.lookup,e]
def WX:∀{aG:dH}{us:e3},us.length=aG.length->aG.filter (λn=>((aG.zip us).lookup n).isNone)=[]:=by
 intro aG us h;rw[List.filter_eq_nil_iff];intro x m
 induction aG generalizing us with
 |nil=>cases m
 |cons p aG ih=>
  cases us with
  |nil=>cases h
  |cons u us=>
   rw[List.zip_cons_cons,List.lookup];by_cases e:(x == p)=true
   ·rw[e];simp
   ·have e:(x == p)=false:=by simpa using e
    rw[e];refine ih (Nat.succ.inj h) ?_;rcases gZ.mp m with rfl|m
    ·simp at e
    ·exact m
def wY (p:Arguments) (aG:dH):Prop:=p.posonlyargs=[]/\p.args.map (·.arg)=aG/\p.vararg=none/\p.kwonlyargs=[]/\p.kwarg=none/\aG.Nodup
def o4 {K:aJ}{x ce:Str}{st:Stmt}{f:Addr}{as:FuncData}{aG:dH}(F:b5 K x ce st f as) (h:wY (k2 st) aG):Binds K as aG []:=by
 refine F.binds λeo fW pm an bk b0 us au=>?_;obtain⟨ag,ae,aW,bm,b7,dZ⟩:=h;have hQ:¬us.length > aG.length:=by omega
 unfold bindArgs;simp only[PySem.W.fnOf,ag,ae,aW,bm,b7,List.map_nil,List.nil_append,List.forIn_nil,pure_bind,seqItems?];simp[au,WX au,N7 dZ au];rfl
section
variable (P:Program) (w:World) (base:Heap){K:aJ}{mg:Str->cn}{name:Str}{st:Stmt}
def _root_.zzk{p:Prop}(h:p:=by exact⟨I,I,I,I,I,fP⟩):=h
def _root_.zzb:Lean.Syntax:=zzk._auto_1
def i' {aG lv sp}(f:dw K mg name st) (h:∀{f:Addr}{as:FuncData},b5 K name name st f as->bK P w K mg base dJ lv f as aG sp) (af:autoParam (wY (k2 st) aG) zzb):d7 P w K mg base name aG lv sp:=by
 obtain⟨a,d,m,F⟩:=f;exact EK F m (o4 F af) (h F)
def wZ {aG lv sp}(f:dw K mg name st) (h:∀{f:Addr}{as:FuncData},b5 K name name st f as->bK P w K mg base (bQ P w) lv f as aG sp) (af:autoParam (wY (k2 st) aG) zzb):dv P w K mg base name aG lv sp:=by
 obtain⟨a,d,m,F⟩:=f;exact⟨a,d,m,F.cZ,o4 F af,h F⟩
def G4 {aG lv sp C ce}(m:mg name=some (.ref C)) (i:sI K C ce st) (h:∀{f:Addr}{as:FuncData},b5 K "__init__" ce st f as->bK P w K mg base dJ lv f as aG sp) (af:autoParam (wY (k2 st) aG) zzb):t6 P w K mg base name C aG lv sp:=by
 obtain⟨f,d,k,F⟩:=i;exact⟨_,_,m,k,o4 F af,h F⟩
def n1 {aG lv sp C ce}(c:jo K C) (i:hJ K C name ce st) (h:∀{f:Addr}{as:FuncData},b5 K name ce st f as->bK P w K mg base (bQ P w) lv f as aG sp) (af:autoParam (wY (k2 st) aG) zzb):hh P w K mg base name C aG lv sp:=by
 obtain⟨f,d,k,F⟩:=i;exact⟨_,_,c,k,o4 F af,h F⟩
end
def dw.fa {K:aJ}{mg:Str->cn}{name:Str}{st:Stmt}{aG:dH}(f:dw K mg name st) (af:autoParam (wY (k2 st) aG) zzb):h3 K mg name st aG:=by
 obtain⟨a,d,m,F⟩:=f;exact⟨a,d,m,F,o4 F af⟩
structure RwCAt (K:aJ) (mg:Str->cn) (C:Addr):Prop where
 m:mg "Row"=some (.ref C)
 c:iI K C
 i:sI K C "Row.__init__" Br
 s:G2 K C
 t:hJ K C "taken" "Row.taken" Bs
 k:hJ K C "skips" "Row.skips" Bt
 w:hJ K C "wants" "Row.wants" Bu
 n:hJ K C "wants_name" "Row.wants_name" Bv
structure LvCAt (K:aJ) (mg:Str->cn) (C:Addr):Prop where
 m:mg "Level"=some (.ref C)
 c:sA K C
 i:sI K C "Level.__init__" B1
 e:hJ K C "is_empty" "Level.is_empty" B2
 s:hJ K C "settle" "Level.settle" yO
structure RdCAt (K:aJ) (mg:Str->cn) (C:Addr):Prop where
 m:mg "Reader"=some (.ref C)
 c:uj K C
 i:sI K C "Reader.__init__" B5
 cl:hJ K C "close" "Reader.close" pClose
 ad:hJ K C "add_statement" "Reader.add_statement" B6
 wg:hJ K C "begin_block" "Reader.begin_block" yQ
 aH:hJ K C "take_statement" "Reader.take_statement" yR
 Em:hJ K C "take_row" "Reader.take_row" yS
 df:hJ K C "finished" "Reader.finished" yT
structure TxCAt (K:aJ) (mg:Str->cn) (aF SB:Addr):Prop where
 e:∃f as,jO K aF SB f/\b5 K "__init__" "BadText.__init__" wo f as
 b:yn K SB
 jR:mg "SnakeError"=some (.ref SB)
 t:NU K mg aF
section
variable {P:Program}{w:World}{K:aJ}{mg:Str->cn}
def law_of3 (g:Glb5 K mg) (B:TvG w K mg) (fI:StK K) (gX:∃C,RwCAt K mg C) (mc:∃C,LvCAt K mg C) (cr:∃C,RdCAt K mg C) (te:∃C S,TxCAt K mg C S) (f1:dw K mg "is_word_sign" EP) (f2:dw K mg "is_name" EQ) (dy:dw K mg "is_number" ER) (hf:dw K mg "is_text_literal" ES) (hj:dw K mg "word_of" ET) (O1:dw K mg "behind_literal" EU) (O2:dw K mg "behind_word_signs" EV) (aak:dw K mg "behind_piece" EW) (aal:dw K mg "words_of" EX) (aam:dw K mg "indent_of" E7) (aan:dw K mg "rows_of" E8) (aao:dw K mg "sized" BB) (aap:dw K mg "parted" yt) (aaq:dw K mg "in_brackets" yu) (aar:dw K mg "perhaps_parted" yv) (aas:dw K mg "values_in_brackets" yw) (aat:dw K mg "read_single" yB) (aau:dw K mg "read_call" yC) (aav:dw K mg "read_reach" yD) (aaw:dw K mg "read_repeated" yE) (aax:dw K mg "read_pair" yF) (aay:dw K mg "read_from_left" yG) (aaz:dw K mg "read_minus" BJ) (aaA:dw K mg "read_product" BK) (aaB:dw K mg "read_sum" BL) (aaC:dw K mg "read_compare" yJ) (aaD:dw K mg "read_not" BM) (aaE:dw K mg "read_and" BN) (aaF:dw K mg "read_or" BO) (aaG:dw K mg "read_expression" BP) (aaH:dw K mg "read_told" BR) (aaI:dw K mg "read_binding" BS) (aaJ:dw K mg "read_doing" BU) (aaK:dw K mg "read_single_row" BV) (aaL:dw K mg "read_head" F2) (aaM:dw K mg "tree_of" F3) (aaN:dw K mg "read" Cb) (aaO:dw K mg "_law_cell_at" Gj) (aaP:dw K mg "_law_cell" Gi) (aaQ:dw K mg "_law_name" Gn) (aaR:dw K mg "_law_told" Gm) (aaS:dw K mg "_law_least" Gw) (aaT:dw K mg "_law_tree" Gz) (aaU:dw K mg "_law_rank" GA) (aaV:dw K mg "_law_put" Cm) (aaW:dw K mg "_law_text" Cn) (aaX:dw K mg "_law_read" GO) (aaY:dw K mg "_law_fits" GF) (aaZ:dw K mg "_law_parts" GD) (ab0:dw K mg "_law_bound" GP) (ab1:dw K mg "_law_shape" GJ) (ab2:dw K mg "law" GU){fa:Addr}(CV:mg "law"=some (.ref fa)):∃as:FuncData,(∀s v,BindsTo s as ⟨[v],[]⟩ [("_law_script",v)])/\∀base:Heap,bK P w K mg base dJ 323 fa as ["_law_script"] (y6 K):=by
 obtain⟨C,gX⟩:=gX;obtain⟨CL,mc⟩:=mc;obtain⟨aY,cr⟩:=cr;obtain⟨aF,SB,te⟩:=te;obtain⟨ab3,jX,I5,Dq⟩:=ab2;rw[I5] at CV;have cX:ab3=fa:=by injection CV with e;injection e
 subst cX;refine⟨jX,λs v=>?_,λbase=>?_⟩
 ·obtain⟨gn,dg,eo,fW,pm,an,bk,b0,gI,rfl,lk,gT⟩:=Dq.ex;exact .of_eq rfl
 have g3:=g.g.g;have g2:=g3.g2;have g1:=g2.g;have Jn:=i' P w base f1 λh=>RQ g1 h;have ab4:=i' P w base f2 λh=>RS g1 h Jn;have ab5:=i' P w base dy λh=>RU g1 h;have ab6:=i' P w base hf λh=>RX g1 h;have ab7:=i' P w base hj λh=>R3 g1 h ab4 ab5 ab6;have ab8:=i' P w base O1 λh=>R6 g1 h;have ab9:=i' P w base O2 λh=>R7 g1 h Jn;have aba:=i' P w base aak λh=>Sa g1 h Jn ab8 ab9;have abb:=i' P w base aal λh=>Sb g1 h aba ab7;have abc:=i' P w base aam λh=>Sh g2 h;have abd:=i' P w base aan λh=>Si g2 h abb abc;have A:BQ K mg:=⟨aao.fa,aap.fa,aaq.fa,aar.fa,aas.fa,aat.fa,aau.fa,aav.fa,aaw.fa,aax.fa,aay.fa,aaz.fa,aaA.fa,aaB.fa,aaC.fa,aaD.fa,aaE.fa,aaF.fa,aaG.fa⟩;have gL:mw P w K mg base "BadText" aF SB ls 1 (mx K aF):=by
  obtain⟨f,as,e,F⟩:=te.e;exact⟨f,as,te.t.B',e,o4 F (by exact⟨I,I,I,I,I,fP⟩),TL e te.b te.jR te.t.fa F⟩
 have nj:nW P w K mg base "seen" C mP 1 (oW K C):=by
  obtain⟨f,as,kJ,u,m,F,r,b2,dM⟩:=gX.s;exact⟨f,as,u,gX.c.cls,m,r,b2,dM,GS.bK.toF (Ub g3 gX.c F)⟩
 have lm:=n1 P w base (mg:=mg) gX.c.cls gX.t λh=>Ud gX.c h nj;have PX:=n1 P w base (mg:=mg) gX.c.cls gX.k λh=>Uh gX.c h nj;have C0:=n1 P w base (mg:=mg) gX.c.cls gX.w λh=>Uj gX.c h gL PX;have iQ:=n1 P w base (mg:=mg) gX.c.cls gX.n λh=>Ul gX.c h gL lm;have M:oY P w K mg base C aF:=⟨nj,lm,PX,C0,iQ⟩;have jC:=Vc g3 B gX.c gL M A;have abe:=wZ P w base aaH λh=>Vi g3 h M jC;have abf:=wZ P w base aaI λh=>Vj g.g h M jC;have abg:=wZ P w base aaJ λh=>Vl g.g h M jC;have abh:=wZ P w base aaK λh=>Vm g.g h M abe abf abg;have abi:=wZ P w base aaL λh=>Vo h jC;have abj:=wZ P w base aaM λh=>Vp g3 g.VF h;have z1:=G4 P w base gX.m gX.i λh=>Ua g3 gX.c h;have xf:=G4 P w base mc.m mc.i λh=>Vs mc.c h;have IA:=n1 P w base (mg:=mg) mc.c.cls mc.e λh=>GS.bK.toF (Vu mc.c h);have Jo:=n1 P w base (mg:=mg) mc.c.cls mc.s λh=>Vw mc.c h abj;have abk:=G4 P w base cr.m cr.i λh=>Vz cr.c h xf;have PY:=n1 P w base (mg:=mg) cr.c.cls cr.cl λh=>VA g3 cr.c mc.c h IA Jo;have abl:=n1 P w base (mg:=mg) cr.c.cls cr.ad λh=>VH (CL:=CL) g cr.c h;have abm:=n1 P w base (mg:=mg) cr.c.cls cr.wg λh=>VI g cr.c mc.c h M xf abi;have abn:=n1 P w base (mg:=mg) cr.c.cls cr.aH λh=>VK g cr.c mc.c gX.c h M Jo abl abm abh;have abo:=n1 P w base (mg:=mg) cr.c.cls cr.Em λh=>VL g gX.c h M z1 PY abn;have abp:=n1 P w base (mg:=mg) cr.c.cls cr.df λh=>VN g cr.c mc.c h PY Jo;have d6:=i' P w base aaO λh=>VR g3 h;have L2:=i' P w base aaP λh=>VS g3 h;have H0:=i' P w base aaR λh=>VX h;have bc:=i' P w base aaQ λh=>V0 g3 h H0;have H1:=i' P w base aaS λh=>Wg g3 fI h bc;obtain⟨qr,xd,u4,Jp⟩:=aaT;have mO:Binds K xd vk []:=o4 Jp (by exact⟨I,I,I,I,I,fP⟩);have abq:=EK Jp u4 mO (Nt g3 Jp u4 mO L2 bc H1 7);have abr:=i' P w base aaU λh=>Wi g3 h;obtain⟨Df,acY,abt,PZ⟩:=aaV;obtain⟨Pd,acZ,abu,P0⟩:=aaW;have abv:=NH g3 PZ abt (o4 PZ (by exact⟨I,I,I,I,I,fP⟩)) P0 abu (o4 P0 (by exact⟨I,I,I,I,I,fP⟩)) L2 abr 7;obtain⟨ad0,ks,xm,Jq⟩:=aaN;have abw:=i' P w base aaX λh=>WC te.t h (VP g gL Jq abd abk abo abp) xm Jq.cZ (o4 Jq (by exact⟨I,I,I,I,I,fP⟩));obtain⟨ad1,oJ,mp,rJ⟩:=aaZ;have P1:Binds K oJ mQ []:=o4 rJ (by exact⟨I,I,I,I,I,fP⟩);have abx:d7 P w K mg base "_law_parts" mQ 8 (Ct K 7):=EK rJ mp P1 (NN g rJ mp P1 7);have aby:=i' P w base aaY λh=>Ws g h abx;have abz:=i' P w base ab0 λh=>WJ h;have abA:=i' P w base ab1 λh=>Wu g h;exact WT g Dq d6 abq abv aby abA abz abw
end
def walk3 {l:PySem.W.OpenLaw}{q:Program}{loose:dH}{wn:(Str->cn)->Heap->Prop}{sL:World->Heap->Prop}{d:DefRec}{K:Params->aJ}(aP:l.most=some 63) (zi:d.params.defaults=[]) (jb:∀(w:World) (h:Heap),sL w h->(K w.params).In h) (F:∀(w:World) (mg:Str->cn) (fa:Addr) (h:Heap),(K w.params).In h->h.Ns mainGlobals mg->mg d.name=some (.ref fa)->∃as:FuncData,(∀(s:Shared) (u:Value),BindsTo s as ⟨[u],[]⟩ [("_law_script",u)])/\∀base:Heap,bK l.prog w (K w.params) mg base dJ 323 fa as ["_law_script"] (y6 (K w.params))):PySem.W.WalkO q loose wn sL l.row.toRowW d [] (λf vs=>PySem.call f vs):=
 L2.Rt (n:=63) (k:=323) (x:="_law_script") (CX:=λ_=>dJ) (sp:=λw=>y6 (K w.params)) aP fP zi ⟨I,fP,fP,I⟩ jb (λw mg fa h a b c=>let ⟨as,p,q⟩:=F w mg fa h a b c;⟨as,p,λbase _ _=>q base⟩) (λ_ _ a ns au _ fI=>⟨a,ns,I,fI,au,λ_=>I⟩) λ_ _ _ _ _ z=>z
section
variable {K:aJ}{h:Heap}{mg:Str->cn}{name:Str}
def int_at {i:Int}{t:Nat}(X:K.In h) (G:h.Ns mainGlobals mg) (a:PySem.W.nsIn K mainGlobals name=some (some (.int i t))):∃t,mg name=some (.int i t):=⟨t,pD X G a⟩
def str_at {z:Str}{t:Nat}(X:K.In h) (G:h.Ns mainGlobals mg) (a:PySem.W.nsIn K mainGlobals name=some (some (.str z t))):∃t,mg name=some (.str z t):=⟨t,pD X G a⟩
def tupS_at {p:Addr}{ys:List (bh)}(X:K.In h) (G:h.Ns mainGlobals mg) (a:PySem.W.nsIn K mainGlobals name=some (some (.ref p))) (e:mD K (.tup ((ys.map S).map D.str)) (.ref p)=true):qW K mg name (ys.map λy=>V.str (S y)):=by
 have:=tup_at (zs:=ys.map S) X G a e
 rwa [kS] at this
def rwc_at {C:Addr}(X:K.In h) (G:h.Ns mainGlobals mg) (a:PySem.W.nsIn K mainGlobals "Row"=some (some (.ref C))) (c:jo K C) (bS:NoAttr K C "number") (cH:NoAttr K C "words") (g4:NoAttr K C "place") (ij:NoAttr K C "brackets") (i:sI K C "Row.__init__" Br) (s:G2 K C) (t:hJ K C "taken" "Row.taken" Bs) (k:hJ K C "skips" "Row.skips" Bt) (w:hJ K C "wants" "Row.wants" Bu) (n:hJ K C "wants_name" "Row.wants_name" Bv):∃C,RwCAt K mg C:=
 ⟨C,pD X G a,⟨c,bS,cH,g4,ij⟩,i,s,t,k,w,n⟩
def lvc_at {C:Addr}(X:K.In h) (G:h.Ns mainGlobals mg) (a:PySem.W.nsIn K mainGlobals "Level"=some (some (.ref C))) (c:jo K C) (bS:NoAttr K C "statements") (cH:NoAttr K C "clauses") (i:sI K C "Level.__init__" B1) (e:hJ K C "is_empty" "Level.is_empty" B2) (s:hJ K C "settle" "Level.settle" yO):∃C,LvCAt K mg C:=
 ⟨C,pD X G a,⟨c,bS,cH⟩,i,e,s⟩
def rdc_at {C:Addr}(X:K.In h) (G:h.Ns mainGlobals mg) (a:PySem.W.nsIn K mainGlobals "Reader"=some (some (.ref C))) (c:jo K C) (bS:NoAttr K C "levels") (cH:NoAttr K C "many") (i:sI K C "Reader.__init__" B5) (d3:hJ K C "close" "Reader.close" pClose) (im:hJ K C "add_statement" "Reader.add_statement" B6) (s3:hJ K C "begin_block" "Reader.begin_block" yQ) (xc:hJ K C "take_statement" "Reader.take_statement" yR) (om:hJ K C "take_row" "Reader.take_row" yS) (u4:hJ K C "finished" "Reader.finished" yT):∃C,RdCAt K mg C:=
 ⟨C,pD X G a,⟨c,bS,cH⟩,i,d3,im,s3,xc,om,u4⟩
def txc_at {C S f gn dg an gI eo fW pm bk b0}(X:K.In h) (G:h.Ns mainGlobals mg) (a:PySem.W.nsIn K mainGlobals "BadText"=some (some (.ref C))) (be:PySem.W.nsIn K mainGlobals "SnakeError"=some (some (.ref S))) (e:jO K C S f) (b:yn K S) (n:PySem.W.findIn K (.ref C) "at"=some none) (u:Bm K C C) (g:yp K C) (l:K.lookup f=some ⟨gn,dg,.func (PySem.W.fnOf "__init__" "BadText.__init__" (k2 wo) (lI wo) (bF wo) .none eo fW pm an bk b0),gI⟩) (CO:PySem.W.codeIn K bk "BadText.__init__"=true) (k:PySem.W.keepIn K (.ref f)=true):∃C S,TxCAt K mg C S:=
 ⟨C,S,⟨f,_,e,AX l CO k⟩,b,pD X G be,⟨u,g,n,pD X G a⟩⟩
end
def opN:dH:=["def","class","if","while","for","try"]
def clN:dH:=["elif","else","except","finally"]
end GS
open PySem PySem.W
set_option maxRecDepth 100000 in
set_option maxHeartbeats 0 in
theorem PySem.Challenge.cw_grassnake_k03_expressions_holds : PySem.Challenge.rw_grassnake_k03_expressions.Holds := by
  refine holds_law GS.said9 fun said => ?_
  refine W.holds_open (q := GS.q9) (loose := GS.lo9) (Xt := fun s => xlAt GS.q9 [] s && recOk (RowW.records (OpenRow.toRowW (OpenLaw.row GS.r9))) s) (XP := XL GS.q9 []) (Yf := Hook.obs (kHook GS.K9h GS.asK9h GS.eK9h)) (Ya := Hook.val (kHook GS.K9h GS.asK9h GS.eK9h)) (YP := Hook.says (kHook GS.K9h GS.asK9h GS.eK9h)) (N := 8262) GS.left9 (Hook.of _) (Hook.keeps _) (fun s e => xl_of s (Bool.and_eq_true_iff.mp e).1) XL.keeps (by rfl) (by rfl) (by rfl) (fun s e => recFacts_of (Bool.and_eq_true_iff.mp e).2) (by rfl) said (by decide +kernel) ⟨rfl, rfl, rfl, rfl, rfl, by decide +kernel⟩ ?hw ?hc
  case hw => w_witness2
  k_fill
  refine GS.walk3 (l := GS.r9) rfl rfl (fun w h Y => kIn_of Y) ?F
  case F =>
    intro w mg fa h KX G hmg
    have g : GS.Glb5 (L2.KOf KX) mg := by
      dsimp only [L2.KOf]
      refine' ⟨⟨⟨⟨⟨?_, ?_, ?_, ?_, ?_, ?_, ?_, ?_, ?_, ?_, ?_, ?_, ?_, ?_, ?_, ?_, ?_⟩, ?_, ?_, ?_⟩, ?_, ?_, ?_, ?_, ?_, ?_, ?_, ?_, ?_, ?_, ?_, ?_, ?_, ?_, ?_, ?_, ?_, ?_, ?_⟩, ?_, ?_, ?_, ?_⟩, ?_, ?_, ?_, GS.tup_at (zs := GS.opN) KX G ?oa ?ob, GS.tup_at (zs := GS.clN) KX G ?ca ?cb, ?_, ?_⟩
      case oa => k_is
      case ob => kernel_rfl
      case ca => k_is
      case cb => kernel_rfl
      all_goals first | (refine' mg_none_of KX G ?a; (case a => k_is)) | (refine' GS.int_at KX G ?a; (case a => k_is)) | (refine' GS.str_at KX G ?a; (case a => k_is)) | (refine' GS.gtr_at KX G ?a ?b; (case a => k_is); (case b => kernel_rfl)) | (refine' GS.tupS_at KX G ?a ?b; (case a => k_is); (case b => kernel_rfl))
    have tv : GS.TvG w (L2.KOf KX) mg := by
      dsimp only [L2.KOf]
      refine' GS.tv_at KX G ?a ?b ?c ?d ?e ?f
      case a => k_is
      case c => k_is
      case b => rfl
      all_goals kernel_rfl
    have st : GS.StK (L2.KOf KX) := by
      dsimp only [L2.KOf]; unfold GS.StK; k_is
    have cw : ∃ C, GS.RwCAt (L2.KOf KX) mg C := by
      dsimp only [L2.KOf]
      refine' GS.rwc_at KX G ?_ ⟨?_, ?_, ?_, ?_⟩ ?_ ?_ ?_ ?_ (GS.ini_at ⟨?_, ?_, ?_, ?_⟩ ?_ ?_ ?_) (GS.seen_at ⟨?_, ?_, ?_⟩ ?_ ?_ ?_) (GS.me_at ⟨?_, ?_, ?_⟩ ?_ ?_) (GS.me_at ⟨?_, ?_, ?_⟩ ?_ ?_) (GS.me_at ⟨?_, ?_, ?_⟩ ?_ ?_) (GS.me_at ⟨?_, ?_, ?_⟩ ?_ ?_)
      repeat any_goals first | k_is | (unfold L2.NoAttr; k_is)
    have cv : ∃ C, GS.LvCAt (L2.KOf KX) mg C := by
      dsimp only [L2.KOf]
      refine' GS.lvc_at KX G ?_ ⟨?_, ?_, ?_, ?_⟩ ?_ ?_ (GS.ini_at ⟨?_, ?_, ?_, ?_⟩ ?_ ?_ ?_) (GS.me_at ⟨?_, ?_, ?_⟩ ?_ ?_) (GS.me_at ⟨?_, ?_, ?_⟩ ?_ ?_)
      repeat any_goals first | k_is | (unfold L2.NoAttr; k_is)
    have cr : ∃ C, GS.RdCAt (L2.KOf KX) mg C := by
      dsimp only [L2.KOf]
      refine' GS.rdc_at KX G ?_ ⟨?_, ?_, ?_, ?_⟩ ?_ ?_ (GS.ini_at ⟨?_, ?_, ?_, ?_⟩ ?_ ?_ ?_) (GS.me_at ⟨?_, ?_, ?_⟩ ?_ ?_) (GS.me_at ⟨?_, ?_, ?_⟩ ?_ ?_) (GS.me_at ⟨?_, ?_, ?_⟩ ?_ ?_) (GS.me_at ⟨?_, ?_, ?_⟩ ?_ ?_) (GS.me_at ⟨?_, ?_, ?_⟩ ?_ ?_) (GS.me_at ⟨?_, ?_, ?_⟩ ?_ ?_)
      repeat any_goals first | k_is | (unfold L2.NoAttr; k_is)
    have cb : ∃ C S, GS.TxCAt (L2.KOf KX) mg C S := by
      dsimp only [L2.KOf]
      refine' GS.txc_at KX G ?_ ?_ (L2.excK_mk ?_ ?_ ?x ?_ ?_ ?_ ?y ?_ ?_ ?_ ?z ?_) ⟨?_, ?_, ?_⟩ ?_ ⟨?_, ?_, ?_, ?_⟩ ⟨?_, ?_, ?_, ?_, ?_, ?_, ?_, ?_⟩ ?_ ?_ ?_
      repeat any_goals k_is
      all_goals rfl
    refine GS.law_of3 g tv st cw cv cr cb ?_ ?_ ?_ ?_ ?_ ?_ ?_ ?_ ?_ ?_ ?_ ?_ ?_ ?_ ?_ ?_ ?_ ?_ ?_ ?_ ?_ ?_ ?_ ?_ ?_ ?_ ?_ ?_ ?_ ?_ ?_ ?_ ?_ ?_ ?_ ?_ ?_ ?_ ?_ ?_ ?_ ?_ ?_ ?_ ?_ ?_ ?_ ?_ ?_ ?_ ?_ ?_ hmg
    all_goals ((try dsimp only [L2.KOf]); refine' GS.fun_at KX G ?_ ?_ ?_ ?_; repeat any_goals k_is)
