import PyProof.Rows.All
import OpenK.AllK
import Wide.All
import Wide.FinOn
import Lean
import PyProof.EqAt
import PyProof.EqKinds
import PyProof.TupleCall
import PyProof.CompFree
import PyProof.StrWalks
import PyProof.ReprRoads
import PyProof.ReprLen
import PyProof.ToksMono
import KE.IntTextLaws
import PyProof.NeKinds
import PyProof.CallFns
import PyProof.Draws
import PyProof.EnumMake
import KE.KRevIter
import PyProof.ListNew
import PyProof.CompUse
import KE.KDictOf
import PyProof.AttrMissHeap
import PyProof.Walks
import PyProof.StationsW
import PyProof.ExcInit
import PyProof.ExcClass3
import PyProof.InstStoreFacts
import OpenK.KOwn
import PyProof.ExcBaseAll.ValueError
import PyProof.FString4
import PyProof.Rows.FStr
import PyProof.Rows.RegStrFacts
import PySem.Challenge.RW_grassnake_k06_own_names
abbrev Fg06:=PySem.W.Frag
abbrev CG:=@PySem.wpAny_bind
abbrev CH:=@PySem.wpAny_pure
abbrev CI:=@decide_eq_false
abbrev CJ:=@decide_eq_true
abbrev CK:=@List.length_append
abbrev CL:=@PySem.Heap.get?_push_of_some
abbrev CM:=@List.getElem?_eq_some_iff
abbrev CN:=@Nat.le_refl
abbrev CO:=@if_neg
abbrev CQ:=@if_pos
abbrev CS:=@List.length_map
abbrev CT:=@Nat.lt_of_lt_of_le
abbrev CU:=@Bool.false_ne_true
abbrev CV:=@PySem.mem_of_lookup
abbrev CW:=@PySem.F.plainAttrs_list
abbrev CY:=@List.length_cons
abbrev CZ:=@Nat.le_trans
abbrev C0:=@List.mem_cons_of_mem
abbrev C1:=@List.mem_cons_self
abbrev C2:=@List.getElem_mem
abbrev C3:=@PySem.F.slot_list_append
abbrev C4:=@PySem.F.type_list_append
abbrev C5:=@List.getElem?_eq_getElem
abbrev C6:=@List.mem_of_getElem?
abbrev C7:=@Nat.lt_irrefl
abbrev C8:=@List.take_add_one
abbrev C9:=@PySem.PassesOwn.never
abbrev Dc:=@Nat.ne_of_lt
abbrev Dd:=@Nat.lt_succ_self
abbrev De:=@List.length_take
abbrev Df:=@List.mem_append
abbrev Dg:=@List.mem_singleton
abbrev Dh:=@List.mem_append_right
set_option Elab.async false
set_option linter.all false
set_option maxRecDepth 100000
set_option maxHeartbeats 4000000
namespace GS
open PySem
noncomputable section
abbrev p6:=PySem.Challenge.pw_grassnake_k06_own_names
abbrev r6:=PySem.Challenge.rw_grassnake_k06_own_names
noncomputable def A6 (i:Nat):Stmt:=p6.main.body.getD i (.Pass ⟨0,0,0,0⟩)
def iC (i:Nat):Stmt→Stmt
 | .ClassDef _ _ _ body _ _ _ _ _ _ _=>body.getD i (.Pass ⟨0,0,0,0⟩)
 | _=>.Pass ⟨0,0,0,0⟩
def fA (s:Stmt):Arguments:=match s with
 | .FunctionDef _ a _ _ _ _ _ _ _ _=>a
 | _=>{ posonlyargs:=[],args:=[],vararg:=none,kwonlyargs:=[],kw_defaults:=[],kwarg:=none,defaults:=[] }
def fB (s:Stmt):List Stmt:=match s with
 | .FunctionDef _ _ b _ _ _ _ _ _ _=>b
 | _=>[]
def fS (s:Stmt):Scope:=match s with
 | .FunctionDef _ _ _ _ _ _ c _ _ _=>c
 | _=>{ kind:=.function,names:=[],isGenerator:=false,isCoroutine:=false }
def eO (P:Params) (k:Str) (t:Nat) (v:Value):DictEntry:=⟨PyData.keyHash P k,.str k t,v⟩
def eR (P:Params) (k:Str) (t a:Nat):DictEntry:=eO P k t (.ref a)
def dO (es:List DictEntry) (n:Nat):Obj:=⟨.type "dict",none,.dict es.toArray n,#[]⟩
def fO (m:Str) (t:Nat) (st:Stmt) (n q:Str) (c:Nat):Obj:=⟨.type "function",none,.func (PySem.W.fnOf n q (fA st) (fB st) (fS st) .none .none .none (.str m t) none (.ref c) .none),#[]⟩
noncomputable def cO (a:Nat) (v:Bool) (n q:Str) (t l k u:Nat):Obj:=⟨.type "code",none,.fields #[.str n t,.str q (t+1),.str "/claim/cut.py" (t+2),.int l 0,.int k 0,.int 0 0,.int 0 0,.int 3 0,.ref (if v then a - 5 else a - 3),.bool true,.int 181 0,.ref (if v then a - 4 else a - 2),.none,if v then .ref (a - 3) else .none,if v then .ref (a - 2) else .none,.ref (a - 1),.int u 0,.int l 0,.str "/claim/cut.py" (u+1)],#[]⟩
noncomputable def kO (n:Str) (bs mro:List Value) (ns:Nat) (sub:List Value) (sl:Array (Option Value)):Obj:=⟨.type "type",none,.cls { name:=n,bases:=bs,mro:=mro,ns:=ns,qualname:=n,subclasses:=sub },sl⟩
abbrev oT (a:Nat) (n:Str):=cO a true n n
abbrev oF (a:Nat) (n:Str):=cO a false n n
abbrev fm1:=fO "grassnake.errors" 187
abbrev fm2:=fO "grassnake.scopes" 232
abbrev nZ (i:Nat) (n:Str):=fm2 (A6 i) n n
abbrev fm3:=fO "law_grassnake_k06_own_names" 494
abbrev qL (i:Nat) (n:Str):=fm3 (A6 i) n n
def K6 (P:Params):W.Frag:=(nat_lit 2,⟨.none,none,.dict #[] 0,#[]⟩)::
 (nat_lit 3,dO [eO P "__name__" 165 (.str "law_grassnake_k06_own_names" 494),eO P "__doc__" 166 .none,eO P "__package__" 167 .none,eO P "__loader__" 168 (.builtin "__main__.__loader__#opaque"),eO P "__spec__" 169 .none,eR P "__annotations__" 170 6,eR P "__builtins__" 171 4,eO P "__file__" 173 (.str "/claim/cut.py" 172),eO P "__cached__" 174 .none,eR P "SnakeError" 206 24,eR P "BadName" 231 44,eR P "blocks_of" 241 53,eR P "blocks_of_try" 252 60,eR P "rows_of_scope" 262 67,eR P "inner_rows" 273 74,eR P "bound_name" 280 81,eR P "told_names" 290 88,eR P "own_names" 296 93,eR P "Scope" 336 115,eR P "program_scope" 343 126,eR P "scope_within" 351 133,eR P "meaning" 361 140,eR P "trees_in" 368 147,eR P "names_in" 378 154,eR P "trees_of_row" 384 159,eR P "names_of_row" 392 166,eR P "Spot" 427 183,eR P "spot_of_block" 441 194,eR P "rows_of_block" 452 201,eR P "rows_within" 465 208,eR P "is_told_wrong" 476 215,eR P "is_wrong" 482 220,eR P "looked" 493 227,eR P "_law_cell_at" 503 234,eR P "_law_cell" 513 241,eR P "_law_name" 520 248,eR P "_law_term" 526 253,eR P "_law_row" 532 258,eR P "_law_def" 547 265,eR P "_law_try" 565 272,eR P "_law_statement" 571 277,eR P "_law_block" 577 282,eR P "_law_program" 587 289,eR P "_law_blocks" 593 294,eR P "_law_all" 606 301,eR P "_law_names_in" 616 308,eR P "_law_text" 622 313,eR P "_law_own" 628 318,eR P "_law_let_by" 635 325,eR P "law" 641 330] 50)::
 (nat_lit 23,dO [eO P "__module__" 196 (.str "grassnake.errors" 187),eO P "__firstlineno__" 200 (.int 2 199),eR P "__static_attributes__" 201 22,eR P "__weakref__" 203 25,eO P "__doc__" 204 .none] 3)::
 (nat_lit 24,kO "SnakeError" [(.type "ValueError")] [(.ref 24),(.type "ValueError"),(.type "Exception"),(.type "BaseException"),(.type "object")] 23 [(.ref 44)] #[some (.ref 15),none,some (.str "SnakeError" 189),some (.str "SnakeError" 197),some (.builtin "ValueError.__new__"),some (.bool true)])::
 (nat_lit 40,cO 40 true "__init__" "BadName.__init__" 219 6 2 224)::
 (nat_lit 41,fm1 (iC 0 (A6 2)) "__init__" "BadName.__init__" 40)::
 (nat_lit 43,dO [eO P "__module__" 214 (.str "grassnake.errors" 187),eO P "__firstlineno__" 218 (.int 4 217),eR P "__init__" 226 41,eR P "__static_attributes__" 228 42,eO P "__doc__" 229 .none] 2)::
 (nat_lit 44,kO "BadName" [(.ref 24)] [(.ref 44),(.ref 24),(.type "ValueError"),(.type "Exception"),(.type "BaseException"),(.type "object")] 43 [] #[some (.ref 28),none,some (.str "BadName" 207),some (.str "BadName" 215),some (.builtin "ValueError.__new__"),some (.bool true)])::
 (nat_lit 52,oT 52 "blocks_of" 234 10 1 239)::
 (nat_lit 53,nZ 4 "blocks_of" 52)::
 (nat_lit 59,oT 59 "blocks_of_try" 242 19 1 250)::
 (nat_lit 60,nZ 5 "blocks_of_try" 59)::
 (nat_lit 66,oT 66 "rows_of_scope" 253 28 1 260)::
 (nat_lit 67,nZ 6 "rows_of_scope" 66)::
 (nat_lit 73,oT 73 "inner_rows" 263 37 1 271)::
 (nat_lit 74,nZ 7 "inner_rows" 73)::
 (nat_lit 80,oT 80 "bound_name" 274 44 1 278)::
 (nat_lit 81,nZ 8 "bound_name" 80)::
 (nat_lit 87,oT 87 "told_names" 281 48 2 288)::
 (nat_lit 88,nZ 9 "told_names" 87)::
 (nat_lit 92,oF 92 "own_names" 291 54 2 294)::
 (nat_lit 93,nZ 10 "own_names" 92)::
 (nat_lit 104,cO 104 false "__init__" "Scope.__init__" 309 66 5 312)::
 (nat_lit 105,fm2 (iC 0 (A6 11)) "__init__" "Scope.__init__" 104)::
 (nat_lit 111,cO 111 true "note" "Scope.note" 315 73 2 321)::
 (nat_lit 112,fm2 (iC 1 (A6 11)) "note" "Scope.note" 111)::
 (nat_lit 114,dO [eO P "__module__" 304 (.str "grassnake.scopes" 232),eO P "__firstlineno__" 308 (.int 64 307),eR P "__init__" 314 105,eR P "note" 323 112,eR P "__static_attributes__" 329 113,eR P "__dict__" 331 116,eR P "__weakref__" 333 117,eO P "__doc__" 334 .none] 4)::
 (nat_lit 115,kO "Scope" [(.type "object")] [(.ref 115),(.type "object")] 114 [] #[none,none,some (.str "Scope" 297),some (.str "Scope" 305),some (.builtin "object.__new__"),some (.bool true)])::
 (nat_lit 125,oT 125 "program_scope" 337 76 1 341)::
 (nat_lit 126,nZ 12 "program_scope" 125)::
 (nat_lit 132,oT 132 "scope_within" 344 78 2 349)::
 (nat_lit 133,nZ 13 "scope_within" 132)::
 (nat_lit 139,oT 139 "meaning" 352 84 2 359)::
 (nat_lit 140,nZ 14 "meaning" 139)::
 (nat_lit 146,oT 146 "trees_in" 362 91 1 366)::
 (nat_lit 147,nZ 15 "trees_in" 146)::
 (nat_lit 153,oT 153 "names_in" 369 97 1 376)::
 (nat_lit 154,nZ 16 "names_in" 153)::
 (nat_lit 158,oF 158 "trees_of_row" 379 106 1 382)::
 (nat_lit 159,nZ 17 "trees_of_row" 158)::
 (nat_lit 165,oT 165 "names_of_row" 385 123 1 390)::
 (nat_lit 166,nZ 18 "names_of_row" 165)::
 (nat_lit 179,cO 179 true "__init__" "Spot.__init__" 405 130 5 413)::
 (nat_lit 180,fm2 (iC 0 (A6 19)) "__init__" "Spot.__init__" 179)::
 (nat_lit 182,dO [eO P "__module__" 400 (.str "grassnake.scopes" 232),eO P "__firstlineno__" 404 (.int 128 403),eR P "__init__" 415 180,eR P "__static_attributes__" 420 181,eR P "__dict__" 422 184,eR P "__weakref__" 424 185,eO P "__doc__" 425 .none] 4)::
 (nat_lit 183,kO "Spot" [(.type "object")] [(.ref 183),(.type "object")] 182 [] #[none,none,some (.str "Spot" 393),some (.str "Spot" 401),some (.builtin "object.__new__"),some (.bool true)])::
 (nat_lit 193,oT 193 "spot_of_block" 428 135 3 439)::
 (nat_lit 194,nZ 20 "spot_of_block" 193)::
 (nat_lit 200,oT 200 "rows_of_block" 442 150 2 450)::
 (nat_lit 201,nZ 21 "rows_of_block" 200)::
 (nat_lit 207,oT 207 "rows_within" 453 155 2 463)::
 (nat_lit 208,nZ 22 "rows_within" 207)::
 (nat_lit 214,oT 214 "is_told_wrong" 466 163 3 474)::
 (nat_lit 215,nZ 23 "is_told_wrong" 214)::
 (nat_lit 219,oF 219 "is_wrong" 477 172 2 480)::
 (nat_lit 220,nZ 24 "is_wrong" 219)::
 (nat_lit 226,oT 226 "looked" 483 186 1 491)::
 (nat_lit 227,nZ 25 "looked" 226)::
 (nat_lit 240,oT 240 "_law_cell" 504 201 2 511)::
 (nat_lit 241,qL 28 "_law_cell" 240)::
 (nat_lit 247,oT 247 "_law_name" 514 208 1 518)::
 (nat_lit 248,qL 29 "_law_name" 247)::
 (nat_lit 252,oF 252 "_law_term" 521 210 3 524)::
 (nat_lit 253,qL 30 "_law_term" 252)::
 (nat_lit 257,oF 257 "_law_row" 527 225 3 530)::
 (nat_lit 258,qL 31 "_law_row" 257)::
 (nat_lit 264,oT 264 "_law_def" 533 256 4 545)::
 (nat_lit 265,qL 32 "_law_def" 264)::
 (nat_lit 271,oT 271 "_law_try" 548 268 5 563)::
 (nat_lit 272,qL 33 "_law_try" 271)::
 (nat_lit 276,oF 276 "_law_statement" 566 284 4 569)::
 (nat_lit 277,qL 34 "_law_statement" 276)::
 (nat_lit 281,oF 281 "_law_block" 572 304 4 575)::
 (nat_lit 282,qL 35 "_law_block" 281)::
 (nat_lit 288,oT 288 "_law_program" 578 306 2 585)::
 (nat_lit 289,qL 36 "_law_program" 288)::
 (nat_lit 293,oF 293 "_law_blocks" 588 312 1 591)::
 (nat_lit 294,qL 37 "_law_blocks" 293)::
 (nat_lit 300,oT 300 "_law_all" 594 322 2 604)::
 (nat_lit 301,qL 38 "_law_all" 300)::
 (nat_lit 307,oT 307 "_law_names_in" 607 329 1 614)::
 (nat_lit 308,qL 39 "_law_names_in" 307)::
 (nat_lit 312,oF 312 "_law_text" 617 339 2 620)::
 (nat_lit 313,qL 40 "_law_text" 312)::
 (nat_lit 317,oF 317 "_law_own" 623 360 1 626)::
 (nat_lit 318,qL 41 "_law_own" 317)::
 (nat_lit 324,oT 324 "_law_let_by" 629 371 1 633)::
 (nat_lit 325,qL 42 "_law_let_by" 324)::
 (nat_lit 329,oF 329 "law" 636 377 1 639)::
 (nat_lit 330,qL 43 "law" 329)::[]
noncomputable def AW:List Nat:=[2,3,23,24,40,41,43,44,52,53,59,60,66,67,73,74,80,81,87,88,92,93,104,105,111,112,114,115,125,126,132,133,139,140,146,147,153,154,158,159,165,166,179,180,182,183,193,194,200,201,207,208,214,215,219,220,226,227,240,241,247,248,252,253,257,258,264,265,271,272,276,277,281,282,288,289,293,294,300,301,307,308,312,313,317,318,324,325,329,330]
theorem eK6 (P:Params):AW=(K6 P).map (·.1):=by kernel_rfl
noncomputable def q6:Program:={ p6 with main:={ p6.main with body:=[1,2,4,5,6,7,8,9,10,11,12,13,14,15,16,17,18,19,20,21,22,23,24,25,27,28,29,30,31,32,33,34,35,36,37,38,39,40,41,42,43].filterMap fun i=>p6.main.body[i]? } }
theorem said6:r6.wellSaid=true:=by decide +kernel
theorem left6:W.LeftO r6.row.prog q6 [] (fun s=>W.xlAt q6 [] s&&W.recOk (W.RowW.records (W.OpenRow.toRowW (W.OpenLaw.row r6))) s) (W.Hook.obs (W.kHook K6 AW eK6)) (W.Hook.val (W.kHook K6 AW eK6)) 4254:=fun w=>by kernel_rfl
end
end GS
namespace L2
open PySem PySem.Spec PyProof.Rows
abbrev Key:=Sum Int Str
def nV:Key→Value→Bool
 | .inl k,v=>Value.isInt k v
 | .inr x,v=>Value.isStrOf x v
def keyH (w:World):Key→Int
 | .inl k=>hashInt k
 | .inr x=>hashStr w x
theorem de:∀{k:Key}{v:Value},nV k v=true→(∃i t,k=Sum.inl i∧v=Value.int i t)∨(∃x t,k=Sum.inr x∧v=Value.str x t)
 | .inl i,v,h=>by
  obtain⟨t,e⟩:=Value.isInt_shape (k:=i) (v:=v) h
  exact .inl ⟨i,t,rfl,e⟩
 | .inr x,v,h=>by
  obtain⟨t,e⟩:=Value.isStrOf_shape (x:=x) (v:=v) h
  exact .inr ⟨x,t,rfl,e⟩
theorem uD (i:Int) (t:Tok):nV (.inl i) (.int i t)=true:=by simp[nV,Value.isInt]
theorem uC (x:Str) (t:Tok):nV (.inr x) (.str x t)=true:=by simp[nV,Value.isStrOf]
theorem AH (a b:Int):decide ((Sum.inl a:Key)=Sum.inl b)=(a == b):=by
 by_cases e:a=b
 ·subst e;simp
 ·have h:¬(Sum.inl a:Key)=Sum.inl b:=fun q=>e (Sum.inl.inj q)
  rw[CI h]
  exact(beq_eq_false_iff_ne.mpr e).symm
theorem AE (a b:Str):decide ((Sum.inr a:Key)=Sum.inr b)=decide (a=b):=by
 by_cases e:a=b
 ·subst e;simp
 ·have h:¬(Sum.inr a:Key)=Sum.inr b:=fun q=>e (Sum.inr.inj q)
  rw[CI h,CI e]
theorem AG (a:Int) (b:Str):decide ((Sum.inl a:Key)=Sum.inr b)=false:=CI (fun q=>nomatch q)
theorem AF (a:Str) (b:Int):decide ((Sum.inr a:Key)=Sum.inl b)=false:=CI (fun q=>nomatch q)
def b7 (prog:Program) (w:World):PySem.KeyKind prog w Key where
 is:=nV
 hash:=keyH w
 inj:=fun v a b ha hb=>by
  rcases de ha with ⟨i,t,rfl,rfl⟩ | ⟨x,t,rfl,rfl⟩
  ·rcases de hb with ⟨j,u,rfl,e⟩ | ⟨y,u,rfl,e⟩
   ·injection e with e1 _;rw[e1]
   ·exact nomatch e
  ·rcases de hb with ⟨j,u,rfl,e⟩ | ⟨y,u,rfl,e⟩
   ·exact nomatch e
   ·injection e with e1 _;rw[e1]
 byValue:=fun k v h=>by
  rcases de h with ⟨i,t,rfl,rfl⟩ | ⟨x,t,rfl,rfl⟩<;>rfl
 pyHash:=fun hv h=>by
  rcases de hv with ⟨i,t,rfl,rfl⟩ | ⟨x,t,rfl,rfl⟩
  ·exact wpAny_pyHash_int h
  ·exact wpAny_pyHash_str h
 eqBool:=fun hu hv h=>by
  rcases de hu with ⟨i,t,rfl,rfl⟩ | ⟨x,t,rfl,rfl⟩
  ·rcases de hv with ⟨j,u,rfl,rfl⟩ | ⟨y,u,rfl,rfl⟩
   ·rw[AH] at h;exact wpAny_eqBool_int h
   ·rw[AG] at h;exact SeqAt.EqAt.int_str i t y u _ _ _ _ h
  ·rcases de hv with ⟨j,u,rfl,rfl⟩ | ⟨y,u,rfl,rfl⟩
   ·rw[AF] at h;exact SeqAt.EqAt.str_int x t j u _ _ _ _ h
   ·rw[AE] at h;exact wpAny_eqBool_str h
 «strs»:=fun k x t v h=>by
  rcases de h with ⟨i,u,rfl,e⟩ | ⟨y,u,rfl,e⟩
  ·exact nomatch e
  ·injection e with e1 _
   subst e1
   cases v<;>rfl
theorem qk (prog:Program) (w:World) (i:Int) (t:Tok):(b7 prog w).is (.inl i) (.int i t)=true:=uD i t
theorem qj (prog:Program) (w:World) (x:Str) (t:Tok):(b7 prog w).is (.inr x) (.str x t)=true:=uC x t
end L2
namespace L2
open PySem PySem.Spec PyProof.Rows
inductive V where
 | aR | bl (b:Bool) | int (i:Int) | str (x:Str) | uY (b:Array UInt8) | flt (b:UInt64) | ref (a:Addr) | ty (n:String)
 deriving DecidableEq
def RelV:V→Value→Prop
 | .aR,u=>u=Value.none
 | .bl b,u=>u=Value.bool b
 | .int i,u=>∃t,u=Value.int i t
 | .str x,u=>∃t,u=Value.str x t
 | .uY b,u=>∃t,u=Value.bytes b t
 | .flt b,u=>∃t,u=Value.float b t
 | .ref a,u=>u=Value.ref a
 | .ty n,u=>u=Value.type n
abbrev Vals:List V→List Value→Prop:=Paired RelV
theorem Vals.length{xs:List V}{us:List Value}(r:Vals xs us):xs.length=us.length:=Paired.length r
theorem Vals.get:∀{xs:List V}{us:List Value}{i:Nat}{x:V},Vals xs us→xs[i]?=some x→∃u,us[i]?=some u∧RelV x u
 | _,_,_,_,.nil,e=>by simp at e
 | _,_,0,_,.cons r _,e=>by simp at e;subst e;exact⟨_,rfl,r⟩
 | _,_,i+1,x,.cons _ t,e=>by
  obtain⟨u,h1,h2⟩:=Vals.get (i:=i) (x:=x) t (by simpa using e)
  exact⟨u,by simpa using h1,h2⟩
theorem Vals.set{x:V}{u:Value}(r:RelV x u):∀{xs:List V}{us:List Value}(i:Nat),Vals xs us→Vals (xs.set i x) (us.set i u)
 | _,_,_,.nil=>.nil
 | _,_,0,.cons _ t=>.cons r t
 | _,_,i+1,.cons q t=>.cons q (Vals.set r i t)
theorem Vals.append:∀{xs ys:List V}{us ws:List Value},Vals xs us→Vals ys ws→Vals (xs++ys) (us++ws)
 | _,_,_,_,.nil,s=>s
 | _,_,_,_,.cons r t,s=>.cons r (Vals.append t s)
theorem Vals.take:∀{xs:List V}{us:List Value}(n:Nat),Vals xs us→Vals (xs.take n) (us.take n)
 | _,_,0,_=>.nil
 | _,_,_+1,.nil=>.nil
 | _,_,n+1,.cons r t=>.cons r (Vals.take n t)
theorem Vals.drop:∀{xs:List V}{us:List Value}(n:Nat),Vals xs us→Vals (xs.drop n) (us.drop n)
 | _,_,0,r=>r
 | _,_,_+1,.nil=>.nil
 | _,_,n+1,.cons _ t=>Vals.drop n t
def gw:Option V→Option Value→Prop
 | some v,some u=>RelV v u
 | none,none=>True
 | _,_=>False
def KV{κ:Type}:List (κ×V)→List (κ×Value)→Prop:=Paired fun(p:κ×V) (q:κ×Value)=>p.1=q.1∧RelV p.2 q.2
def kV:Key→V
 | .inl i=>.int i
 | .inr x=>.str x
inductive HO where
 | lst (xs:List V)
 | tup (xs:List V)
 | dK (Sd:List (Key×V)) | dT (Sd:List (List Key×V))
 | set (S:Int→Bool) (n:Nat)
 | ins (C dx:Addr) (fs:List (Str×V))
 | own (x:Addr)
 | xd (fs:List (Str×V))
 | met (f x:Addr)
 | rng (lo hi:Int)
 | xu (o:Obj) (u:HO)
 | zD (ps:Array Value)
 | ext (φ:Heap→Prop)
abbrev Hp:=Addr→Option HO
def upd (H:Hp) (a:Addr) (o:HO):Hp:=fun b=>if b=a then some o else H b
theorem ag{H:Hp}{a:Addr}{o:HO}:upd H a o a=some o:=by unfold upd;rw[CQ rfl]
theorem aF{H:Hp}{a b:Addr}{o:HO}(h:b≠a):upd H a o b=H b:=by unfold upd;rw[CO h]
theorem Cj{H:Hp}{a b:Addr}{o u:HO}(h:H a=some o) (h':H b=some u) (d:o≠u):a≠b:=by
 intro e;subst e;rw[h] at h';exact d (Option.some.inj h')
theorem cC{H:Hp}{a b:Addr}{o:HO}(h:H a=some o) (h':H b=none):a≠b:=by
 intro e;subst e;rw[h] at h';cases h'
section
variable (P:Program) (w:World)
def dG (H:Hp) (h:Heap) (a:Addr):HO→Prop
 | .lst xs=>xs.length≤sizeLine∧∃(Se:List Value) (n:Nat),Vals xs Se∧h.get? a=some { cls:=.type "list",data:=.seq Se.toArray n }
 | .tup xs=>xs.length≤sizeLine∧∃Se:List Value,Vals xs Se∧IsTup h a Se.toArray
 | .dK Sd=>Sd.length≤sizeLine∧(a == sysModules)=false∧∃vs,KV Sd vs∧h.DictOf (b7 P w) a vs
 | .dT Sd=>Sd.length≤sizeLine∧(a == sysModules)=false∧∃xs:List (List Key×Addr×Value),
   Paired (fun(p:List Key×V) (q:List Key×Addr×Value)=>p.1=q.1∧H q.2.1=some (.tup (p.1.map kV))∧RelV p.2 q.2.2) Sd xs∧
   ∃o es ep,h.get? a=some o∧o.ExactDict∧o.data=.dict es ep∧es.toList=xs.map (entryOfKey (tupleKind (b7 P w)))∧(xs.map (·.1)).Nodup
 | .set S n=>h.SetOf (intKind P w) a S n
 | .ins C dx fs=>H dx=some (.own a)∧fs.length≤1000∧dx≠a∧h.get? a=some (PySem.W.instObj C dx)∧
   ∃mA,h.Ns1 dx mA∧(∀f,gw (fs.lookup f) (mA f))∧PySem.Within mA (fs.map (·.1))
 | .own _=>∃o,h.get? a=some o
 | .xd fs=>∃mA,h.Ns1 a mA∧∀f,gw (fs.lookup f) (mA f)
 | .rng lo hi=>∃t u v,h.get? a=some { cls:=.type "range",data:=.fields #[.int lo t,.int hi u,.int 1 v] }
 | .xu o u=>h.get? a=some o∧dG H h a u
 | .zD ps=>h.get? a=some { cls:=.none,data:=.fields ps }
 | .met f x=>h.get? a=some (PySem.W.methodObj (.ref f) (.ref x))
 | .ext φ=>φ h∧(∃o,h.get? a=some o)∧∀h1 h2:Heap,φ h1→(∀o,h1.get? a=some o→h2.get? a=some o)→φ h2
def ji (H:Hp) (h:Heap):Prop:=∀a o,H a=some o→dG P w H h a o
end
section
variable{P:Program}{w:World}{H H':Hp}{h h':Heap}{a:Addr}{o:HO}
theorem dG.lt (x:dG P w H h a o):a < h.objs.size:=by
 cases o with
 | lst xs=>obtain⟨_,_,_,_,e⟩:=x;exact Heap.lt_size e
 | tup xs=>obtain⟨_,_,_,p⟩:=x;exact p.lt
 | dK Sd=>obtain⟨_,_,_,_,o,_,_,e,_⟩:=x;exact Heap.lt_size e
 | dT Sd=>obtain⟨_,_,_,_,o,_,_,e,_⟩:=x;exact Heap.lt_size e
 | set S n=>obtain⟨o,_,_,_,e,_⟩:=x;exact Heap.lt_size e
 | ins C dx fs=>obtain⟨_,_,_,e,_⟩:=x;exact Heap.lt_size e
 | own y=>obtain⟨_,e⟩:=x;exact Heap.lt_size e
 | xd fs=>obtain⟨_,⟨_,_,_,e,_⟩,_⟩:=x;exact Heap.lt_size e
 | rng lo hi=>obtain⟨_,_,_,e⟩:=x;exact Heap.lt_size e
 | xu ob u=>obtain⟨e,_⟩:=x;exact Heap.lt_size e
 | zD ps=>exact Heap.lt_size (show h.get? a=some _ from x)
 | met f y=>exact Heap.lt_size (show h.get? a=some _ from x)
 | ext φ=>obtain⟨_,⟨_,e⟩,_⟩:=x;exact Heap.lt_size e
theorem Paired.AB{α β:Type}{F G:α→β→Prop}:∀{l₁:List α}{l₂:List β},Paired F l₁ l₂→(∀a b,F a b→G a b)→Paired G l₁ l₂
 | _,_,.nil,_=>.nil
 | _,_,.cons r t,f=>.cons (f _ _ r) (Paired.AB t f)
theorem dG.lQ (x:dG P w H h a o) (k:∀b u,(b=a∨H b=some (.own a))→h.get? b=some u→h'.get? b=some u)
  (ho:∀b,H b=some (.own a)→H' b=some (.own a)) (ht:∀b xs,H b=some (.tup xs)→H' b=some (.tup xs)):dG P w H' h' a o:=by
 induction o with
 | lst xs=>obtain⟨z,Se,n,r,e⟩:=x;exact⟨z,Se,n,r,k _ _ (.inl rfl) e⟩
 | tup xs=>obtain⟨z,Se,r,ob,e,c⟩:=x;exact⟨z,Se,r,ob,k _ _ (.inl rfl) e,c⟩
 | dK Sd=>obtain⟨z,y,vs,r,ob,es,ep,e,c⟩:=x;exact⟨z,y,vs,r,ob,es,ep,k _ _ (.inl rfl) e,c⟩
 | dT Sd=>
  obtain⟨z,y,xs,r,ob,es,ep,e,c⟩:=x
  exact⟨z,y,xs,Paired.AB r fun p q z=>⟨z.1,ht _ _ z.2.1,z.2.2⟩,ob,es,ep,k _ _ (.inl rfl) e,c⟩
 | set S n=>obtain⟨ob,es,ep,t,e,c⟩:=x;exact⟨ob,es,ep,t,k _ _ (.inl rfl) e,c⟩
 | ins C dx fs=>
  obtain⟨d,z,ne,e,mA,⟨od,es,ep,e2,c⟩,r⟩:=x
  exact⟨ho _ d,z,ne,k _ _ (.inl rfl) e,mA,⟨od,es,ep,k _ _ (.inr d) e2,c⟩,r⟩
 | own y=>obtain⟨ob,e⟩:=x;exact⟨ob,k _ _ (.inl rfl) e⟩
 | xd fs=>obtain⟨mA,⟨od,es,ep,e,c⟩,r⟩:=x;exact⟨mA,⟨od,es,ep,k _ _ (.inl rfl) e,c⟩,r⟩
 | rng lo hi=>obtain⟨t,u,v,e⟩:=x;exact⟨t,u,v,k _ _ (.inl rfl) e⟩
 | xu ob u ih=>obtain⟨e,q⟩:=x;exact⟨k _ _ (.inl rfl) e,ih q⟩
 | zD ps=>
  have e:h.get? a=some { cls:=.none,data:=.fields ps }:=x
  show h'.get? a=some { cls:=.none,data:=.fields ps }
  exact k a _ (.inl rfl) e
 | met f y=>
  have e:h.get? a=some (PySem.W.methodObj (.ref f) (.ref y)):=x
  show h'.get? a=some (PySem.W.methodObj (.ref f) (.ref y))
  exact k a _ (.inl rfl) e
 | ext φ=>obtain⟨p,⟨o,e⟩,st⟩:=x;exact⟨st _ _ p fun o q=>k _ _ (.inl rfl) q,⟨o,k _ _ (.inl rfl) e⟩,st⟩
theorem ji.lt (x:ji P w H h) (e:H a=some o):a < h.objs.size:=(x a o e).lt
theorem ji.fresh (x:ji P w H h) (e:h.objs.size≤a):H a=none:=by
 cases q:H a with
 | none=>rfl
 | some u=>exact absurd (CT (x.lt q) e) (C7 _)
theorem ji.kept (x:ji P w H h) (k:∀b u,h.get? b=some u→h'.get? b=some u):ji P w H h':=fun a o e=>
 (x a o e).lQ (fun b u _ q=>k b u q) (fun _ q=>q) fun _ _ q=>q
theorem ji.laid (x:ji P w H h) (k:∀b u,h.get? b=some u→h'.get? b=some u) (hp:h.objs.size≤a) (new:dG P w (upd H a o) h' a o):ji P w (upd H a o) h':=fun b u e=>by
 have hn:=x.fresh hp
 by_cases hb:b=a
 ·subst hb;rw[ag] at e;cases e;exact new
 ·rw[aF hb] at e
  exact(x b u e).lQ (fun c v _ q=>k c v q) (fun c q=>by rw[aF (cC q hn)];exact q) fun c xs q=>by rw[aF (cC q hn)];exact q
end
def Rd (H:Hp) (a:Addr) (u:HO):Prop:=H a=some u∨∃o,H a=some (.xu o u)
theorem Rd.ok{P:Program}{w:World}{H:Hp}{h:Heap}{a:Addr}{u:HO}(r:Rd H a u) (x:ji P w H h):dG P w H h a u:=by
 rcases r with r | ⟨o,r⟩
 ·exact x a u r
 ·obtain⟨_,q⟩:=x a _ r
  exact q
def CC:Option HO→Prop
 | some (.lst _)=>True
 | some (.dK _)=>True
 | some (.dT _)=>True
 | some (.set _ _)=>True
 | some (.ins _ _ _)=>True
 | some (.ext _)=>True
 | _=>False
section
variable{P:Program}{w:World}{H:Hp}{h h':Heap}{x e:Addr}{o':HO}
theorem ji.write (ok:ji P w H h) (mu:CC (H x)) (he:e=x∨H e=some (.own x)) (k:∀b u,b≠e→h.get? b=some u→h'.get? b=some u) (Lz:∃u,h'.get? e=some u)
  (new:dG P w (upd H x o') h' x o'):ji P w (upd H x o') h':=fun b u q=>by
 have nown:∀c y,H c=some (.own y)→c≠x:=fun c y r z=>by subst z;rw[r] at mu;exact mu
 have ntup:∀c xs,H c=some (.tup xs)→c≠x:=fun c xs r z=>by subst z;rw[r] at mu;exact mu
 by_cases hb:b=x
 ·subst hb;rw[ag] at q;cases q;exact new
 ·rw[aF hb] at q
  by_cases KY:b=e
  ·have q':H b=some (.own x):=by
    rcases he with z | z
    ·exact absurd (KY.trans z) hb
    ·rw[KY];exact z
   rw[q] at q';cases q'
   obtain⟨v,hv⟩:=Lz
   exact⟨v,by rw[KY];exact hv⟩
  ·refine(ok b u q).lQ (fun c v hc r=>k c v ?_ r) (fun c r=>by rw[aF (nown c b r)];exact r) fun c xs r=>by rw[aF (ntup c xs r)];exact r
   rcases hc with rfl | hc
   ·exact KY
   ·rintro rfl
    rcases he with z | z
    ·exact nown c b hc z
    ·rw[hc] at z;cases z;exact hb rfl
end
structure Un (fs ex:List Addr) (H H':Hp) (h h':Heap):Prop where
 keep:∀b o,h.get? b=some o→H b=none→b∉fs→b∉ex→h'.get? b=some o
 slot:∀b o,h.get? b=some o→H b=none→b∈fs→b∉ex→∃sl,h'.get? b=some { o with slots:=sl }
 free:∀b o,h.get? b=some o→H b=none→b∉ex→H' b=none
 there:∀b o,h.get? b=some o→b∉ex→∃o',h'.get? b=some o'
 ki:∀b xs,H b=some (.tup xs)→H' b=some (.tup xs)
 j6:∀b o u,H b=some (.xu o u)→H' b=some (.xu o u)
 ko:∀b ps,H b=some (.zD ps)→∃more,H' b=some (.zD (ps++more))
section
variable{fs fs' ex ex':List Addr}{H H1 H2:Hp}{h h1 h2 h':Heap}{a x e:Addr}{o:HO}
theorem Un.any (u:Un fs ex H H1 h h1){b:Addr}{ob:Obj}(q:h.get? b=some ob) (n:H b=none) (hx:b∉ex):∃sl,h1.get? b=some { ob with slots:=sl }:=by
 by_cases hb:b∈fs
 ·exact u.slot b ob q n hb hx
 ·exact⟨ob.slots,u.keep b ob q n hb hx⟩
theorem Un.kept (k:∀b u,h.get? b=some u→h'.get? b=some u):Un fs ex H H h h':=
 ⟨fun b ob q _ _ _=>k b ob q,fun b ob q _ _ _=>⟨ob.slots,k b ob q⟩,fun _ _ _ n _=>n,fun b ob q _=>⟨ob,k b ob q⟩,fun _ _ q=>q,fun _ _ _ q=>q,fun _ ps q=>⟨#[],by rw[q];simp⟩⟩
theorem Un.refl:Un fs ex H H h h:=Un.kept fun _ _ q=>q
theorem Un.laid (k:∀b u,h.get? b=some u→h'.get? b=some u) (hp:h.objs.size≤a) (hn:H a=none):Un fs ex H (upd H a o) h h' where
 keep:=fun b u q _ _ _=>k b u q
 slot:=fun b u q _ _ _=>⟨u.slots,k b u q⟩
 free:=fun b u q n _=>by rw[aF (Dc (CT (Heap.lt_size q) hp))];exact n
 there:=fun b u q _=>⟨u,k b u q⟩
 ki:=fun b xs q=>by rw[aF (cC q hn)];exact q
 j6:=fun b u xs q=>by rw[aF (cC q hn)];exact q
 ko:=fun b ps q=>⟨#[],by rw[aF (cC q hn),q];simp⟩
theorem Un.write (mu:CC (H x)) (he:e=x∨H e=some (.own x)) (k:∀b u,b≠e→h.get? b=some u→h'.get? b=some u) (Lz:∃u,h'.get? e=some u):Un fs ex H (upd H x o) h h':=by
 have hx:∀b,H b=none→b≠x:=fun b n z=>by subst z;rw[n] at mu;exact mu
 have hb:∀b,H b=none→b≠e:=fun b n z=>by
  subst z
  rcases he with r | r
  ·exact hx b n r
  ·rw[n] at r;cases r
 have hm:∀b u,H b=some u→¬CC (some u)→b≠x:=fun b u q nm z=>by subst z;rw[q] at mu;exact nm mu
 refine⟨fun b u q n _ _=>k b u (hb b n) q,fun b u q n _ _=>⟨u.slots,k b u (hb b n) q⟩,fun b u q n _=>by rw[aF (hx b n)];exact n,fun b u q _=>?_,
  fun b xs q=>by rw[aF (hm b _ q fun z=>z)];exact q,fun b u xs q=>by rw[aF (hm b _ q fun z=>z)];exact q,fun b ps q=>⟨#[],by rw[aF (hm b _ q fun z=>z),q];simp⟩⟩
 by_cases KY:b=e
 ·subst KY;exact Lz
 ·exact⟨u,k b u KY q⟩
end
def trk (h:Heap) (H:Hp):List Addr:=(List.range h.objs.size).filter fun a=>(H a).isSome
def pB (h:Heap) (H:Hp):Heap:=PySem.W.hideAll h (trk h H)
theorem uG (h:Heap) (H:Hp):(pB h H).objs.size=h.objs.size:=PySem.W.hideAll_size _ _
theorem wR{h:Heap}{H:Hp}{b:Addr}{o:Obj}(e:h.get? b=some o) (n:H b=none):(pB h H).get? b=some o:=
 PySem.W.hideAll_get _ e fun hm=>by
  have q:(H b).isSome=true:=(List.mem_filter.mp hm).2
  rw[n] at q;simp at q
theorem yM{h:Heap}{H:Hp}{b:Addr}{o:Obj}(e:(pB h H).get? b=some o):h.get? b=some o∧H b=none:=by
 have e':h.get? b=some o:=PySem.W.of_hideAll (trk h H) e
 refine⟨e',?_⟩
 cases q:H b with
 | none=>rfl
 | some x=>
  have hm:b∈trk h H:=List.mem_filter.mpr ⟨List.mem_range.mpr (Heap.lt_size e'),by simp[q]⟩
  have z:(pB h H).get? b=none:=PySem.W.hideAll_none (trk h H) hm
  rw[z] at e;cases e
end L2
namespace L2
open PySem PySem.Spec PyProof.Rows
structure Mod (K:Fg06) (mg:Str→Option Value) (base:Heap):Prop where
 Bb:K.In base
 glob:base.Ns mainGlobals mg
 blt:∃mb,base.Ns builtinsNs mb∧∀x:Str,x≠"__name__"→mb x=bootBuiltins x
 nolimit:base.NoLimit
structure Cx where
 prog:Program
 w:World
 K:Fg06
 mg:Str→Option Value
 base:Heap
 A:Around
 N:List Str
 s₀:Shared
 H₀:Hp
 env:Env
 outer:List Env
 stack:List Env
 ex:List Addr
 fn:Str→Bool
 calm:Bool
 pn:List (Addr×Obj)
 xe:Value→Shared→Prop
def nY (l:List Env):List Addr:=l.filterMap (·.frame)
abbrev Cx.fs (X:Cx):List Addr:=nY X.outer
def Vis (sc:Scope) (x:Str):Prop:=sc.names.lookup x=some .local∨sc.names.lookup x=some .cell∨sc.names.lookup x=some .free
def Loc (sc:Scope) (x:Str):Prop:=sc.names.lookup x=some .local∨sc.names.lookup x=some .cell
def Look (env:Env) (h:Heap) (m:Str→Option Value) (x:Str) (u:Value):Prop:=
 (env.kindOf x=some .local∧m x=some u)∨((env.kindOf x=some .cell∨env.kindOf x=some .free)∧∃c,env.cells.lookup x=some c∧h.IsCell c (some u))
structure Cx.Ok (X:Cx):Prop where
 mod:Mod X.K X.mg X.base
 kind:X.env.scope.kind=.function
 glob:X.env.globals=mainGlobals
 blt:X.env.builtins=builtinsNs
 above:X.s₀.heap.objs.size≤X.env.locals
 inj:∀x y c,X.env.cells.lookup x=some c→X.env.cells.lookup y=some c→x=y
 has:∀x,(X.env.kindOf x=some .cell∨X.env.kindOf x=some .free)→∃c,X.env.cells.lookup x=some c
 zt:∀x c,X.fn x=true→X.env.cells.lookup x=some c→X.s₀.heap.objs.size≤c
 hd:X.calm=true→X.A.handled=none
 frames:X.A.frames=some X.stack
 zG:X.stack=X.outer∨(X.stack=X.env::X.outer∧X.env.frame=some X.env.locals)
 Cp:∀b∈X.ex,b≠X.env.locals∧∀x c,X.env.cells.lookup x=some c→c≠b
 bs:∀b o,X.base.get? b=some o→X.s₀.heap.get? b=some o∧X.H₀ b=none
 sj:X.base.objs.size≤X.s₀.heap.objs.size
 pk:∀b o,X.base.get? b=some o→b∉X.ex
 rV:∀b∈X.ex,b∉X.fs
 jA:X.s₀.heap.FunFrames X.base X.outer
 xv:∀b∈X.fs,X.H₀ b=none
structure Inv (X:Cx) (Sb:List (Addr×Obj)) (σ:List (Option V)) (H:Hp) (s:Shared):Prop where
 ok:X.Ok
 os:s.os=X.s₀.os
 bare:AllBare s.gens
 base:Un X.fs X.ex X.H₀ H X.s₀.heap s.heap
 loc:∃m,s.heap.Ns X.env.locals m∧∀(i:Nat) (x:Str) (v:V),X.N[i]?=some x→σ[i]?=some (some v)→Vis X.env.scope x→∃u,RelV v u∧Look X.env s.heap m x u
 cell:∀x c,X.env.cells.lookup x=some c→∃v,s.heap.IsCell c v
 free:H X.env.locals=none
 fJ:∀x c,X.env.cells.lookup x=some c→H c=none
 pin:∀p∈X.pn++Sb,s.heap.get? p.1=some p.2∧H p.1=none∧p.1≠X.env.locals∧p.1∉X.fs∧∀v,p.2.data≠.cell v
 bH:ji X.prog X.w H s.heap
 len:σ.length=X.N.length
section
variable{X:Cx}{Sb:List (Addr×Obj)}{σ:List (Option V)}{H H':Hp}{s:Shared}{h':Heap}
theorem Cx.Ok.nofr (ok:X.Ok){b:Addr}{o:Obj}(e:X.base.get? b=some o):b∉X.fs:=fun hb=>by
 have:=(ok.jA.mem hb).1
 rw[e] at this;cases this
theorem Inv.bs (I:Inv X Sb σ H s):∀b o,X.base.get? b=some o→s.heap.get? b=some o∧H b=none:=fun b o e=>
 ⟨I.base.keep b o (I.ok.bs b o e).1 (I.ok.bs b o e).2 (I.ok.nofr e) (I.ok.pk b o e),I.base.free b o (I.ok.bs b o e).1 (I.ok.bs b o e).2 (I.ok.pk b o e)⟩
theorem Inv.bk (I:Inv X Sb σ H s):∀b o,X.base.get? b=some o→s.heap.get? b=some o:=fun b o e=>(I.bs b o e).1
theorem Inv.mod (I:Inv X Sb σ H s):Mod X.K X.mg X.base:=I.ok.mod
theorem Inv.kQ (I:Inv X Sb σ H s):X.K.In s.heap:=I.ok.mod.Bb.keeps I.bk
theorem Inv.fr (I:Inv X Sb σ H s):∃m,Fr X.base X.env.locals s.heap m:=
 let ⟨m,hn,_⟩:=I.loc
 ⟨m,hn,I.bk,CZ I.ok.sj I.ok.above⟩
theorem Inv.lt (I:Inv X Sb σ H s):X.env.locals < s.heap.objs.size:=let ⟨_,hn,_⟩:=I.loc;hn.lt
theorem Inv.sz (I:Inv X Sb σ H s):X.s₀.heap.objs.size≤s.heap.objs.size:=CZ I.ok.above (Nat.le_of_lt I.lt)
theorem Inv.nofs (I:Inv X Sb σ H s){a:Addr}(h:s.heap.objs.size≤a):a∉X.fs:=fun hb=>by
 obtain⟨_,o,ho,_⟩:=I.ok.jA.mem hb
 exact absurd (CT (Heap.lt_size ho) (CZ I.sz h)) (C7 _)
theorem Inv.AR (I:Inv X Sb σ H s):∀x c,X.env.cells.lookup x=some c→c≠X.env.locals:=fun x c e z=>by
 obtain⟨v,o,ho,hd⟩:=I.cell x c e
 obtain⟨m,⟨o',es,ep,Fz,GB,_⟩,_⟩:=I.loc
 rw[z,Fz] at ho;cases ho;rw[GB] at hd;cases hd
theorem Inv.jA (I:Inv X Sb σ H s):s.heap.FunFrames X.base X.outer:=by
 have all:∀(l:List Env),(∀b∈nY l,b∈X.fs)→X.s₀.heap.FunFrames X.base l→s.heap.FunFrames X.base l:=by
  intro l
  induction l with
  | nil=>intro _ _;trivial
  | cons env r ih=>
   intro hs hl
   obtain⟨hk,⟨L,o,hf,hn,ho,hd⟩,hr⟩:=hl
   have hL:L∈X.fs:=hs L (by unfold nY;rw[List.filterMap_cons,hf];exact C1)
   obtain⟨sl,e⟩:=I.base.slot L o ho (I.ok.xv L hL) hL fun z=>I.ok.rV L z hL
   exact⟨hk,⟨L,_,hf,hn,e,hd⟩,ih (fun b hb=>hs b (by unfold nY;rw[List.filterMap_cons,hf];exact C0 _ hb)) hr⟩
 exact all X.outer (fun _ hb=>hb) I.ok.jA
theorem Inv.stack (I:Inv X Sb σ H s):s.heap.FunFrames X.base X.stack:=by
 rcases I.ok.zG with e | ⟨e,hf⟩
 ·rw[e];exact I.jA
 ·rw[e]
  obtain⟨m,hn,_⟩:=I.loc
  refine .cons (by rw[I.ok.kind];decide) hf hn ?_ I.jA
  exact Heap.get?_none_of_le (CZ I.ok.sj I.ok.above)
theorem Inv.jr (I:Inv X Sb σ H s):∀b∈nY X.stack,b∈X.env.locals::X.fs:=fun b hb=>by
 rcases I.ok.zG with e | ⟨e,hf⟩
 ·rw[e] at hb;exact C0 _ hb
 ·rw[e] at hb
  unfold nY at hb
  rw[List.filterMap_cons,hf] at hb
  exact hb
theorem Inv.jL (I:Inv X Sb σ H s):∀b∈nY X.stack,H b=none:=fun b hb=>by
 rcases List.mem_cons.mp (I.jr b hb) with e | hb
 ·rw[e];exact I.free
 ·obtain⟨_,o,ho,_⟩:=I.ok.jA.mem hb
  exact I.base.free b o ho (I.ok.xv b hb) fun z=>I.ok.rV b z hb
theorem Inv.step{g':Array GenState}{t':Nat}{d':Drawn}{ch:List Addr}(I:Inv X Sb σ H s)
  (GC:∀b∈ch,(b∈X.ex∨X.s₀.heap.objs.size≤b)∧b≠X.env.locals∧(∀x c,X.env.cells.lookup x=some c→c≠b)∧∀p∈X.pn++Sb,p.1≠b)
  (keep:∀b o,b≠X.env.locals→b∉X.fs→b∉ch→s.heap.get? b=some o→H b=none→h'.get? b=some o)
  (slot:∀b o,b≠X.env.locals→b∈X.fs→b∉ch→s.heap.get? b=some o→H b=none→∃sl,h'.get? b=some { o with slots:=sl }) (free:∀b o,b∉ch→s.heap.get? b=some o→H b=none→H' b=none)
  (there:∀b o,b∉ch→s.heap.get? b=some o→∃o',h'.get? b=some o')
  (ki:∀b xs,H b=some (.tup xs)→H' b=some (.tup xs)) (j6:∀b o u,H b=some (.xu o u)→H' b=some (.xu o u)) (ko:∀b ps,H b=some (.zD ps)→∃more,H' b=some (.zD (ps++more)))
  (ns:∀m,s.heap.Ns X.env.locals m→h'.Ns X.env.locals m) (bH:ji X.prog X.w H' h') (hg:AllBare g'):
  Inv X Sb σ H' { s with heap:=h',gens:=g',drawn:=d',toks:=t' }:=by
 have neL:∀b o,X.s₀.heap.get? b=some o→b≠X.env.locals:=fun b o e=>Dc (CT (Heap.lt_size e) I.ok.above)
 have neC:∀b o,X.s₀.heap.get? b=some o→b∉X.ex→b∉ch:=fun b o e hx hb=>by
  rcases(GC b hb).1 with z | z
  ·exact hx z
  ·exact absurd (CT (Heap.lt_size e) z) (C7 _)
 have cellK:∀x c,X.env.cells.lookup x=some c→∀v,s.heap.IsCell c v→h'.IsCell c v:=fun x c e v ⟨o,ho,hd⟩=>by
  have nch:c∉ch:=fun z=>(GC c z).2.2.1 x c e rfl
  by_cases hc:c∈X.fs
  ·obtain⟨sl,q⟩:=slot c o (I.AR x c e) hc nch ho (I.fJ x c e)
   exact⟨_,q,hd⟩
  ·exact⟨o,keep c o (I.AR x c e) hc nch ho (I.fJ x c e),hd⟩
 refine⟨I.ok,I.os,hg,⟨fun b o e n hb hx=>?_,fun b o e n hb hx=>?_,fun b o e n hx=>?_,fun b o e hx=>?_,fun b xs e=>ki b xs (I.base.ki b xs e),fun b o xs e=>j6 b o xs (I.base.j6 b o xs e),fun b ps e=>?_⟩,?_,fun x c e=>?_,?_,fun x c e=>?_,fun p hp=>?_,bH,I.len⟩
 ·exact keep b o (neL b o e) hb (neC b o e hx) (I.base.keep b o e n hb hx) (I.base.free b o e n hx)
 ·obtain⟨sl,e1⟩:=I.base.slot b o e n hb hx
  obtain⟨NJ,e2⟩:=slot b _ (neL b o e) hb (neC b o e hx) e1 (I.base.free b o e n hx)
  exact⟨NJ,e2⟩
 ·obtain⟨o',e1⟩:=I.base.there b o e hx
  exact free b o' (neC b o e hx) e1 (I.base.free b o e n hx)
 ·obtain⟨o',e1⟩:=I.base.there b o e hx
  exact there b o' (neC b o e hx) e1
 ·obtain⟨m1,e1⟩:=I.base.ko b ps e
  obtain⟨m2,e2⟩:=ko b _ e1
  exact⟨m1++m2,by rw[e2,Array.append_assoc]⟩
 ·obtain⟨m,hn,hl⟩:=I.loc
  refine⟨m,ns m hn,fun i x v e1 e2 e3=>?_⟩
  obtain⟨u,r,l⟩:=hl i x v e1 e2 e3
  refine⟨u,r,?_⟩
  rcases l with l | ⟨k,c,e,z⟩
  ·exact .inl l
  ·exact .inr ⟨k,c,e,cellK x c e _ z⟩
 ·obtain⟨v,z⟩:=I.cell x c e
  exact⟨v,cellK x c e v z⟩
 ·obtain⟨m,⟨o,_,_,ho,_⟩,_⟩:=I.loc
  exact free _ o (fun z=>(GC _ z).2.1 rfl) ho I.free
 ·obtain⟨v,o,ho,hd⟩:=I.cell x c e
  exact free c o (fun z=>(GC c z).2.2.1 x c e rfl) ho (I.fJ x c e)
 ·obtain⟨e,n,ne,nf,d⟩:=I.pin p hp
  have nch:p.1∉ch:=fun z=>(GC p.1 z).2.2.2 p hp rfl
  exact⟨keep p.1 p.2 ne nf nch e n,free p.1 p.2 nch e n,ne,nf,d⟩
theorem Inv.un{t':Nat}(I:Inv X Sb σ H s) (u:Un X.fs [] H H' s.heap h') (bH:ji X.prog X.w H' h'):Inv X Sb σ H' { s with heap:=h',toks:=t' }:=by
 obtain⟨m,⟨o,es,ep,ho,r⟩,_⟩:=id I.loc
 obtain⟨sl,hL⟩:=u.any ho I.free (by simp)
 exact I.step (g':=s.gens) (d':=s.drawn) (ch:=[]) (fun _ z=>nomatch z) (fun b o _ hb _ e n=>u.keep b o e n hb (by simp)) (fun b o _ hb _ e n=>u.slot b o e n hb (by simp)) (fun b o _ e n=>u.free b o e n (by simp)) (fun b o _ e=>u.there b o e (by simp)) u.ki u.j6 u.ko (fun m' hm=>by
  obtain⟨o',LJ,Ny,Fz,r'⟩:=hm
  rw[ho] at Fz;cases Fz
  exact⟨_,LJ,Ny,hL,r'⟩) bH I.bare
theorem Inv.call{g':Array GenState}{t':Nat}{d':Drawn}{ch:List Addr}(I:Inv X Sb σ H s) (u:Un (nY X.stack) ch H H' s.heap h') (bH:ji X.prog X.w H' h') (hg:AllBare g')
  (GC:∀b∈ch,(b∈X.ex∨X.s₀.heap.objs.size≤b)∧b≠X.env.locals∧(∀x c,X.env.cells.lookup x=some c→c≠b)∧∀p∈X.pn++Sb,p.1≠b):
  Inv X Sb σ H' { s with heap:=h',gens:=g',drawn:=d',toks:=t' }:=by
 obtain⟨m,⟨o,es,ep,ho,r⟩,_⟩:=id I.loc
 obtain⟨sl,hL⟩:=u.any ho I.free fun z=>(GC _ z).2.1 rfl
 exact I.step (ch:=ch) GC (fun b o hL hb hc e n=>u.keep b o e n (fun z=>(List.mem_cons.mp (I.jr b z)).elim hL hb) hc) (fun b o _ _ hc e n=>u.any e n hc) (fun b o hc e n=>u.free b o e n hc) (fun b o hc e=>u.there b o e hc) u.ki u.j6 u.ko (fun m' hm=>by
  obtain⟨o',LJ,Ny,Fz,r'⟩:=hm
  rw[ho] at Fz;cases Fz
  exact⟨_,LJ,Ny,hL,r'⟩) bH hg
theorem Inv.turned{t':Nat}{it:Addr}(I:Inv X Sb σ H s) (k:∀b o,b≠it→s.heap.get? b=some o→h'.get? b=some o) (hn:H it=none) (hL:it≠X.env.locals)
  (h1:it∈X.ex∨X.s₀.heap.objs.size≤it) (h2:∀x c,X.env.cells.lookup x=some c→c≠it) (h3:∀p∈X.pn++Sb,p.1≠it):Inv X Sb σ H { s with heap:=h',toks:=t' }:=by
 have nit:∀b u,H b=some u→b≠it:=fun b u e z=>by rw[z,hn] at e;cases e
 refine I.step (g':=s.gens) (d':=s.drawn) (ch:=[it]) (fun b hb=>?_) (fun b o _ _ hc e _=>k b o (fun z=>hc (by simp[z])) e) (fun b o _ _ hc e _=>⟨o.slots,k b o (fun z=>hc (by simp[z])) e⟩) (fun _ _ _ _ n=>n)
  (fun b o hc e=>⟨o,k b o (fun z=>hc (by simp[z])) e⟩) (fun _ _ e=>e) (fun _ _ _ e=>e) (fun b ps e=>⟨#[],by rw[e];simp⟩) (fun m hm=>?_) (fun b u e=>?_) I.bare
 ·have e:b=it:=by simpa using hb
  subst e
  exact⟨h1,hL,h2,h3⟩
 ·obtain⟨o,es,ep,ho,r⟩:=hm
  exact⟨o,es,ep,k _ o (Ne.symm hL) ho,r⟩
 ·refine(I.bH b u e).lQ (fun c v hc q=>k c v ?_ q) (fun _ q=>q) fun _ _ q=>q
  rcases hc with z | z
  ·rw[z];exact nit b u e
  ·exact nit c _ z
theorem Inv.tok (I:Inv X Sb σ H s) (t:Nat):Inv X Sb σ H { s with toks:=t }:=I.un (h':=s.heap) (t':=t) Un.refl I.bH
theorem Inv.kept{t':Nat}(I:Inv X Sb σ H s) (k:∀b u,s.heap.get? b=some u→h'.get? b=some u):Inv X Sb σ H { s with heap:=h',toks:=t' }:=I.un (Un.kept k) (I.bH.kept k)
theorem Inv.laid{a:Addr}{o:HO}{t':Nat}(I:Inv X Sb σ H s) (k:∀b u,s.heap.get? b=some u→h'.get? b=some u) (hp:s.heap.objs.size≤a) (new:dG X.prog X.w (upd H a o) h' a o):
  Inv X Sb σ (upd H a o) { s with heap:=h',toks:=t' }:=I.un (Un.laid k hp (I.bH.fresh hp)) (I.bH.laid k hp new)
theorem Inv.write{x e:Addr}{o:HO}{t':Nat}(I:Inv X Sb σ H s) (mu:CC (H x)) (he:e=x∨H e=some (.own x)) (k:∀b u,b≠e→s.heap.get? b=some u→h'.get? b=some u) (Lz:∃u,h'.get? e=some u)
  (new:dG X.prog X.w (upd H x o) h' x o):Inv X Sb σ (upd H x o) { s with heap:=h',toks:=t' }:=I.un (Un.write mu he k Lz) (I.bH.write mu he k Lz new)
theorem Inv.weak{σ':List (Option V)}(I:Inv X Sb σ H s) (hl:σ'.length=σ.length) (w:∀(i:Nat) v,σ'[i]?=some (some v)→σ[i]?=some (some v)):Inv X Sb σ' H s:=
 ⟨I.ok,I.os,I.bare,I.base,let ⟨m,hn,Mx⟩:=I.loc;⟨m,hn,fun i x v e1 e2 e3=>Mx i x v e1 (w i v e2) e3⟩,I.cell,I.free,I.fJ,I.pin,I.bH,hl.trans I.len⟩
theorem Inv.tj{JL:List (Addr×Obj)}(I:Inv X Sb σ H s) (h:∀p∈JL,s.heap.get? p.1=some p.2∧H p.1=none∧p.1≠X.env.locals∧p.1∉X.fs∧∀v,p.2.data≠.cell v):Inv X JL σ H s:=
 ⟨I.ok,I.os,I.bare,I.base,I.loc,I.cell,I.free,I.fJ,fun p hp=>(Df.mp hp).elim (fun z=>I.pin p (List.mem_append_left _ z)) (h p),I.bH,I.len⟩
theorem qi{N:List Str}(hN:N.Nodup){i j:Nat}{x:Str}(a:N[i]?=some x) (b:N[j]?=some x):i=j:=by
 obtain⟨h1,e1⟩:=CM.mp a
 obtain⟨h2,e2⟩:=CM.mp b
 exact(List.getElem_inj hN).mp (e1.trans e2.symm)
theorem nI{M:Model}{A:Around}{E:Value→Shared→Prop}{i:Nat}{x:Str}{v:V}{u:Value}{Q:Unit→Shared→Prop}(I:Inv X Sb σ H s) (hN:X.N.Nodup) (hi:X.N[i]?=some x) (hx:Loc X.env.scope x) (r:RelV v u)
  (h:∀s',Inv X Sb (σ.set i (some v)) H s'→(∃a,Heap.SameBut a s.heap s'.heap∧(a=X.env.locals∨X.env.cells.lookup x=some a))→Q () s') (hf:X.fn x=true∨X.env.scope.names.lookup x=some .local:=by first | exact .inl rfl | exact .inr rfl | assumption):wpAny M A (storeName X.env x u) Q E s:=by
 obtain⟨m,hn,hl⟩:=id I.loc
 have hcls:(X.env.scope.kind == .class||(X.env.scope.kind == .module&&X.env.locals != X.env.globals))=false:=by rw[I.ok.kind];rfl
 have hiσ:i < σ.length:=by rw[I.len];exact(CM.mp hi).1
 have AR:=I.AR
 have tracked:∀{a:Addr}{h':Heap},(∃o,s.heap.get? a=some o∧H a=none)→Heap.SameBut a s.heap h'→ji X.prog X.w H h':=fun {a h'} ha hs b ob e=>by
  obtain⟨_,_,Fc⟩:=ha
  refine(I.bH b ob e).lQ (fun c w' hc q=>(hs.2 c ?_).trans q) (fun _ q=>q) fun _ _ q=>q
  rintro rfl
  rcases hc with rfl | hc
  ·rw[Fc] at e;cases e
  ·rw[Fc] at hc;cases hc
 rcases hx with hk | hk
 ·refine wpAny_storeName_local hk hn (fun h' hn' hs=>?_) hcls
  obtain⟨oL,_,_,hoL,_⟩:=id hn
  refine h _ ⟨I.ok,I.os,I.bare,⟨fun b o e n hb hx=>?_,fun b o e n hb hx=>?_,I.base.free,fun b o e hx=>?_,I.base.ki,I.base.j6,I.base.ko⟩,⟨_,hn',fun j y v' e1 e2 e3=>?_⟩,fun y c e=>?_,I.free,I.fJ,fun p hp=>?_,tracked ⟨oL,hoL,I.free⟩ hs,by simpa using I.len⟩ ⟨_,hs,.inl rfl⟩
  ·exact(hs.2 b (Dc (CT (Heap.lt_size e) I.ok.above))).trans (I.base.keep b o e n hb hx)
  ·obtain⟨sl,e1⟩:=I.base.slot b o e n hb hx
   exact⟨sl,(hs.2 b (Dc (CT (Heap.lt_size e) I.ok.above))).trans e1⟩
  ·obtain⟨o',e1⟩:=I.base.there b o e hx
   exact⟨o',(hs.2 b (Dc (CT (Heap.lt_size e) I.ok.above))).trans e1⟩
  ·by_cases hj:j=i
   ·subst hj
    rw[hi] at e1;cases e1
    rw[List.getElem?_set_self hiσ] at e2
    cases e2
    exact⟨u,r,.inl ⟨hk,by simp⟩⟩
   ·rw[List.getElem?_set_ne (Ne.symm hj)] at e2
    obtain⟨u',r',q⟩:=hl j y v' e1 e2 e3
    refine⟨u',r',?_⟩
    rcases q with ⟨k,e⟩ | ⟨k,c,e,z⟩
    ·refine .inl ⟨k,?_⟩
     have:y≠x:=fun e=>hj (qi hN e1 (e▸hi))
     simp[this,e]
    ·exact .inr ⟨k,c,e,z.sameBut hs (AR y c e)⟩
  ·obtain⟨w',z⟩:=I.cell y c e
   exact⟨w',z.sameBut hs (AR y c e)⟩
  ·obtain⟨e,n,ne,nf,d⟩:=I.pin p hp
   exact⟨(hs.2 p.1 ne).trans e,n,ne,nf,d⟩
 ·have Po:X.fn x=true:=by
   rcases hf with z | z
   ·exact z
   ·rw[z] at hk;cases hk
  obtain⟨c,hc⟩:=I.ok.has x (.inl hk)
  obtain⟨w',z⟩:=I.cell x c hc
  refine wpAny_storeName_cell I.ok.kind hk hc z (fun h' EH hs=>?_)
  obtain⟨oc,Jm,hocd⟩:=id z
  refine h { s with heap:=h' } ⟨I.ok,I.os,I.bare,⟨fun b o e n hb hx=>?_,fun b o e n hb hx=>?_,I.base.free,fun b o e hx=>?_,I.base.ki,I.base.j6,I.base.ko⟩,⟨m,hn.sameBut hs (Ne.symm (AR x c hc)),fun j y v' e1 e2 e3=>?_⟩,fun y c' e=>?_,I.free,I.fJ,fun p hp=>?_,tracked ⟨oc,Jm,I.fJ x c hc⟩ hs,by simpa using I.len⟩ ⟨c,hs,.inr hc⟩
  ·exact(hs.2 b (Dc (CT (Heap.lt_size e) (I.ok.zt x c Po hc)))).trans (I.base.keep b o e n hb hx)
  ·obtain⟨sl,e1⟩:=I.base.slot b o e n hb hx
   exact⟨sl,(hs.2 b (Dc (CT (Heap.lt_size e) (I.ok.zt x c Po hc)))).trans e1⟩
  ·obtain⟨o',e1⟩:=I.base.there b o e hx
   exact⟨o',(hs.2 b (Dc (CT (Heap.lt_size e) (I.ok.zt x c Po hc)))).trans e1⟩
  ·by_cases hj:j=i
   ·subst hj
    rw[hi] at e1;cases e1
    rw[List.getElem?_set_self hiσ] at e2
    cases e2
    exact⟨u,r,.inr ⟨.inl hk,c,hc,EH⟩⟩
   ·rw[List.getElem?_set_ne (Ne.symm hj)] at e2
    obtain⟨u',r',q⟩:=hl j y v' e1 e2 e3
    refine⟨u',r',?_⟩
    rcases q with q | ⟨k,c',e,z'⟩
    ·exact .inl q
    ·refine .inr ⟨k,c',e,z'.sameBut hs ?_⟩
     rintro rfl
     exact hj (qi hN e1 (I.ok.inj _ _ _ e hc▸hi))
  ·by_cases RD:c'=c
   ·subst RD;exact⟨_,EH⟩
   ·obtain⟨w2,z2⟩:=I.cell y c' e
    exact⟨w2,z2.sameBut hs RD⟩
  ·obtain⟨e,n,ne,nf,d⟩:=I.pin p hp
   refine⟨(hs.2 p.1 ?_).trans e,n,ne,nf,d⟩
   intro q
   rw[q,Jm] at e
   have q':oc=p.2:=Option.some.inj e
   exact d w' (by rw[←q'];exact hocd)
theorem pR{M:Model}{A:Around}{E:Value→Shared→Prop}{i:Nat}{x:Str}{v:V}{u:Value}{Q:Unit→Shared→Prop}(I:Inv X Sb σ H s) (hN:X.N.Nodup) (hi:X.N[i]?=some x) (hx:Loc X.env.scope x) (r:RelV v u)
  (h:∀s',Inv X Sb (σ.set i (some v)) H s'→Q () s') (hf:X.fn x=true∨X.env.scope.names.lookup x=some .local:=by first | exact .inl rfl | exact .inr rfl | assumption):wpAny M A (storeName X.env x u) Q E s:=
 nI I hN hi hx r (fun s' I' _=>h s' I') hf
theorem Inv.qE{s':Shared}{ch:List Addr}(I:Inv X Sb σ H s) (ho:s'.os=s.os) (u:Un (nY X.stack) ch H H' s.heap s'.heap) (bH:ji X.prog X.w H' s'.heap) (hg:AllBare s'.gens)
  (GC:∀b∈ch,(b∈X.ex∨X.s₀.heap.objs.size≤b)∧b≠X.env.locals∧(∀x c,X.env.cells.lookup x=some c→c≠b)∧∀p∈X.pn++Sb,p.1≠b):Inv X Sb σ H' s':=by
 obtain⟨h',g',d',t',o'⟩:=s'
 have e:o'=s.os:=ho
 subst e
 exact I.call (g':=g') (t':=t') (d':=d') u bH hg GC
end
abbrev XK:=Value→Option Addr→Hp→Prop
abbrev St:=List (Option V)
abbrev VK:=V→Hp→Prop
abbrev TE:=St→Hp→VK→Prop
abbrev TT:=St→Hp→(Bool→Hp→Prop)→Prop
abbrev TA:=St→Hp→(List V→Hp→Prop)→Prop
structure Ends where
 nx:St→Hp→Prop
 rt:VK
 bk:St→Hp→Prop:=fun _ _=>False
 ct:St→Hp→Prop:=fun _ _=>False
abbrev TS:=Ends→St→Hp→Prop
def EP (X:Cx) (Sb:List (Addr×Obj)) (σ:St) (Q:VK) (u:Value) (s':Shared):Prop:=∃v H',Inv X Sb σ H' s'∧RelV v u∧Q v H'
def TP (X:Cx) (Sb:List (Addr×Obj)) (σ:St) (Q:Bool→Hp→Prop) (b:Bool) (s':Shared):Prop:=∃H',Inv X Sb σ H' s'∧Q b H'
def AP (X:Cx) (Sb:List (Addr×Obj)) (σ:St) (Q:List V→Hp→Prop) (us:List Value) (s':Shared):Prop:=∃vs H',Inv X Sb σ H' s'∧Vals vs us∧Q vs H'
def SP (X:Cx) (Sb:List (Addr×Obj)) (D:Ends) (f:Flow) (s':Shared):Prop:=
 match f with
 | .next=>∃σ' H',Inv X Sb σ' H' s'∧D.nx σ' H'
 | .brk=>∃σ' H',Inv X Sb σ' H' s'∧D.bk σ' H'
 | .cont=>∃σ' H',Inv X Sb σ' H' s'∧D.ct σ' H'
 | .ret u=>∃v σ' H',Inv X Sb σ' H' s'∧RelV v u∧D.rt v H'
def PE (X:Cx) (e:Expr) (t:TE):Prop:=
 ∀(Sb:List (Addr×Obj)) (s:Shared) (σ:St) (H:Hp) (Q:VK),Inv X Sb σ H s→t σ H Q→wpAny (model X.prog X.w) X.A (eval e X.env) (EP X Sb σ Q) X.xe s
def PT (X:Cx) (e:Expr) (t:TT):Prop:=
 ∀(Sb:List (Addr×Obj)) (s:Shared) (σ:St) (H:Hp) (Q:Bool→Hp→Prop),Inv X Sb σ H s→t σ H Q→wpAny (model X.prog X.w) X.A (isTrue e X.env (eval e X.env)) (TP X Sb σ Q) X.xe s
def PW (X:Cx) (e:Expr) (t:TT):Prop:=
 ∀(whole:Sem Value) (Sb:List (Addr×Obj)) (s:Shared) (σ:St) (H:Hp) (Q:Bool→Hp→Prop),Inv X Sb σ H s→t σ H Q→wpAny (model X.prog X.w) X.A (isTrue e X.env whole) (TP X Sb σ Q) X.xe s
theorem PW.pt{X:Cx}{e:Expr}{t:TT}(h:PW X e t):PT X e t:=h _
def PA (X:Cx) (es:List Expr) (t:TA):Prop:=
 ∀(pos:Pos) (Sb:List (Addr×Obj)) (s:Shared) (σ:St) (H:Hp) (Q:List V→Hp→Prop),Inv X Sb σ H s→t σ H Q→wpAny (model X.prog X.w) X.A (spliced (backTo pos (starEach es X.env))) (AP X Sb σ Q) X.xe s
def PS (X:Cx) (st:Stmt) (t:TS):Prop:=
 ∀(Sb:List (Addr×Obj)) (s:Shared) (σ:St) (H:Hp) (D:Ends),Inv X Sb σ H s→t D σ H→wpAny (model X.prog X.w) X.A (exec st X.env) (SP X Sb D) X.xe s
def pI (X:Cx) (st:List Stmt) (t:TS):Prop:=
 ∀(Sb:List (Addr×Obj)) (s:Shared) (σ:St) (H:Hp) (D:Ends),Inv X Sb σ H s→t D σ H→wpAny (model X.prog X.w) X.A (execs st X.env) (SP X Sb D) X.xe s
theorem cx{α:Type}{t:Sem α}{Q Q':α→Shared→Prop}{M:Model}{A:Around}{E:Value→Shared→Prop}{s:Shared}(h:wpAny M A t Q E s) (hQ:∀a s,Q a s→Q' a s):wpAny M A t Q' E s:=wpAny_mono h hQ fun _ _ x=>x
end L2
namespace L2
open PySem PySem.Spec PyProof.Rows
section
variable{X:Cx}
theorem bin{a b:Expr}{ta tb:TE}(ha:PE X a ta) (hb:PE X b tb){Sb:List (Addr×Obj)}{s:Shared}{σ:St}{H:Hp}{R:V→V→Hp→Prop}(I:Inv X Sb σ H s) (h:ta σ H fun x H1=>tb σ H1 fun y H2=>R x y H2)
  {α:Type}{Q:α→Shared→Prop}{f:Value→Value→Sem α}
  (hf:∀v u s2 x y H2,Inv X Sb σ H2 s2→RelV x v→RelV y u→R x y H2→wpAny (model X.prog X.w) X.A (f v u) Q X.xe s2):
  wpAny (model X.prog X.w) X.A (eval a X.env) (fun v s₁=>wpAny (model X.prog X.w) X.A (eval b X.env) (fun u s₂=>wpAny (model X.prog X.w) X.A (f v u) Q X.xe s₂) X.xe s₁) X.xe s:=by
 refine cx (ha Sb s σ H _ I h) fun v s1 zq=>?_
 obtain⟨x,H1,I1,r1,q1⟩:=zq
 refine cx (hb Sb s1 σ H1 _ I1 q1) fun u s2 zq=>?_
 obtain⟨y,H2,I2,r2,q2⟩:=zq
 exact hf v u s2 x y H2 I2 r1 r2 q2
def fi (i:Nat):TE:=fun σ H Q=>∃v,σ[i]?=some (some v)∧Q v H
def tC (v:V):TE:=fun _ H Q=>Q v H
theorem Af{i:Nat}{x:Str}{pos:Pos}(hN:X.N[i]?=some x) (hv:Vis X.env.scope x) (hd:(x == ("__debug__":Str))=false:=by decide) (Ft:(x == ("__classdict__":Str))=false:=by decide):PE X (.Name x pos) (fi i):=by
 intro Sb s σ H Q I h
 obtain⟨v,e,h⟩:=h
 obtain⟨m,hn,hl⟩:=I.loc
 obtain⟨u,r,l⟩:=hl i x v hN e hv
 have fin:EP X Sb σ Q u s:=⟨v,H,I,r,h⟩
 rcases l with ⟨hk,hm⟩ | ⟨hk,c,hc,JT⟩
 ·exact wpAny_Name (wpAny_loadName_local I.ok.kind hk hn hm fin) hd
 ·rcases hk with hk | hk
  ·exact wpAny_Name (wpAny_loadName_cell I.ok.kind hk hc JT fin) hd
  ·exact wpAny_Name (wpAny_loadName_free I.ok.kind hk hc JT fin Ft) hd
theorem ak {i j pos}:PE X (.Constant (.int i) j pos) (tC (.int i)):=fun _ _ _ H _ I h=>wpAny_Constant_int ⟨.int i,H,I.tok _,⟨_,rfl⟩,h⟩
theorem cn {b j pos}:PE X (.Constant (.bool b) j pos) (tC (.bl b)):=fun _ _ _ H _ I h=>Constant_bool ⟨.bl b,H,I,rfl,h⟩
theorem bj {j pos}:PE X (.Constant .none j pos) (tC .aR):=fun _ _ _ H _ I h=>Constant_none ⟨.aR,H,I,rfl,h⟩
theorem aq {x j pos}:PE X (.Constant (.str x) j pos) (tC (.str x)):=fun _ _ _ H _ I h=>Calls.Constant_str ⟨.str x,H,I.tok _,⟨_,rfl⟩,h⟩
def Gl (X:Cx) (x:Str):Prop:=X.env.kindOf x=some .globalImplicit
theorem j0{E:Value→Shared→Prop}{Sb:List (Addr×Obj)}{s:Shared}{σ:St}{H:Hp}{x:Str}{u:Value}{pos:Pos}{Q:Value→Shared→Prop}(I:Inv X Sb σ H s) (hg:Gl X x) (hm:X.mg x=some u) (h:Q u s)
  (hd:(x == ("__debug__":Str))=false:=by decide):wpAny (model X.prog X.w) X.A (eval (.Name x pos) X.env) Q E s:=
 Calls.Name_function_global I.ok.kind hg (Calls.loadGlobal_global (by rw[I.ok.glob];exact I.mod.glob.keeps I.bk) hm h) hd
theorem gm{E:Value→Shared→Prop}{Sb:List (Addr×Obj)}{s:Shared}{σ:St}{H:Hp}{x:Str}{u:Value}{pos:Pos}{Q:Value→Shared→Prop}(I:Inv X Sb σ H s) (hg:Gl X x) (hm:X.mg x=none) (hv:bootBuiltins x=some u) (h:Q u s)
  (hn:x≠"__name__":=by decide) (hd:(x == ("__debug__":Str))=false:=by decide):wpAny (model X.prog X.w) X.A (eval (.Name x pos) X.env) Q E s:=by
 obtain⟨mb,h1,h2⟩:=I.mod.blt
 exact Calls.Name_function_global I.ok.kind hg (Calls.loadGlobal_builtin (by rw[I.ok.glob];exact I.mod.glob.keeps I.bk) hm (by rw[I.ok.blt];exact h1.keeps I.bk) ((h2 x hn).trans hv) h) hd
theorem cZ{x:Str}{v:V}{u:Value}{pos:Pos}(hg:Gl X x) (hm:X.mg x=none) (hv:bootBuiltins x=some u) (r:RelV v u) (hn:x≠"__name__":=by decide) (hd:(x == ("__debug__":Str))=false:=by decide):PE X (.Name x pos) (tC v):=
 fun _ _ _ H _ I h=>gm I hg hm hv ⟨v,H,I,r,h⟩ hn hd
variable{a b:Expr}{ta tb:TE}{pos:Pos}
def PC (X:Cx) (op:CmpOp) (a b:Expr) (t:TE):Prop:=
 ∀(Sb:List (Addr×Obj)) (s:Shared) (σ:St) (H:Hp) (Q:VK),Inv X Sb σ H s→t σ H Q→
  wpAny (model X.prog X.w) X.A (eval a X.env) (fun v s₁=>wpAny (model X.prog X.w) X.A (eval b X.env) (fun u s₂=>wpAny (model X.prog X.w) X.A (compareOp op v u) (EP X Sb σ Q) X.xe s₂) X.xe s₁) X.xe s
def tB (t:TE):TT:=fun σ H Q=>t σ H fun x H1=>∃c,x=.bl c∧Q c H1
theorem Ac{op:CmpOp}{t:TE}(h:PC X op a b t) (h1:behindInMarks op b=false:=by first | exact nobehind _ (by decide) (by decide) | rfl):PT X (.Compare a [op] [b] pos) (tB t):=by
 intro Sb s σ H Q I hw
 refine wpAny_isTrue_Compare1 (cx (h Sb s σ H _ I hw) fun v s1 h1=>cx h1 fun u s2 h2=>cx h2 fun c s3 zq=>?_) h1
 obtain⟨x,H1,I1,r1,q1⟩:=zq
 obtain⟨d,rfl,q⟩:=q1
 cases r1
 exact wpAny_truthy_bool ⟨H1,I1,q⟩
theorem cB{e:Expr}{t:TE}(h:PE X e t) (he:∀whole,isTrue e X.env whole=(do let v ←whole;standAt e.pos;holding [v] (truthy v)):=by intro _;rfl):PT X e (tB t):=by
 intro Sb s σ H Q I hw
 refine isTrue_plain (cx (h Sb s σ H _ I hw) fun v s1 zq=>?_) (he _)
 obtain⟨x,H1,I1,r1,q1⟩:=zq
 obtain⟨d,rfl,q⟩:=q1
 cases r1
 exact wpAny_truthy_bool ⟨H1,I1,q⟩
variable{tA tB':TT}{rest:List Expr}
def BD (t u:TT):TT:=fun σ H Q=>t σ H fun c H1=>if c=true then u σ H1 Q else Q false H1
def tOr (t u:TT):TT:=fun σ H Q=>t σ H fun c H1=>if c=true then Q true H1 else u σ H1 Q
def Bv (t:TT):TT:=fun σ H Q=>t σ H fun c H1=>Q (!c) H1
theorem bQ (ha:PT X a tA):PW X (.BoolOp .And [a] pos) tA:=by
 intro wh Sb s σ H Q I h
 refine isTrue_and (cx (ha Sb s σ H Q I h) fun c s1 e=>?_)
 cases c with
 | true=>exact isTrue_and_nil e
 | false=>exact e
theorem cX (ha:PT X a tA):PW X (.BoolOp .Or [a] pos) tA:=by
 intro wh Sb s σ H Q I h
 refine isTrue_or (cx (ha Sb s σ H Q I h) fun c s1 e=>?_)
 cases c with
 | false=>exact isTrue_or_nil e
 | true=>exact e
theorem bX (ha:PT X a tA) (hb:PW X (.BoolOp .And (b::rest) pos) tB'):PW X (.BoolOp .And (a::b::rest) pos) (BD tA tB'):=by
 intro wh Sb s σ H Q I h
 refine isTrue_and (cx (ha Sb s σ H _ I h) fun c s1 zq=>?_)
 obtain⟨H1,I1,q1⟩:=zq
 cases c with
 | true=>exact hb wh Sb s1 σ H1 Q I1 q1
 | false=>exact⟨H1,I1,q1⟩
theorem dZ (ha:PT X a tA) (hb:PW X (.BoolOp .Or (b::rest) pos) tB'):PW X (.BoolOp .Or (a::b::rest) pos) (tOr tA tB'):=by
 intro wh Sb s σ H Q I h
 refine isTrue_or (cx (ha Sb s σ H _ I h) fun c s1 zq=>?_)
 obtain⟨H1,I1,q1⟩:=zq
 cases c with
 | true=>exact⟨H1,I1,q1⟩
 | false=>exact hb wh Sb s1 σ H1 Q I1 q1
theorem dk (ha:PT X a tA):PT X (.UnaryOp .Not a pos) (Bv tA):=by
 intro Sb s σ H Q I h
 exact isTrue_not (ha Sb s σ H (fun c H1=>Q (!c) H1) I h)
def zf (ta tb:TE):TE:=fun σ H Q=>ta σ H fun x H1=>∃c,x=.bl c∧if c=true then tb σ H1 Q else Q (.bl false) H1
def Bt (ta tb:TE):TE:=fun σ H Q=>ta σ H fun x H1=>∃c,x=.bl c∧if c=true then Q (.bl true) H1 else tb σ H1 Q
def Bu (ta:TE):TE:=fun σ H Q=>ta σ H fun x H1=>∃c,x=.bl c∧Q (.bl (!c)) H1
theorem dw {op}{t:TE}(h:PE X a t):PE X (.BoolOp op [a] pos) t:=fun Sb s σ H Q I hw=>BoolOp_one (h Sb s σ H Q I hw)
theorem dY (ha:PE X a ta) (hb:PE X (.BoolOp .And (b::rest) pos) tb):PE X (.BoolOp .And (a::b::rest) pos) (zf ta tb):=by
 intro Sb s σ H Q I h
 refine BoolOp_and (cx (ha Sb s σ H _ I h) fun v s1 zq=>?_)
 obtain⟨x,H1,I1,r1,q1⟩:=zq
 obtain⟨c,rfl,q1⟩:=q1
 cases r1
 refine wpAny_truthy_bool ?_
 cases c with
 | true=>exact hb Sb s1 σ H1 Q I1 q1
 | false=>exact⟨.bl false,H1,I1,rfl,q1⟩
theorem fR (ha:PE X a ta) (hb:PE X (.BoolOp .Or (b::rest) pos) tb):PE X (.BoolOp .Or (a::b::rest) pos) (Bt ta tb):=by
 intro Sb s σ H Q I h
 refine BoolOp_or (cx (ha Sb s σ H _ I h) fun v s1 zq=>?_)
 obtain⟨x,H1,I1,r1,q1⟩:=zq
 obtain⟨c,rfl,q1⟩:=q1
 cases r1
 refine wpAny_truthy_bool ?_
 cases c with
 | false=>exact hb Sb s1 σ H1 Q I1 q1
 | true=>exact⟨.bl true,H1,I1,rfl,q1⟩
theorem vY (ha:PE X a ta):PE X (.UnaryOp .Not a pos) (Bu ta):=by
 intro Sb s σ H Q I h
 refine UnaryOp_ (cx (ha Sb s σ H _ I h) fun v s1 zq=>?_)
 obtain⟨x,H1,I1,r1,q1⟩:=zq
 obtain⟨c,rfl,q1⟩:=q1
 cases r1
 exact not_of (wpAny_truthy_bool ⟨.bl (!c),H1,I1,rfl,q1⟩)
def tIf (t:TT) (ta tb:TE):TE:=fun σ H Q=>t σ H fun c H1=>if c=true then ta σ H1 Q else tb σ H1 Q
theorem b9{c:Expr}(hc:PT X c tA) (ha:PE X a ta) (hb:PE X b tb):PE X (.IfExp c a b pos) (tIf tA ta tb):=by
 intro Sb s σ H Q I h
 refine wpAny_IfExp (cx (hc Sb s σ H _ I h) fun d s1 zq=>?_)
 obtain⟨H1,I1,q1⟩:=zq
 cases d with
 | true=>exact ha Sb s1 σ H1 Q I1 q1
 | false=>exact hb Sb s1 σ H1 Q I1 q1
end
end L2
namespace L2
open PySem PySem.Spec PyProof.Rows
def br (K:Fg06) (H:Hp) (a:Addr) (xs:List V):Prop:=
 Rd H a (.lst xs)∨
  ∃(o:Obj) (Se:Array Value) (n:Nat),K.lookup a=some o∧o.cls=.type "list"∧o.dict=none∧o.data=.seq Se n∧Se.size≤sizeLine∧Vals xs Se.toList
def cq (K:Fg06) (H:Hp) (a:Addr) (xs:List V):Prop:=
 Rd H a (.tup xs)∨
  ∃(o:Obj) (Se:Array Value) (n:Nat),K.lookup a=some o∧o.cls=.type "tuple"∧o.data=.seq Se n∧Se.size≤sizeLine∧Vals xs Se.toList
def absV:Value→Option V
 | .none=>some .aR
 | .bool b=>some (.bl b)
 | .int i _=>some (.int i)
 | .str x _=>some (.str x)
 | .bytes b _=>some (.uY b)
 | .float b _=>some (.flt b)
 | .ref a=>some (.ref a)
 | .type n=>some (.ty n)
 | _=>none
theorem RelV.abs{x:V}{u:Value}(r:RelV x u):absV u=some x:=by
 cases x with
 | aR=>cases r;rfl
 | bl _=>cases r;rfl
 | int _=>obtain⟨t,rfl⟩:=r;rfl
 | str _=>obtain⟨t,rfl⟩:=r;rfl
 | uY _=>obtain⟨t,rfl⟩:=r;rfl
 | flt _=>obtain⟨t,rfl⟩:=r;rfl
 | ref _=>cases r;rfl
 | ty _=>cases r;rfl
theorem RelV.inj{x y:V}{u:Value}(r:RelV x u) (q:RelV y u):x=y:=Option.some.inj (r.abs.symm.trans q.abs)
theorem Vals.inj:∀{xs ys:List V}{us:List Value},Vals xs us→Vals ys us→xs=ys
 | _,_,_,.nil,.nil=>rfl
 | _,_,_,.cons r t,.cons r' t'=>by rw[r.inj r',Vals.inj t t']
section
variable{X:Cx}{Sb:List (Addr×Obj)}{σ:St}{H:Hp}{s:Shared}{a:Addr}{xs ys:List V}
theorem br.of{K:Fg06}(h:H a=some (.lst xs)):br K H a xs:=.inl (.inl h)
theorem cq.of{K:Fg06}(h:H a=some (.tup xs)):cq K H a xs:=.inl (.inl h)
theorem Inv.list (I:Inv X Sb σ H s) (h:br X.K H a xs):∃Se:List Value,Vals xs Se∧PlainL s.heap a Se.toArray∧xs.length≤sizeLine:=by
 rcases h with h | ⟨o,Se,n,hk,hc,hd,hs,hz,r⟩
 ·obtain⟨z,Se,n,r,e⟩:=h.ok I.bH
  exact⟨Se,r,⟨_,n,e,rfl,rfl,rfl⟩,z⟩
 ·refine⟨Se.toList,r,⟨o,n,I.kQ a o hk,hc,hd,by simpa using hs⟩,?_⟩
  have e:=r.length
  simp only[Array.length_toList] at e
  omega
theorem Inv.tuple (I:Inv X Sb σ H s) (h:cq X.K H a xs):∃Se:List Value,Vals xs Se∧IsTup s.heap a Se.toArray∧xs.length≤sizeLine:=by
 rcases h with h | ⟨o,Se,n,hk,hc,hs,hz,r⟩
 ·obtain⟨z,Se,r,p⟩:=h.ok I.bH
  exact⟨Se,r,p,z⟩
 ·refine⟨Se.toList,r,⟨o,I.kQ a o hk,hc,n,by simpa using hs⟩,?_⟩
  have e:=r.length
  simp only[Array.length_toList] at e
  omega
theorem Inv.qp (I:Inv X Sb σ H s) (h:br X.K H a xs) (h':br X.K H a ys):xs=ys:=by
 obtain⟨Se,r,⟨o,n,e,_,_,d⟩,_⟩:=I.list h
 obtain⟨its',r',⟨o',n',e',_,_,d'⟩,_⟩:=I.list h'
 rw[e] at e';cases e'
 rw[d] at d'
 injection d' with d1 _
 have:Se=its':=by simpa using congrArg Array.toList d1
 subst this
 exact r.inj r'
theorem Inv.kj (I:Inv X Sb σ H s) (h:cq X.K H a xs) (h':cq X.K H a ys):xs=ys:=by
 obtain⟨Se,r,⟨o,e,_,n,d⟩,_⟩:=I.tuple h
 obtain⟨its',r',⟨o',e',_,n',d'⟩,_⟩:=I.tuple h'
 rw[e] at e';cases e'
 rw[d] at d'
 injection d' with d1 _
 have:Se=its':=by simpa using congrArg Array.toList d1
 subst this
 exact r.inj r'
end
abbrev Cx.nh (X:Cx) (E:Value→Shared→Prop):Cx:={ X with xe:=E }
abbrev Cx.Ba (X:Cx):Cx:=X.nh fun _ _=>False
theorem Cx.Ok.nh{X:Cx}(ok:X.Ok) (E:Value→Shared→Prop):(X.nh E).Ok:=
 ⟨ok.mod,ok.kind,ok.glob,ok.blt,ok.above,ok.inj,ok.has,ok.zt,ok.hd,ok.frames,ok.zG,ok.Cp,ok.bs,ok.sj,ok.pk,ok.rV,ok.jA,ok.xv⟩
theorem Cx.Ok.iz{X:Cx}{E:Value→Shared→Prop}(ok:(X.nh E).Ok):X.Ok:=
 ⟨ok.mod,ok.kind,ok.glob,ok.blt,ok.above,ok.inj,ok.has,ok.zt,ok.hd,ok.frames,ok.zG,ok.Cp,ok.bs,ok.sj,ok.pk,ok.rV,ok.jA,ok.xv⟩
section
variable{X:Cx}{Sb:List (Addr×Obj)}{σ:St}{H:Hp}{s:Shared}{E:Value→Shared→Prop}
theorem Inv.nh (I:Inv X Sb σ H s) (E:Value→Shared→Prop):Inv (X.nh E) Sb σ H s:=⟨I.ok.nh E,I.os,I.bare,I.base,I.loc,I.cell,I.free,I.fJ,I.pin,I.bH,I.len⟩
theorem Inv.iz (I:Inv (X.nh E) Sb σ H s):Inv X Sb σ H s:=⟨I.ok.iz,I.os,I.bare,I.base,I.loc,I.cell,I.free,I.fJ,I.pin,I.bH,I.len⟩
theorem SP.iz{D:Ends}{f:Flow}{s':Shared}(h:SP (X.nh E) Sb D f s'):SP X Sb D f s':=by
 cases f with
 | next=>obtain⟨σ',H',I,q⟩:=h;exact⟨σ',H',I.iz,q⟩
 | brk=>obtain⟨σ',H',I,q⟩:=h;exact⟨σ',H',I.iz,q⟩
 | cont=>obtain⟨σ',H',I,q⟩:=h;exact⟨σ',H',I.iz,q⟩
 | ret u=>obtain⟨v,σ',H',I,r,q⟩:=h;exact⟨v,σ',H',I.iz,r,q⟩
theorem pI.Ba{st:List Stmt}{t:TS}(h:pI X.Ba st t):pI X st t:=fun Sb s σ H D I hw=>
 wpAny_mono (h Sb s σ H D (I.nh _) hw) (fun _ _ q=>q.iz) fun _ _ z=>False.elim z
end
section
variable{X:Cx}{st:Stmt}{rest:List Stmt}{t u:TS}{e:Expr}{te:TE}{pos:Pos}
def y6:TS:=fun D σ H=>D.nx σ H
def zE (t u:TS):TS:=fun D σ H=>t { D with nx:=u D } σ H
theorem aB:pI X [] y6:=fun _ _ σ H _ I h=>wpAny_execs_nil ⟨σ,H,I,h⟩
theorem ah (h1:PS X st t) (h2:pI X rest u):pI X (st::rest) (zE t u):=by
 intro Sb s σ H D I h
 refine wpAny_execs_cons (cx (h1 Sb s σ H { D with nx:=u D } I h) fun f s1 q=>?_)
 cases f with
 | next=>
  obtain⟨σ',H',I',q⟩:=q
  exact h2 Sb s1 σ' H' D I' q
 | ret v=>exact q
 | brk=>exact q
 | cont=>exact q
theorem aj (h1:PS X st t):pI X [st] t:=by
 intro Sb s σ H D I h
 refine wpAny_execs_cons (cx (h1 Sb s σ H D I h) fun f s1 q=>?_)
 cases f with
 | next=>exact wpAny_execs_nil q
 | ret v=>exact q
 | brk=>exact q
 | cont=>exact q
theorem Inv.quiet{Sb:List (Addr×Obj)}{σ:St}{H:Hp}{s:Shared}(I:Inv X Sb σ H s):interactive X.env=false:=by simp[interactive,I.ok.kind]
def vj (te:TE):TS:=fun D σ H=>te σ H fun _ H1=>D.nx σ H1
theorem ba (he:PE X e te) (hs:swapsWith e none pos.line X.env=pure false:=by rfl):PS X (.Expr e pos) (vj te):=by
 intro Sb s σ H D I h
 exact wpAny_Expr_any (cx (he Sb s σ H _ I h) fun v s1 ⟨x,H1,I1,r1,q1⟩=>⟨σ,H1,I1,q1⟩) I.quiet hs
def Bs (te:TE):TS:=fun D σ H=>te σ H D.rt
theorem aG (he:PE X e te):PS X (.Return (some e) pos) (Bs te):=by
 intro Sb s σ H D I h
 exact wpAny_Return_some (cx (he Sb s σ H _ I h) fun v s1 ⟨x,H1,I1,r1,q1⟩=>⟨x,σ,H1,I1,r1,q1⟩)
def Bx (c:TT) (t u:TS):TS:=fun D σ H=>c σ H fun b H1=>if b=true then t D σ H1 else u D σ H1
theorem aN{c:Expr}{a b:List Stmt}{tc:TT}(hc:PT X c tc) (ha:pI X a t) (hb:pI X b u):PS X (.If c a b pos) (Bx tc t u):=by
 intro Sb s σ H D I h
 refine wpAny_If (cx (hc Sb s σ H _ I h) fun d s1 zq=>?_)
 obtain⟨H1,I1,q1⟩:=zq
 cases d with
 | true=>exact ha Sb s1 σ H1 D I1 q1
 | false=>exact hb Sb s1 σ H1 D I1 q1
end
abbrev TG:=V→St→Hp→(St→Hp→Prop)→Prop
abbrev yY:=List V→St→Hp→(St→Hp→Prop)→Prop
def PG (X:Cx) (target:Expr) (t:TG):Prop:=
 ∀(Sb:List (Addr×Obj)) (s:Shared) (σ:St) (H:Hp) (v:V) (u:Value) (Q:St→Hp→Prop),Inv X Sb σ H s→RelV v u→t v σ H Q→
  wpAny (model X.prog X.w) X.A (assign target X.env u) (fun _ s'=>∃σ' H',Inv X Sb σ' H' s'∧Q σ' H') X.xe s
def AZ (X:Cx) (ts:List Expr) (t:yY):Prop:=
 ∀(Sb:List (Addr×Obj)) (s:Shared) (σ:St) (H:Hp) (vs:List V) (us:List Value) (Q:St→Hp→Prop),Inv X Sb σ H s→Vals vs us→t vs σ H Q→
  wpAny (model X.prog X.w) X.A (assignInOrder ((assignEach ts X.env).map (·.2)) us) (fun _ s'=>∃σ' H',Inv X Sb σ' H' s'∧Q σ' H') X.xe s
abbrev AX:=V→V→V→Hp→(Hp→Prop)→Prop
def CA (X:Cx) (t:AX):Prop:=
 ∀(Sb:List (Addr×Obj)) (s:Shared) (σ:St) (H:Hp) (o i v:V) (ov iv u:Value) (Q:Hp→Prop),Inv X Sb σ H s→RelV o ov→RelV i iv→RelV v u→t o i v H Q→
  wpAny (model X.prog X.w) X.A (setItem ov iv u) (fun _ s'=>∃H',Inv X Sb σ H' s'∧Q H') X.xe s
section
variable{X:Cx}{pos:Pos}
def fX (i:Nat):TG:=fun v σ H Q=>Q (σ.set i (some v)) H
theorem aL{i:Nat}{x:Str}(hN:X.N.Nodup) (hi:X.N[i]?=some x) (hx:Loc X.env.scope x) (hf:X.fn x=true∨X.env.scope.names.lookup x=some .local:=by first | exact .inl rfl | exact .inr rfl | assumption):PG X (.Name x pos) (fX i):=by
 intro Sb s σ H v u Q I r h
 exact wpAny_assign_Name (pR I hN hi hx r (fun s' I'=>⟨_,H,I',h⟩) hf)
def yT:yY:=fun vs σ H Q=>vs=[]∧Q σ H
def nX (t:TG) (u:yY):yY:=fun vs σ H Q=>∃v r,vs=v::r∧t v σ H fun σ' H'=>u r σ' H' Q
theorem bU:AZ X [] yT:=by
 intro Sb s σ H vs us Q I r h
 obtain⟨e,h⟩:=h
 subst e
 cases r
 exact assignInOrder_nil ⟨σ,H,I,h⟩
theorem aU{e:Expr}{es:List Expr}{t:TG}{u:yY}(h1:PG X e t) (h2:AZ X es u)
  (hs:(assignEach (e::es) X.env).map (·.2)=assign e X.env::(assignEach es X.env).map (·.2):=by rfl):AZ X (e::es) (nX t u):=by
 intro Sb s σ H vs us Q I r h
 obtain⟨v,vr,e1,h⟩:=h
 subst e1
 cases r with
 | cons r rr=>
  rw[hs]
  refine assignInOrder_cons (cx (h1 Sb s σ H _ _ _ I r h) fun _ s1 zq=>?_)
  obtain⟨σ1,H1,I1,q1⟩:=zq
  exact h2 Sb s1 σ1 H1 _ _ Q I1 rr q1
def yS (K:Fg06) (n:Nat) (t:yY):TG:=fun v σ H Q=>∃a xs,v=.ref a∧cq K H a xs∧xs.length=n∧t xs σ H Q
theorem cw{es:List Expr}{k:Nat}{t:yY}{n:Nat}(hc:X.calm=true) (h:AZ X es t)
  (hn:(assignEach es X.env).length=n:=by rfl) (EE:(assignEach es X.env).findIdx? (·.1)=none:=by rfl):PG X (.Tuple es k pos) (yS X.K n t):=by
 intro Sb s σ H v u Q I r hw
 obtain⟨a,xs,e1,hq,hl,hw⟩:=hw
 subst e1
 cases r
 obtain⟨Se,rv,ht,hz⟩:=I.tuple hq
 refine assign_Tuple_tuple (I.ok.hd hc) ht (by simp[hn,←hl,rv.length]) EE fun h' hx=>?_
 have I1:Inv X Sb σ H { s with heap:=h' }:=I.kept (t':=s.toks) fun b o e=>hx b o (Dc (Heap.lt_size e)) e
 exact h Sb _ σ H xs _ Q I1 (by simpa using rv) hw
def gSub (to ti:TE) (t:AX):TG:=fun v σ H Q=>to σ H fun o H1=>ti σ H1 fun i H2=>t o i v H2 fun H3=>Q σ H3
theorem vX{o i:Expr}{to ti:TE}{t:AX}(ho:PE X o to) (hi:PE X i ti) (hs:CA X t)
  (ha:∀v,assign (.Subscript o i pos) X.env v=(do
   let ov ←holding [v] (eval o X.env)
   let iv ←holding [v,ov] (eval i X.env)
   standAt pos
   holding [v,ov,iv] (setItem ov iv v)
   release [v,ov,iv] []):=by intro _;rfl):PG X (.Subscript o i pos) (gSub to ti t):=by
 intro Sb s σ H v u Q I r h
 rw[ha]
 refine CG (wpAny_holding (cx (ho Sb s σ H _ I h) fun ov s1 zq=>?_))
 obtain⟨x,H1,I1,r1,q1⟩:=zq
 refine CG (wpAny_holding (cx (hi Sb s1 σ H1 _ I1 q1) fun iv s2 zq=>?_))
 obtain⟨y,H2,I2,r2,q2⟩:=zq
 refine CG (wpAny_standAt (CG (wpAny_holding (cx (hs Sb s2 σ H2 x y v ov iv u _ I2 r1 r2 r q2) fun _ s3 zq=>?_))))
 obtain⟨H3,I3,q3⟩:=zq
 exact wpAny_release ⟨σ,H3,I3,q3⟩
def xK (te:TE) (g:TG):TS:=fun D σ H=>te σ H fun x H1=>g x σ H1 D.nx
theorem eD{tg e:Expr}{te:TE}{g:TG}(he:PE X e te) (hg:PG X tg g) (hs:swapsWithSole [tg] e pos.line X.env=pure false:=by rfl) (hw:swappedStores [tg] e X.env=pure none:=by rfl)
  (h1:(assignEach [tg] X.env).map (·.2)=[assign tg X.env]:=by rfl):PS X (.Assign [tg] e pos) (xK te g):=by
 intro Sb s σ H D I h
 refine wpAny_Assign_stores (cx (he Sb s σ H _ I h) fun v s1 zq=>?_) hs hw
 obtain⟨x,H1,I1,r1,q1⟩:=zq
 rw[h1]
 exact cx (hg Sb s1 σ H1 x v _ I1 r1 q1) fun _ s2 q=>q
theorem aA{i:Nat}{x:Str}{e:Expr}{te:TE}{pos':Pos}(hN:X.N.Nodup) (hi:X.N[i]?=some x) (hx:Loc X.env.scope x) (he:PE X e te) (hs:swapsWith e (some (.Name x pos')) pos.line X.env=pure false:=by rfl) (hf:X.fn x=true∨X.env.scope.names.lookup x=some .local:=by first | exact .inl rfl | exact .inr rfl | assumption):
  PS X (.Assign [.Name x pos'] e pos) (xK te (fX i)):=by
 intro Sb s σ H D I h
 refine wpAny_Assign_Name (cx (he Sb s σ H _ I h) fun v s1 zq=>?_) hs
 obtain⟨y,H1,I1,r1,q1⟩:=zq
 exact pR I1 hN hi hx r1 (fun s2 I2=>⟨_,H1,I2,q1⟩) hf
def u9 (c:TT) (tb:TS):TS:=fun D σ H=>∃W:Nat→St→Hp→Prop,(∃m,W m σ H)∧∀m σ H,W m σ H→
 c σ H fun b H1=>if b=true then ∃N:St→Hp→Prop,(∀σ' H',N σ' H'→∃m',m' < m∧W m' σ' H')∧tb { D with nx:=N,ct:=N,bk:=D.nx } σ H1 else D.nx σ H1
theorem cu{c:Expr}{body:List Stmt}{tc:TT}{tb:TS}(hp:PassesOwn (model X.prog X.w) X.A X.env X.xe) (hc:PT X c tc) (hb:pI X body tb):PS X (.While c body [] pos) (u9 tc tb):=by
 intro Sb s σ H D I h
 obtain⟨W,⟨m0,w0⟩,turn⟩:=h
 refine wpAny_While (codeAny_whileLoop (fun n s'=>∃σ' H',Inv X Sb σ' H' s'∧W n σ' H') ?_ m0 ⟨σ,H,I,w0⟩)
 rintro n s1 ⟨σ1,H1,I1,w1⟩
 refine wpAny_passesOwn hp (cx (hc Sb s1 σ1 H1 _ I1 (turn n σ1 H1 w1)) fun b s2 zq=>?_)
 obtain⟨H2,I2,q2⟩:=zq
 cases b with
 | true=>
  obtain⟨N,hN,q2⟩:=q2
  rw[CQ rfl]
  refine wpAny_passesOwn hp (cx (hb Sb s2 σ1 H2 _ I2 q2) fun f s3 q3=>?_)
  cases f with
  | next=>
   obtain⟨σ3,H3,I3,n3⟩:=q3
   obtain⟨m',hm,w3⟩:=hN σ3 H3 n3
   exact⟨m',hm,σ3,H3,I3,w3⟩
  | cont=>
   obtain⟨σ3,H3,I3,n3⟩:=q3
   obtain⟨m',hm,w3⟩:=hN σ3 H3 n3
   exact⟨m',hm,σ3,H3,I3,w3⟩
  | brk=>exact q3
  | ret v=>exact q3
 | false=>
  rw[CO CU]
  exact wpAny_execs_nil ⟨σ1,H2,I2,q2⟩
end
structure It where
 go:Nat→Hp→Prop
 pK:Nat→Hp→V→Hp→Prop
 stop:Nat→Hp→Prop
def i8 (X:Cx) (Sb:List (Addr×Obj)) (H:Hp) (b:Addr):Prop:=
 H b=none∧b≠X.env.locals∧b∉X.fs∧(b∈X.ex∨X.s₀.heap.objs.size≤b)∧(∀x c,X.env.cells.lookup x=some c→c≠b)∧∀p∈X.pn++Sb,p.1≠b
theorem Inv.uI{X:Cx}{Sb:List (Addr×Obj)}{σ:St}{H H':Hp}{s:Shared}{b:Addr}(I:Inv X Sb σ H s) (hb:s.heap.objs.size≤b) (hn:H' b=none):i8 X Sb H' b:=by
 refine⟨hn,Nat.ne_of_gt (CT I.lt hb),I.nofs hb,.inr (CZ I.sz hb),fun x c e z=>?_,fun p hp z=>?_⟩
 ·obtain⟨v,q⟩:=I.cell x c e
  exact absurd (CT q.lt (by rw[z];exact hb)) (C7 _)
 ·exact absurd (CT (Heap.lt_size (I.pin p hp).1) (by rw[z];exact hb)) (C7 _)
structure Turn (P:Program) (w:World) (K:Fg06) (tg:Expr) (J:It) (fp:List Addr) (it:Addr) (tn:Nat→Heap→Prop):Prop where
 mem:it∈fp
 obj:∀i h,tn i h→∀b∈fp,∃o,h.get? b=some o∧∀v,o.data≠.cell v
 keep:∀i h h',tn i h→(∀b∈fp,∀o,h.get? b=some o→h'.get? b=some o)→tn i h'
 item:∀(X:Cx),X.prog=P→X.w=w→X.K=K→X.calm=true→∀(i:Nat) (Sb:List (Addr×Obj)) (s:Shared) (σ:St) (H:Hp) (E:Value→Shared→Prop),Inv X Sb σ H s→(∀b∈fp,i8 X Sb H b)→tn i s.heap→J.go i H→
  wpAny (model P w) X.A (pyNext (.ref it)) (fun r s1=>∃u,r=some u∧
   wpAny (model P w) X.A (letOwnedTupleGo tg (.ref it) u) (fun _ s2=>∃x H',Inv X Sb σ H' s2∧RelV x u∧J.pK i H x H'∧tn (i+1) s2.heap∧∀b∈fp,H' b=none) E s1) E s
 done:∀(X:Cx),X.prog=P→X.w=w→X.K=K→X.calm=true→∀(i:Nat) (Sb:List (Addr×Obj)) (s:Shared) (σ:St) (H:Hp) (E:Value→Shared→Prop),Inv X Sb σ H s→(∀b∈fp,i8 X Sb H b)→tn i s.heap→J.stop i H→
  wpAny (model P w) X.A (pyNext (.ref it)) (fun r s1=>r=none∧Inv X Sb σ H s1) E s
 self:∀(A:Around) (i:Nat) (s:Shared) (Q:Value→Shared→Prop) (E:Value→Shared→Prop),tn i s.heap→Q (.ref it) s→wpAny (model P w) A (pyIter (.ref it)) Q E s
abbrev TI:=St→Hp→(It→Hp→Prop)→Prop
def PIE (X:Cx) (Sb:List (Addr×Obj)) (σ:St) (tg:Expr) (R:It→Hp→Prop) (itv:Value) (s2:Shared):Prop:=
 ∃(it:Addr) (fp:List Addr) (tn:Nat→Heap→Prop) (J:It) (H':Hp),itv=.ref it∧Inv X Sb σ H' s2∧Turn X.prog X.w X.K tg J fp it tn∧tn 0 s2.heap∧(∀b∈fp,i8 X Sb H' b)∧R J H'
def PI (X:Cx) (tg iter:Expr) (wi:TI):Prop:=
 ∀(Sb:List (Addr×Obj)) (s:Shared) (σ:St) (H:Hp) (R:It→Hp→Prop),Inv X Sb σ H s→wi σ H R→
  wpAny (model X.prog X.w) X.A (eval iter X.env) (fun v s1=>wpAny (model X.prog X.w) X.A (pyIter v) (PIE X Sb σ tg R) X.xe s1) X.xe s
theorem wU{M:Model}{A:Around}{E:Value→Shared→Prop}{s:Shared}{tg:Expr}{it:Addr}{u:Value}{o:Obj}{n:String}{vs:Array Value}{Q:Unit→Shared→Prop}(ho:s.heap.get? it=some o) (hc:o.cls=.type n) (hd:o.data=.fields vs)
  (hn:["enumerate","zip","dict_itemiterator","dict_reverseitemiterator","odict_iterator","itertools.zip_longest","itertools.pairwise"].contains n=false) (hQ:Q () s):wpAny M A (letOwnedTupleGo tg (.ref it) u) Q E s:=by
 unfold letOwnedTupleGo
 cases tg<;>first
  | exact CH hQ
  | (cases u<;>first
    | exact CH hQ
    | (refine CG (wpAny_load ho ?_)
       rw[hc,hd]
       show wpAny M A (if(["enumerate","zip","dict_itemiterator","dict_reverseitemiterator","odict_iterator","itertools.zip_longest","itertools.pairwise"].contains n&&vs[0]? == some (rawInt _))=true then _ else _) Q E s
       rw[CO (by intro h;rw[hn,Bool.false_and] at h;cases h)]
       exact CH hQ))
def oA (K:Fg06) (a:Addr):It:=
 ⟨fun i H=>∃xs x,br K H a xs∧xs[i]?=some x,fun i H x H'=>H'=H∧∀xs,br K H a xs→xs[i]?=some x,fun i H=>∃xs,br K H a xs∧xs.length≤i⟩
def xq (K:Fg06) (a:Addr):It:=
 ⟨fun i H=>∃xs x,cq K H a xs∧xs[i]?=some x,fun i H x H'=>H'=H∧∀xs,cq K H a xs→xs[i]?=some x,fun i H=>∃xs,cq K H a xs∧xs.length≤i⟩
def A3 (lo:Int) (n:Nat):It:=⟨fun i _=>i < n,fun i H x H'=>H'=H∧x=.int (lo+i),fun i _=>n≤i⟩
theorem tX{P:Program}{w:World}{K:Fg06}{tg:Expr}(a it:Addr):Turn P w K tg (oA K a) [it] it (fun i h=>h.IsListIter it a i) where
 mem:=by simp
 obj:=fun i h st b hb=>by
  have e:b=it:=by simpa using hb
  subst e
  obtain⟨o,e,c,d⟩:=st
  exact⟨o,e,fun v z=>by rw[d] at z;cases z⟩
 keep:=fun i h h' st k=>st.at fun o e=>k it (by simp) o e
 item:=by
  intro X hP hw hK hc i Sb s σ H E I hf st hg
  subst hP hw hK
  obtain⟨xs,x,hq,hx⟩:=hg
  obtain⟨Se,rv,p,hz⟩:=I.list hq
  obtain⟨u,hu,ru⟩:=rv.get hx
  obtain⟨f0,f1,f2,f3,f4,f5⟩:=hf it (by simp)
  refine wpAny_pyNext_list_item st p.isList (x:=u) (by simpa using hu) fun h' JF sb=>?_
  have I1:Inv X Sb σ H { s with heap:=h' }:=I.turned (t':=s.toks) (fun b o hb e=>(sb.2 b hb).trans e) f0 f1 f3 f4 f5
  obtain⟨o,e,c,d⟩:=id JF
  exact⟨u,rfl,wU (s:={ s with heap:=h' }) e c d (by decide) ⟨x,H,I1,ru,⟨rfl,fun ys hy=>by rw[I.qp hy hq];exact hx⟩,JF,fun b hb=>(hf b hb).1⟩⟩
 done:=by
  intro X hP hw hK hc i Sb s σ H E I hf st hg
  subst hP hw hK
  obtain⟨xs,hq,hx⟩:=hg
  obtain⟨Se,rv,p,hz⟩:=I.list hq
  obtain⟨f0,f1,f2,f3,f4,f5⟩:=hf it (by simp)
  have hl:=rv.length
  exact wpAny_pyNext_list_end (I.ok.hd hc) st p.isList (by simp;omega) fun h' eb=>⟨rfl,I.turned (t':=s.toks) (fun b o hb e=>eb b o hb e) f0 f1 f3 f4 f5⟩
 self:=fun _ _ _ _ _ st h=>wpAny_pyIter_listiter st h
theorem qP{P:Program}{w:World}{K:Fg06}{tg:Expr}(a it:Addr):Turn P w K tg (xq K a) [it] it (fun i h=>h.IsTupleIter it a i) where
 mem:=by simp
 obj:=fun i h st b hb=>by
  have e:b=it:=by simpa using hb
  subst e
  obtain⟨o,e,c,d⟩:=st
  exact⟨o,e,fun v z=>by rw[d] at z;cases z⟩
 keep:=fun i h h' st k=>st.at fun o e=>k it (by simp) o e
 item:=by
  intro X hP hw hK hc i Sb s σ H E I hf st hg
  subst hP hw hK
  obtain⟨xs,x,hq,hx⟩:=hg
  obtain⟨Se,rv,p,hz⟩:=I.tuple hq
  obtain⟨u,hu,ru⟩:=rv.get hx
  obtain⟨f0,f1,f2,f3,f4,f5⟩:=hf it (by simp)
  refine wpAny_pyNext_tuple_item st (show s.heap.IsTuple a Se.toArray from p) (x:=u) (by simpa using hu) fun h' JF sb=>?_
  have I1:Inv X Sb σ H { s with heap:=h' }:=I.turned (t':=s.toks) (fun b o hb e=>(sb.2 b hb).trans e) f0 f1 f3 f4 f5
  obtain⟨o,e,c,d⟩:=id JF
  exact⟨u,rfl,wU (s:={ s with heap:=h' }) e c d (by decide) ⟨x,H,I1,ru,⟨rfl,fun ys hy=>by rw[I.kj hy hq];exact hx⟩,JF,fun b hb=>(hf b hb).1⟩⟩
 done:=by
  intro X hP hw hK hc i Sb s σ H E I hf st hg
  subst hP hw hK
  obtain⟨xs,hq,hx⟩:=hg
  obtain⟨Se,rv,p,hz⟩:=I.tuple hq
  obtain⟨f0,f1,f2,f3,f4,f5⟩:=hf it (by simp)
  have hl:=rv.length
  exact wpAny_pyNext_tuple_end (I.ok.hd hc) st (show s.heap.IsTuple a Se.toArray from p) (by simp;omega) fun h' eb=>⟨rfl,I.turned (t':=s.toks) (fun b o hb e=>eb b o hb e) f0 f1 f3 f4 f5⟩
 self:=fun _ _ _ _ _ st h=>wpAny_pyIter_tupleiter st h
theorem qQ{P:Program}{w:World}{K:Fg06}{tg:Expr}(it:Addr) (lo:Int) (n:Nat):Turn P w K tg (A3 lo n) [it] it (fun i h=>IsRangeIter h it (lo+(i:Nat)*1) ((n:Int) - (i:Nat)) 1) where
 mem:=by simp
 obj:=fun i h st b hb=>by
  have e:b=it:=by simpa using hb
  subst e
  exact⟨_,st,fun v z=>by
   have z':Data.fields _=Data.cell v:=z
   cases z'⟩
 keep:=fun i h h' st k=>k it (by simp) _ st
 item:=by
  intro X hP hw hK hc i Sb s σ H E I hf st hg
  subst hP hw hK
  obtain⟨f0,f1,f2,f3,f4,f5⟩:=hf it (by simp)
  have W:=Walks.range (prog:=X.prog) (w:=X.w) (I.ok.hd hc) it lo 1 n
  refine W.item i s _ _ hg st fun v h' tk hv JF kk=>?_
  obtain⟨t,rfl⟩:=hv
  have I1:Inv X Sb σ H { s with heap:=h',toks:=tk }:=I.turned (fun b o hb e=>kk b o (by simpa using hb) e) f0 f1 f3 f4 f5
  refine⟨_,rfl,wU (s:={ s with heap:=h',toks:=tk }) (n:="range_iterator") JF rfl rfl (by decide) ⟨.int (lo+i),H,I1,⟨t,?_⟩,⟨rfl,rfl⟩,JF,fun b hb=>(hf b hb).1⟩⟩
  rw[Int.mul_one]
 done:=by
  intro X hP hw hK hc i Sb s σ H E I hf st hg
  subst hP hw hK
  obtain⟨f0,f1,f2,f3,f4,f5⟩:=hf it (by simp)
  exact wpAny_pyNext_range_end (I.ok.hd hc) st (by have:n≤i:=hg;omega) fun h' eb=>⟨rfl,I.turned (t':=s.toks) (fun b o hb e=>eb b o hb e) f0 f1 f3 f4 f5⟩
 self:=fun _ _ _ _ _ st h=>wpAny_pyIter_rangeiter st h
end L2
namespace L2
open PySem PySem.Spec PyProof.Rows
section
variable{X:Cx}{tg:Expr}
def zq (K:Fg06) (tl:TE):TI:=fun σ H R=>tl σ H fun x H1=>∃a,x=.ref a∧(∃xs,br K H1 a xs)∧R (oA K a) H1
def Cm (K:Fg06) (tl:TE):TI:=fun σ H R=>tl σ H fun x H1=>∃a,x=.ref a∧(∃xs,cq K H1 a xs)∧R (xq K a) H1
theorem bF{l:Expr}{tl:TE}(hl:PE X l tl):PI X tg l (zq X.K tl):=by
 intro Sb s σ H R I h
 refine cx (hl Sb s σ H _ I h) fun v s1 zq=>?_
 obtain⟨x,H1,I1,r1,q1⟩:=zq
 obtain⟨a,e,⟨xs,hq⟩,q⟩:=q1
 subst e
 cases r1
 obtain⟨Se,rv,p,hz⟩:=I1.list hq
 refine wpAny_pyIter_list p.isList ?_
 refine⟨s1.heap.objs.size,[s1.heap.objs.size],_,_,H1,rfl,I1.kept (t':=s1.toks) fun b o e=>CL _ e,tX a _,⟨_,Heap.get?_push_size _ rfl,rfl,rfl⟩,fun b hb=>?_,q⟩
 have e:b=s1.heap.objs.size:=by simpa using hb
 subst e
 exact I1.uI (CN _) (I1.bH.fresh (CN _))
theorem dm{l:Expr}{tl:TE}(hl:PE X l tl):PI X tg l (Cm X.K tl):=by
 intro Sb s σ H R I h
 refine cx (hl Sb s σ H _ I h) fun v s1 zq=>?_
 obtain⟨x,H1,I1,r1,q1⟩:=zq
 obtain⟨a,e,⟨xs,hq⟩,q⟩:=q1
 subst e
 cases r1
 obtain⟨Se,rv,p,hz⟩:=I1.tuple hq
 refine wpAny_pyIter_tuple (show s1.heap.IsTuple a Se.toArray from p) ?_
 refine⟨s1.heap.objs.size,[s1.heap.objs.size],_,_,H1,rfl,I1.kept (t':=s1.toks) fun b o e=>CL _ e,qP a _,⟨_,Heap.get?_push_size _ rfl,rfl,rfl⟩,fun b hb=>?_,q⟩
 have e:b=s1.heap.objs.size:=by simpa using hb
 subst e
 exact I1.uI (CN _) (I1.bH.fresh (CN _))
theorem vS{Sb:List (Addr×Obj)}{σ:St}{H:Hp}{s:Shared}{R:It→Hp→Prop}{E:Value→Shared→Prop}{lo hi:Int}{t u v:Tok}{tk:Nat}(I:Inv X Sb σ H s) (h1:-(2 ^ 62)≤lo) (h2:lo < 2 ^ 62) (h3:-(2 ^ 62)≤hi) (h4:hi < 2 ^ 62)
  (q:R (A3 lo (hi - lo).toNat) H):wpAny (model X.prog X.w) X.A (pyIter (.ref s.heap.objs.size)) (PIE X Sb σ tg R) E { s with heap:=s.heap.push { cls:=.type "range",data:=.fields #[.int lo t,.int hi u,.int 1 v] },toks:=tk }:=by
 refine wpAny_pyIter_range (IsRange.new ..) (small_one h1 h2 h3 h4) ?_
 have I1:Inv X Sb σ H { s with heap:=s.heap.push { cls:=.type "range",data:=.fields #[.int lo t,.int hi u,.int 1 v] },toks:=tk }:=I.kept fun b o e=>CL _ e
 refine⟨(s.heap.push { cls:=.type "range",data:=.fields #[.int lo t,.int hi u,.int 1 v] }).objs.size,[(s.heap.push { cls:=.type "range",data:=.fields #[.int lo t,.int hi u,.int 1 v] }).objs.size],_,_,H,rfl,
  I1.kept (t':=tk) fun b o e=>CL _ e,qQ _ lo (hi - lo).toNat,?_,fun b hb=>?_,q⟩
 ·have e1:lo+((0:Nat):Int)*1=lo:=by simp
  have e2:(((hi - lo).toNat:Nat):Int) - ((0:Nat):Int)=Builtin.Range.rangeSize lo hi 1:=by rw[rangeSize_one];split<;>omega
  show IsRangeIter _ _ (lo+((0:Nat):Int)*1) ((((hi - lo).toNat:Nat):Int) - ((0:Nat):Int)) 1
  rw[e1,e2]
  exact Heap.get?_push_size _ rfl
 ·have e:b=(s.heap.push { cls:=.type "range",data:=.fields #[.int lo t,.int hi u,.int 1 v] }).objs.size:=by simpa using hb
  subst e
  exact I1.uI (CN _) (I1.bH.fresh (CN _))
def zp (ta:TA):TI:=fun σ H R=>ta σ H fun vs H1=>∃j:Int,vs=[.int j]∧-(2 ^ 62)≤j∧j < 2 ^ 62∧R (A3 0 j.toNat) H1
theorem bz{a:Expr}{ta:TA}{p pos:Pos}(hg:Gl X "range") (hm:X.mg "range"=none) (ha:PA X [a] ta) (hs:starEach [a] X.env=[(false,eval a X.env)]:=by rfl):PI X tg (.Call (.Name "range" p) [a] [] pos) (zp ta):=by
 intro Sb s σ H R I h
 refine Call_ (gm I hg hm boot_range (PyProof.Rows.callWith_type1 (cx (ha pos Sb s σ H _ I h) fun us s1 zq=>?_) hs rfl))
 obtain⟨vs,H1,I1,r1,q1⟩:=zq
 obtain⟨j,e,q1,q2,q⟩:=q1
 subst e
 cases r1 with
 | cons r rr=>
  cases rr
  obtain⟨t,rfl⟩:=r
  exact call_range_1 (vS I1 (by omega) (by omega) q1 q2 (by simpa using q))
def Bz (wi:TI) (g:TG) (tb:TS):TS:=fun D σ H=>wi σ H fun J H1=>∃W:Nat→Nat→St→Hp→Prop,(∃m,W 0 m σ H1)∧∀i m σ H,W i m σ H→
 (J.stop i H∧D.nx σ H)∨(J.go i H∧∃N:St→Hp→Prop,(∀σ' H',N σ' H'→∃m',m' < m∧W (i+1) m' σ' H')∧∀x H',J.pK i H x H'→g x σ H' fun σ2 H2=>tb { D with nx:=N,ct:=N,bk:=D.nx } σ2 H2)
def kz (fp:List Addr) (h:Heap):List (Addr×Obj):=fp.filterMap fun b=>(h.get? b).map fun o=>(b,o)
theorem eG{fp:List Addr}{h:Heap}{b:Addr}{o:Obj}(hb:b∈fp) (e:h.get? b=some o):(b,o)∈kz fp h:=List.mem_filterMap.mpr ⟨b,hb,by rw[e];rfl⟩
theorem uy{fp:List Addr}{h:Heap}{p:Addr×Obj}(hp:p∈kz fp h):p.1∈fp∧h.get? p.1=some p.2:=by
 obtain⟨b,hb,e⟩:=List.mem_filterMap.mp hp
 cases q:h.get? b with
 | none=>rw[q] at e;cases e
 | some o=>
  rw[q] at e
  have e':(b,o)=p:=Option.some.inj e
  subst e'
  exact⟨hb,q⟩
theorem Inv.pinned{Sb:List (Addr×Obj)}{σ:St}{H:Hp}{s:Shared}{fp:List Addr}(I:Inv X Sb σ H s) (hf:∀b∈fp,i8 X Sb H b) (ho:∀b∈fp,∃o,s.heap.get? b=some o∧∀v,o.data≠.cell v):Inv X (Sb++kz fp s.heap) σ H s:=
 I.tj fun p hp=>(Df.mp hp).elim (fun z=>I.pin p (Dh _ z)) fun z=>by
  obtain⟨hb,e⟩:=uy z
  obtain⟨f0,f1,f2,_⟩:=hf p.1 hb
  obtain⟨o,e',d⟩:=ho p.1 hb
  rw[e] at e';cases e'
  exact⟨e,f0,f1,f2,d⟩
theorem Inv.gM{Sb pl:List (Addr×Obj)}{σ:St}{H:Hp}{s:Shared}(I:Inv X (Sb++pl) σ H s):Inv X Sb σ H s:=I.tj fun p hp=>I.pin p (Dh _ (List.mem_append_left _ hp))
theorem bR{iter:Expr}{body:List Stmt}{wi:TI}{g:TG}{tb:TS}{pos:Pos}(hp:PassesOwn (model X.prog X.w) X.A X.env X.xe) (hc:X.calm=true) (hi:PI X tg iter wi) (hg:PG X tg g) (hb:pI X body tb)
  (hs:∀x,foldedSetIterable iter X.env x=pure x:=by intro _;rfl):PS X (.For tg iter body [] pos) (Bz wi g tb):=by
 intro Sb s σ H D I h
 refine wpAny_For (cx (hi Sb s σ H _ I h) fun v s1 h1=>cx h1 fun itv s2 h2=>?_) hs
 obtain⟨it,fp,tn,J,H2,e,I2,T,Ir,f2,W,⟨m0,w0⟩,turn⟩:=h2
 subst e

 have stat:∀{H':Hp},(∀b∈fp,H' b=none)→∀b∈fp,i8 X Sb H' b:=fun hn b hb=>⟨hn b hb,(f2 b hb).2⟩
 refine codeAny_forLoop_any (fun n s'=>∃i σ' H',Inv X Sb σ' H' s'∧tn i s'.heap∧(∀b∈fp,H' b=none)∧W i n σ' H') ?_ m0 ⟨0,σ,H2,I2,Ir,fun b hb=>(f2 b hb).1,w0⟩
 rintro n s3 ⟨i,σ3,H3,I3,HB,J7,w3⟩
 rcases turn i n σ3 H3 w3 with ⟨stop,qn⟩ | ⟨go,N,hN,step⟩
 ·refine wpAny_passesOwn hp (cx (T.done X rfl rfl rfl hc i Sb s3 σ3 H3 X.xe I3 (stat J7) HB stop) fun r s4 ⟨hr,I4⟩=>?_)
  subst hr
  exact wpAny_execs_nil ⟨σ3,H3,I4,qn⟩
 ·refine wpAny_passesOwn hp (cx (T.item X rfl rfl rfl hc i Sb s3 σ3 H3 X.xe I3 (stat J7) HB go) fun r s4 ⟨u,hr,h4⟩=>?_)
  subst hr
  refine wpAny_passesOwn hp (cx h4 fun _ s5 zq=>?_)
  obtain⟨x,H5,I5,r5,y5,Hs,IK⟩:=zq
  have I5':=I5.pinned (stat IK) (T.obj _ _ Hs)
  refine wpAny_passesOwn hp (cx (hg _ s5 σ3 H5 x u _ I5' r5 (step x H5 y5)) fun _ s6 zq=>?_)
  obtain⟨σ6,H6,I6,q6⟩:=zq
  refine wpAny_passesOwn hp (cx (hb _ s6 σ6 H6 _ I6 q6) fun f s7 q7=>?_)
  have again:∀{σ7:St}{H7:Hp},Inv X (Sb++kz fp s5.heap) σ7 H7 s7→N σ7 H7→∃m,m < n∧∃i σ' H',Inv X Sb σ' H' s7∧tn i s7.heap∧(∀b∈fp,H' b=none)∧W i m σ' H':=fun {σ7 H7} I7 n7=>by
   obtain⟨m',hm,w7⟩:=hN σ7 H7 n7
   refine⟨m',hm,i+1,σ7,H7,I7.gM,T.keep _ _ _ Hs fun b hb o e=>(I7.pin (b,o) (Dh _ (Dh _ (eG hb e)))).1,fun b hb=>?_,w7⟩
   obtain⟨o,e,d⟩:=T.obj _ _ Hs b hb
   exact(I7.pin (b,o) (Dh _ (Dh _ (eG hb e)))).2.1
  cases f with
  | next=>obtain⟨σ7,H7,I7,n7⟩:=q7;exact again I7 n7
  | cont=>obtain⟨σ7,H7,I7,n7⟩:=q7;exact again I7 n7
  | brk=>obtain⟨σ7,H7,I7,q7⟩:=q7;exact⟨σ7,H7,I7.gM,q7⟩
  | ret v=>obtain⟨x7,σ7,H7,I7,r7,q7⟩:=q7;exact⟨x7,σ7,H7,I7.gM,r7,q7⟩
end
theorem fo{K:Fg06}{a:Addr}{xs:List V}{g:TG}{tb:TS}{D:Ends}{σ:St}{H:Hp}(Pv:Nat→St→Hp→Prop) (h0:Pv 0 σ H) (hl:∀i σ H,i≤xs.length→Pv i σ H→br K H a xs)
  (hs:∀i x σ H,xs[i]?=some x→Pv i σ H→g x σ H fun σ2 H2=>tb { D with nx:=Pv (i+1),ct:=Pv (i+1),bk:=D.nx } σ2 H2) (hd:∀σ H,Pv xs.length σ H→D.nx σ H):
  ∃W:Nat→Nat→St→Hp→Prop,(∃m,W 0 m σ H)∧∀i m σ H,W i m σ H→
   ((oA K a).stop i H∧D.nx σ H)∨((oA K a).go i H∧∃N:St→Hp→Prop,(∀σ' H',N σ' H'→∃m',m' < m∧W (i+1) m' σ' H')∧∀x H',(oA K a).pK i H x H'→g x σ H' fun σ2 H2=>tb { D with nx:=N,ct:=N,bk:=D.nx } σ2 H2):=by
 refine⟨fun i m σ H=>m=xs.length - i∧i≤xs.length∧Pv i σ H,⟨xs.length,by simp,Nat.zero_le _,h0⟩,?_⟩
 rintro i m σ H ⟨rfl,hi,p⟩
 have q:=hl i σ H hi p
 by_cases Ex:i < xs.length
 ·refine .inr ⟨⟨xs,xs[i],q,by simp[Ex]⟩,Pv (i+1),fun σ' H' p'=>⟨xs.length - (i+1),by omega,rfl,Ex,p'⟩,fun x H' y=>?_⟩
  obtain⟨e,y⟩:=y
  subst e
  exact hs i x σ _ (y xs q) p
 ·have e:i=xs.length:=by omega
  subst e
  exact .inl ⟨⟨xs,q,CN _⟩,hd σ H p⟩
theorem kF{lo:Int}{n:Nat}{g:TG}{tb:TS}{D:Ends}{σ:St}{H:Hp}(Pv:Nat→St→Hp→Prop) (h0:Pv 0 σ H)
  (hs:∀i σ H,i < n→Pv i σ H→g (.int (lo+i)) σ H fun σ2 H2=>tb { D with nx:=Pv (i+1),ct:=Pv (i+1),bk:=D.nx } σ2 H2) (hd:∀σ H,Pv n σ H→D.nx σ H):
  ∃W:Nat→Nat→St→Hp→Prop,(∃m,W 0 m σ H)∧∀i m σ H,W i m σ H→
   ((A3 lo n).stop i H∧D.nx σ H)∨((A3 lo n).go i H∧∃N:St→Hp→Prop,(∀σ' H',N σ' H'→∃m',m' < m∧W (i+1) m' σ' H')∧∀x H',(A3 lo n).pK i H x H'→g x σ H' fun σ2 H2=>tb { D with nx:=N,ct:=N,bk:=D.nx } σ2 H2):=by
 refine⟨fun i m σ H=>m=n - i∧i≤n∧Pv i σ H,⟨n,by simp,Nat.zero_le _,h0⟩,?_⟩
 rintro i m σ H ⟨rfl,hi,p⟩
 by_cases Ex:i < n
 ·refine .inr ⟨Ex,Pv (i+1),fun σ' H' p'=>⟨n - (i+1),by omega,rfl,Ex,p'⟩,fun x H' y=>?_⟩
  obtain⟨e,y⟩:=y
  subst e y
  exact hs i σ _ Ex p
 ·have e:i=n:=by omega
  subst e
  exact .inl ⟨CN _,hd σ H p⟩
end L2
namespace L2
open PySem PySem.Spec PyProof.Rows
abbrev R2:=V→V→Hp→VK→Prop
def i7 (X:Cx) (f:Value→Value→Sem Value) (r:R2):Prop:=
 ∀(Sb:List (Addr×Obj)) (s:Shared) (σ:St) (H:Hp) (x y:V) (v u:Value) (Q:VK),Inv X Sb σ H s→RelV x v→RelV y u→r x y H Q→
  wpAny (model X.prog X.w) X.A (f v u) (EP X Sb σ Q) X.xe s
def UnR (X:Cx) (f:Value→Sem Value) (r:V→Hp→VK→Prop):Prop:=
 ∀(Sb:List (Addr×Obj)) (s:Shared) (σ:St) (H:Hp) (x:V) (v:Value) (Q:VK),Inv X Sb σ H s→RelV x v→r x H Q→
  wpAny (model X.prog X.w) X.A (f v) (EP X Sb σ Q) X.xe s
def i9 (X:Cx) (f:Value) (r:List V→Hp→VK→Prop):Prop:=
 ∀(Sb:List (Addr×Obj)) (s:Shared) (σ:St) (H:Hp) (xs:List V) (us:List Value) (Q:VK),Inv X Sb σ H s→Vals xs us→r xs H Q→
  wpAny (model X.prog X.w) X.A (call f us) (EP X Sb σ Q) X.xe s
def nc (r:R2) (ta tb:TE):TE:=fun σ H Q=>ta σ H fun x H1=>tb σ H1 fun y H2=>r x y H2 Q
def tUn (r:V→Hp→VK→Prop) (ta:TE):TE:=fun σ H Q=>ta σ H fun x H1=>r x H1 Q
def rI (C:Int→Int→Prop) (g:Int→Int→V):R2:=fun x y H Q=>∃i j,x=.int i∧y=.int j∧C i j∧Q (g i j) H
def yg (g:Int→Int→V):R2:=fun x y H Q=>∃i j,x=.int i∧y=.int j∧Q (g i j) H
def rU (g:Int→V):V→Hp→VK→Prop:=fun x H Q=>∃i,x=.int i∧Q (g i) H
section
variable{X:Cx}{a b c:Expr}{ta tb tc:TE}{pos:Pos}
theorem AU (ha:PE X a ta) (hb:PE X b tb){Sb:List (Addr×Obj)}{s:Shared}{σ:St}{H:Hp}{R:V→V→Hp→Prop}(I:Inv X Sb σ H s)
  (h:ta σ H fun x H1=>tb σ H1 fun y H2=>R x y H2){Q:Value→Shared→Prop}{f:Value→Value→Sem Value}
  (hf:∀v u s2 x y H2,Inv X Sb σ H2 s2→RelV x v→RelV y u→R x y H2→wpAny (model X.prog X.w) X.A (f v u) Q X.xe s2):
  wpAny (model X.prog X.w) X.A (eval a X.env) (fun v s₁=>wpAny (model X.prog X.w) X.A (eval b X.env) (fun u s₂=>wpAny (model X.prog X.w) X.A (f v u) Q X.xe s₂) X.xe s₁) X.xe s:=by
 refine cx (ha Sb s σ H _ I h) fun v s1 zq=>?_
 obtain⟨x,H1,I1,r1,q1⟩:=zq
 refine cx (hb Sb s1 σ H1 _ I1 q1) fun u s2 zq=>?_
 obtain⟨y,H2,I2,r2,q2⟩:=zq
 exact hf v u s2 x y H2 I2 r1 r2 q2
theorem ay{op:Operator}{r:R2}(ho:i7 X (binaryOp op) r) (ha:PE X a ta) (hb:PE X b tb):PE X (.BinOp a op b pos) (nc r ta tb):=by
 intro Sb s σ H Q I h
 exact wpAny_BinOp (AU ha hb I h fun v u s2 x y H2 I2 rx ry q=>ho Sb s2 σ H2 x y v u Q I2 rx ry q)
theorem fQ{op:UnaryOp}{r:V→Hp→VK→Prop}(ho:UnR X (unaryOp op) r) (ha:PE X a ta):PE X (.UnaryOp op a pos) (tUn r ta):=by
 intro Sb s σ H Q I h
 exact UnaryOp_ (cx (ha Sb s σ H _ I h) fun v s1 ⟨x,H1,I1,r1,q1⟩=>ho Sb s1 σ H1 x v Q I1 r1 q1)
theorem opI{f:Value→Value→Sem Value}{C:Int→Int→Prop}{g:Int→Int→Int}
  (rule:∀(i j:Int) (t u:Tok) (s:Shared) (Q:Value→Shared→Prop) (E:Value→Shared→Prop),C i j→Q (.int (g i j) s.toks) { s with toks:=s.toks+1 }→wpAny (model X.prog X.w) X.A (f (.int i t) (.int j u)) Q E s):
  i7 X f (rI C fun i j=>.int (g i j)):=by
 intro Sb s σ H x y v u Q I rx ry h
 obtain⟨i,j,rfl,rfl,hc,q⟩:=h
 obtain⟨t,rfl⟩:=rx
 obtain⟨t',rfl⟩:=ry
 exact rule i j t t' s _ _ hc ⟨.int (g i j),H,I.tok _,⟨_,rfl⟩,q⟩
theorem B0{f:Value→Value→Sem Value}{g:Int→Int→Int}
  (rule:∀(i j:Int) (t u:Tok) (s:Shared) (Q:Value→Shared→Prop) (E:Value→Shared→Prop),Q (.int (g i j) s.toks) { s with toks:=s.toks+1 }→wpAny (model X.prog X.w) X.A (f (.int i t) (.int j u)) Q E s):
  i7 X f (yg fun i j=>.int (g i j)):=by
 intro Sb s σ H x y v u Q I rx ry h
 obtain⟨i,j,rfl,rfl,q⟩:=h
 obtain⟨t,rfl⟩:=rx
 obtain⟨t',rfl⟩:=ry
 exact rule i j t t' s _ _ ⟨.int (g i j),H,I.tok _,⟨_,rfl⟩,q⟩
theorem yB{f:Value→Value→Sem Value}{g:Int→Int→Bool}
  (rule:∀(i j:Int) (t u:Tok) (s:Shared) (Q:Value→Shared→Prop) (E:Value→Shared→Prop),Q (.bool (g i j)) s→wpAny (model X.prog X.w) X.A (f (.int i t) (.int j u)) Q E s):
  i7 X f (yg fun i j=>.bl (g i j)):=by
 intro Sb s σ H x y v u Q I rx ry h
 obtain⟨i,j,rfl,rfl,q⟩:=h
 obtain⟨t,rfl⟩:=rx
 obtain⟨t',rfl⟩:=ry
 exact rule i j t t' s _ _ ⟨.bl (g i j),H,I,rfl,q⟩
def CDiv (i j:Int):Prop:=0 < j∧j < 1073741824
def A4 (i j:Int):Prop:=(-(2 ^ 64) < i∧i < 2 ^ 64)∨(-(2 ^ 64) < j∧j < 2 ^ 64)
theorem A4.ok{i j:Int}(h:A4 i j):IntMulOk i j:=by
 rcases h with ⟨h1,h2⟩ | ⟨h1,h2⟩
 ·exact .of_left (intBits_le_64 h1 h2)
 ·exact .of_right (intBits_le_64 h1 h2)
theorem eS:i7 X (binaryOp .Add) (yg fun i j=>.int (i+j)):=B0 fun _ _ _ _ _ _ _ q=>add_int q
theorem fe:i7 X (binaryOp .Sub) (yg fun i j=>.int (i - j)):=B0 fun _ _ _ _ _ _ _ q=>sub_int q
theorem jw:i7 X (binaryOp .Mult) (rI A4 fun i j=>.int (i*j)):=opI fun _ _ _ _ _ _ _ hc q=>mul_int q hc.ok
theorem bx:i7 X (binaryOp .FloorDiv) (rI CDiv fun i j=>.int (i / j)):=opI fun i j _ _ _ _ _ hc q=>by
 have h1:(0:Int) < j:=hc.1
 have h2:j < 1073741824:=hc.2
 exact floordiv_int (by omega) (by rw[Int.fdiv_eq_ediv_of_nonneg i (by omega)];exact q) (.inl (PyProof.noPylong_small (by omega)))
theorem bf:i7 X (binaryOp .Mod) (rI (fun _ j=>0 < j) fun i j=>.int (i % j)):=opI fun i j _ _ _ _ _ hc q=>by
 have h1:(0:Int) < j:=hc
 exact mod_int' (by omega) (by rw[Int.fmod_eq_emod_of_nonneg i (by omega)];exact q)
theorem unI{f:Value→Sem Value}{g:Int→Int}
  (rule:∀(i:Int) (t:Tok) (s:Shared) (Q:Value→Shared→Prop) (E:Value→Shared→Prop),Q (.int (g i) s.toks) { s with toks:=s.toks+1 }→wpAny (model X.prog X.w) X.A (f (.int i t)) Q E s):
  UnR X f (rU fun i=>.int (g i)):=by
 intro Sb s σ H x v Q I rx h
 obtain⟨i,rfl,q⟩:=h
 obtain⟨t,rfl⟩:=rx
 exact rule i t s _ _ ⟨.int (g i),H,I.tok _,⟨_,rfl⟩,q⟩
theorem u5:UnR X (unaryOp .USub) (rU fun i=>.int (-i)):=unI fun _ _ _ _ _ q=>neg_int q
def BG:V→V→Bool
 | .aR,.aR=>true | .aR,.int _=>true | .int _,.aR=>true | .aR,.bl _=>true | .bl _,.aR=>true | .aR,.str _=>true | .str _,.aR=>true
 | .int _,.int _=>true | .bl _,.bl _=>true | .str _,.str _=>true | .uY _,.uY _=>true
 | .int _,.str _=>true | .str _,.int _=>true | .bl _,.str _=>true | .str _,.bl _=>true
 | _,_=>false
def rEq:R2:=fun x y H Q=>BG x y=true∧Q (.bl (decide (x=y))) H
def rNe:R2:=fun x y H Q=>BG x y=true∧Q (.bl (!decide (x=y))) H
theorem tL{i j:Int}:decide (V.int i=V.int j)=(i == j):=by
 rw[Bool.eq_iff_iff]
 simp
theorem w4{i j:Bool}:decide (V.bl i=V.bl j)=(i == j):=by
 rw[Bool.eq_iff_iff]
 simp
theorem tK{i j:Str}:decide (V.str i=V.str j)=(i == j):=by
 rw[Bool.eq_iff_iff]
 simp
theorem tM{i j:Array UInt8}:decide (V.uY i=V.uY j)=(i.toList == j.toList):=by
 rw[Bool.eq_iff_iff]
 cases i
 cases j
 simp
theorem bI{Sb:List (Addr×Obj)}{σ:St}{H:Hp}{s:Shared}{Q:VK}{k k':Bool}(I:Inv X Sb σ H s) (q:Q (.bl k) H) (e:k=k'):EP X Sb σ Q (.bool k') s:=by
 subst e
 exact⟨.bl k,H,I,rfl,q⟩
theorem bw:i7 X (compareOp .Eq) rEq:=by
 intro Sb s σ H x y v u Q I rx ry h
 obtain⟨hs,q⟩:=h
 cases x with
 | aR=>
  cases rx
  cases y with
  | aR=>cases ry;exact PySem.EqNone.eq_none_none (bI I q (by simp))
  | bl j=>cases ry;exact PySem.EqNone.eq_none_bool (bI I q (by simp))
  | int j=>obtain⟨t',rfl⟩:=ry;exact PySem.EqNone.eq_none_int (bI I q (by simp))
  | str j=>obtain⟨t',rfl⟩:=ry;exact PySem.EqNone.eq_none_str (bI I q (by simp))
  | _=>exact absurd (show false=true from hs) CU
 | bl i=>
  cases rx
  cases y with
  | aR=>cases ry;exact PySem.EqNone.eq_bool_none (bI I q (by simp))
  | bl j=>cases ry;exact eq_bool (bI I q w4)
  | str j=>obtain⟨t',rfl⟩:=ry;exact PySem.EqMixed.eq_bool_str (bI I q (by simp))
  | _=>exact absurd (show false=true from hs) CU
 | int i=>
  obtain⟨t,rfl⟩:=rx
  cases y with
  | aR=>cases ry;exact PySem.EqNone.eq_int_none (bI I q (by simp))
  | int j=>obtain⟨t',rfl⟩:=ry;exact eq_int (bI I q tL)
  | str j=>obtain⟨t',rfl⟩:=ry;exact PySem.EqMixed.eq_int_str (bI I q (by simp))
  | _=>exact absurd (show false=true from hs) CU
 | str i=>
  obtain⟨t,rfl⟩:=rx
  cases y with
  | aR=>cases ry;exact PySem.EqNone.eq_str_none (bI I q (by simp))
  | bl j=>cases ry;exact PySem.EqMixed.eq_str_bool (bI I q (by simp))
  | int j=>obtain⟨t',rfl⟩:=ry;exact PySem.EqMixed.eq_str_int (bI I q (by simp))
  | str j=>obtain⟨t',rfl⟩:=ry;exact eq_str (bI I q tK)
  | _=>exact absurd (show false=true from hs) CU
 | uY i=>
  obtain⟨t,rfl⟩:=rx
  cases y with
  | uY j=>obtain⟨t',rfl⟩:=ry;exact PySem.W.eq_bytes (bI I q tM)
  | _=>exact absurd (show false=true from hs) CU
 | _=>cases y<;>exact absurd (show false=true from hs) CU
theorem qe:i7 X (compareOp .NotEq) rNe:=by
 intro Sb s σ H x y v u Q I rx ry h
 obtain⟨hs,q⟩:=h
 cases x with
 | aR=>
  cases rx
  cases y with
  | aR=>cases ry;exact PySem.EqNone.ne_none_none (bI I q (by simp))
  | bl j=>cases ry;exact PySem.EqNone.ne_none_bool (bI I q (by simp))
  | int j=>obtain⟨t',rfl⟩:=ry;exact PySem.EqNone.ne_none_int (bI I q (by simp))
  | str j=>obtain⟨t',rfl⟩:=ry;exact PySem.EqNone.ne_none_str (bI I q (by simp))
  | _=>exact absurd (show false=true from hs) CU
 | bl i=>
  cases rx
  cases y with
  | aR=>cases ry;exact PySem.EqNone.ne_bool_none (bI I q (by simp))
  | bl j=>cases ry;exact ne_bool (bI I q (congrArg not w4))
  | str j=>obtain⟨t',rfl⟩:=ry;exact PySem.EqMixed.ne_bool_str (bI I q (by simp))
  | _=>exact absurd (show false=true from hs) CU
 | int i=>
  obtain⟨t,rfl⟩:=rx
  cases y with
  | aR=>cases ry;exact PySem.EqNone.ne_int_none (bI I q (by simp))
  | int j=>obtain⟨t',rfl⟩:=ry;exact ne_int (bI I q (congrArg not tL))
  | str j=>obtain⟨t',rfl⟩:=ry;exact PySem.EqMixed.ne_int_str (bI I q (by simp))
  | _=>exact absurd (show false=true from hs) CU
 | str i=>
  obtain⟨t,rfl⟩:=rx
  cases y with
  | aR=>cases ry;exact PySem.EqNone.ne_str_none (bI I q (by simp))
  | bl j=>cases ry;exact PySem.EqMixed.ne_str_bool (bI I q (by simp))
  | int j=>obtain⟨t',rfl⟩:=ry;exact PySem.EqMixed.ne_str_int (bI I q (by simp))
  | str j=>obtain⟨t',rfl⟩:=ry;exact ne_str (bI I q (congrArg not tK))
  | _=>exact absurd (show false=true from hs) CU
 | uY i=>
  obtain⟨t,rfl⟩:=rx
  cases y with
  | uY j=>obtain⟨t',rfl⟩:=ry;exact PySem.W.ne_bytes (bI I q (congrArg not tM))
  | _=>exact absurd (show false=true from hs) CU
 | _=>cases y<;>exact absurd (show false=true from hs) CU
theorem nQ:i7 X (compareOp .Lt) (yg fun i j=>.bl (decide (i < j))):=yB fun _ _ _ _ _ _ _ q=>lt_int q
theorem zj:i7 X (compareOp .LtE) (yg fun i j=>.bl (decide (i≤j))):=yB fun _ _ _ _ _ _ _ q=>le_int q
theorem qf:i7 X (compareOp .Gt) (yg fun i j=>.bl (decide (j < i))):=yB fun _ _ _ _ _ _ _ q=>gt_int q
theorem BZ:i7 X (compareOp .GtE) (yg fun i j=>.bl (decide (j≤i))):=yB fun _ _ _ _ _ _ _ q=>ge_int q
theorem wk:i7 X (compareOp .Is) (fun x y H Q=>y=.aR∧Q (.bl (decide (x=.aR))) H):=by
 intro Sb s σ H x y v u Q I rx ry h
 obtain⟨rfl,q⟩:=h
 cases ry
 refine is_none_gen (bI I q ?_)
 cases x<;>first
  | (cases rx;rfl)
  | (obtain⟨t,rfl⟩:=rx;rfl)
theorem gc:i7 X (compareOp .IsNot) (fun x y H Q=>y=.aR∧Q (.bl (!decide (x=.aR))) H):=by
 intro Sb s σ H x y v u Q I rx ry h
 obtain⟨rfl,q⟩:=h
 cases ry
 refine isnot_none_gen (bI I q ?_)
 cases x<;>first
  | (cases rx;rfl)
  | (obtain⟨t,rfl⟩:=rx;rfl)
theorem aH (b:Expr){op:CmpOp}(h:op≠.In:=by decide) (h2:op≠.NotIn:=by decide):behindInMarks op b=false:=by
 have e1:(op == CmpOp.In)=false:=by cases op<;>first | rfl | exact absurd rfl h
 have e2:(op == CmpOp.NotIn)=false:=by cases op<;>first | rfl | exact absurd rfl h2
 cases b<;>simp[behindInMarks,e1,e2]
theorem bZ{op:CmpOp}{r:R2}(ho:i7 X (compareOp op) r) (ha:PE X a ta) (hb:PE X b tb) (hm:behindInMarks op b=false):PE X (.Compare a [op] [b] pos) (nc r ta tb):=by
 intro Sb s σ H Q I h
 exact wpAny_Compare1 (AU ha hb I h fun v u s2 x y H2 I2 rx ry q=>ho Sb s2 σ H2 x y v u Q I2 rx ry q) hm
def lO (t:TE):TT:=fun σ H Q=>t σ H fun x H'=>∃k,x=.bl k∧Q k H'
theorem ar{op:CmpOp}{r:R2}(ho:i7 X (compareOp op) r) (ha:PE X a ta) (hb:PE X b tb) (hm:behindInMarks op b=false):PT X (.Compare a [op] [b] pos) (lO (nc r ta tb)):=by
 intro Sb s σ H Q I h
 refine wpAny_isTrue_Compare1 (cx (ha Sb s σ H _ I h) fun v s1 ⟨x,H1,I1,r1,q1⟩=>cx (hb Sb s1 σ H1 _ I1 q1) fun u s2 ⟨y,H2,I2,r2,q2⟩=>
  cx (ho Sb s2 σ H2 x y v u _ I2 r1 r2 q2) fun c s3 ⟨z,H3,I3,r3,k,e,q3⟩=>?_) hm
 subst e
 cases r3
 exact wpAny_truthy_bool ⟨H3,I3,q3⟩
def vq (r r':R2) (ta tb tc:TE):TE:=fun σ H Q=>ta σ H fun x H1=>tb σ H1 fun y H2=>r x y H2 fun z H3=>∃k,z=.bl k∧
 (if k=true then tc σ H3 fun w' H4=>r' y w' H4 Q else Q (.bl false) H3)
theorem ma{op Kg:CmpOp}{r r':R2}(ho:i7 X (compareOp op) r) (Fz:i7 X (compareOp Kg) r') (ha:PE X a ta) (hb:PE X b tb) (hc:PE X c tc)
  (hm:lastMarks [op,Kg] [b,c]=false:=by with_unfolding_all rfl):PT X (.Compare a [op,Kg] [b,c] pos) (lO (vq r r' ta tb tc)):=by
 intro Sb s σ H Q I h
 refine isTrue_chain (cx (ha Sb s σ H _ I h) fun v s1 ⟨x,H1,I1,r1,q1⟩=>test_link (cx (hb Sb s1 σ H1 _ I1 q1) fun u s2 ⟨y,H2,I2,r2,q2⟩=>
  cx (ho Sb s2 σ H2 x y v u _ I2 r1 r2 q2) fun d s3 ⟨z,H3,I3,r3,k,e,q3⟩=>?_)) hm
 subst e
 cases r3
 refine wpAny_truthy_bool ?_
 cases k with
 | false=>
  obtain⟨k',e',q'⟩:=q3
  cases e'
  exact ite_ff ⟨H3,I3,q'⟩
 | true=>
  refine ite_tt (test_last (cx (hc Sb s3 σ H3 _ I3 q3) fun w' s4 ⟨z',H4,I4,r4,q4⟩=>cx (Fz Sb s4 σ H4 y z' u w' _ I4 r2 r4 q4) fun d' s5 zq=>?_))
  obtain⟨z2,H5,I5,r5,k2,e2,q5⟩:=zq
  subst e2
  cases r5
  exact wpAny_truthy_bool ⟨H5,I5,q5⟩
theorem mE:(sizeLine:Nat) < 2 ^ 63:=by rw[sizeLine_eq];decide
theorem vals1{x:V}{us:List Value}(r:Vals [x] us):∃u,us=[u]∧RelV x u:=by
 cases r with
 | cons r1 r2=>cases r2;exact⟨_,rfl,r1⟩
theorem vals2{x y:V}{us:List Value}(r:Vals [x,y] us):∃u w',us=[u,w']∧RelV x u∧RelV y w':=by
 cases r with
 | cons r1 r2=>
  cases r2 with
  | cons r3 r4=>cases r4;exact⟨_,_,rfl,r1,r3⟩
theorem uO:i9 X (.type "int") (fun xs H Q=>(∃i,xs=[.int i]∧Q (.int i) H)∨∃k,xs=[.bl k]∧Q (.int (if k then 1 else 0)) H):=by
 intro Sb s σ H xs us Q I r h
 rcases h with ⟨i,rfl,q⟩ | ⟨k,rfl,q⟩
 ·obtain⟨u,rfl,t,rfl⟩:=vals1 r
  exact call_int_int ⟨.int i,H,I,⟨_,rfl⟩,q⟩
 ·obtain⟨u,rfl,r1⟩:=vals1 r
  cases r1
  exact call_int_bool ⟨.int (if k then 1 else 0),H,I.tok _,⟨_,rfl⟩,q⟩
end
end L2
namespace L2
open PySem PySem.Spec PyProof.Rows
structure sm (h:Heap) (x dx C:Addr) (mA:Str→Option Value):Prop where
 obj:h.get? x=some (PySem.W.instObj C dx)
 ns:h.Ns1 dx mA
 ne:dx≠x
theorem uB{h:Heap}{dx:Addr}{mA:Str→Option Value}(n:h.Ns1 dx mA):∃od,h.get? dx=some od∧∀name,PySem.W.lookIn name od=some (mA name):=by
 obtain⟨o,es,ep,ho,hd,hk,_,hm⟩:=n
 refine⟨o,ho,fun name=>?_⟩
 have e:=hm name
 unfold nsFind findBy at e
 rw[←Array.find?_toList] at e
 unfold PySem.W.lookIn
 rw[hd]
 dsimp only
 split
 ·rename_i y q
  rw[q] at e
  exact congrArg some e
 ·rename_i q
  rw[q] at e
  have a:es.toList.any (·.refKey)=false:=by
   rw[List.any_eq_false]
   intro y hy
   obtain⟨z,t,hkey⟩:=hk y (Array.mem_toList_iff.mp hy)
   simp[DictEntry.refKey,hkey]
  have a':¬es.toList.any (·.refKey)=true:=by rw[a];exact CU
  rw[CO a']
  exact congrArg some e
theorem sm.look{h:Heap}{x dx C:Addr}{mA:Str→Option Value}(I:sm h x dx C mA):∃od,PySem.W.InstAt h x (PySem.W.instObj C dx) C (some od)∧∀name,PySem.W.lookIn name od=some (mA name):=
 let ⟨od,ho,hl⟩:=uB I.ns
 ⟨od,⟨I.obj,rfl,rfl,ho⟩,hl⟩
section
variable{prog:Program}{w:World}{A:Around}{E:Value→Shared→Prop}{s:Shared}{K:Fg06}{x dx C f:Addr}{mA:Str→Option Value}{name:Str}{v:Value}
theorem get_map{expr:Bool}{Q:Value→Shared→Prop}(X:K.In s.heap) (I:sm s.heap x dx C mA) (hg:PySem.W.plainGet K C name=true) (hh:PySem.W.hasDictIn K C=true)
  (ha:PySem.W.findIn K (.ref C) name=some none) (hv:mA name=some v) (ED:PySem.W.handedIn v=true) (h:Q v { s with toks:=s.toks+1 }):
  wpAny (model prog w) A (getAttr (.ref x) name expr) Q E s:=by
 obtain⟨od,J,hl⟩:=I.look
 exact PySem.W.get_value X J (PySem.W.plainGet_of hg).1 (PySem.W.findObj_own hh ha rfl (by rw[hl,hv])) ED h
theorem wV{pl:Sem Bool}{Q:Value×List Value→Shared→Prop}(X:K.In s.heap) (I:sm s.heap x dx C mA) (hg:PySem.W.plainGet K C name=true)
  (hf:PySem.W.findIn K (.ref C) name=some (some (.ref f))) (ht:PySem.W.isFn K (.ref f)=true) (hv:mA name=none) (h:Q (.ref f,[.ref x]) s):
  wpAny (model prog w) A (getMethod (.ref x) name pl) Q E s:=by
 obtain⟨od,J,hl⟩:=I.look
 exact PySem.W.method_fn X J (PySem.W.plainGet_of hg).1 (PySem.W.plainGet_of hg).2 hf (beq_iff_eq.mp ht) (by show(PySem.W.lookIn name od).map (·.isSome)=some false;rw[hl,hv];rfl) h
theorem xT{ns:List Str}{Q:Unit→Shared→Prop}(X:K.In s.heap) (I:sm s.heap x dx C mA)
  (hs:PySem.W.findIn K (.ref C) "__setattr__"=some (some (.builtin "object.__setattr__"))) (hp:PySem.W.plainOver K C=true) (ht:PySem.W.takerIn K C name=some none) (hh:PySem.W.hasDictIn K C=true)
  (hw:PySem.Within mA ns) (hsz:ns.length≤sizeLine)
  (h:∀h',sm h' x dx C (fun y=>if y=name then some v else mA y)→Heap.SameBut dx s.heap h'→Q () { s with heap:=h',toks:=s.toks+2 }):
  wpAny (model prog w) A (setAttr (.ref x) name v) Q E s:=by
 obtain⟨od,J,hl⟩:=I.look
 refine PySem.W.set_plain X J hs (PySem.W.osa_open (s:={ s with toks:=s.toks+1 }) (r:=none) X J hp ht fun b=>?_)
 obtain⟨cd,hc,GB⟩:=PySem.W.any_some hh
 have hx:s.heap.get? x=some ⟨.ref C,some dx,.plain,#[]⟩:=I.obj
 refine CG (CH (CG (CG (wpAny_loadPart hx (CG (PySem.W.Looks.here (s:={ s with toks:=s.toks+1 }) (PySem.W.looks_clsIn X hc) ?_))))))
 rw[GB]
 refine CH (a:=some dx) (CG (CH (CG ?_)))
 refine wpAny_nsSet1 (s:={ s with toks:=s.toks+1 }) I.ns fun h' KJ FU=>?_
 obtain⟨oD,esD,epD,Pa,Pu,Py⟩:=KJ.count (PySem.Within.cons name v hw)
 refine CG (wpAny_lookBehind Pa (by rw[Pu];exact pastItsLine_dict (CZ Py (by rw[CY];omega))) ?_)
 exact CH (h _ ⟨(FU.2 _ (Ne.symm I.ne)).trans I.obj,KJ,I.ne⟩ FU)
theorem wG{R:Result→Shared→Prop}{vs:List Value}{kw:List (Str×Value)}(X:K.In s.heap) (hm:PySem.W.makesIn K C=true)
  (hi:PySem.W.findIn K (.ref C) "__init__"=some (some (.ref f))) (hf:PySem.W.typeIn K (.ref f)=some (.type "function"))
  (h:codeAny (model prog w) (A.under (.builtin "type.__call__" ⟨.ref C::vs,kw⟩)) (.call (.ref f) ⟨.ref (s.heap.objs.size+1)::vs,kw⟩) (PySem.W.InitBack (s.heap.objs.size+1) R)
   { s with heap:=(s.heap.push PySem.W.emptyDict).push (PySem.W.instObj C s.heap.objs.size) }):
  codeAny (model prog w) A (.call (.ref C) ⟨vs,kw⟩) R s:=by
 obtain⟨hh,g,d,t,os⟩:=s
 exact PySem.W.make_core (PySem.W.makes_of X hm) (PySem.W.looks_findIn X hi) (fun self=>PySem.W.bind_fn X self hf) (.inl rfl) h
end
def fk (f:Str) (v:V):List (Str×V)→List (Str×V)
 | []=>[(f,v)]
 | (g,x)::r=>if g=f then(g,v)::r else(g,x)::fk f v r
theorem kN (f g:Str) (v:V):∀fs:List (Str×V),(fk f v fs).lookup g=if g=f then some v else fs.lookup g
 | []=>by
  show List.lookup g [(f,v)]=_
  by_cases h:g=f
  ·have hb:(g == f)=true:=beq_iff_eq.mpr h
   simp only[List.lookup,hb,if_pos h]
  ·have hb:(g == f)=false:=beq_eq_false_iff_ne.mpr h
   simp only[List.lookup,hb,if_neg h]
 | (k,x)::r=>by
  have ih:=kN f g v r
  rw[show fk f v ((k,x)::r)=(if k=f then(k,v)::r else(k,x)::fk f v r) from rfl]
  by_cases hk:k=f
  ·rw[CQ hk]
   by_cases h:g=k
   ·have hb:(g == k)=true:=beq_iff_eq.mpr h
    simp only[List.lookup,hb,if_pos (h.trans hk)]
   ·have hb:(g == k)=false:=beq_eq_false_iff_ne.mpr h
    simp only[List.lookup,hb,if_neg (fun e:g=f=>h (e.trans hk.symm))]
  ·rw[CO hk]
   by_cases h:g=k
   ·have hb:(g == k)=true:=beq_iff_eq.mpr h
    simp only[List.lookup,hb,if_neg (fun e:g=f=>hk (h.symm.trans e))]
   ·have hb:(g == k)=false:=beq_eq_false_iff_ne.mpr h
    simp only[List.lookup,hb]
    exact ih
theorem kC (f:Str) (v:V):∀fs:List (Str×V),f∈(fk f v fs).map (·.1)∧∀g,g∈fs.map (·.1)→g∈(fk f v fs).map (·.1)
 | []=>⟨by simp[fk],fun g h=>by simp at h⟩
 | (k,x)::r=>by
  obtain⟨i1,i2⟩:=kC f v r
  rw[show fk f v ((k,x)::r)=(if k=f then(k,v)::r else(k,x)::fk f v r) from rfl]
  by_cases hk:k=f
  ·rw[CQ hk]
   subst hk
   exact⟨by simp,fun g h=>by simpa using h⟩
  ·rw[CO hk]
   refine⟨?_,fun g h=>?_⟩
   ·rw[List.map_cons]
    exact C0 _ i1
   ·rw[List.map_cons] at h ⊢
    rcases List.mem_cons.mp h with e | e
    ·exact List.mem_cons.mpr (.inl e)
    ·exact C0 _ (i2 g e)
theorem kP (f:Str) (v:V):∀fs:List (Str×V),(fk f v fs).length≤fs.length+1
 | []=>by simp[fk]
 | (k,x)::r=>by
  have ih:=kP f v r
  rw[show fk f v ((k,x)::r)=(if k=f then(k,v)::r else(k,x)::fk f v r) from rfl]
  by_cases hk:k=f
  ·rw[CQ hk,CY,CY];omega
  ·rw[CO hk,CY,CY];omega
theorem gw.some_of{v:V}{o:Option Value}(r:gw (some v) o):∃u,o=some u∧RelV v u:=by
 cases o with
 | none=>exact(show False from r).elim
 | some u=>exact⟨u,rfl,r⟩
theorem gw.none_of{o:Option Value}(r:gw none o):o=none:=by
 cases o with
 | none=>rfl
 | some u=>exact(show False from r).elim
theorem uH{v:V}{u:Value}(r:RelV v u):PySem.W.handedIn u=true:=by
 cases v with
 | aR=>cases (show u=Value.none from r);rfl
 | bl b=>cases (show u=Value.bool b from r);rfl
 | int i=>obtain⟨t,e⟩:=(show ∃t,u=Value.int i t from r);cases e;rfl
 | str x=>obtain⟨t,e⟩:=(show ∃t,u=Value.str x t from r);cases e;rfl
 | uY b=>obtain⟨t,e⟩:=(show ∃t,u=Value.bytes b t from r);cases e;rfl
 | flt b=>obtain⟨t,e⟩:=(show ∃t,u=Value.float b t from r);cases e;rfl
 | ref a=>cases (show u=Value.ref a from r);rfl
 | ty n=>cases (show u=Value.type n from r);rfl
section
variable{P:Program}{w:World}{H H':Hp}{h h':Heap}{a C dx:Addr}{fs fs':List (Str×V)}
theorem pA (bH:ji P w H h) (e:H a=some (.ins C dx fs)):∃mA,sm h a dx C mA∧(∀f,gw (fs.lookup f) (mA f))∧PySem.Within mA (fs.map (·.1))∧fs.length≤1000∧H dx=some (.own a):=by
 obtain⟨d,z,ne,ob,mA,n,r,q⟩:=(show dG P w H h a (.ins C dx fs) from bH a _ e)
 exact⟨mA,⟨ob,n,ne⟩,r,q,z,d⟩
end
structure tW (K:Fg06) (C:Addr):Prop where
 pg:PySem.W.plainGet K C Str.empty=true
 hd:PySem.W.hasDictIn K C=true
 po:PySem.W.plainOver K C=true
 sa:PySem.W.findIn K (.ref C) "__setattr__"=some (some (.builtin "object.__setattr__"))
theorem tW.get{K:Fg06}{C:Addr}(c:tW K C) (f:Str):PySem.W.plainGet K C f=true:=c.pg
def cJ (K:Fg06) (C:Addr) (f:Str):Prop:=PySem.W.findIn K (.ref C) f=some none
theorem cJ.Bp{K:Fg06}{C:Addr}{f:Str}(n:cJ K C f):PySem.W.takerIn K C f=some none:=by
 unfold PySem.W.takerIn
 rw[show PySem.W.findIn K (.ref C) f=some none from n]
 rfl
structure Meth (K:Fg06) (C:Addr) (m:Str) (f:Addr):Prop where
 at_:PySem.W.findIn K (.ref C) m=some (some (.ref f))
 fn:PySem.W.isFn K (.ref f)=true
 kp:PySem.W.keepIn K (.ref f)=true
section
variable{X:Cx}{Sb:List (Addr×Obj)}{σ:St}{H:Hp}{s:Shared}{a C dx:Addr}{fs:List (Str×V)}{f:Str}{v:V}{A:Around}{E:Value→Shared→Prop}
theorem rT{b:Bool}{Q:Value→Shared→Prop}(I:Inv X Sb σ H s) (e:H a=some (.ins C dx fs)) (c:tW X.K C) (n:cJ X.K C f) (l:fs.lookup f=some v)
  (h:∀u s',Inv X Sb σ H s'→RelV v u→Q u s'):wpAny (model X.prog X.w) A (getAttr (.ref a) f b) Q E s:=by
 obtain⟨mA,O,r,_,_,_⟩:=pA I.bH e
 obtain⟨u,hu,ru⟩:=gw.some_of (v:=v) (o:=mA f) (by rw[←l];exact r f)
 exact get_map I.kQ O (c.get f) c.hd n hu (uH ru) (h u _ (I.tok _) ru)
theorem mJ{m:Str}{g:Addr}{pl:Sem Bool}{Q:Value×List Value→Shared→Prop}(I:Inv X Sb σ H s) (e:H a=some (.ins C dx fs)) (c:tW X.K C) (k:Meth X.K C m g) (l:fs.lookup m=none)
  (h:Q (.ref g,[.ref a]) s):wpAny (model X.prog X.w) A (getMethod (.ref a) m pl) Q E s:=by
 obtain⟨mA,O,r,_,_,_⟩:=pA I.bH e
 have hn:mA m=none:=gw.none_of (by rw[←l];exact r m)
 exact wV I.kQ O (c.get m) k.at_ k.fn hn h
theorem q9{y:V}{u:Value}{Q:Unit→Shared→Prop}(I:Inv X Sb σ H s) (e:H a=some (.ins C dx fs)) (c:tW X.K C) (n:cJ X.K C f) (hl:fs.length < 1000) (ry:RelV y u)
  (h:∀s',Inv X Sb σ (upd H a (.ins C dx (fk f y fs))) s'→Q () s'):wpAny (model X.prog X.w) A (setAttr (.ref a) f u) Q E s:=by
 obtain⟨mA,O,r,wi,_,ho⟩:=pA I.bH e
 have hz:(fs.map (·.1)).length≤sizeLine:=by rw[CS,sizeLine_eq];omega
 refine xT I.kQ O c.sa c.po n.Bp c.hd wi hz fun h' O' sb=>h _ ?_
 have hd:∃o,h'.get? dx=some o:=let ⟨o,_,_,e',_⟩:=O'.ns;⟨o,e'⟩
 refine I.write (x:=a) (e:=dx) (by rw[e];exact True.intro) (.inr ho) (fun b q hb z=>(sb.2 b hb).trans z) hd ?_
 refine⟨by rw[aF O.ne];exact ho,?_,O.ne,O'.obj,_,O'.ns,fun g=>?_,fun g hg=>?_⟩
 ·have:=kP f y fs;omega
 ·show gw ((fk f y fs).lookup g) (if g=f then some u else mA g)
  rw[kN]
  by_cases q:g=f
  ·rw[CQ q,CQ q];exact ry
  ·rw[CO q,CO q];exact r g
 ·by_cases q:g=f
  ·rw[q];exact(kC f y fs).1
  ·refine(kC f y fs).2 g (wi g fun z=>hg ?_)
   show(if g=f then some u else mA g)=none
   rw[CO q];exact z
theorem Inv.made (I:Inv X Sb σ H s):Inv X Sb σ (upd (upd H s.heap.objs.size (.own (s.heap.objs.size+1))) (s.heap.objs.size+1) (.ins C s.heap.objs.size []))
  { s with heap:=(s.heap.push PySem.W.emptyDict).push (PySem.W.instObj C s.heap.objs.size) }:=by
 have e1:(s.heap.push PySem.W.emptyDict).get? s.heap.objs.size=some PySem.W.emptyDict:=Heap.get?_push_size s.heap rfl
 have e2:((s.heap.push PySem.W.emptyDict).push (PySem.W.instObj C s.heap.objs.size)).get? (s.heap.objs.size+1)=some (PySem.W.instObj C s.heap.objs.size):=by
  have:=Heap.get?_push_size (s.heap.push PySem.W.emptyDict) (o:=PySem.W.instObj C s.heap.objs.size) rfl
  rwa [Heap.size_push] at this
 have e3:(s.heap.push PySem.W.emptyDict).Ns s.heap.objs.size (fun _=>none):=⟨PySem.W.emptyDict,#[],_,e1,rfl,(fun e he=>absurd he (by simp)),fun _=>rfl⟩
 have I1:=I.laid (a:=s.heap.objs.size) (o:=.own (s.heap.objs.size+1)) (h':=s.heap.push PySem.W.emptyDict) (t':=s.toks) (fun b u q=>CL _ q) (CN _) ⟨_,e1⟩
 refine I1.laid (a:=s.heap.objs.size+1) (o:=.ins C s.heap.objs.size []) (t':=s.toks) (fun b u q=>CL _ q) (Nat.le_of_eq (Heap.size_push _ _)) ?_
 have ne:s.heap.objs.size≠s.heap.objs.size+1:=Dc (Dd _)
 refine⟨by rw[aF ne,ag],Nat.zero_le _,ne,e2,fun _=>none,(Heap.Ns1.of_empty e3).at fun o q=>CL _ q,fun _=>True.intro,fun y hy=>absurd rfl hy⟩
theorem yX{prog:Program}{w:World}{env:Env}{e:Expr}{f:Str}{pos:Pos}{s:Shared}{Q:Value→Shared→Prop}(hb:attributeBase e f env (eval e env)=eval e env)
  (h:wpAny (model prog w) A (eval e env) (fun o s₁=>wpAny (model prog w) A (getAttr o f true) Q E s₁) E s):wpAny (model prog w) A (eval (.Attribute e f pos) env) Q E s:=
 Attribute_any_ h (by rw[arm_eval_Attribute,hb])
end
def BA (K:Fg06) (ta:TE) (f:Str):TE:=fun σ H Q=>ta σ H fun x H1=>∃a C dx fs v,x=.ref a∧H1 a=some (.ins C dx fs)∧tW K C∧cJ K C f∧fs.lookup f=some v∧Q v H1
def BM (K:Fg06) (ta tv:TE) (f:Str):TS:=fun D σ H=>tv σ H fun y H1=>ta σ H1 fun x H2=>∃a C dx fs,x=.ref a∧H2 a=some (.ins C dx fs)∧tW K C∧cJ K C f∧fs.length < 1000∧
 D.nx σ (upd H2 a (.ins C dx (fk f y fs)))
section
variable{X:Cx}{o e value:Expr}{f:Str}{pos pos' tpos:Pos}{ta tv:TE}
theorem cz (he:PE X e ta) (hb:attributeBase e f X.env (eval e X.env)=eval e X.env):PE X (.Attribute e f pos) (BA X.K ta f):=by
 intro Sb s σ H Q I h
 refine yX hb (cx (he Sb s σ H _ I h) fun u s1 zq=>?_)
 obtain⟨x,H1,I1,rx,a,C,dx,fs,v,ex,ea,c,n,l,q⟩:=zq
 subst ex
 obtain rfl:u=Value.ref a:=rx
 exact rT I1 ea c n l fun u' s2 I2 ru=>⟨v,H1,I2,ru,q⟩
theorem gk (ha:PE X o ta) (hv:PE X value tv) (hs:swapsWith value (some (.Attribute o f pos')) pos.line X.env=pure false):PS X (.Assign [.Attribute o f pos'] value pos) (BM X.K ta tv f):=by
 intro Sb s σ H D I h
 refine plainObj_wpAny_Assign_Attribute (cx (hv Sb s σ H _ I h) fun u s1 ⟨y,H1,I1,ry,q⟩=>cx (ha Sb s1 σ H1 _ I1 q) fun ov s2 zq=>?_) hs
 obtain⟨x,H2,I2,rx,a,C,dx,fs,ex,ea,c,n,l,q2⟩:=zq
 subst ex
 obtain rfl:ov=Value.ref a:=rx
 exact q9 I2 ea c n l ry fun s3 I3=>⟨σ,_,I3,q2⟩
theorem methcall_of{pl:Sem Bool}{m:Str}{apos:Pos}{args:List Expr}{Sb:List (Addr×Obj)}{s:Shared}{σ:St}{H:Hp}{Q:Value→Shared→Prop}{te:TE}(he:PE X e te) (I:Inv X Sb σ H s)
  (h:te σ H fun x H1=>∃a C dx fs g,x=.ref a∧H1 a=some (.ins C dx fs)∧tW X.K C∧Meth X.K C m g∧fs.lookup m=none∧
   ∀s1,Inv X Sb σ H1 s1→wpAny (model X.prog X.w) X.A (callWith pos (.ref g) [.ref a] (backTo pos (starEach args X.env)) (backToKw pos (keywordEach [] X.env))) Q X.xe s1)
  (ht:eval (.Call (.Attribute e m apos) args [] pos) X.env=(do
   let ov ←eval e X.env
   standAt apos.atName
   let (f,first) ←holding [ov] (getMethod ov m pl)
   callWith pos f first (backTo pos (starEach args X.env)) (backToKw pos (keywordEach [] X.env)))):
  wpAny (model X.prog X.w) X.A (eval (.Call (.Attribute e m apos) args [] pos) X.env) Q X.xe s:=by
 refine PySem.W.methodCall_KW (pl:=pl) (cx (he Sb s σ H _ I h) fun u s1 zq=>?_) ht
 obtain⟨x,H1,I1,rx,a,C,dx,fs,g,ex,ea,c,k,l,q⟩:=zq
 subst ex
 obtain rfl:u=Value.ref a:=rx
 exact mJ I1 ea c k l (q s1 I1)
end
section
variable{X:Cx}{Sb:List (Addr×Obj)}{σ:St}{H:Hp}{s:Shared}{A:Around}{E:Value→Shared→Prop}{Q:Value→Shared→Prop}{c:Value}{b:Bool}
end
end L2
namespace L2
open PySem PySem.Spec PyProof.Rows
structure dE (k:Nat) (A:Around):Prop where
 hd:A.handled=none
 dp:A.depth+3*k+5 < recursionLimit
 un:A.units+16*k+200 < cLine
 gd:A.guards=some []
theorem dE.mono{j k:Nat}{A:Around}(r:dE k A) (h:j≤k):dE j A:=⟨r.hd,by have:=r.dp;omega,by have:=r.un;omega,r.gd⟩
theorem dE.deeper{k:Nat}{A:Around}(r:dE (k+1) A) (env:Env):dE k (A.deeper env):=
 ⟨r.hd,by have:=r.dp;show A.depth+1+3*k+5 < _;omega,by have:=r.un;show A.units+3+16*k+200 < _;omega,r.gd⟩
theorem rQ{A:Around}{C:Addr}{us:List Value}{kw:List (Str×Value)}:(A.under (.builtin "type.__call__" ⟨.ref C::us,kw⟩)).depth=A.depth+1:=by
 first | rfl | simp[Around.under,Code.weight,Code.isCreation,Code.isGuard,Code.isCaller,Code.frames,Code.isFrame,guardIds]
theorem rP{A:Around}{C:Addr}{us:List Value}{kw:List (Str×Value)}:(A.under (.builtin "type.__call__" ⟨.ref C::us,kw⟩)).units=A.units+1:=by
 first | rfl | simp[Around.under,Code.cUnits,Code.frames,Code.isFrame]
theorem dE.make{k:Nat}{A:Around}(r:dE (k+1) A) (C:Addr) (us:List Value) (kw:List (Str×Value)):dE k (A.under (.builtin "type.__call__" ⟨.ref C::us,kw⟩)):=
 ⟨r.hd,by have:=r.dp;rw[rQ];omega,by have:=r.un;rw[rP];omega,r.gd⟩
theorem dE.depth{k:Nat}{A:Around}(r:dE k A):A.depth < recursionLimit:=by have:=r.dp;omega
theorem dE.units{k:Nat}{A:Around}(r:dE k A):A.units+64 < cLine:=by have:=r.un;omega
def gJ:TA:=fun _ H Q=>Q [] H
def cL (ta:TE) (tr:TA):TA:=fun σ H Q=>ta σ H fun x H1=>tr σ H1 fun xs H2=>Q (x::xs) H2
section
variable{X:Cx}{e:Expr}{es:List Expr}{te:TE}{t:TA}{pos:Pos}
theorem ae:PA X [] gJ:=fun _ _ _ _ H Q I h=>Calls.spliced_nil ⟨[],H,I,.nil,h⟩
theorem aa (ha:PE X e te) (hr:PA X es t) (hs:starEach (e::es) X.env=(false,eval e X.env)::starEach es X.env:=by rfl):PA X (e::es) (cL te t):=by
 intro pos Sb s σ H Q I h
 rw[hs]
 show wpAny _ _ (spliced ((false,eval e X.env)::backTo pos (starEach es X.env))) _ _ s
 refine Calls.spliced_cons (cx (ha Sb s σ H _ I h) fun u s1 zq=>?_)
 obtain⟨x,H1,I1,r1,q1⟩:=zq
 exact cx (hr pos Sb s1 σ H1 _ I1 q1) fun us s2 ⟨xs,H2,I2,r2,q2⟩=>⟨x::xs,H2,I2,.cons r1 r2,q2⟩
def lN (t:TA):TE:=fun σ H Q=>t σ H fun xs H1=>xs.length≤sizeLine∧∀p,H1 p=none→Q (.ref p) (upd H1 p (.tup xs))
def xJ (t:TA):TE:=fun σ H Q=>t σ H fun xs H1=>xs.length≤sizeLine∧∀p,H1 p=none→Q (.ref p) (upd H1 p (.lst xs))
theorem aw {x1}(h:PA X es t):PE X (.Tuple es x1 pos) (lN t):=by
 intro Sb s σ H Q I hq
 refine wpAny_Tuple_spliced (cx (h pos Sb s σ H _ I hq) fun us s1 ⟨xs,H1,I1,r,z,q⟩=>⟨by rw[←r.length];exact z,?_⟩)
 have hf:H1 s1.heap.objs.size=none:=I1.bH.fresh (CN _)
 refine⟨.ref s1.heap.objs.size,upd H1 s1.heap.objs.size (.tup xs),I1.laid (t':=s1.toks) (fun b u e=>CL _ e) (CN _) ?_,rfl,q _ hf⟩
 exact⟨z,us,r,⟨_,Heap.get?_push_size _ rfl,rfl,_,rfl⟩⟩
theorem aI (h:PA X es t):PE X (.List es pos) (xJ t):=by
 intro Sb s σ H Q I hq
 refine wpAny_List_spliced (cx (h pos Sb s σ H _ I hq) fun us s1 ⟨xs,H1,I1,r,z,q⟩=>⟨by rw[←r.length];exact z,?_⟩)
 have hf:H1 s1.heap.objs.size=none:=I1.bH.fresh (CN _)
 refine⟨.ref s1.heap.objs.size,upd H1 s1.heap.objs.size (.lst xs),I1.laid (t':=s1.toks) (fun b u e=>CL _ e) (CN _) ?_,rfl,q _ hf⟩
 exact⟨z,us,0,r,Heap.get?_push_size _ rfl⟩
end
abbrev Sp:=List V→Hp→VK→XK→Prop
abbrev qO:=List Env→Hp→Shared→XK→Value→Shared→Prop
structure so (P:Program) (w:World) (K:Fg06) (mg:Str→Option Value) (base:Heap) (A:Around) (outer:List Env) (s:Shared) (H:Hp):Prop where
 frames:A.frames=some outer
 mod:Mod K mg base
 bs:∀b o,base.get? b=some o→s.heap.get? b=some o∧H b=none
 sj:base.objs.size≤s.heap.objs.size
 jA:s.heap.FunFrames base outer
 xv:∀b∈nY outer,H b=none
 bH:ji P w H s.heap
 bare:AllBare s.gens
def CE (outer:List Env) (P:Program) (w:World) (H:Hp) (s:Shared) (Q:VK) (u:Value) (s':Shared):Prop:=
 ∃v H',s'.os=s.os∧AllBare s'.gens∧Un (nY outer) [] H H' s.heap s'.heap∧ji P w H' s'.heap∧RelV v u∧Q v H'
def CR (CX:qO) (outer:List Env) (P:Program) (w:World) (H:Hp) (s:Shared) (Q:VK) (E:XK) (r:Result) (s':Shared):Prop:=
 match r with
 | .ok (.ret u)=>CE outer P w H s Q u s'
 | .ok _=>False
 | .error e=>CX outer H s E e s'
structure bO (P:Program) (w:World) (K:Fg06) (mg:Str→Option Value) (base:Heap) (CX:qO) (k:Nat) (f:Addr) (fd:FuncData) (ps:List Str) (sp:Sp):Prop where
 len:∀vs H Q E,sp vs H Q E→vs.length=ps.length
 run:∀(A:Around) (outer:List Env) (s:Shared) (H:Hp) (args:Args) (us:List Value) (vs:List V) (Q:VK) (E:XK),dE k A→so P w K mg base A outer s H→BindsTo s fd args (ps.zip us)→Vals vs us→sp vs H Q E→
  codeAny (model P w) A (.call (.ref f) args) (CR CX outer P w H s Q E) s
theorem bO.mono{P:Program}{w:World}{K:Fg06}{mg:Str→Option Value}{base:Heap}{CX:qO}{j k:Nat}{f:Addr}{fd:FuncData}{ps:List Str}{sp:Sp}(F:bO P w K mg base CX j f fd ps sp) (h:j≤k):
  bO P w K mg base CX k f fd ps sp:=⟨F.len,fun A outer s H args us vs Q E hr=>F.run A outer s H args us vs Q E (hr.mono h)⟩
theorem so.make{P:Program}{w:World}{K:Fg06}{mg:Str→Option Value}{base:Heap}{A:Around}{outer:List Env}{s:Shared}{H:Hp}(e:so P w K mg base A outer s H) (C:Addr) (us:List Value) (kw:List (Str×Value)):
  so P w K mg base (A.under (.builtin "type.__call__" ⟨.ref C::us,kw⟩)) outer s H:=⟨by first | exact e.frames | (simpa[Around.under,Code.envs,Code.isFrame,pushEnvs] using e.frames),e.mod,e.bs,e.sj,e.jA,e.xv,e.bH,e.bare⟩
section
variable{X:Cx}{Sb:List (Addr×Obj)}{σ:St}{H:Hp}{s s':Shared}
theorem Inv.AM (I:Inv X Sb σ H s):so X.prog X.w X.K X.mg X.base X.A X.stack s H:=
 ⟨I.ok.frames,I.ok.mod,I.bs,CZ I.ok.sj I.sz,I.stack,I.jL,I.bH,I.bare⟩
theorem Inv.after{Q:VK}{u:Value}(I:Inv X Sb σ H s) (h:CE X.stack X.prog X.w H s Q u s'):EP X Sb σ Q u s':=by
 obtain⟨v,H',os,bare,un,bH,r,q⟩:=h
 obtain⟨hh,g,d,t,os'⟩:=s'
 obtain rfl:os'=s.os:=os
 exact⟨v,H',I.call (h':=hh) (g':=g) (d':=d) (t':=t) (ch:=[]) un bH bare (fun b z=>absurd z (by simp)),r,q⟩
end
def lP (sp:Sp) (dvs:List V) (E:XK) (t:TA):TE:=fun σ H Q=>t σ H fun vs H1=>sp (vs++dvs) H1 Q E
def y8 (C:Addr) (m:Str) (sp:Sp) (dvs:List V) (E:XK) (ta:TE) (t:TA):TE:=fun σ H Q=>ta σ H fun x H1=>∃a dx fs,x=.ref a∧H1 a=some (.ins C dx fs)∧fs.lookup m=none∧
 t σ H1 fun vs H2=>sp (x::(vs++dvs)) H2 Q E
def y9 (C:Addr) (sp:Sp) (dvs:List V) (E:XK) (t:TA):TE:=fun σ H Q=>t σ H fun vs H1=>∀x dx,H1 x=none→H1 dx=none→dx≠x→
 sp (.ref x::(vs++dvs)) (upd (upd H1 dx (.own x)) x (.ins C dx [])) (fun v H2=>v=.aR∧Q (.ref x) H2) E
def Binds (K:Fg06) (fd:FuncData) (ps:List Str) (ds:List Value):Prop:=
 ∀(s:Shared) (us:List Value),K.In s.heap→(us++ds).length=ps.length→BindsTo s fd ⟨us,[]⟩ (ps.zip (us++ds))
theorem Binds.all{K:Fg06}{fd:FuncData}{ps:List Str}(h:∀us:List Value,us.length=ps.length→bindArgs fd ⟨us,[]⟩=pure (ps.zip us)):Binds K fd ps []:=fun s us _ hl=>by
 rw[List.append_nil] at hl ⊢
 exact .of_eq (h us hl)
def Passes (CX:qO) (X:Cx) (E:XK):Prop:=∀(Sb:List (Addr×Obj)) (σ:St) (H:Hp) (s:Shared) (e:Value) (s':Shared),Inv X Sb σ H s→CX X.stack H s E e s'→X.xe e s'
section
variable{X:Cx}{CX:qO}{k:Nat}{f C:Addr}{fd:FuncData}{ps:List Str}{sp:Sp}{dvs:List V}{ds:List Value}{E:XK}{x m:Str}{p pos apos:Pos}{e o:Expr}{es:List Expr}{ta:TE}{t:TA}
theorem vK{Sb:List (Addr×Obj)}{σ:St}{H:Hp}{s:Shared}{Q:VK}{us:List Value}{vs:List V}(F:bO X.prog X.w X.K X.mg X.base CX k f fd ps sp) (hr:dE k X.A) (hb:Binds X.K fd ps ds) (hd:Vals dvs ds) (hx:Passes CX X E)
  (I:Inv X Sb σ H s) (r:Vals vs us) (h:sp (vs++dvs) H Q E):wpAny (model X.prog X.w) X.A (call (.ref f) us) (EP X Sb σ Q) X.xe s:=by
 have r2:Vals (vs++dvs) (us++ds):=r.append hd
 have hl:(us++ds).length=ps.length:=by rw[←r2.length];exact F.len _ _ _ _ h
 refine wpAny_call (codeAny_mono (F.run X.A X.stack s H ⟨us,[]⟩ (us++ds) (vs++dvs) Q E hr I.AM (hb s us I.kQ hl) r2 h) fun r s' hq=>?_)
 cases r with
 | error e=>exact hx Sb σ H s e s' I hq
 | ok fl=>
  cases fl with
  | ret u=>exact I.after hq
  | next=>exact False.elim hq
  | brk=>exact False.elim hq
  | cont=>exact False.elim hq
theorem tu (F:bO X.prog X.w X.K X.mg X.base CX k f fd ps sp) (hr:dE k X.A) (hg:Gl X x) (hm:X.mg x=some (.ref f)) (hk:PySem.W.keepIn X.K (.ref f)=true) (hb:Binds X.K fd ps ds) (hd:Vals dvs ds) (hx:Passes CX X E)
  (ha:PA X (e::es) t) (E9:(x == ("__debug__":Str))=false:=by decide) (he:starEach (e::es) X.env=(false,eval e X.env)::starEach es X.env:=by rfl) (Ez:(backTo pos (starEach es X.env)).any (·.1)=false:=by rfl):
  PE X (.Call (.Name x p) (e::es) [] pos) (lP sp dvs E t):=by
 intro Sb s σ H Q I h
 refine wpAny_Call_Name_kw (j0 I hg hm ?_ E9)
 refine PySem.W.callWith_K (h₀:=X.base) I.ok.mod.Bb hk (cx (ha pos Sb s σ H _ I h) fun us s1 ⟨vs,H1,I1,r,q⟩=>⟨I1.kQ,?_⟩) he Ez
 exact vK F hr hb hd hx I1 r q
theorem yq{pl:Sem Bool}(he:PE X o ta) (c:tW X.K C) (hm:Meth X.K C m f) (F:bO X.prog X.w X.K X.mg X.base CX k f fd ps sp) (hr:dE k X.A) (hb:Binds X.K fd ps ds) (hd:Vals dvs ds) (hx:Passes CX X E) (ha:PA X (e::es) t)
  (EE:starEach (e::es) X.env=(false,eval e X.env)::starEach es X.env:=by rfl) (Ez:(backTo pos (starEach es X.env)).any (·.1)=false:=by rfl)
  (ht:eval (.Call (.Attribute o m apos) (e::es) [] pos) X.env=(do
   let ov ←eval o X.env
   standAt apos.atName
   let (f,first) ←holding [ov] (getMethod ov m pl)
   callWith pos f first (backTo pos (starEach (e::es) X.env)) (backToKw pos (keywordEach [] X.env))):=by rfl):
  PE X (.Call (.Attribute o m apos) (e::es) [] pos) (y8 C m sp dvs E ta t):=by
 intro Sb s σ H Q I h
 refine PySem.W.methodCall_KW (pl:=pl) (cx (he Sb s σ H _ I h) fun u s1 zq=>?_) ht
 obtain⟨x,H1,I1,rx,a,dx,fs,ex,ea,l,q⟩:=zq
 subst ex
 obtain rfl:u=Value.ref a:=rx
 refine mJ I1 ea c hm l ?_
 refine PySem.W.callWith_K (first:=[.ref a]) (h₀:=X.base) I.ok.mod.Bb hm.kp (cx (ha pos Sb s1 σ H1 _ I1 q) fun us s2 ⟨vs,H2,I2,r,q2⟩=>⟨I2.kQ,?_⟩) EE Ez
 exact vK (us:=.ref a::us) (vs:=.ref a::vs) F hr hb hd hx I2 (.cons rfl r) q2
structure Mk (K:Fg06) (C f:Addr):Prop where
 makes:PySem.W.makesIn K C=true
 init:PySem.W.findIn K (.ref C) "__init__"=some (some (.ref f))
 fn:PySem.W.isFn K (.ref f)=true
 kp:PySem.W.keepIn K (.ref C)=true
theorem vJ{Sb:List (Addr×Obj)}{σ:St}{H:Hp}{s:Shared}{Q:VK}{us:List Value}{vs:List V}(M:Mk X.K C f) (F:bO X.prog X.w X.K X.mg X.base CX k f fd ps sp) (hr:dE (k+1) X.A) (hb:Binds X.K fd ps ds) (hd:Vals dvs ds)
  (hx:Passes CX X E) (I:Inv X Sb σ H s) (r:Vals vs us)
  (h:∀x dx,H x=none→H dx=none→dx≠x→sp (.ref x::(vs++dvs)) (upd (upd H dx (.own x)) x (.ins C dx [])) (fun v H2=>v=.aR∧Q (.ref x) H2) E):
  wpAny (model X.prog X.w) X.A (call (.ref C) us) (EP X Sb σ Q) X.xe s:=by
 have hq:=h (s.heap.objs.size+1) s.heap.objs.size (I.bH.fresh (Nat.le_succ _)) (I.bH.fresh (CN _)) (Dc (Dd _))
 have I2:=Inv.made (C:=C) I
 have r2:Vals (V.ref (s.heap.objs.size+1)::(vs++dvs)) (Value.ref (s.heap.objs.size+1)::(us++ds)):=.cons rfl (r.append hd)
 have hl:(Value.ref (s.heap.objs.size+1)::us++ds).length=ps.length:=by
  have e:=r2.length
  rw[F.len _ _ _ _ hq] at e
  exact e.symm
 refine wpAny_call (wG (f:=f) I.kQ M.makes M.init (beq_iff_eq.mp M.fn) (codeAny_mono (F.run _ X.stack _ _ ⟨Value.ref (s.heap.objs.size+1)::us,[]⟩ (Value.ref (s.heap.objs.size+1)::(us++ds)) _ _ E (hr.make C us [])
  (I2.AM.make C us []) (hb _ (Value.ref (s.heap.objs.size+1)::us) I2.kQ hl) r2 hq) fun r s' HM=>?_))
 cases r with
 | error e=>exact hx Sb σ _ _ e s' I2 HM
 | ok fl=>
  cases fl with
  | ret u=>
   obtain⟨v,H',I3,rv,ev,q3⟩:=I2.after HM
   subst ev
   exact⟨rv,⟨V.ref (s.heap.objs.size+1),H',I3,rfl,q3⟩⟩
  | next=>exact False.elim HM
  | brk=>exact False.elim HM
  | cont=>exact False.elim HM
theorem yr (M:Mk X.K C f) (F:bO X.prog X.w X.K X.mg X.base CX k f fd ps sp) (hr:dE (k+1) X.A) (hg:Gl X x) (hm:X.mg x=some (.ref C)) (hb:Binds X.K fd ps ds) (hd:Vals dvs ds) (hx:Passes CX X E)
  (ha:PA X (e::es) t) (E9:(x == ("__debug__":Str))=false:=by decide) (he:starEach (e::es) X.env=(false,eval e X.env)::starEach es X.env:=by rfl) (Ez:(backTo pos (starEach es X.env)).any (·.1)=false:=by rfl):
  PE X (.Call (.Name x p) (e::es) [] pos) (y9 C sp dvs E t):=by
 intro Sb s σ H Q I h
 refine wpAny_Call_Name_kw (j0 I hg hm ?_ E9)
 refine PySem.W.callWith_K (h₀:=X.base) I.ok.mod.Bb M.kp (cx (ha pos Sb s σ H _ I h) fun us s1 ⟨vs,H1,I1,r,q⟩=>⟨I1.kQ,?_⟩) he Ez
 exact vJ M F hr hb hd hx I1 r q
end
def PK (X:Cx) (kws:List Keyword) (t:TA):Prop:=
 ∀(pos:Pos) (Sb:List (Addr×Obj)) (s:Shared) (σ:St) (H:Hp) (Q:List V→Hp→Prop),Inv X Sb σ H s→t σ H Q→wpAny (model X.prog X.w) X.A (evalAll ((backToKw pos (keywordEach kws X.env)).map (·.2))) (AP X Sb σ Q) X.xe s
section
variable{X:Cx}{CX:qO}{k:Nat}{f C:Addr}{fd:FuncData}{ps ks:List Str}{sp:Sp}{E:XK}{x m:Str}{p pos apos kpos:Pos}{e o:Expr}{es:List Expr}{kws:List Keyword}{te ta:TE}{t tk:TA}{nm:Option Str}
theorem Ae:PK X [] gJ:=fun _ _ _ _ H Q I h=>wpAny_evalAll_nil ⟨[],H,I,.nil,h⟩
theorem yj (ha:PE X e te) (hr:PK X kws t):PK X (⟨nm,e,kpos⟩::kws) (cL te t):=by
 intro pos Sb s σ H Q I h
 show wpAny _ _ (evalAll ((do let v ←eval e X.env;standAt pos;pure v)::(backToKw pos (keywordEach kws X.env)).map (·.2))) _ _ s
 refine wpAny_evalAll_cons (CG (cx (ha Sb s σ H _ I h) fun u s1 zq=>CG (wpAny_standAt (CH ?_))))
 obtain⟨x,H1,I1,r1,q1⟩:=zq
 exact cx (hr pos Sb s1 σ H1 _ I1 q1) fun us s2 ⟨xs,H2,I2,r2,q2⟩=>⟨x::xs,H2,I2,.cons r1 r2,q2⟩
variable{g:List Value→List Value→List Value}{gV:List V→List V→List V}
end
structure aW (N P:List Str) (sc:Scope):Prop where
 kind:sc.kind=.function
 co:sc.isCoroutine=false
 gen:sc.isGenerator=false
 nd:N.Nodup
 pre:N.take P.length=P
 par:∀x∈P,sc.names.lookup x=some .local∨sc.names.lookup x=some .cell
 Ay:∀y∈sc.names,y.2≠.free
theorem fsX{N P:List Str}{c:Scope}(a:c.kind=.function) (b:c.isCoroutine=false) (d:c.isGenerator=false) (e:N.take P.length=P) (f:N.Nodup∧(∀x∈P,c.names.lookup x=some .local∨c.names.lookup x=some .cell)∧∀y∈c.names,y.2≠.free):aW N P c:=⟨a,b,d,f.1,e,f.2.1,f.2.2⟩
theorem om{kindOf:Str→Option NameKind}{x:Str}:∀{binds:List (Str×Value)}{m:Str→Option Value},(∀v,(x,v)∉binds)→bindL kindOf binds m x=m x
 | [],_,_=>rfl
 | (n,v)::r,m,h=>by
  unfold bindL
  rw[om fun w hw=>h w (C0 _ hw)]
  split
  ·have:x≠n:=by rintro rfl;exact h v C1
   simp[this]
  ·rfl
theorem oq{kindOf:Str→Option NameKind}{x:Str}:∀{binds:List (Str×Value)}{m:Str→Option Value},(∀v,(x,v)∉binds)→bindC kindOf binds m x=m x
 | [],_,_=>rfl
 | (n,v)::r,m,h=>by
  unfold bindC
  rw[oq fun w hw=>h w (C0 _ hw)]
  split
  ·rfl
  ·have:x≠n:=by rintro rfl;exact h v C1
   simp[this]
theorem oo{kindOf:Str→Option NameKind}{x:Str}{v:Value}:∀{P:List Str}{vs:List Value}{i:Nat}{m:Str→Option Value},P.Nodup→P[i]?=some x→vs[i]?=some v→kindOf x=some .local→
  bindL kindOf (P.zip vs) m x=some v
 | [],_,_,_,_,h,_,_=>by simp at h
 | _::_,[],_,_,_,_,h,_=>by simp at h
 | p::P,w::vs,0,m,nd,h1,h2,hk=>by
  simp at h1 h2;subst h1;subst h2
  show bindL kindOf ((p,w)::P.zip vs) m p=_
  unfold bindL
  rw[om fun v hv=>(List.nodup_cons.mp nd).1 (List.of_mem_zip hv).1,CQ hk]
  simp
 | p::P,w::vs,i+1,m,nd,h1,h2,hk=>by
  show bindL kindOf ((p,w)::P.zip vs) m x=_
  unfold bindL
  exact oo (i:=i) (List.nodup_cons.mp nd).2 (by simpa using h1) (by simpa using h2) hk
theorem ou{kindOf:Str→Option NameKind}{x:Str}{v:Value}:∀{P:List Str}{vs:List Value}{i:Nat}{m:Str→Option Value},P.Nodup→P[i]?=some x→vs[i]?=some v→kindOf x≠some .local→
  bindC kindOf (P.zip vs) m x=some v
 | [],_,_,_,_,h,_,_=>by simp at h
 | _::_,[],_,_,_,_,h,_=>by simp at h
 | p::P,w::vs,0,m,nd,h1,h2,hk=>by
  simp at h1 h2;subst h1;subst h2
  show bindC kindOf ((p,w)::P.zip vs) m p=_
  unfold bindC
  rw[oq fun v hv=>(List.nodup_cons.mp nd).1 (List.of_mem_zip hv).1,CO hk]
  simp
 | p::P,w::vs,i+1,m,nd,h1,h2,hk=>by
  show bindC kindOf ((p,w)::P.zip vs) m x=_
  unfold bindC
  exact ou (i:=i) (List.nodup_cons.mp nd).2 (by simpa using h1) (by simpa using h2) hk
def start (N:List Str) (vs:List V):St:=vs.map some++List.replicate (N.length - vs.length) none
def k8 (CX:qO) (P:Program) (w:World) (K:Fg06) (mg:Str→Option Value) (base:Heap) (N:List Str) (qual:Str) (scope:Scope) (f:Addr) (cd:Value) (A:Around) (outer:List Env) (s:Shared) (H:Hp) (E:XK):Cx where
 prog:=P
 w:=w
 K:=K
 mg:=mg
 base:=base
 A:=A.deeper (envOfC qual scope s.heap.objs.size f cd)
 N:=N
 s₀:=s
 H₀:=H
 env:=envOfC qual scope s.heap.objs.size f cd
 outer:=outer
 stack:=envOfC qual scope s.heap.objs.size f cd::outer
 ex:=[]
 calm:=true
 fn:=fun _=>true
 pn:=[]
 xe:=fun e s'=>wpAny (model P w) (A.deeper (envOfC qual scope s.heap.objs.size f cd)) (leaving (envOfC qual scope s.heap.objs.size f cd) e) (fun _ s''=>CX outer H s E e s'') (fun e' s''=>CX outer H s E e' s'') s'
theorem qD{sc:Scope}{n:Nat}{x:Str}(h:sc.names.lookup x=some .cell):∃c,(cellsFrom n sc.names []).lookup x=some c:=by
 have q:=PySem.W.cellsFrom_some sc.names n [] (.inl h)
 exact Option.isSome_iff_exists.mp q
theorem uE{CX:qO}{P:Program}{w:World}{K:Fg06}{mg:Str→Option Value}{base:Heap}{N ps:List Str}{qual:Str}{scope:Scope}{f:Addr}{cd:Value}{A:Around}{outer:List Env}{s s1:Shared}{H:Hp}{E:XK}{us:List Value}{vs:List V}
  (S:aW N ps scope) (hd:A.handled=none) (e0:so P w K mg base A outer s H) (hl:vs.length=ps.length) (r:Vals vs us)
  (x:InCallC s s.heap.objs.size (bindL (envOfC qual scope s.heap.objs.size f cd).kindOf (ps.zip us) fun _=>none) (cellsFrom (s.heap.objs.size+1) scope.names []) (bindC (envOfC qual scope s.heap.objs.size f cd).kindOf (ps.zip us) fun _=>none) s1):
  Inv (k8 CX P w K mg base N qual scope f cd A outer s H E) [] (start N vs) H s1:=by
 have Ez:ps.length≤N.length:=by have:=congrArg List.length S.pre;rw[De] at this;omega
 obtain⟨h1,tk,rfl,hk⟩:=x.done
 have noA:∀b:Addr,b∉(k8 CX P w K mg base N qual scope f cd A outer s H E).ex:=fun b z=>absurd (show b∈([]:List Addr) from z) (by simp)
 refine⟨⟨e0.mod,S.kind,rfl,rfl,CN _,fun y z c h1 h2=>?_,fun y hy=>?_,fun y c _ h=>?_,fun _=>hd,Around.frames_deeper e0.frames,.inr ⟨rfl,rfl⟩,fun b z=>absurd z (noA b),e0.bs,e0.sj,fun b _ _=>noA b,fun b z=>absurd z (noA b),e0.jA,e0.xv⟩,
  rfl,e0.bare,Un.kept hk,⟨_,x.toInCall.ns,fun i y v h1 h2 h3=>?_⟩,fun y c h=>⟨_,x.cell y c h⟩,e0.bH.fresh (CN _),fun y c h=>?_,fun p hp=>absurd (show p∈([]:List (Addr×Obj)) from hp) (by simp),e0.bH.kept hk,?_⟩
 ·exact name_of_addr x.apart (CV h1) (CV h2)
 ·have hy:scope.names.lookup y=some .cell∨scope.names.lookup y=some .free:=hy
  rcases hy with hy | hy
  ·exact qD hy
  ·exact absurd rfl (S.Ay _ (CV hy))
 ·exact Nat.le_of_lt (x.above y c (CV h))
 ·have hi:i < vs.length:=by
   unfold start at h2
   by_cases hi:i < vs.length
   ·exact hi
   ·rw[List.getElem?_append_right (by simpa using hi)] at h2
    rw[List.getElem?_replicate] at h2
    split at h2<;>cases h2
  have ha:vs[i]?=some v:=by
   unfold start at h2
   rw[List.getElem?_append_left (by simpa using hi),List.getElem?_map] at h2
   cases e:vs[i]? with
   | none=>rw[e] at h2;cases h2
   | some a=>rw[e] at h2;cases h2;rfl
  obtain⟨u,hu,rv⟩:=r.get ha
  have hp:ps[i]?=some y:=by
   rw[←S.pre,List.getElem?_take_of_lt (by omega)];exact h1
  have ndP:ps.Nodup:=by rw[←S.pre];exact S.nd.sublist (List.take_sublist _ _)
  refine⟨u,rv,?_⟩
  rcases S.par y (C6 hp) with k | k
  ·exact .inl ⟨k,oo ndP hp hu k⟩
  ·obtain⟨c,e⟩:=qD (n:=s.heap.objs.size+1) k
   refine .inr ⟨.inl k,c,e,?_⟩
   have q:=x.cell y c e
   rw[ou ndP hp hu (by show scope.names.lookup y≠_;rw[k];decide)] at q
   exact q
 ·exact e0.bH.fresh (Nat.le_of_lt (x.above y c (CV h)))
 ·unfold start
  show _=N.length
  rw[CK,CS,List.length_replicate]
  omega
theorem zr{CX:qO}{P:Program}{w:World}{K:Fg06}{mg:Str→Option Value}{base:Heap}{k:Nat}{f:Addr}{name qual:Str}{params:Arguments}{body:List Stmt}{scope:Scope}{dV kV doc pm Si ct oc:Value}{an od:Option Addr}
  {osl:Array (Option Value)}{N ps:List Str}{sp:Sp}(lk:K.lookup f=some ⟨oc,od,.func (PySem.W.fnOf name qual params body scope dV kV doc pm an Si ct),osl⟩) (Ft:PySem.W.codeIn K Si qual=true) (S:aW N ps scope)
  (len:∀vs H Q E,sp vs H Q E→vs.length=ps.length)
  (Fo:∀(A:Around) (outer:List Env) (s:Shared) (H:Hp) (vs:List V) (Q:VK) (E:XK),dE k (A.deeper (envOfC qual scope s.heap.objs.size f Si))→sp vs H Q E→
   ∃t,pI (k8 CX P w K mg base N qual scope f Si A outer s H E) body t∧t { nx:=fun _ H'=>Q .aR H',rt:=Q } (start N vs) H):
  bO P w K mg base CX (k+1) f (PySem.W.fnOf name qual params body scope dV kV doc pm an Si ct) ps sp:=by
 refine⟨len,fun A outer s H args us vs Q E hr e0 hb r Iz=>?_⟩
 have hl:=len _ _ _ _ Iz
 have KX:K.In s.heap:=e0.mod.Bb.keeps fun b o e=>(e0.bs b o e).1
 have lim:s.heap.NoLimit:=e0.mod.nolimit.keeps fun b o e=>(e0.bs b o e).1
 have hkind:∀y∈ps.zip us,scope.names.lookup y.1=some .local∨(scope.names.lookup y.1=some .cell∧((cellsFrom (s.heap.objs.size+1) scope.names []).lookup y.1).isSome=true):=fun⟨n,v⟩ hy=>by
  rcases S.par n (List.of_mem_zip hy).1 with q | q
  ·exact .inl q
  ·exact .inr ⟨q,PySem.W.cellsFrom_some _ _ _ (.inl q)⟩
 refine codeAny_call_function hr.depth (KX _ _ lk) rfl S.co S.gen rfl (PySem.W.codeRec_of KX Ft) (hb _ _ _ _ ?_)
 refine wpAny_newFunctionEnv_cells S.kind hkind fun env he s1 x=>?_
 subst he
 refine⟨lim.keeps x.toInCall.keep,codeAny_func ?_⟩
 obtain⟨t,ht,hq⟩:=Fo A outer s H vs Q E (hr.deeper _) Iz
 have I:Inv (k8 CX P w K mg base N qual scope f Si A outer s H E) [] (start N vs) H s1:=uE S hr.hd e0 hl r x
 refine wpAny_mono (ht [] s1 (start N vs) H _ I hq) (fun fl s' hs=>?_) fun e s' hs=>hs
 have fin:∀{σ':St}{H':Hp}{v:V}{u:Value},Inv (k8 CX P w K mg base N qual scope f Si A outer s H E) [] σ' H' s'→RelV v u→Q v H'→CE outer P w H s Q u s':=
  fun {σ' H' v u} J rv q=>⟨v,H',J.os,J.bare,J.base,J.bH,rv,q⟩
 cases fl with
 | ret u=>
  obtain⟨v,σ',H',J,rv,q⟩:=hs
  exact fin J rv q
 | next=>
  obtain⟨σ',H',J,q⟩:=hs
  exact fin (v:=V.aR) (u:=Value.none) J rfl q
 | brk=>
  obtain⟨_,_,_,q⟩:=hs
  exact False.elim q
 | cont=>
  obtain⟨_,_,_,q⟩:=hs
  exact False.elim q
end L2
namespace L2
open PySem PySem.Spec PyProof.Rows
section
variable{X:Cx}{x:Str}{p pos:Pos}{e:Expr}{es:List Expr}{t:TA}{id T:String}{r:List V→Hp→VK→Prop}
def tCB (r:List V→Hp→VK→Prop) (t:TA):TE:=fun σ H Q=>t σ H fun vs H1=>r vs H1 Q
theorem bG (hc:i9 X (.builtin id) r) (hg:Gl X x) (hm:X.mg x=none) (hv:bootBuiltins x=some (.builtin id)) (ha:PA X (e::es) t) (hn:x≠"__name__":=by decide) (E9:(x == ("__debug__":Str))=false:=by decide)
  (he:starEach (e::es) X.env=(false,eval e X.env)::starEach es X.env:=by rfl) (Ez:(backTo pos (starEach es X.env)).any (·.1)=false:=by rfl):PE X (.Call (.Name x p) (e::es) [] pos) (tCB r t):=by
 intro Sb s σ H Q I h
 refine wpAny_Call_Name_kw (gm I hg hm hv ?_ hn E9)
 exact PyProof.Rows.callWith_builtin1 (cx (ha pos Sb s σ H _ I h) fun us s1 ⟨vs,H1,I1,r1,q1⟩=>hc Sb s1 σ H1 vs us Q I1 r1 q1) he Ez
theorem aV (hc:i9 X (.type T) r) (hg:Gl X x) (hm:X.mg x=none) (hv:bootBuiltins x=some (.type T)) (ha:PA X (e::es) t) (hn:x≠"__name__":=by decide) (E9:(x == ("__debug__":Str))=false:=by decide)
  (he:starEach (e::es) X.env=(false,eval e X.env)::starEach es X.env:=by rfl) (Ez:(backTo pos (starEach es X.env)).any (·.1)=false:=by rfl):PE X (.Call (.Name x p) (e::es) [] pos) (tCB r t):=by
 intro Sb s σ H Q I h
 refine wpAny_Call_Name_kw (gm I hg hm hv ?_ hn E9)
 exact PyProof.Rows.callWith_type1 (cx (ha pos Sb s σ H _ I h) fun us s1 ⟨vs,H1,I1,r1,q1⟩=>hc Sb s1 σ H1 vs us Q I1 r1 q1) he Ez
end
end L2
namespace HT
open PySem PyProof.Rows
section
open PySem.SeqAt
open PySem.AutoSeq1 (wpAny_loadPart')
open PySem.MeetsSeq PySem.MeetsSeq2 PySem.MeetsSeq3
end
section
variable{prog:Program}{w:World}{A:Around}{E:Value→Shared→Prop}{s:Shared}
theorem tQ{t b:Addr}{vs ws:List Value}{Q:Value→Shared→Prop}(ht:IsTup s.heap t vs.toArray) (hb:IsTup s.heap b ws.toArray) (hv:vs≠[])
  (h1:ws=[]→Q (.ref t) s) (h2:ws≠[]→Q (.ref s.heap.objs.size) { s with heap:=s.heap.push { cls:=.type "tuple",data:=.seq (vs++ws).toArray } })
  (hsz:vs.length+ws.length≤sizeLine):wpAny (model prog w) A (binaryOp .Add (.ref t) (.ref b)) Q E s:=by
 obtain⟨⟨cls,dd,data,sl⟩,ho,hc,n,hd⟩:=id ht
 obtain⟨⟨cls2,LL,data2,NI⟩,KG,MT,n2,hd2⟩:=id hb
 simp only at hc hd MT hd2
 subst hc hd MT hd2
 have e:vs.toArray++ws.toArray=(vs++ws).toArray:=by simp
 by_cases hw:ws=[]
 ·exact concat_meets ⟨_,ho,rfl⟩ ⟨_,KG,rfl⟩ noFill_tuple_add seq_tuple_add PySem.F.slot_tuple_add PySem.F.entry_tuple_add (PySem.F.args_tuple_add_2 _ _)
   (tuple_addW1 t b vs.toArray ws.toArray n n2 dd LL sl NI (by simpa using hv) (by simp[hw])) ⟨ho,KG,h1 hw⟩
 ·refine concat_meets ⟨_,ho,rfl⟩ ⟨_,KG,rfl⟩ noFill_tuple_add seq_tuple_add PySem.F.slot_tuple_add PySem.F.entry_tuple_add (PySem.F.args_tuple_add_2 _ _)
   (tuple_addW2 t b vs.toArray ws.toArray n n2 dd LL sl NI (by simpa using hv) (by simpa using hw) (by rw[List.size_toArray,List.size_toArray];exact hsz)) ⟨ho,KG,?_⟩
  rw[e]
  exact h2 hw
def eY (n d:Nat):Option Int→Nat
 | none=>d
 | some v=>if v < 0 then(v+(n:Int)).toNat else min v.toNat n
theorem pY (n d:Nat):eY n d none=d:=rfl
theorem sV (n d k:Nat):eY n d (some (k:Int))=min k n:=by
 show(if(k:Int) < 0 then((k:Int)+(n:Int)).toNat else min (k:Int).toNat n)=min k n
 rw[CO (by omega),Int.toNat_natCast]
theorem zW (n d:Nat) (hd:d≤n) (o:Option Int):eY n d o≤n:=by
 cases o with
 | none=>exact hd
 | some v=>
  show(if v < 0 then(v+(n:Int)).toNat else min v.toNat n)≤n
  by_cases hv:v < 0
  ·rw[CQ hv];omega
  ·rw[CO hv];exact Nat.min_le_right _ _
theorem tP (v:Int) (n d:Nat):(if v < 0 then max (v+(n:Int)) 0 else min v (n:Int))=((eY n d (some v):Nat):Int):=by
 show(if v < 0 then max (v+(n:Int)) 0 else min v (n:Int))=(((if v < 0 then(v+(n:Int)).toNat else min v.toNat n):Nat):Int)
 by_cases hv:v < 0
 ·simp only[if_pos hv];omega
 ·simp only[if_neg hv];omega
theorem sk (lo hi:Option Int) (n:Nat):Builtin.Slice.sliceAdjust lo hi 1 (n:Int)=(((eY n 0 lo:Nat):Int),((eY n n hi:Nat):Int)):=by
 have h1:¬((1:Int) < 0):=by omega
 unfold Builtin.Slice.sliceAdjust
 simp only[h1,if_false]
 refine Prod.ext ?_ ?_
 ·cases lo with
  | none=>rfl
  | some v=>exact tP v n 0
 ·cases hi with
  | none=>rfl
  | some v=>exact tP v n n
theorem rC (i j:Nat):Builtin.Slice.slicePlaces (i:Int) (j:Int) 1=j - i:=by
 unfold Builtin.Slice.slicePlaces
 have h1:(1:Int) > 0:=by omega
 simp only[h1,if_true,Int.ediv_one]
 split<;>omega
theorem lU{v:Value}{o:Option Int}{Q:Option Int→Shared→Prop}(p:IsPart v o) (h:Q o s):wpAny (model prog w) A (Builtin.Slice.slicePartIndex v) Q E s:=by
 cases p with
 | none=>exact slicePart_none h
 | int i t=>exact slicePart_int h
theorem gN{sl:Addr}{vl vu:Value}{lo hi:Option Int}{n:Nat}{Q:Int×Int×Nat→Shared→Prop}(hs:s.heap.IsSliceOf sl vl vu .none) (pl:IsPart vl lo) (pu:IsPart vu hi)
  (h:Q (((eY n 0 lo:Nat):Int),1,eY n n hi - eY n 0 lo) s):wpAny (model prog w) A (Builtin.Slice.sliceApplied (.ref sl) (pure (n:Int))) Q E s:=by
 obtain⟨os,Hm,EM,JS⟩:=id hs
 unfold Builtin.Slice.sliceApplied Builtin.Slice.sliceFields
 refine CG (CG (wpAny_field Hm JS (x:=vl) rfl (CG (wpAny_field Hm JS (x:=vu) rfl (CG (wpAny_field Hm JS (x:=.none) rfl (CH ?_)))))))
 refine CG (slicePart_none ?_)
 show wpAny _ _ (if((1:Int) == 0)=true then _ else _) _ _ s
 rw[CO (by decide)]
 refine CG (lU pl (CG (lU pu (CG (CH ?_)))))
 show wpAny _ _ (match Builtin.Slice.sliceAdjust lo hi 1 (n:Int) with | (lo,hi)=>pure (lo,(1:Int),Builtin.Slice.slicePlaces lo hi 1)) _ _ s
 rw[sk lo hi n]
 show wpAny _ _ (pure (((eY n 0 lo:Nat):Int),(1:Int),Builtin.Slice.slicePlaces ((eY n 0 lo:Nat):Int) ((eY n n hi:Nat):Int) 1)) _ _ s
 rw[rC]
 exact CH h
theorem vW (xs:Array Value) (i k:Nat):((List.range k).filterMap fun(m:Nat)=>xs[((i:Int)+(m:Int)*1).toNat]?).toArray=((xs.toList.drop i).take k).toArray:=by
 have e:(fun(m:Nat)=>xs[((i:Int)+(m:Int)*1).toNat]?)=fun m=>xs[i+m]?:=by
  funext m
  have:((i:Int)+(m:Int)*1).toNat=i+m:=by omega
  rw[this]
 rw[e]
 have:=pick_run xs i k
 rw[List.filterMap_map] at this
 have e2:((fun x=>xs[x]?)∘fun x=>i+x)=fun m=>xs[i+m]?:=rfl
 rw[e2] at this
 rw[this]
theorem j5{t sl:Addr}{items:Array Value}{vl vu:Value}{lo hi:Option Int}{Q:Value→Shared→Prop}(ht:IsTup s.heap t items) (hs:s.heap.IsSliceOf sl vl vu .none) (pl:IsPart vl lo) (pu:IsPart vu hi)
  (hw:¬(eY items.size 0 lo=0∧eY items.size items.size hi=items.size))
  (h:Q (.ref s.heap.objs.size) { s with heap:=s.heap.push { cls:=.type "tuple",data:=.seq ((items.toList.drop (eY items.size 0 lo)).take (eY items.size items.size hi - eY items.size 0 lo)).toArray } })
  (hsz:items.size≤sizeLine):wpAny (model prog w) A (getItem (.ref t) (.ref sl)) Q E s:=by
 have GY:sizeOk (.seq ((items.toList.drop (eY items.size 0 lo)).take (eY items.size items.size hi - eY items.size 0 lo)).toArray):=by
  show((items.toList.drop (eY items.size 0 lo)).take (eY items.size items.size hi - eY items.size 0 lo)).toArray.size≤sizeLine
  rw[List.size_toArray,De,List.length_drop,Array.length_toList]
  omega
 have hj:eY items.size items.size hi≤items.size:=zW _ _ (CN _) hi
 obtain⟨os,Hm,EM,JS⟩:=id hs
 have Jw:s.TypeIs (.ref sl) "slice":=⟨os,Hm,EM⟩
 unfold getItem
 try with_reducible refine wpAny_holding ?_
 first | refine CG (CH ?_) | skip
 refine CG (wpAny_sequenceKey ht.typeIs (by decide) ?_)
 refine CG (wpAny_callSpecial?_slot (name:=Str.ofString "__getitem__") ht.typeIs PyProof.Rows.slot_tuple_getitem
  (wpAny_call_entry PyProof.Rows.slot_tuple_getitem ht.typeIs entry_tuple_getitem ?_ (args_tuple_getitem _ _)))
 show wpAny _ _ (Builtin.Tuple.tupleItemsOf (.ref t) >>= _) _ _ s
 refine CG (tupleItemsOf_ ht ?_)
 refine CG (wpAny_typeOf Jw ?_)
 rw[CQ (by decide)]
 refine CG (gN hs pl pu ?_)
 have KI:¬((((eY items.size 0 lo:Nat):Int) == 0&&(1:Int) == 1&&(eY items.size items.size hi - eY items.size 0 lo) == items.size)=true):=by
  intro q
  rw[Bool.and_eq_true,Bool.and_eq_true] at q
  have q1:((eY items.size 0 lo:Nat):Int)=0:=eq_of_beq q.1.1
  have q2:eY items.size items.size hi - eY items.size 0 lo=items.size:=eq_of_beq q.2
  exact hw ⟨by omega,by omega⟩
 show wpAny _ _ (if(((eY items.size 0 lo:Nat):Int) == 0&&(1:Int) == 1&&(eY items.size items.size hi - eY items.size 0 lo) == items.size)=true then _ else _) _ _ s
 rw[CO KI,vW]
 first
  | exact CG (m:=Builtin.Tuple.tupleExact _) (wpAny_newObj_type (CH ⟨_,rfl,CH h⟩) GY)
  | exact CG (m:=Builtin.Tuple.tupleExact _) (wpAny_newObj_type (CG (CH (CH ⟨_,rfl,CH h⟩))) GY)
  | exact CG (CG (m:=Builtin.Tuple.tupleExact _) (wpAny_newObj_type (CH (CH ⟨_,rfl,CH h⟩)) GY))
  | exact CG (CG (m:=Builtin.Tuple.tupleExact _) (wpAny_newObj_type (CH ⟨_,rfl,CH h⟩) GY))
end
end HT
namespace L2
open PySem PySem.Spec PyProof.Rows
abbrev TO:=St→Hp→(Option Int→Hp→Prop)→Prop
def PO (X:Cx) (e:Option Expr) (t:TO):Prop:=
 ∀(Sb:List (Addr×Obj)) (s:Shared) (σ:St) (H:Hp) (Q:Option Int→Hp→Prop),Inv X Sb σ H s→t σ H Q→
  wpAny (model X.prog X.w) X.A (evalPart e X.env) (fun u s'=>∃o H',Inv X Sb σ H' s'∧IsPart u o∧Q o H') X.xe s
def sD:TO:=fun _ H Q=>Q none H
def y4 (t:TE):TO:=fun σ H Q=>t σ H fun x H1=>∃i,x=.int i∧Q (some i) H1
section
variable{X:Cx}{e:Expr}{te:TE}{lo hi:Option Expr}{tl th:TO}{pos p2:Pos}
theorem cI:PO X none sD:=by
 intro Sb s σ H Q I h
 rw[evalPart_none]
 exact CH ⟨none,H,I,.none,h⟩
theorem cH (h:PE X e te):PO X (some e) (y4 te):=by
 intro Sb s σ H Q I hw
 rw[evalPart_some]
 refine cx (h Sb s σ H _ I hw) fun u s1 zq=>?_
 obtain⟨x,H1,I1,r1,q1⟩:=zq
 obtain⟨i,rfl,q⟩:=q1
 obtain⟨t,rfl⟩:=r1
 exact⟨some i,H1,I1,.int i t,q⟩
def Be (X:Cx) (r:V→Option Int→Option Int→Hp→VK→Prop):Prop:=
 ∀(Sb:List (Addr×Obj)) (s:Shared) (σ:St) (H:Hp) (x:V) (v vl vu:Value) (lo hi:Option Int) (sl:Addr) (Q:VK),Inv X Sb σ H s→RelV x v→s.heap.IsSliceOf sl vl vu .none→IsPart vl lo→IsPart vu hi→r x lo hi H Q→
  ∃T id,typeLookup (.type T) "__getitem__"=pure (some (.builtin id))∧s.TypeIs v T∧wpAny (model X.prog X.w) X.A (getItem v (.ref sl)) (EP X Sb σ Q) X.xe s
def tSl (r:V→Option Int→Option Int→Hp→VK→Prop) (te:TE) (tl th:TO):TE:=fun σ H Q=>te σ H fun x H1=>tl σ H1 fun l H2=>th σ H2 fun u H3=>r x l u H3 Q
theorem cm{r:V→Option Int→Option Int→Hp→VK→Prop}(hr:Be X r) (he:PE X e te) (hl:PO X lo tl) (hu:PO X hi th):PE X (.Subscript e (.Slice lo hi none p2) pos) (tSl r te tl th):=by
 intro Sb s σ H Q I h
 refine Subscript_ (cx (he Sb s σ H _ I h) fun v s1 zq=>?_)
 obtain⟨x,H1,I1,r1,q1⟩:=zq
 refine wpAny_Slice (cx (hl Sb s1 σ H1 _ I1 q1) fun vl s2 ⟨l,H2,I2,pl,q2⟩=>cx (hu Sb s2 σ H2 _ I2 q2) fun vu s3 zq=>?_)
 obtain⟨u,H3,I3,pu,q3⟩:=zq
 rw[evalPart_none]
 refine CH ?_
 have I4:Inv X Sb σ H3 { s3 with heap:=s3.heap.push { cls:=.type "slice",data:=.fields #[vl,vu,.none] } }:=I3.kept (t':=s3.toks) fun b ob q=>CL _ q
 obtain⟨T,id,hT,ht,hg⟩:=hr Sb { s3 with heap:=s3.heap.push { cls:=.type "slice",data:=.fields #[vl,vu,.none] } } σ H3 x v vl vu l u s3.heap.objs.size Q I4 r1 (Heap.IsSliceOf.new ..) pl pu q3
 show wpAny (model X.prog X.w) X.A (subscriptTail e (.Slice lo hi none p2) v (.ref s3.heap.objs.size)) (EP X Sb σ Q) X.xe { s3 with heap:=s3.heap.push { cls:=.type "slice",data:=.fields #[vl,vu,.none] } }
 exact tail_any (ops:=[.ref s3.heap.objs.size,v]) ht hT hg (by with_unfolding_all rfl)
def i6 (xs:List V) (lo hi:Option Int):List V:=(xs.drop (HT.eY xs.length 0 lo)).take (HT.eY xs.length xs.length hi - HT.eY xs.length 0 lo)
theorem kT (xs:List V) (lo hi:Option Int):(i6 xs lo hi).length≤xs.length:=by
 unfold i6
 rw[De,List.length_drop]
 omega
def rSlT (K:Fg06):V→Option Int→Option Int→Hp→VK→Prop:=fun x lo hi H Q=>∃a xs,x=.ref a∧cq K H a xs∧
 ¬(HT.eY xs.length 0 lo=0∧HT.eY xs.length xs.length hi=xs.length)∧∀p,H p=none→Q (.ref p) (upd H p (.tup (i6 xs lo hi)))
theorem vB:Be X (rSlT X.K):=by
 intro Sb s σ H x v vl vu lo hi sl Q I rx hs pl pu h
 obtain⟨a,xs,rfl,hx,hw,q⟩:=h
 cases rx
 obtain⟨Se,r,ht,hz⟩:=I.tuple hx
 have hlen:Se.toArray.size=xs.length:=by rw[List.size_toArray];exact r.length.symm
 refine⟨"tuple",_,PyProof.Rows.slot_tuple_getitem.lookup,ht.typeIs,?_⟩
 refine HT.j5 ht hs pl pu (by rw[hlen];exact hw) ?_ (by rw[hlen];exact hz)
 rw[hlen]
 refine⟨.ref s.heap.objs.size,_,I.laid (t':=s.toks) (o:=.tup (i6 xs lo hi)) (fun b ob q=>CL _ q) (CN _) ?_,rfl,q _ (I.bH.fresh (CN _))⟩
 exact⟨CZ (kT xs lo hi) hz,_,(r.drop (HT.eY xs.length 0 lo)).take (HT.eY xs.length xs.length hi - HT.eY xs.length 0 lo),IsTup.new _ _⟩
def BU (K:Fg06):R2:=fun x y H Q=>∃a b xs ys,x=.ref a∧y=.ref b∧cq K H a xs∧cq K H b ys∧xs≠[]∧xs.length+ys.length≤sizeLine∧
 (ys=[]→Q (.ref a) H)∧(ys≠[]→∀p,H p=none→Q (.ref p) (upd H p (.tup (xs++ys))))
theorem Vals.pq{xs:List V}{us:List Value}(r:Vals xs us):us=[]↔xs=[]:=by
 cases r with
 | nil=>simp
 | cons _ _=>simp
theorem yA:i7 X (binaryOp .Add) (BU X.K):=by
 intro Sb s σ H x y v u Q I rx ry h
 obtain⟨a,b,xs,ys,rfl,rfl,ha,hb,hx,hz,q1,q2⟩:=h
 cases rx
 cases ry
 obtain⟨Se,r1,p1,_⟩:=I.tuple ha
 obtain⟨EK,r2,p2,_⟩:=I.tuple hb
 refine HT.tQ p1 p2 (fun z=>hx (r1.pq.mp z)) (fun z=>⟨.ref a,H,I,rfl,q1 (r2.pq.mp z)⟩) (fun z=>?_) (by rw[←r1.length,←r2.length];exact hz)
 refine⟨.ref s.heap.objs.size,_,I.laid (t':=s.toks) (o:=.tup (xs++ys)) (fun b ob q=>CL _ q) (CN _) ?_,rfl,q2 (fun w=>z (r2.pq.mpr w)) _ (I.bH.fresh (CN _))⟩
 exact⟨by rw[CK];exact hz,_,r1.append r2,IsTup.new _ _⟩
end
end L2
namespace L2
open PySem PySem.Spec PyProof.Rows
def uX (n:Nat) (i:Int):Option Nat:=if 0≤i then(if i < n then some i.toNat else none) else if -(n:Int)≤i then some (i+n).toNat else none
def xi{α:Type}(xs:List α) (i:Int):Option α:=(uX xs.length i).bind fun j=>xs[j]?
theorem tG{n:Nat}{i:Int}{j:Nat}(h:uX n i=some j):seqIndex? i n=some j∧j < n∧-(n:Int)≤i∧i < n:=by
 unfold uX at h
 by_cases h0:0≤i
 ·rw[CQ h0] at h
  by_cases h1:i < n
  ·rw[CQ h1] at h
   have e:i.toNat=j:=Option.some.inj h
   exact⟨by rw[seqIndex_of h0 h1,e],by omega,by omega,h1⟩
  ·rw[CO h1] at h;cases h
 ·rw[CO h0] at h
  by_cases h1:-(n:Int)≤i
  ·rw[CQ h1] at h
   have e:(i+n).toNat=j:=Option.some.inj h
   exact⟨by rw[seqIndex_neg (by omega) h1,e],by omega,h1,by omega⟩
  ·rw[CO h1] at h;cases h
theorem pG{α:Type}{xs:List α}{i:Int}{v:α}(h:xi xs i=some v):∃j,seqIndex? i xs.length=some j∧xs[j]?=some v∧j < xs.length∧-(xs.length:Int)≤i∧i < xs.length:=by
 unfold xi at h
 cases e:uX xs.length i with
 | none=>rw[e] at h;cases h
 | some j=>
  rw[e] at h
  obtain⟨h1,h2,h3,h4⟩:=tG e
  exact⟨j,h1,h,h2,h3,h4⟩
theorem fG{α:Type}{xs:List α}{j:Nat}{v:α}(h:xs[j]?=some v):xi xs (j:Int)=some v:=by
 have hj:j < xs.length:=(CM.mp h).1
 have e:uX xs.length (j:Int)=some j:=by
  unfold uX
  rw[CQ (by omega),CQ (by omega)];simp
 unfold xi;rw[e];exact h
def tV (b:Expr):Prop:=∀o i,subscripted b false o i=operate [o,i] (getItem o i)
def Bg (X:Cx) (r:R2):Prop:=
 ∀(value slice:Expr) (Sb:List (Addr×Obj)) (s:Shared) (σ:St) (H:Hp) (x y:V) (v u:Value) (Q:VK),Inv X Sb σ H s→RelV x v→RelV y u→r x y H Q→
  subscripted slice false v u=operate [v,u] (getItem v u)→wpAny (model X.prog X.w) X.A (subscriptTail value slice v u) (EP X Sb σ Q) X.xe s
def MtR (X:Cx) (id:String) (r:V→List V→Hp→VK→Prop):Prop:=
 ∀(Sb:List (Addr×Obj)) (s:Shared) (σ:St) (H:Hp) (x:V) (xs:List V) (v:Value) (us:List Value) (Q:VK),Inv X Sb σ H s→RelV x v→Vals xs us→r x xs H Q→
  wpAny (model X.prog X.w) X.A (call (.builtin id) (v::us)) (EP X Sb σ Q) X.xe s
section
variable{X:Cx}{a b:Expr}{ta tb:TE}{pos:Pos}
theorem bC{r:R2}(hr:Bg X r) (ha:PE X a ta) (hb:PE X b tb) (hs:tV b):PE X (.Subscript a b pos) (nc r ta tb):=by
 intro Sb s σ H Q I h
 exact Subscript_ (AU ha hb I h fun v u s2 x y H2 I2 rx ry q=>hr a b Sb s2 σ H2 x y v u Q I2 rx ry q (hs _ _))
def rIxL (K:Fg06):R2:=fun x y H Q=>∃p xs i v,x=.ref p∧y=.int i∧br K H p xs∧xi xs i=some v∧Q v H
def rIxT (K:Fg06):R2:=fun x y H Q=>∃p xs i v,x=.ref p∧y=.int i∧cq K H p xs∧xi xs i=some v∧Q v H
def rIxS:R2:=fun x y H Q=>∃z i c,x=.str z∧y=.int i∧z.length≤sizeLine∧xi z.cps.toList i=some c∧Q (.str ⟨#[c]⟩) H
theorem cy:Bg X (rIxL X.K):=by
 intro value slice Sb s σ H x y v u Q I rx ry h hs
 obtain⟨p,xs,i,z,rfl,rfl,hq,he,q⟩:=h
 cases rx
 obtain⟨t,rfl⟩:=ry
 obtain⟨Se,r,pl,hz⟩:=I.list hq
 obtain⟨j,h1,h2,h3,h4,h5⟩:=pG he
 obtain⟨w,ew,E4⟩:=r.get h2
 have hl:=r.length
 have hn:=mE
 have fin:EP X Sb σ Q w s:=⟨z,H,I,E4,q⟩
 by_cases h0:0≤i
 ·have hj:i.toNat=j:=by
   rw[seqIndex_of h0 h5] at h1
   exact Option.some.inj h1
  exact item_listR pl.isList h0 (by omega) (by rw[hj];simpa using ew) fin hs
 ·have hj:(i+(Se.toArray.size:Int)).toNat=j:=by
   rw[seqIndex_neg (by omega) h4] at h1
   rw[List.size_toArray,←hl]
   exact Option.some.inj h1
  exact subscriptTail_builtinR (x:=w) pl.isList.typeIs slot_list_getitem.lookup
   (wpAny_getItem_list_neg (Q:=fun r s'=>r=w∧EP X Sb σ Q r s') pl.isList (by omega) (by rw[List.size_toArray]<;>omega) (by omega) (by rw[hj];simpa using ew) ⟨rfl,fin⟩) hs
theorem pz:Bg X (rIxT X.K):=by
 intro value slice Sb s σ H x y v u Q I rx ry h hs
 obtain⟨p,xs,i,z,rfl,rfl,hq,he,q⟩:=h
 cases rx
 obtain⟨t,rfl⟩:=ry
 obtain⟨Se,r,pl,hz⟩:=I.tuple hq
 obtain⟨j,h1,h2,h3,h4,h5⟩:=pG he
 obtain⟨w,ew,E4⟩:=r.get h2
 have hl:=r.length
 have hn:=mE
 have fin:EP X Sb σ Q w s:=⟨z,H,I,E4,q⟩
 exact subscriptTail_builtinR (x:=w) pl.typeIs slot_tuple_getitem.lookup
  (getItem_tuple (j:=j) (Q:=fun r s'=>r=w∧EP X Sb σ Q r s') pl (by omega) (by omega) (by rw[List.size_toArray,←hl];exact h1) (by simpa using ew) ⟨rfl,fin⟩) hs
theorem AI:Bg X rIxS:=by
 intro value slice Sb s σ H x y v u Q I rx ry h hs
 obtain⟨z,i,c,rfl,rfl,hz,he,q⟩:=h
 obtain⟨t,rfl⟩:=rx
 obtain⟨t',rfl⟩:=ry
 obtain⟨j,h1,h2,h3,h4,h5⟩:=pG he
 have hl:z.cps.toList.length=z.length:=by simp[Str.length]
 rw[hl] at h1 h4 h5
 have hn:=mE
 exact tail_any (typeIs_str s z t) slot_str_getitem.lookup (getItem_str (c:=c) (by
  have e1:decide (i < -(2 ^ 63:Int))=false:=CI (by omega)
  have e2:decide (i≥2 ^ 63)=false:=CI (by omega)
  rw[e1,e2,Bool.or_false]) (by rw[h1];simpa using h2) ⟨.str ⟨#[c]⟩,H,I.tok _,⟨_,rfl⟩,q⟩) hs
theorem rO (Se:List Value) (n j:Nat) (u:Value):Obj.mapSeq (·.setIfInBounds j u) { cls:=.type "list",data:=.seq Se.toArray n }={ cls:=.type "list",data:=.seq (Se.set j u).toArray n }:=by
 simp[Obj.mapSeq]
theorem Inv.lst{Sb:List (Addr×Obj)}{σ:St}{H:Hp}{s:Shared}{p:Addr}{xs:List V}(I:Inv X Sb σ H s) (h:H p=some (.lst xs)):
  ∃(Se:List Value) (n:Nat),Vals xs Se∧s.heap.get? p=some { cls:=.type "list",data:=.seq Se.toArray n }∧xs.length≤sizeLine:=by
 obtain⟨z,Se,n,r,e⟩:=I.bH p _ h
 exact⟨Se,n,r,e,z⟩
theorem Inv.AD{Sb:List (Addr×Obj)}{σ:St}{H:Hp}{s:Shared}{p:Addr}{xs ys:List V}{Se its':List Value}{n n':Nat}{f:Obj→Obj}(I:Inv X Sb σ H s) (h:H p=some (.lst xs))
  (ho:s.heap.get? p=some { cls:=.type "list",data:=.seq Se.toArray n }) (hf:f { cls:=.type "list",data:=.seq Se.toArray n }={ cls:=.type "list",data:=.seq its'.toArray n' }) (r:Vals ys its') (hz:ys.length≤sizeLine) (t:Nat):
  Inv X Sb σ (upd H p (.lst ys)) { s with heap:=s.heap.update p f,toks:=t }:=by
 have e:(s.heap.update p f).get? p=some { cls:=.type "list",data:=.seq its'.toArray n' }:=by
  rw[Heap.get?_update_self f ho (by rw[hf]<;>rfl),hf]
 refine I.write (x:=p) (e:=p) (by rw[h];trivial) (.inl rfl) (fun b u hb q=>(Heap.get?_update_other _ _ (Ne.symm hb)).trans q) ⟨_,e⟩ ?_
 exact⟨hz,its',n',r,e⟩
def BQ:V→V→V→Hp→(Hp→Prop)→Prop:=fun o i v H Q=>∃p xs k j,o=.ref p∧i=.int k∧H p=some (.lst xs)∧uX xs.length k=some j∧Q (upd H p (.lst (xs.set j v)))
theorem set_list:CA X BQ:=by
 intro Sb s σ H o i v ov iv u Q I ro ri rv h
 obtain⟨p,xs,k,j,rfl,rfl,hp,hj,q⟩:=h
 cases ro
 obtain⟨t,rfl⟩:=ri
 obtain⟨Se,n,r,ho,hz⟩:=I.lst hp
 obtain⟨h1,h2,h3,h4⟩:=tG hj
 have hl:=r.length
 have hn:=mE
 have I':Inv X Sb σ (upd H p (.lst (xs.set j v))) { s with heap:=s.heap.update p (Obj.mapSeq (·.setIfInBounds j u)) }:=
  I.AD hp ho (rO Se n j u) (r.set rv j) (by rw[List.length_set];exact hz) s.toks
 by_cases h0:0≤k
 ·have hk:k.toNat=j:=by
   rw[seqIndex_of h0 h4] at h1
   exact Option.some.inj h1
  exact PySem.W.ki_setAt ho h0 (by omega) (by rw[List.size_toArray,←hl];exact h4) (by rw[hk];exact⟨_,I',q⟩)
 ·have hk:(k+(Se.toArray.size:Int)).toNat=j:=by
   rw[seqIndex_neg (by omega) h3] at h1
   rw[List.size_toArray,←hl]
   exact Option.some.inj h1
  exact PySem.W.ki_setBack ho (by omega) (by rw[List.size_toArray,←hl];exact h3) (by omega) (by rw[hk];exact⟨_,I',q⟩)
theorem oK (lo hi:Option Int) (n:Nat):(sliceBounds lo hi none n).1=((HT.eY n 0 lo:Nat):Int)∧(sliceBounds lo hi none n).2.1=((HT.eY n n hi:Nat):Int)∧(sliceBounds lo hi none n).2.2=1:=by
 refine⟨?_,?_,rfl⟩
 ·cases lo with
  | none=>simp[sliceBounds,HT.eY]
  | some i=>
   simp only[sliceBounds,HT.eY,Option.getD_none,show(1:Int) > 0 by decide,if_true]
   by_cases h:i < 0
   ·simp only[h,if_true]<;>omega
   ·simp only[h,if_false]<;>omega
 ·cases hi with
  | none=>simp[sliceBounds,HT.eY]
  | some i=>
   simp only[sliceBounds,HT.eY,Option.getD_none,show(1:Int) > 0 by decide,if_true]
   by_cases h:i < 0
   ·simp only[h,if_true]<;>omega
   ·simp only[h,if_false]<;>omega
theorem ni (Se:List Value) (lo hi:Option Int):slicePick Se.toArray lo hi none=((Se.drop (HT.eY Se.length 0 lo)).take (HT.eY Se.length Se.length hi - HT.eY Se.length 0 lo)).toArray:=by
 obtain⟨h1,h2,h3⟩:=oK lo hi Se.toArray.size
 unfold slicePick
 rw[h1,h2,h3]
 simp only[sliceRange_one,pick_run,List.size_toArray]<;>rfl
def rSlL (K:Fg06):V→Option Int→Option Int→Hp→VK→Prop:=fun x lo hi H Q=>∃a xs,x=.ref a∧br K H a xs∧∀p,H p=none→Q (.ref p) (upd H p (.lst (i6 xs lo hi)))
theorem xS:Be X (rSlL X.K):=by
 intro Sb s σ H x v vl vu lo hi sl Q I rx hs pl pu h
 obtain⟨a,xs,rfl,hx,q⟩:=h
 cases rx
 obtain⟨Se,r,ht,hz⟩:=I.list hx
 have hlen:=r.length
 refine⟨"list",_,slot_list_getitem.lookup,ht.isList.typeIs,?_⟩
 refine wpAny_getItem_list_slice ht.isList hs pl pu .none (by simp) ?_ (by rw[List.size_toArray]<;>omega)
 rw[ni,←hlen]
 refine⟨.ref s.heap.objs.size,_,I.laid (t':=s.toks) (o:=.lst (i6 xs lo hi)) (fun b ob q=>CL _ q) (CN _) ?_,rfl,q _ (I.bH.fresh (CN _))⟩
 exact⟨CZ (kT xs lo hi) hz,_,0,(r.drop (HT.eY xs.length 0 lo)).take (HT.eY xs.length xs.length hi - HT.eY xs.length 0 lo),Heap.get?_push_size _ rfl⟩
def ik:V→Bool
 | .aR=>true
 | .bl _=>true
 | .int _=>true
 | .str _=>true
 | _=>false
def xw:V→V→Bool
 | .aR,.aR=>true
 | .bl a,.bl b=>a == b
 | .bl a,.int b=>(if a then 1 else 0) == b
 | .int a,.bl b=>a == (if b then 1 else 0)
 | .int a,.int b=>a == b
 | .str a,.str b=>a == b
 | _,_=>false
theorem AK{A:Around}{s:Shared}{y x:V}{u v:Value}(ry:RelV y u) (rx:RelV x v) (fy:ik y=true) (fx:ik x=true):SeqAt.EqAt A s u v (xw y x):=by
 cases y with
 | aR=>
  cases ry
  cases x with
  | aR=>cases rx;exact SeqAt.EqAt.same _
  | bl b=>cases rx;exact SeqAt.EqAt.none_bool b
  | int b=>obtain⟨t,rfl⟩:=rx;exact SeqAt.EqAt.none_int b t
  | str b=>obtain⟨t,rfl⟩:=rx;exact SeqAt.EqAt.none_str b t
  | _=>exact absurd (show false=true from fx) CU
 | bl a=>
  cases ry
  cases x with
  | aR=>cases rx;exact SeqAt.EqAt.bool_none a
  | bl b=>cases rx;exact SeqAt.EqAt.bool_bool a b
  | int b=>obtain⟨t,rfl⟩:=rx;exact SeqAt.EqAt.bool_int a b t
  | str b=>obtain⟨t,rfl⟩:=rx;exact SeqAt.EqAt.bool_str a b t
  | _=>exact absurd (show false=true from fx) CU
 | int a=>
  obtain⟨t',rfl⟩:=ry
  cases x with
  | aR=>cases rx;exact SeqAt.EqAt.int_none a t'
  | bl b=>cases rx;exact SeqAt.EqAt.int_bool a t' b
  | int b=>obtain⟨t,rfl⟩:=rx;exact SeqAt.EqAt.int_int a t' b t
  | str b=>obtain⟨t,rfl⟩:=rx;exact SeqAt.EqAt.int_str a t' b t
  | _=>exact absurd (show false=true from fx) CU
 | str a=>
  obtain⟨t',rfl⟩:=ry
  cases x with
  | aR=>cases rx;exact SeqAt.EqAt.str_none a t'
  | bl b=>cases rx;exact SeqAt.EqAt.str_bool a t' b
  | int b=>obtain⟨t,rfl⟩:=rx;exact SeqAt.EqAt.str_int a t' b t
  | str b=>obtain⟨t,rfl⟩:=rx;exact SeqAt.EqAt.str_str a t' b t
  | _=>exact absurd (show false=true from fx) CU
 | _=>exact absurd (show false=true from fy) CU
def qM (x:V) (u:Value):Bool:=match u with
 | .none=>xw .aR x
 | .bool b=>xw (.bl b) x
 | .int i _=>xw (.int i) x
 | .str z _=>xw (.str z) x
 | _=>false
theorem wX{x y:V}{u:Value}(r:RelV y u) (f:ik y=true):qM x u=xw y x:=by
 cases y with
 | aR=>cases r;rfl
 | bl b=>cases r;rfl
 | int i=>obtain⟨t,rfl⟩:=r;rfl
 | str z=>obtain⟨t,rfl⟩:=r;rfl
 | _=>exact absurd (show false=true from f) CU
theorem ke{x:V}:∀{xs:List V}{us:List Value},Vals xs us→xs.all ik=true→us.any (qM x)=xs.any fun y=>xw y x
 | _,_,.nil,_=>rfl
 | y::xs,u::us,.cons r t,f=>by
  rw[List.all_cons,Bool.and_eq_true] at f
  rw[List.any_cons,List.any_cons,wX r f.1,ke t f.2]
theorem gR{A:Around}{s:Shared}{x:V}{v:Value}(rx:RelV x v) (fx:ik x=true):∀{xs:List V}{us:List Value},Vals xs us→xs.all ik=true→∀u∈us,SeqAt.EqAt A s u v (qM x u)
 | _,_,.nil,_=>fun u hu=>by cases hu
 | y::xs,u::us,.cons r t,f=>fun u' hu=>by
  rw[List.all_cons,Bool.and_eq_true] at f
  rcases List.mem_cons.mp hu with rfl | hu
  ·rw[wX r f.1];exact AK r rx f.1 fx
  ·exact gR rx fx t f.2 u' hu
def gq (x:V) (xs:List V):Bool:=xs.any fun y=>xw y x
def rIn (K:Fg06) (neg:Bool):R2:=fun x y H Q=>∃p xs,y=.ref p∧(br K H p xs∨cq K H p xs)∧ik x=true∧xs.all ik=true∧Q (.bl (if neg then !gq x xs else gq x xs)) H
theorem bq:i7 X (compareOp .In) (rIn X.K false):=by
 intro Sb s σ H x y v u Q I rx ry h
 obtain⟨p,xs,rfl,hq,fx,fs,q⟩:=h
 cases ry
 rcases hq with hq | hq
 ·obtain⟨Se,r,pl,hz⟩:=I.list hq
  refine SeqAt.in_listAt (qM x) pl.isList (fun w hw=>gR rx fx r fs w (by simpa using hw)) ⟨.bl _,H,I,rfl,?_⟩
  rw[show Se.toArray.any (qM x)=Se.any (qM x) by simp,ke r fs]
  exact q
 ·obtain⟨Se,r,pl,hz⟩:=I.tuple hq
  refine SeqAt.in_tupleAt (qM x) pl (fun w hw=>gR rx fx r fs w (by simpa using hw)) ⟨.bl _,H,I,rfl,?_⟩
  rw[show Se.toArray.any (qM x)=Se.any (qM x) by simp,ke r fs]
  exact q
theorem dJ:i7 X (compareOp .NotIn) (rIn X.K true):=by
 intro Sb s σ H x y v u Q I rx ry h
 obtain⟨p,xs,rfl,hq,fx,fs,q⟩:=h
 cases ry
 rcases hq with hq | hq
 ·obtain⟨Se,r,pl,hz⟩:=I.list hq
  refine SeqAt.notIn_listAt (qM x) pl.isList (fun w hw=>gR rx fx r fs w (by simpa using hw)) ⟨.bl _,H,I,rfl,?_⟩
  rw[show Se.toArray.any (qM x)=Se.any (qM x) by simp,ke r fs]
  exact q
 ·obtain⟨Se,r,pl,hz⟩:=I.tuple hq
  refine SeqAt.notIn_tupleAt (qM x) pl (fun w hw=>gR rx fx r fs w (by simpa using hw)) ⟨.bl _,H,I,rfl,?_⟩
  rw[show Se.toArray.any (qM x)=Se.any (qM x) by simp,ke r fs]
  exact q
theorem eM:i9 X (.builtin "len") (fun xs H Q=>∃p ys,xs=[.ref p]∧(br X.K H p ys∨cq X.K H p ys)∧Q (.int ys.length) H):=by
 intro Sb s σ H xs us Q I r h
 obtain⟨p,ys,rfl,hq,q⟩:=h
 obtain⟨u,rfl,rx⟩:=vals1 r
 cases rx
 have hn:=mE
 rcases hq with hq | hq
 ·obtain⟨Se,r',pl,hz⟩:=I.list hq
  have hlen:=r'.length
  exact Calls.call_len_list pl.isList (by simp only[List.size_toArray]<;>omega) ⟨.int ys.length,H,I.tok _,⟨s.toks+1,by rw[List.size_toArray,hlen]⟩,q⟩
 ·obtain⟨Se,r',pl,hz⟩:=I.tuple hq
  have hlen:=r'.length
  exact len_tuple pl (by simp only[List.size_toArray]<;>omega) ⟨.int ys.length,H,I.tok _,⟨s.toks+1,by rw[List.size_toArray,hlen]⟩,q⟩
theorem fq:i9 X (.type "list") (fun xs H Q=>∃p ys,xs=[.ref p]∧(br X.K H p ys∨cq X.K H p ys)∧∀l,H l=none→Q (.ref l) (upd H l (.lst ys))):=by
 intro Sb s σ H xs us Q I r h
 obtain⟨p,ys,rfl,hq,q⟩:=h
 obtain⟨u,rfl,rx⟩:=vals1 r
 cases rx
 have fin:∀(Se:List Value),Vals ys Se→ys.length≤sizeLine→∀(h':Heap) (c':Nat),(∀b o',s.heap.get? b=some o'→h'.get? b=some o')→
   h'.get? s.heap.objs.size=some { cls:=.type "list",dict:=none,data:=.seq Se.toArray c',slots:=#[] }→EP X Sb σ Q (.ref s.heap.objs.size) { s with heap:=h' }:=fun Se r' hz h' c' kp e=>
  ⟨.ref s.heap.objs.size,_,I.laid (t':=s.toks) kp (CN _) (show dG X.prog X.w _ h' _ (.lst ys) from⟨hz,Se,c',r',e⟩),rfl,q _ (I.bH.fresh (CN _))⟩
 rcases hq with hq | hq
 ·obtain⟨Se,r',pl,hz⟩:=I.list hq
  have hlen:=r'.length
  obtain⟨o,ho,hc,n,hd⟩:=pl.isList
  exact call_list_seq p (.inl rfl) ho hc hd (fun h' c' kp e=>fin Se r' hz h' c' kp e) (by simp only[List.size_toArray]<;>omega)
 ·obtain⟨Se,r',pl,hz⟩:=I.tuple hq
  have hlen:=r'.length
  obtain⟨o,ho,hc,n,hd⟩:=pl
  exact call_list_seq p (.inr rfl) ho hc hd (fun h' c' kp e=>fin Se r' hz h' c' kp e) (by simp only[List.size_toArray]<;>omega)
theorem b4:i9 X (.type "tuple") (fun xs H Q=>∃p ys,xs=[.ref p]∧((br X.K H p ys∧∀l,H l=none→Q (.ref l) (upd H l (.tup ys)))∨(cq X.K H p ys∧Q (.ref p) H))):=by
 intro Sb s σ H xs us Q I r h
 obtain⟨p,ys,rfl,h⟩:=h
 obtain⟨u,rfl,rx⟩:=vals1 r
 cases rx
 rcases h with ⟨hq,q⟩ | ⟨hq,q⟩
 ·obtain⟨Se,r',pl,hz⟩:=I.list hq
  have hlen:=r'.length
  refine call_tuple_list pl.isList (fun h' kp=>?_) (by simp only[List.size_toArray]<;>omega)
  have I1:Inv X Sb σ H { s with heap:=h' }:=I.kept (t':=s.toks) kp
  have I2:Inv X Sb σ (upd H h'.objs.size (.tup ys)) { s with heap:=h'.push { cls:=.type "tuple",data:=.seq Se.toArray } }:=
   I1.laid (t':=s.toks) (fun b o e=>CL _ e) (CN _) (show dG X.prog X.w _ _ _ (.tup ys) from⟨hz,Se,r',IsTup.new _ _⟩)
  exact⟨.ref h'.objs.size,_,I2,rfl,q _ (I1.bH.fresh (CN _))⟩
 ·obtain⟨Se,r',pl,hz⟩:=I.tuple hq
  exact call_tuple_same pl ⟨.ref p,H,I,rfl,q⟩
def tyV (K:Fg06) (T:String) (x:V) (H:Hp):Prop:=match x with
 | .str _=>T="str"
 | .int _=>T="int"
 | .ref p=>(T="list"∧∃xs,br K H p xs)∨(T="tuple"∧∃o,K.lookup p=some o∧o.cls=.type "tuple"∧o.dict=none)∨
   (T="dict"∧((∃Sd,H p=some (.dK Sd))∨∃Sd,H p=some (.dT Sd)))∨(T="set"∧∃S n,H p=some (.set S n))
 | _=>False
theorem u6{Sb:List (Addr×Obj)}{σ:St}{H:Hp}{s:Shared}{T:String}{x:V}{v:Value}(I:Inv X Sb σ H s) (r:RelV x v) (ty:tyV X.K T x H):
  s.TypeIs v T∧∀a,v=.ref a→∃ob,s.heap.get? a=some ob∧ob.dict=none:=by
 cases x with
 | str z=>
  obtain⟨t,rfl⟩:=r
  cases (show T="str" from ty)
  exact⟨typeIs_str s z t,fun _ e=>nomatch e⟩
 | int i=>
  obtain⟨t,rfl⟩:=r
  cases (show T="int" from ty)
  exact⟨typeIs_int s i t,fun _ e=>nomatch e⟩
 | ref p=>
  cases r
  rcases ty with ⟨rfl,xs,hq⟩ | ⟨rfl,o,hk,hc,hd⟩ | ⟨rfl,hk⟩ | ⟨rfl,S,n,hk⟩
  ·obtain⟨Se,_,pl,_⟩:=I.list hq
   refine⟨pl.isList.typeIs,fun a e=>?_⟩
   cases e
   obtain⟨o,n,e,c,hd,_⟩:=pl
   exact⟨o,e,hd⟩
  ·refine⟨⟨o,I.kQ p o hk,hc⟩,fun a e=>?_⟩
   cases e
   exact⟨o,I.kQ _ o hk,hd⟩
  ·have z:∃o,s.heap.get? p=some o∧o.ExactDict:=by
    rcases hk with ⟨Sd,hk⟩ | ⟨Sd,hk⟩
    ·obtain⟨_,_,_,_,o,_,_,e,ex,_⟩:=I.bH p _ hk
     exact⟨o,e,ex⟩
    ·obtain⟨_,_,_,_,o,_,_,e,ex,_⟩:=I.bH p _ hk
     exact⟨o,e,ex⟩
   obtain⟨o,e,ex⟩:=z
   refine⟨⟨o,e,ex.1⟩,fun a e2=>?_⟩
   cases e2
   exact⟨o,e,ex.2.1⟩
  ·obtain⟨o,_,_,_,e,ex,_⟩:=I.bH p _ hk
   refine⟨⟨o,e,ex.1⟩,fun a e2=>?_⟩
   cases e2
   exact⟨o,e,ex.2.1⟩
 | _=>exact False.elim ty
def BC (K:Fg06) (T:String) (r:V→List V→Hp→VK→Prop) (to:TE):TE:=fun σ H Q=>to σ H fun x H1=>tyV K T x H1∧r x [] H1 Q
def A8 (K:Fg06) (T:String) (r:V→List V→Hp→VK→Prop) (to:TE) (t:TA):TE:=fun σ H Q=>to σ H fun x H1=>tyV K T x H1∧t σ H1 fun xs H2=>r x xs H2 Q
variable{o e:Expr}{es:List Expr}{to:TE}{t:TA}{name:Str}{apos cpos:Pos}{T id:String}{r:V→List V→Hp→VK→Prop}
theorem eF (pa:PlainAttrs T) (slot:Slot T name id) (Iw:typeOf (.builtin id)=pure (.type "method_descriptor")) (hm:MtR X id r) (ho:PE X o to)
  (EJ:attributeBase o name X.env (eval o X.env)=eval o X.env:=by rfl) (EZ:(apos.endLine == cpos.line)=true:=by rfl):PE X (.Call (.Attribute o name apos) [] [] cpos) (BC X.K T r to):=by
 intro Sb s σ H Q I h
 refine wpAny_Call_method0_late EJ EZ (cx (ho Sb s σ H _ I h) fun v s1 zq=>?_)
 obtain⟨x,H1,I1,r1,ty,q1⟩:=zq
 obtain⟨h1,h2⟩:=u6 I1 r1 ty
 exact⟨T,id,pa,slot,Iw,h1,h2,Calls.callWith_builtin rfl (PySem.evalArgs_none (hm Sb s1 σ H1 x [] v [] Q I1 r1 .nil q1))⟩
theorem cj (pa:PlainAttrs T) (slot:Slot T name id) (Iw:typeOf (.builtin id)=pure (.type "method_descriptor")) (hm:MtR X id r) (ho:PE X o to) (ha:PA X (e::es) t)
  (EJ:attributeBase o name X.env (eval o X.env)=eval o X.env:=by rfl)
  (Ic:((backTo cpos (starEach (e::es) X.env)).all (fun x=>!x.1)&&(backToKw cpos (keywordEach [] X.env)).all (fun x=>x.1.isSome)
   &&decide ((e::es).length+([]:List Keyword).length+(if([]:List Keyword).isEmpty then 0 else 1) < 30))=true:=by rfl)
  (EZ:(apos.endLine == cpos.line)=true:=by rfl) (hs:starEach (e::es) X.env=(false,eval e X.env)::starEach es X.env:=by rfl) (Fm:(backTo cpos (starEach es X.env)).any (·.1)=false:=by rfl):
  PE X (.Call (.Attribute o name apos) (e::es) [] cpos) (A8 X.K T r to t):=by
 intro Sb s σ H Q I h
 refine wpAny_Call_method_late EJ Ic EZ rfl (cx (ho Sb s σ H _ I h) fun v s1 zq=>?_)
 obtain⟨x,H1,I1,r1,ty,q1⟩:=zq
 obtain⟨h1,h2⟩:=u6 I1 r1 ty
 refine⟨T,id,pa,slot,Iw,h1,h2,?_⟩
 have hA:=ha cpos Sb s1 σ H1 _ I1 q1
 rw[hs] at hA ⊢
 refine Calls.callWith_builtin (by show(false||(backTo cpos (starEach es X.env)).any (·.1))=false;rw[Fm]<;>rfl) (Calls.evalArgs_plain ?_)
 exact cx hA fun us s2 ⟨vs,H2,I2,r2,q2⟩=>hm Sb s2 σ H2 x vs v us Q I2 r1 r2 q2
end
end L2
namespace L2
open PySem PySem.Spec PyProof.Rows
def Bf (X:Cx) (id:String) (r:V→List V→Hp→VK→Prop):Prop:=
 ∀(Sb:List (Addr×Obj)) (s:Shared) (σ:St) (H:Hp) (x:V) (xs:List V) (v:Value) (us:List Value) (Q:VK),Inv X Sb σ H s→RelV x v→Vals xs us→r x xs H Q→
  wpAny (model X.prog X.w) X.A (call (.builtin id) (v::us)) (EP X Sb σ Q) X.xe s
theorem Vals.one:∀{x:V}{us:List Value},Vals [x] us→∃u,us=[u]∧RelV x u
 | _,_,.cons r .nil=>⟨_,rfl,r⟩
theorem Vals.zero:∀{us:List Value},Vals [] us→us=[]
 | _,.nil=>rfl
theorem Vals.dropLast{xs:List V}{us:List Value}(h:Vals xs us):Vals xs.dropLast us.dropLast:=by
 induction h with
 | nil=>exact .nil
 | cons r t ih=>
  cases t with
  | nil=>exact .nil
  | cons q t'=>exact .cons r ih
theorem Vals.eraseIdx:∀{xs:List V}{us:List Value}(i:Nat),Vals xs us→Vals (xs.eraseIdx i) (us.eraseIdx i)
 | _,_,_,.nil=>.nil
 | _,_,0,.cons _ t=>t
 | _,_,i+1,.cons r t=>.cons r (Vals.eraseIdx i t)
theorem rW{α:Type}(l:List α):l.eraseIdx (l.length - 1)=l.dropLast:=by
 induction l with
 | nil=>rfl
 | cons a r ih=>
  cases r with
  | nil=>rfl
  | cons b r=>
   have e:(a::b::r).length - 1=((b::r).length - 1)+1:=by
    have h1:(a::b::r).length=r.length+2:=rfl
    have h2:(b::r).length=r.length+1:=rfl
    omega
   rw[e,List.eraseIdx_cons_succ,ih]
   all_goals rfl
theorem nS{α:Type}:∀(l:List α) (i:Nat),(l.eraseIdx i).length≤l.length
 | [],_=>CN _
 | _::_,0=>Nat.le_succ _
 | _::r,i+1=>Nat.succ_le_succ (nS r i)
section
variable{X:Cx}{Sb:List (Addr×Obj)}{σ:St}{H:Hp}{s:Shared}{l b:Addr}{xs ys zs:List V}
theorem Inv.wH{Se its':List Value}{n:Nat}{f:Array Value→Array Value}{t':Nat}(I:Inv X Sb σ H s) (hH:H l=some (.lst xs))
  (e:s.heap.get? l=some { cls:=.type "list",data:=.seq Se.toArray n }) (hf:f Se.toArray=its'.toArray) (hv:Vals ys its') (hz:ys.length≤sizeLine):
  Inv X Sb σ (upd H l (.lst ys)) { s with heap:=s.heap.update l (Obj.mapSeq f),toks:=t' }:=by
 have q:=PySem.IsL.update e f
 rw[hf] at q
 refine I.write (x:=l) (e:=l) (by rw[hH];exact trivial) (.inl rfl) (fun b' u hb hu=>(Heap.get?_update_other s.heap (Obj.mapSeq f) (Ne.symm hb)).trans hu) ⟨_,q⟩ ?_
 exact⟨hz,its',_,hv,q⟩
theorem Inv.lnew{Se:List Value}{t':Nat}(I:Inv X Sb σ H s) (hv:Vals ys Se) (hz:ys.length≤sizeLine):
  Inv X Sb σ (upd H s.heap.objs.size (.lst ys)) { s with heap:=s.heap.push { cls:=.type "list",data:=.seq Se.toArray },toks:=t' }:=
 I.laid (fun _ _ q=>CL _ q) (CN _) ⟨hz,Se,0,hv,Heap.get?_push_size _ rfl⟩
theorem Inv.fresh (I:Inv X Sb σ H s):H s.heap.objs.size=none:=I.bH.fresh (CN _)
theorem Inv.qo (I:Inv X Sb σ H s) (hH:H l=some (.lst xs)):xs.length≤sizeLine∧∃(Se:List Value) (n:Nat),Vals xs Se∧xs.length=Se.length∧s.heap.get? l=some { cls:=.type "list",data:=.seq Se.toArray n }:=by
 obtain⟨z,Se,n,r,e⟩:=I.bH l _ hH
 exact⟨z,Se,n,r,r.length,e⟩
theorem mx{n:Nat}(h:n≤sizeLine):Builtin.List.listTooLong n=false:=by
 unfold Builtin.List.listTooLong
 exact CI (by omega)
end
section
variable{X:Cx}
def yh:V→List V→Hp→VK→Prop:=fun x vs H Q=>∃l xs y,x=.ref l∧vs=[y]∧H l=some (.lst xs)∧xs.length < sizeLine∧Q .aR (upd H l (.lst (xs++[y])))
theorem bA:Bf X "list.append" yh:=by
 intro Sb s σ H x vs v us Q I rx rv h
 obtain⟨l,xs,y,rfl,rfl,hH,hz,q⟩:=h
 cases rx
 obtain⟨u,rfl,ru⟩:=rv.one
 obtain⟨z,Se,n,r,hl,e⟩:=I.qo hH
 refine call_meets F.slot_list_append ⟨_,e,rfl⟩ F.entry_list_append (F.args_list_append_2 _ _) (PySem.list_append l Se.toArray n u (by rw[List.size_toArray];omega)) ⟨e,?_⟩
 refine⟨.aR,_,I.wH (its':=Se++[u]) hH e (by simp) (r.append (.cons ru .nil)) ?_,rfl,q⟩
 rw[CK,List.length_singleton]
 omega
def tf:V→List V→Hp→VK→Prop:=fun x vs H Q=>∃l b xs zs,x=.ref l∧vs=[.ref b]∧H l=some (.lst xs)∧H b=some (.lst zs)∧xs.length+zs.length≤sizeLine∧Q .aR (upd H l (.lst (xs++zs)))
theorem kA:Bf X "list.extend" tf:=by
 intro Sb s σ H x vs v us Q I rx rv h
 obtain⟨l,b,xs,zs,rfl,rfl,hH,hB,hz,q⟩:=h
 cases rx
 obtain⟨u,rfl,ru⟩:=rv.one
 cases ru
 obtain⟨z,Se,n,r,hl,e⟩:=I.qo hH
 obtain⟨z2,EK,n2,r2,GA,e2⟩:=I.qo hB
 have hsz:Se.toArray.size+EK.toArray.size≤sizeLine:=by rw[List.size_toArray,List.size_toArray];omega
 have hlong:¬(!Se.toArray.isEmpty&&Builtin.List.listTooLong (Se.toArray.size+EK.toArray.size))=true:=by
  rw[mx hsz,Bool.and_false]
  exact CU
 refine call_meets F.slot_list_extend ⟨_,e,rfl⟩ F.entry_list_extend (F.args_list_extend_2 _ _)
  (AutoSeq1.list_extend_list_list_0 l Se.toArray n b EK.toArray n2 hlong (by rw[List.size_toArray];omega) (by omega)) ⟨e,e2,?_⟩
 refine⟨.aR,_,I.wH (its':=Se++EK) hH e (by simp) (r.append r2) ?_,rfl,q⟩
 rw[CK]
 omega
def rPop:V→List V→Hp→VK→Prop:=fun x vs H Q=>∃l xs y,x=.ref l∧vs=[]∧H l=some (.lst xs)∧xs[xs.length - 1]?=some y∧Q y (upd H l (.lst xs.dropLast))
theorem rL:Bf X "list.pop" rPop:=by
 intro Sb s σ H x vs v us Q I rx rv h
 obtain⟨l,xs,y,rfl,rfl,hH,hy,q⟩:=h
 cases rx
 have hus:=rv.zero
 subst hus
 obtain⟨z,Se,n,r,hl,e⟩:=I.qo hH
 obtain⟨u,hu,ru⟩:=r.get hy
 have EI:Se.toArray[Se.toArray.size - 1]?=some u:=by
  show Se.toArray[Se.length - 1]?=some u
  rw[←Array.getElem?_toList,←hl]
  exact hu
 refine call_meets F.slot_list_pop ⟨_,e,rfl⟩ F.entry_list_pop (F.args_list_pop_1 _) (MeetsSeq.list_pop_last l Se.toArray n u EI (by rw[List.size_toArray];omega)) ⟨e,?_⟩
 refine⟨y,_,I.wH (its':=Se.dropLast) hH e ?_ r.dropLast ?_,ru,q⟩
 ·show Se.toArray.eraseIdxIfInBounds (Se.toArray.size - 1)=Se.dropLast.toArray
  rw[List.size_toArray,List.eraseIdxIfInBounds_toArray,rW]
 ·rw[List.length_dropLast]
  omega
def Ab:V→List V→Hp→VK→Prop:=fun x vs H Q=>∃l xs i k y,x=.ref l∧vs=[.int i]∧H l=some (.lst xs)∧-(2 ^ 63)≤i∧i < 2 ^ 63∧seqIndex? i xs.length=some k∧xs[k]?=some y∧Q y (upd H l (.lst (xs.eraseIdx k)))
theorem wC:Bf X "list.pop" Ab:=by
 intro Sb s σ H x vs v us Q I rx rv h
 obtain⟨l,xs,i,k,y,rfl,rfl,hH,h1,h2,hk,hy,q⟩:=h
 cases rx
 obtain⟨u,rfl,ru⟩:=rv.one
 obtain⟨t,rfl⟩:=ru
 obtain⟨z,Se,n,r,hl,e⟩:=I.qo hH
 obtain⟨w,hw,E4⟩:=r.get hy
 refine call_meets F.slot_list_pop ⟨_,e,rfl⟩ F.entry_list_pop (F.args_list_pop_2 _ _)
  (MeetsSeq.list_pop_at l Se.toArray n i t k w (fitsIndex_both h1 h2) (by rw[List.size_toArray,←hl];exact hk) (by rw[←Array.getElem?_toList];exact hw) (by rw[List.size_toArray];omega)) ⟨e,?_⟩
 refine⟨y,_,I.wH (its':=Se.eraseIdx k) hH e ?_ (r.eraseIdx k) ?_,E4,q⟩
 ·show Se.toArray.eraseIdxIfInBounds k=(Se.eraseIdx k).toArray
  rw[List.eraseIdxIfInBounds_toArray]
 ·have:=nS xs k
  omega
def rCat:R2:=fun x y H Q=>∃l b xs zs,x=.ref l∧y=.ref b∧H l=some (.lst xs)∧H b=some (.lst zs)∧xs.length+zs.length≤sizeLine∧∀p,H p=none→Q (.ref p) (upd H p (.lst (xs++zs)))
theorem fM:i7 X (binaryOp .Add) rCat:=by
 intro Sb s σ H x y v u Q I rx ry h
 obtain⟨l,b,xs,zs,rfl,rfl,hH,hB,hz,q⟩:=h
 cases rx
 cases ry
 obtain⟨z,Se,n,r,hl,e⟩:=I.qo hH
 obtain⟨z2,EK,n2,r2,GA,e2⟩:=I.qo hB
 refine PySem.P.add_list e e2 ?_ (by rw[List.size_toArray,List.size_toArray];omega)
 have ea:Se.toArray++EK.toArray=(Se++EK).toArray:=by simp
 rw[ea]
 exact⟨.ref _,_,I.lnew (t':=s.toks) (r.append r2) (by rw[CK];omega),rfl,q _ I.fresh⟩
end
section
variable{prog:Program}{w:World}{A:Around}{E:Value→Shared→Prop}{s:Shared}
set_option maxRecDepth 100000 in
end
section
variable{X:Cx}
end
end L2
namespace Att
open PySem PySem.W PySem.Calls PyProof.Rows
theorem kZ{P:Params}{h:Heap}:∀(ns:List Int) (vs:List Value),WellAll P h vs (ns.map WData.int)→IntsAre vs ns:=by
 intro ns
 induction ns with
 | nil=>
  intro vs w
  rw[List.map_nil] at w
  cases w
  exact .nil
 | cons n ns ih=>
  intro vs w
  rw[List.map_cons] at w
  cases w with
  | cons a b=>
   cases a
   exact .cons _ _ (ih _ b)
theorem ud{l:OpenLaw}{n:Nat}(hn:l.most=some n){P:Params}{h:Heap}{args:List WData}{vals:List Value}
  (Ji:l.row.toRowW.claim.pre args=true) (Ht:WellAll P h vals args):
  ∃a vs ns,vals=[Value.ref a]∧args=[WData.list (ns.map WData.int)]∧h.get? a=some { cls:=.type "list",data:=.seq vs.toArray }∧IntsAre vs ns∧ns.length≤n:=by
 have hsh:WShape.hasAll [] args [.list .int]=true:=(pre_splitW Ji).1
 have hc:l.pre.holds [] { args:=args }=true:=(pre_splitW Ji).2
 obtain⟨d,r,rfl,h1,h2⟩:=hasAllW_cons hsh
 obtain rfl:=hasAllW_nil h2
 obtain⟨xs,rfl,h3⟩:=hasW_list h1
 obtain⟨ns,rfl⟩:=items_int h3
 have hlen:ns.length≤n:=by
  unfold OpenLaw.pre at hc
  have h4:(WTm.not (.lt (.lit (.int (n:Int))) (.len (.arg 0)))).holds [] { args:=[.list (ns.map .int)] }=true:=by
   have h4:=(holds_andW hc).1
   rw[hn] at h4
   exact h4
  have h5:=condW_of h4 (w_not (w_lt w_lit (w_len_list (w_arg rfl))))
  rw[CS] at h5
  refine Nat.le_of_not_lt fun q=>?_
  have q':(n:Int) < ((ns.length:Nat):Int):=by omega
  first
   | (rw[CJ q'] at h5;exact absurd h5 (by decide))
   | (simp at h5;omega)
 cases Ht with
 | cons w1 w2=>
  cases w2
  cases w1 with
  | list ho GD=>exact⟨_,_,ns,rfl,rfl,ho,kZ ns _ GD,hlen⟩
theorem uk (l:OpenLaw) (args:List WData):l.row.toRowW.claim.post args (.bool true) args=true:=
 postW_of (r:=l.row.toRowW) (X:=(true == true))
  (show WShape.has [] (.bool true) .bool=true by first | rfl | decide | simp[WShape.has,WShape.arms,WShape.armsAll])
  (show(WTm.eq .res (.lit (.bool true))).value [] { args:=args,res:=some (.bool true),after:=args }=some (.bool (true == true)) from w_eq_bool (w_res rfl) w_lit) rfl
theorem qG{l:OpenLaw}{n:Nat}{q:Program}{loose:List Str}{XP:(Str→Option Value)→Heap→Prop}{YP:World→Heap→Prop}{d:DefRec}
  (hn:l.most=some n) (Gr:d.params.defaults=[])
  (call:∀(w:World) (s₀ s₁:Shared) (mg mb:Str→Option Value) (fa:Addr) (o:Obj) (pm cd doc:Value) (a:Addr) (vs:List Value) (ns:List Int),
   Ground q loose [] XP w s₀ mg mb s₁.heap→YP w s₁.heap→
   s₁.heap.get? fa=some o→o.data=.func (docDef d.name d.params d.body d.scope pm cd doc)→s₁.heap.CodeRec cd d.name→mg d.name=some (.ref fa)→
   s₁.heap.get? a=some { cls:=.type "list",data:=.seq vs.toArray }→IntsAre vs ns→ns.length≤n→s₁.gens=#[]→
   codeAny (model l.prog w) callerA (.call (.ref fa) ⟨[.ref a],[]⟩) (fun r s'=>r=.ok (.ret (.bool true))∧OldK s₁.heap s'.heap∧s'.os=s₁.os∧AllBare s'.gens) s₁):
  WalkO q loose XP YP l.row.toRowW d [] (fun f vs=>PySem.call f vs):=by
 intro w s₀ s₁ mg mb G Y fa o pm cd doc dV kV ho hd Ft hD Pf hg args vals as Ji hlay Rj Ht Rt
 obtain rfl:dV=.none:=Dflts.none hD Gr
 obtain rfl:kV=.none:=Dflts.noKw hD
 obtain⟨a,vs,ns,rfl,rfl,KC,hints,hlen⟩:=ud hn Ji Ht
 refine enter_call (codeAny_mono (call w s₀ s₁ mg mb fa o pm cd doc a vs ns G Y ho (fd_plain hd) Ft Pf KC hints hlen hg) fun r s' hq=>?_)
 obtain⟨rfl,h2,h3,h4⟩:=hq
 exact⟨.inl ⟨.bool true,.bool true,[],rfl,fun _=>rfl,.bool true,uk l _,fun _=>⟨List.Pairwise.nil,fun _ hm=>(nomatch hm)⟩⟩,h2,h3,h4⟩
section
variable{prog:Program}{w:World}{A:Around}{E:Value→Shared→Prop}{s:Shared}{K:Frag}
end
end Att
namespace L2
open PySem PySem.Spec PyProof.Rows
theorem nD:∀{vs:List Value}{ns:List Int},IntsAre vs ns→Vals (ns.map V.int) vs
 | _,_,.nil=>.nil
 | _,_,.cons n t h=>.cons ⟨t,rfl⟩ (nD h)
def A0 (H:Hp):Prop:=∀b,H b=none∨∃o xs,H b=some (.xu o (.lst xs))
theorem wL{P:Program}{w:World}{K:Fg06}{mg mb:Str→Option Value}{CX:qO}{k:Nat}{fa a:Addr}{fd:FuncData}{x:Str}{sp:Sp}{s₁:Shared}{vs:List Value}{ns:List Int}
  (KX:K.In s₁.heap) (Gg:s₁.heap.Ns mainGlobals mg) (hb:s₁.heap.Ns builtinsNs mb) (N3:∀x:Str,x≠"__name__"→mb x=bootBuiltins x) (hlim:s₁.heap.NoLimit) (hg:s₁.gens=#[])
  (ha:s₁.heap.get? a=some { cls:=.type "list",data:=.seq vs.toArray }) (hi:IntsAre vs ns) (hl:ns.length≤sizeLine) (hr:dE k callerA)
  (F:∀base:Heap,K.In base→base.Ns mainGlobals mg→bO P w K mg base CX k fa fd [x] sp) (hbind:∀(s:Shared) (u:Value),BindsTo s fd ⟨[u],[]⟩ [(x,u)])
  (Iz:∀H:Hp,A0 H→br K H a (ns.map V.int)→sp [.ref a] H (fun v _=>v=.bl true) fun _ _ _=>False)
  (PQ:∀H e s',CX [] H s₁ (fun _ _ _=>False) e s'→False):
  codeAny (model P w) callerA (.call (.ref fa) ⟨[.ref a],[]⟩) (fun r s'=>r=.ok (.ret (.bool true))∧OldK s₁.heap s'.heap∧s'.os=s₁.os∧AllBare s'.gens) s₁:=by
 have rv:=nD hi
 have lenV:=hi.length

 have core:∀H:Hp,A0 H→br K H a (ns.map V.int)→ji P w H s₁.heap→(∀b,H b≠none→b=a)→(H a≠none→K.lookup a=none)→
   codeAny (model P w) callerA (.call (.ref fa) ⟨[.ref a],[]⟩) (fun r s'=>r=.ok (.ret (.bool true))∧OldK s₁.heap s'.heap∧s'.os=s₁.os∧AllBare s'.gens) s₁:=by
  intro H hO hS bH hA hK
  have base_of:∀{b:Addr}{o:Obj},s₁.heap.get? b=some o→H b=none→(pB s₁.heap H).get? b=some o:=fun e n=>wR e n
  have noA:∀{b:Addr}{o:Obj}{es:Array DictEntry}{ep:Nat},s₁.heap.get? b=some o→o.data=.dict es ep→H b=none:=fun {b o es ep} e d=>by
   cases q:H b with
   | none=>rfl
   | some u=>
    have e':b=a:=hA b (by rw[q];simp)
    subst e'
    rw[ha] at e;cases e
    have d':Data.seq vs.toArray _=Data.dict es ep:=d
    cases d'
  have nsK:∀{b:Addr}{m:Str→Option Value},s₁.heap.Ns b m→(pB s₁.heap H).Ns b m:=fun {b m} ⟨o,es,ep,e,d,r⟩=>⟨o,es,ep,base_of e (noA e d),d,r⟩
  have RM:K.In (pB s₁.heap H):=fun b o e=>base_of (KX b o e) (by
   cases q:H b with
   | none=>rfl
   | some u=>
    have e':b=a:=hA b (by rw[q];simp)
    subst e'
    rw[hK (by rw[q];simp)] at e;cases e)
  have hM:Mod K mg (pB s₁.heap H):=⟨RM,nsK Gg,⟨mb,nsK hb,N3⟩,let ⟨mc,h1,h2⟩:=hlim;⟨mc,nsK h1,h2⟩⟩
  have e0:so P w K mg (pB s₁.heap H) callerA [] s₁ H:=⟨rfl,hM,fun b o e=>yM e,Nat.le_of_eq (uG _ _),trivial,fun b hb=>absurd (show b∈([]:List Addr) from hb) (by simp),bH,.of_eq hg⟩
  refine codeAny_mono ((F _ RM (nsK Gg)).run callerA [] s₁ H ⟨[.ref a],[]⟩ [.ref a] [.ref a] _ _ hr e0 (hbind s₁ (.ref a)) (.cons rfl .nil) (Iz H hO hS)) fun r s' h=>?_
  cases r with
  | error e=>exact(PQ H e s' h).elim
  | ok fl=>
   cases fl with
   | next=>exact False.elim h
   | brk=>exact False.elim h
   | cont=>exact False.elim h
   | ret u=>
    obtain⟨v,H',os,bare,un,hok',r',q⟩:=h
    have q':v=.bl true:=q
    subst q'
    obtain rfl:u=Value.bool true:=r'
    refine⟨rfl,OldK.of_keep fun b o e=>?_,os,bare⟩
    cases q:H b with
    | none=>exact un.keep b o e q (by intro z;exact absurd (show b∈([]:List Addr) from z) (by simp)) (by simp)
    | some u=>
     rcases hO b with z | ⟨ob,xs,z⟩
     ·rw[q] at z;cases z
     ·have z2:=un.j6 b ob _ z
      obtain⟨e1,_⟩:=bH b _ z
      obtain⟨e2,_⟩:=hok' b _ z2
      rw[e] at e1;cases e1
      exact e2
 cases hk:K.lookup a with
 | some o=>

  have e:=KX a o hk
  rw[ha] at e
  cases e
  refine core (fun _=>none) (fun _=>.inl rfl) (.inr ⟨_,vs.toArray,_,hk,rfl,rfl,rfl,by rw[List.size_toArray,lenV];exact hl,by simpa using rv⟩) (fun b u z=>by have z':(none:Option HO)=some u:=z;cases z') (fun b z=>absurd rfl z) fun z=>absurd rfl z
 | none=>
  refine core (fun b=>if b=a then some (.xu { cls:=.type "list",data:=.seq vs.toArray } (.lst (ns.map V.int))) else none) (fun b=>?_) (.inl (.inr ⟨{ cls:=.type "list",data:=.seq vs.toArray },CQ rfl⟩)) (fun b u z=>?_) (fun b z=>?_) fun _=>hk
  ·by_cases hb:b=a
   ·exact .inr ⟨_,_,CQ hb⟩
   ·exact .inl (CO hb)
  ·by_cases hb:b=a
   ·have z':=(CQ hb).symm.trans z
    cases z'
    subst hb
    exact⟨ha,by rw[CS];exact hl,vs,_,rv,ha⟩
   ·have z':=(CO hb).symm.trans z
    cases z'
  ·by_cases hb:b=a
   ·exact hb
   ·exact absurd (CO hb) z
end L2
namespace L2
open PySem PySem.Spec PyProof.Rows
abbrev KOf{K:Fg06}{h:Heap}(_:K.In h):Fg06:=K
theorem xD{l:PySem.W.OpenLaw}{n k:Nat}{q:Program}{loose:List Str}{XP:(Str→Option Value)→Heap→Prop}{YP:World→Heap→Prop}{d:DefRec}{K:Params→Fg06}{CX:World→qO}{sp:World→Sp}{x:Str}
  (hn:l.most=some n) (KJ:n≤sizeLine) (Gr:d.params.defaults=[]) (hr:dE k callerA)
  (hY:∀(w:World) (h:Heap),YP w h→(K w.params).In h)
  (F:∀(w:World) (mg:Str→Option Value) (fa:Addr) (h:Heap),(K w.params).In h→h.Ns mainGlobals mg→mg d.name=some (.ref fa)→
   ∃fd:FuncData,(∀(s:Shared) (u:Value),BindsTo s fd ⟨[u],[]⟩ [(x,u)])∧
    ∀base:Heap,(K w.params).In base→base.Ns mainGlobals mg→bO l.prog w (K w.params) mg base (CX w) k fa fd [x] (sp w))
  (Iz:∀(w:World) (H:Hp) (a:Addr) (ns:List Int),ns.length≤n→A0 H→br (K w.params) H a (ns.map V.int)→sp w [.ref a] H (fun v _=>v=.bl true) fun _ _ _=>False)
  (PQ:∀(w:World) (H:Hp) (s:Shared) (e:Value) (s':Shared),CX w [] H s (fun _ _ _=>False) e s'→False):
  PySem.W.WalkO q loose XP YP l.row.toRowW d [] (fun f vs=>PySem.call f vs):=by
 refine Att.qG hn Gr fun w s₀ s₁ mg mb fa o pm cd doc a vs ns G Y ho hd Ft Pf KC hints hlen hg=>?_
 have KX:=hY w _ Y
 obtain⟨fd,hb,hF⟩:=F w mg fa _ KX G.T.g Pf
 exact wL KX G.T.g G.T.b G.T.builtins G.T.nolimit hg KC hints (CZ hlen KJ) hr hF hb (fun H hO hS=>Iz w H a ns hlen hO hS) fun H e s'=>PQ w H s₁ e s'
end L2
namespace L2
open PySem PySem.Spec PyProof.Rows
def ef (s:Stmt):Arguments:=match s with
 | .FunctionDef _ a _ _ _ _ _ _ _ _=>a
 | _=>{ posonlyargs:=[],args:=[],vararg:=none,kwonlyargs:=[],kw_defaults:=[],kwarg:=none,defaults:=[] }
def dg (s:Stmt):List Stmt:=match s with
 | .FunctionDef _ _ b _ _ _ _ _ _ _=>b
 | _=>[]
def aE (s:Stmt):Scope:=match s with
 | .FunctionDef _ _ _ _ _ _ sc _ _ _=>sc
 | _=>{ kind:=.function,names:=[],isGenerator:=false,isCoroutine:=false }
abbrev fw:qO:=fun _ _ _ _ _ _=>False
abbrev E0:XK:=fun _ _ _=>False
theorem wa{X:Cx}:Passes fw X E0:=fun _ _ _ _ _ _ _ h=>h.elim
structure eX (K:Fg06) (x qual:Str) (st:Stmt) (f:Addr) (fd:FuncData):Prop where
 ex:∃(oc:Value) (od:Option Addr) (kV doc pm:Value) (an:Option Addr) (Si ct:Value) (osl:Array (Option Value)),
  fd=PySem.W.fnOf x qual (ef st) (dg st) (aE st) .none kV doc pm an Si ct∧K.lookup f=some ⟨oc,od,.func fd,osl⟩∧PySem.W.codeIn K Si qual=true
 kp:PySem.W.keepIn K (.ref f)=true
section
variable{P:Program}{w:World}{K:Fg06}{mg:Str→Option Value}{base:Heap}
theorem eX.ok{x qual:Str}{st:Stmt}{f:Addr}{fd:FuncData}{N ps:List Str}{k:Nat}{sp:Sp}(F:eX K x qual st f fd) (S:aW N ps (aE st)) (len:∀vs H Q E,sp vs H Q E→vs.length=ps.length)
  (Fo:∀(Si:Value) (A:Around) (outer:List Env) (s:Shared) (H:Hp) (vs:List V) (Q:VK) (E:XK),dE k (A.deeper (envOfC qual (aE st) s.heap.objs.size f Si))→sp vs H Q E→
   ∃t,pI (k8 fw P w K mg base N qual (aE st) f Si A outer s H E).Ba (dg st) t∧t { nx:=fun _ H'=>Q .aR H',rt:=Q } (start N vs) H):bO P w K mg base fw (k+1) f fd ps sp:=by
 obtain⟨oc,od,kV,doc,pm,an,Si,ct,osl,rfl,lk,Ft⟩:=F.ex
 refine zr lk Ft S len fun A outer s H vs Q E hr Iz=>?_
 obtain⟨t,h,q⟩:=Fo Si A outer s H vs Q E hr Iz
 exact⟨t,h.Ba,q⟩
theorem eX.binds{x qual:Str}{st:Stmt}{f:Addr}{fd:FuncData}{ps:List Str}(F:eX K x qual st f fd)
  (h:∀(kV doc pm:Value) (an:Option Addr) (Si ct:Value) (us:List Value),us.length=ps.length→bindArgs (PySem.W.fnOf x qual (ef st) (dg st) (aE st) .none kV doc pm an Si ct) ⟨us,[]⟩=pure (ps.zip us)):Binds K fd ps []:=by
 obtain⟨oc,od,kV,doc,pm,an,Si,ct,osl,rfl,lk,Ft⟩:=F.ex
 exact .all (h kV doc pm an Si ct)
theorem mK{x qual:Str}{st:Stmt}{f:Addr}{oc:Value}{od an:Option Addr}{osl:Array (Option Value)}{kV doc pm Si ct:Value}(l:K.lookup f=some ⟨oc,od,.func (PySem.W.fnOf x qual (ef st) (dg st) (aE st) .none kV doc pm an Si ct),osl⟩)
  (c:PySem.W.codeIn K Si qual=true) (k:PySem.W.keepIn K (.ref f)=true):eX K x qual st f (PySem.W.fnOf x qual (ef st) (dg st) (aE st) .none kV doc pm an Si ct):=⟨⟨oc,od,kV,doc,pm,an,Si,ct,osl,rfl,l,c⟩,k⟩
end
theorem mI{A:Around}{k:Nat}(hr:dE k A):A.units+1 < cLine:=Nat.lt_of_le_of_lt (Nat.add_le_add_left (by decide:1≤64) _) hr.units
theorem nK{n:Nat}(h:n≤1000):n < sizeLine:=Nat.lt_of_le_of_lt h (by decide)
section
variable{X:Cx}
theorem pv (i:Nat){x:Str}{pos:Pos}(hN:X.N[i]?=some x:=by rfl) (hv:Vis X.env.scope x:=by first | exact Or.inl rfl | exact Or.inr (Or.inl rfl) | exact Or.inr (Or.inr rfl)) (hd:(x == ("__debug__":Str))=false:=by decide)
  (Ft:(x == ("__classdict__":Str))=false:=by decide):PE X (.Name x pos) (fi i):=Af hN hv hd Ft
end
theorem bg{A B:Prop}(h:B):if false=true then A else B:=by
 rw[CO CU]
 exact h
theorem bJ{A B:Prop}(h:A):if true=true then A else B:=by
 rw[CQ rfl]
 exact h
def az (H H':Hp):Prop:=∀b o,H b=some o→H' b=some o
theorem az.refl (H:Hp):az H H:=fun _ _ h=>h
theorem az.trans{H H1 H2:Hp}(a:az H H1) (b:az H1 H2):az H H2:=fun c o h=>b c o (a c o h)
theorem az.seq{K:Fg06}{H H':Hp}{a:Addr}{xs:List V}(e:az H H') (h:br K H a xs):br K H' a xs:=by
 rcases h with (h | ⟨o,h⟩) | h
 ·exact .inl (.inl (e _ _ h))
 ·exact .inl (.inr ⟨o,e _ _ h⟩)
 ·exact .inr h
end L2
namespace GS
end GS
set_option maxHeartbeats 4000000
namespace L2
open PySem PySem.Spec PyProof.Rows PySem.Builtin PySem.Builtin.Str
section
variable{X:Cx}
end
end L2
namespace PySem
section
variable{prog:Program}{w:World}{A:Around}{E:Value→Shared→Prop}{R:Result→Shared→Prop}{s:Shared}
theorem qB{elt target iter:Expr}{scope:Scope}{pos:Pos}{it acc:Value}{env:Env}(I:Nat→Shared→Prop)
  (turn:∀n s,I n s→wpAny (model prog w) A (pyNext it) (fun r s₁=>match r with
   | none=>R (.ok .next) s₁
   | some v=>wpAny (model prog w) A (letOwnedTupleGo target it v) (fun _ s₂=>wpAny (model prog w) A (assign target env v) (fun _ s₃=>
     wpAny (model prog w) A (eval elt env) (fun x s₄=>
       wpAny (model prog w) A (call (.builtin "list.append") [acc,x]) (fun _ s₅=>∃m,m < n∧I m s₅) (notedBy (model prog w) A env fun e s'=>R (.error e) s') s₄) (notedBy (model prog w) A env fun e s'=>R (.error e) s') s₃) (notedBy (model prog w) A env fun e s'=>R (.error e) s') s₂) (notedBy (model prog w) A env fun e s'=>R (.error e) s') s₁) (notedBy (model prog w) A env fun e s'=>R (.error e) s') s)
  (n:Nat) (h:I n s):
  codeAny (model prog w) A (.compLoop (.ListComp elt [⟨target,iter,[],0⟩] scope pos) 0 it acc env) R s:=by
 refine codeAny_loop rfl I (fun n s hI=>?_) n h
 show wpAny _ A ((compTurn (.ListComp elt [⟨target,iter,[],0⟩] scope pos) 0 it acc env).onRaise (fun x=>do noteFrame x env;theTreesLotGoes x)) _ _ s
 refine wpAny_noted ?_
 rw[compTurn_list]
 refine CG (wpAny_standAt (CG (wpAny_mono (turn n s hI) (fun r s₁ h₁=>?_) fun _ _ h'=>h')))
 cases r with
 | none=>exact CH h₁
 | some v=>
  refine CG (wpAny_mono h₁ (fun _ s₂ h₂=>CG (wpAny_mono h₂ (fun _ s₃ h₃=>?_) fun _ _ h'=>h')) fun _ _ h'=>h')
  refine CG (wpAny_tests_nil ?_)
  exact CG (CG (wpAny_mono h₃ (fun x s₄ h₄=>CG (wpAny_mono h₄ (fun _ s₅ h₅=>CH (CH ⟨rfl,h₅⟩)) fun _ _ h'=>h')) fun _ _ h'=>h'))
end
end PySem
namespace L2
open PySem PySem.Spec PyProof.Rows PySem.Builtin PySem.Builtin.Str
section
variable{X:Cx}{tg:Expr}
end
def jm (X:Cx) (scope:Scope) (cl:List (Str×Addr)) (C:Addr) (N':List Str) (s0:Shared) (H0:Hp) (fp:List Addr):Cx:=
 { X with N:=N',s₀:=s0,H₀:=H0,env:=compEnvC scope cl C X.env,outer:=X.stack,stack:=X.stack,ex:=fp,fn:=fun _=>false,pn:=[],xe:=fun _ _=>False }
def qC (js:List Nat) (te:TE) (σ:St) (Q:VK) (J:It) (H1:Hp):Prop:=∃vs:List V,(vs.length=js.length∧∀(j i:Nat),js[j]?=some i→∃v,vs[j]?=some v∧σ[i]?=some (some v))∧
 ∀D,H1 D=none→∃W:Nat→Nat→List V→Hp→Prop,(∃m,W 0 m [] (upd H1 D (.lst [])))∧∀i m ys H,W i m ys H→
  (J.stop i H∧Q (.ref D) H)∨(J.go i H∧∀x H',J.pK i H x H'→te (some x::vs.map some) H' fun v H2=>H2 D=some (.lst ys)∧ys.length < sizeLine∧∃m',m' < m∧W (i+1) m' (ys++[v]) (upd H2 D (.lst (ys++[v]))))
def ze (js:List Nat) (wi:TI) (te:TE):TE:=fun σ H Q=>wi σ H (qC js te σ Q)
structure sr (X:Cx) (scope:Scope) (cl:List (Str×Addr)) (x:Str) (Nf:List Str) (js:List Nat):Prop where
 yW:closureFor scope X.env=pure cl
 cell:∀y∈scope.names,y.2≠.cell
 kind:scope.kind=.function
 names:∀y∈scope.names,y.2=.local→scope.names.lookup y.1=some .local
 hx:scope.names.lookup x=some .local
 sub:∀y c,cl.lookup y=some c→X.env.cells.lookup y=some c
 has:∀y,((relabel scope X.env).names.lookup y=some .cell∨(relabel scope X.env).names.lookup y=some .free)→∃c,cl.lookup y=some c
 nd:(x::Nf).Nodup
 len:js.length=Nf.length
 frees:∀(j:Nat) (y:Str),Nf[j]?=some y→∃i,js[j]?=some i∧X.N[i]?=some y∧X.env.scope.names.lookup y=some .cell∧((relabel scope X.env).names.lookup y=some .cell∨(relabel scope X.env).names.lookup y=some .free)
section
variable{X:Cx}
theorem uR{Sb:List (Addr×Obj)}{σ:St}{H:Hp}{s:Shared}{scope:Scope}{cl:List (Str×Addr)}{x:Str}{Nf:List Str}{js:List Nat}{vs:List V}{fp:List Addr}{h1:Heap}{tk:Nat}{m:Str→Option Value}
  (K:sr X scope cl x Nf js) (I:Inv X Sb σ H s) (GU:vs.length=js.length) (Fv:∀(j i:Nat),js[j]?=some i→∃v,vs[j]?=some v∧σ[i]?=some (some v))
  (hf:∀b∈fp,i8 X Sb H b) (Ex:∀b∈fp,b < s.heap.objs.size) (ns:h1.Ns s.heap.objs.size m) (keep:∀b o,s.heap.get? b=some o→h1.get? b=some o):
  Inv (jm X scope cl s.heap.objs.size (x::Nf) s H fp) [] (none::vs.map some) H { s with heap:=h1,toks:=tk }:=by
 refine⟨⟨I.ok.mod,K.kind,I.ok.glob,I.ok.blt,CN _,fun y z c e1 e2=>I.ok.inj y z c (K.sub y c e1) (K.sub z c e2),fun y hy=>K.has y hy,fun y c e _=>(Bool.noConfusion (show false=true from e)),I.ok.hd,I.ok.frames,.inl rfl,
  fun b hb=>⟨Dc (Ex b hb),fun y c e=>(hf b hb).2.2.2.2.1 y c (K.sub y c e)⟩,I.bs,CZ I.ok.sj I.sz,fun b o e hb=>?_,fun b hb z=>?_,I.stack,I.jL⟩,
  rfl,I.bare,Un.kept keep,⟨m,ns,fun i y v e1 e2 e3=>?_⟩,fun y c e=>?_,I.bH.fresh (CN _),fun y c e=>I.fJ y c (K.sub y c e),fun p hp=>absurd (show p∈([]:List (Addr×Obj)) from hp) (by simp),I.bH.kept keep,?_⟩
 ·rcases(hf b hb).2.2.2.1 with z | z
  ·exact I.ok.pk b o e z
  ·exact absurd (CT (Heap.lt_size e) (CZ I.ok.sj z)) (C7 _)
 ·rcases List.mem_cons.mp (I.jr b z) with e | e
  ·exact(hf b hb).2.1 e
  ·exact(hf b hb).2.2.1 e
 ·cases i with
  | zero=>simp at e2
  | succ j=>
   have Qm:Nf[j]?=some y:=e1
   obtain⟨i0,hj,hN,hk,hr⟩:=K.frees j y Qm
   obtain⟨v',GV,JN⟩:=Fv j i0 hj
   have ev:v=v':=by
    have Nz:(vs.map some)[j]?=some (some v):=e2
    rw[List.getElem?_map,GV] at Nz
    simpa using Nz.symm
   subst ev
   obtain⟨m0,Hn,hl⟩:=I.loc
   obtain⟨u,r,l⟩:=hl i0 y v hN JN (.inr (.inl hk))
   refine⟨u,r,?_⟩
   rcases l with ⟨l1,_⟩ | ⟨_,c,hc,o,ho,hd⟩
   ·have L0:X.env.scope.names.lookup y=some .local:=l1
    rw[hk] at L0;cases L0
   ·obtain⟨c',EH⟩:=K.has y hr
    have ec:=K.sub y c' EH
    rw[hc] at ec;cases ec
    exact .inr ⟨hr,c,EH,o,keep c o ho,hd⟩
 ·obtain⟨v,o,ho,hd⟩:=I.cell y c (K.sub y c e)
  exact⟨v,o,keep c o ho,hd⟩
 ·show(none::vs.map some).length=(x::Nf).length
  rw[CY,CY,CS,GU,K.len]
theorem cU{elt iter:Expr}{x:Str}{px pos:Pos}{scope:Scope}{cl:List (Str×Addr)}{Nf:List Str}{js:List Nat}{wi:TI}{te:TE}(K:sr X scope cl x Nf js) (hc:X.calm=true) (hi:PI X (.Name x px) iter wi)
  (he:∀C s0 H0 fp,PE (jm X scope cl C (x::Nf) s0 H0 fp) elt te) (hs:∀x,foldedSetIterable iter X.env x=pure x:=by intro _;rfl):
  PE X (.ListComp elt [⟨.Name x px,iter,[],0⟩] scope pos) (ze js wi te):=by
 intro Sb s σ H Q I h
 rw[eval_ListComp]
 refine wpAny_comprehension_free (use:=none) rfl hs K.yW K.kind K.names (cx (hi Sb s σ H _ I h) fun v s1 h1=>cx h1 fun itv s2 h2=>?_)
 obtain⟨it,fp,tn,J,H2,e,I2,T,Ir,f2,vs,⟨GU,Fv⟩,hW⟩:=h2
 subst e
 have hD:H2 s2.heap.objs.size=none:=I2.bH.fresh (CN _)
 obtain⟨W,⟨m0,w0⟩,turn⟩:=hW s2.heap.objs.size hD
 have HW:∀b∈fp,b < s2.heap.objs.size:=fun b hb=>let ⟨o,e,_⟩:=T.obj _ _ Ir b hb;Heap.lt_size e
 refine wpAny_newObj_type (wpAny_newFunctionEnv K.cell (by intro y hy;simp at hy) (fun h₁ Gg₁ F0₁=>?_) K.kind)
 dsimp only at Gg₁ F0₁ ⊢
 generalize JV:s2.heap.push { cls:=.type "list",dict:=none,data:=.seq ([]:List Value).toArray }=P3 at Gg₁ F0₁ ⊢
 obtain⟨s3,HL⟩:∃s3:Shared,s3={ s2 with heap:=P3 }:=⟨_,rfl⟩
 have eP:P3=s3.heap:=by rw[HL]
 rw[eP] at Gg₁ F0₁ ⊢
 have I3:Inv X Sb σ (upd H2 s2.heap.objs.size (.lst [])) s3:=by
  rw[HL,←JV]
  exact I2.laid (t':=s2.toks) (fun b u e=>CL _ e) (CN _) ⟨Nat.zero_le _,[],0,.nil,Heap.get?_push_size _ rfl⟩
 have keep23:∀b o,s2.heap.get? b=some o→s3.heap.get? b=some o:=fun b o e=>by rw[←eP,←JV];exact CL _ e
 have f3:∀b∈fp,i8 X Sb (upd H2 s2.heap.objs.size (.lst [])) b:=fun b hb=>⟨by rw[aF (Dc (HW b hb))];exact(f2 b hb).1,(f2 b hb).2⟩
 have HB:tn 0 s3.heap:=T.keep _ _ _ Ir fun b hb o e=>keep23 b o e
 have Gi:∀b∈fp,b < s3.heap.objs.size:=fun b hb=>let ⟨o,e,_⟩:=T.obj _ _ HB b hb;Heap.lt_size e
 have keep34:∀b o,s3.heap.get? b=some o→h₁.get? b=some o:=fun b o e=>F0₁.extBut b o (Dc (Heap.lt_size e)) (CL _ e)
 have Iq:tn 0 h₁:=T.keep _ _ _ HB fun b hb o e=>keep34 b o e
 have J7:∀b∈fp,upd H2 s2.heap.objs.size (.lst []) b=none:=fun b hb=>(f3 b hb).1
 have stat:∀{H':Hp},(∀b∈fp,H' b=none)→∀b∈fp,i8 (jm X scope cl s3.heap.objs.size (x::Nf) s3 (upd H2 s2.heap.objs.size (.lst [])) fp) [] H' b:=fun {H'} hn b hb=>by
  refine⟨hn b hb,Dc (Gi b hb),fun z=>?_,.inl hb,fun y c e=>(f3 b hb).2.2.2.2.1 y c (K.sub y c e),fun p hp=>absurd (show p∈([]:List (Addr×Obj)) from hp) (by simp)⟩
  rcases List.mem_cons.mp (I3.jr b z) with e | e
  ·exact(f3 b hb).2.1 e
  ·exact(f3 b hb).2.2.1 e
 have fin:∀{σ':St}{H':Hp}{s':Shared},Inv (jm X scope cl s3.heap.objs.size (x::Nf) s3 (upd H2 s2.heap.objs.size (.lst [])) fp) [] σ' H' s'→Q (.ref s2.heap.objs.size) H'→
   compPost (model X.prog X.w) X.A X.xe none (EP X Sb σ Q) (.ref s2.heap.objs.size) s3.heap.objs.size (.ok .next) s':=fun {σ' H' s'} J q=>by
  obtain⟨m,hn,_⟩:=J.loc
  refine⟨m,hn,fun h' Ga=>⟨.ref s2.heap.objs.size,H',?_,rfl,q⟩⟩
  have ne:∀b o,s3.heap.get? b=some o→b≠s3.heap.objs.size:=fun b o e=>Dc (Heap.lt_size e)
  have nC:∀b u,H' b=some u→b≠s3.heap.objs.size:=fun b u e z=>by
   have f:=J.free
   rw[z] at e
   have f':H' s3.heap.objs.size=none:=f
   rw[f'] at e;cases e
  have B:=J.base
  refine I3.qE (ch:=fp) (s':={ s' with heap:=h' }) J.os ?_ (fun b u e=>(J.bH b u e).lQ (fun c v hc q=>Ga.extBut c v ?_ q) (fun _ q=>q) fun _ _ q=>q) J.bare fun b hb=>⟨(f3 b hb).2.2.2.1,(f3 b hb).2.1,(f3 b hb).2.2.2.2.1,(f3 b hb).2.2.2.2.2⟩
  ·exact⟨fun b o e n hb hx=>Ga.extBut b o (ne b o e) (B.keep b o e n hb hx),fun b o e n hb hx=>let ⟨sl,z⟩:=B.slot b o e n hb hx;⟨sl,Ga.extBut b _ (ne b o e) z⟩,fun b o e n hx=>B.free b o e n hx,
    fun b o e hx=>let ⟨o',z⟩:=B.there b o e hx;⟨o',Ga.extBut b _ (ne b o e) z⟩,B.ki,B.j6,B.ko⟩
  ·rcases hc with z | z
   ·rw[z];exact nC b u e
   ·exact nC c _ z
 have loop:∀s4:Shared,s4={ s3 with heap:=h₁,toks:=s3.toks+([]:List (Str×Value)).length }→
   codeAny (model X.prog X.w) X.A (.compLoop (.ListComp elt [⟨.Name x px,iter,[],0⟩] scope pos) 0 (.ref it) (.ref s2.heap.objs.size) (compEnvC scope cl s3.heap.objs.size X.env))
    (compPost (model X.prog X.w) X.A X.xe none (EP X Sb σ Q) (.ref s2.heap.objs.size) s3.heap.objs.size) s4:=by
  rintro s4 rfl
  have I4:=uR (x:=x) (tk:=s3.toks+([]:List (Str×Value)).length) K I3 GU Fv f3 Gi Gg₁ keep34
  refine qB (fun n s'=>∃i ox ys H',Inv (jm X scope cl s3.heap.objs.size (x::Nf) s3 (upd H2 s2.heap.objs.size (.lst [])) fp) [] (ox::vs.map some) H' s'∧tn i s'.heap∧(∀b∈fp,H' b=none)∧W i n ys H') ?_ m0 ⟨0,none,[],_,I4,Iq,J7,w0⟩
  rintro n s5 ⟨i,ox,ys,H5,I5,Hs,IK,w5⟩
  rcases turn i n ys H5 w5 with ⟨stop,qn⟩ | ⟨go,step⟩
  ·refine wpAny_mono (T.done (jm X scope cl s3.heap.objs.size (x::Nf) s3 (upd H2 s2.heap.objs.size (.lst [])) fp) rfl rfl rfl hc i [] s5 _ H5 _ I5 (stat IK) Hs stop) (fun r s6 ⟨hr,I6⟩=>?_) fun _ _ z=>z
   subst hr
   exact fin I6 qn
  ·refine wpAny_mono (T.item (jm X scope cl s3.heap.objs.size (x::Nf) s3 (upd H2 s2.heap.objs.size (.lst [])) fp) rfl rfl rfl hc i [] s5 _ H5 _ I5 (stat IK) Hs go) (fun r s6 ⟨u,hr,h6⟩=>?_) fun _ _ z=>z
   subst hr
   refine wpAny_mono h6 (fun _ s7 ⟨x7,H7,I7,r7,y7,HA,Nv⟩=>?_) fun _ _ z=>z
   have ND:=I7.pinned (stat Nv) (T.obj _ _ HA)
   have GR:(relabel scope X.env).names.lookup x=some .local:=lookup_relabel_local K.hx
   refine wpAny_mono (aL (X:=jm X scope cl s3.heap.objs.size (x::Nf) s3 (upd H2 s2.heap.objs.size (.lst [])) fp) (pos:=px) (i:=0) K.nd rfl (.inl GR) (.inr GR) _ s7 _ H7 x7 u (fun σ' H'=>σ'=some x7::vs.map some∧te σ' H' _) ND r7 ⟨rfl,step x7 H7 y7⟩)
    (fun _ s8 ⟨σ8,H8,I8,e8,q8⟩=>?_) fun _ _ z=>False.elim z
   subst e8
   refine wpAny_mono (he s3.heap.objs.size s3 _ fp _ s8 _ H8 _ I8 q8) (fun v9 s9 ⟨v,H9,I9,r9,M5,L6,m',Ho,w9⟩=>?_) fun _ _ z=>False.elim z
   refine wpAny_mono (bA (X:=jm X scope cl s3.heap.objs.size (x::Nf) s3 (upd H2 s2.heap.objs.size (.lst [])) fp) _ s9 _ H9 (.ref s2.heap.objs.size) [v] (.ref s2.heap.objs.size) [v9] (fun _ H'=>H'=upd H9 s2.heap.objs.size (.lst (ys++[v]))) I9 rfl (.cons r9 .nil) ⟨_,ys,v,rfl,rfl,M5,L6,rfl⟩)
    (fun _ EU ⟨_,FF,GK,_,NA⟩=>?_) fun _ _ z=>False.elim z
   subst NA
   refine⟨m',Ho,i+1,some x7,ys++[v],_,GK.gM,T.keep _ _ _ HA fun b hb o e=>(GK.pin (b,o) (Dh _ (Dh _ (eG hb e)))).1,fun b hb=>?_,w9⟩
   obtain⟨o,e,d⟩:=T.obj _ _ HA b hb
   exact(GK.pin (b,o) (Dh _ (Dh _ (eG hb e)))).2.1
 have e4:({ s2 with heap:=h₁,toks:=s2.toks+([]:List (Str×Value)).length }:Shared)={ s3 with heap:=h₁,toks:=s3.toks+([]:List (Str×Value)).length }:=by rw[HL]
 rw[e4]
 exact codeAny_compStart_list (loop _ rfl) (T.self _ 0 _ _ _ Iq (loop _ rfl))
end
end L2
namespace L2
open PySem PySem.Spec PyProof.Rows PySem.Builtin PySem.Builtin.Str
section
variable{X:Cx}
theorem lI:∀{bs:List Bool}{us:List Value},Vals (bs.map V.bl) us→us=bs.map Value.bool
 | [],_,.nil=>rfl
 | b::bs,_,.cons r rr=>by
  have e:_=Value.bool b:=r
  rw[e,lI rr];rfl
theorem Inv.big{Sb:List (Addr×Obj)}{σ:St}{H:Hp}{s:Shared}(I:Inv X Sb σ H s):sysModules < s.heap.objs.size:=by
 have h:mainGlobals < s.heap.objs.size:=(I.mod.glob.keeps I.bk).lt
 exact Nat.lt_trans (by decide) h
theorem wZ{P:Program}{w:World}{H:Hp}(h:Heap) (hb:sysModules < h.objs.size):dG P w H (h.push { cls:=.type "dict",data:=.dict #[] }) h.objs.size (.dK []):=
 ⟨Nat.zero_le _,beq_eq_false_iff_ne.mpr (Ne.symm (Dc hb)),[],.nil,Heap.DictOf.new h⟩
end
end L2
namespace GS
open PySem L2 PyProof.Rows
structure Def (P:Program) (w:World) (K:Fg06) (mg:Str→Option Value) (base:Heap) (name:Str) (ps:List Str) (k:Nat) (sp:Sp):Prop where
 ex:∃(f:Addr) (fd:FuncData),mg name=some (.ref f)∧PySem.W.keepIn K (.ref f)=true∧Binds K fd ps []∧bO P w K mg base fw k f fd ps sp
theorem aK{X:Cx}{name:Str}{ps:List Str}{k k':Nat}{sp:Sp}{e:Expr}{es:List Expr}{t:TA}{p pos:Pos}(F:Def X.prog X.w X.K X.mg X.base name ps k sp) (hr:dE k' X.A) (hk:k≤k') (hg:Gl X name) (ha:PA X (e::es) t)
  (E9:(name == ("__debug__":Str))=false:=by decide) (he:starEach (e::es) X.env=(false,eval e X.env)::starEach es X.env:=by rfl) (Ez:(backTo pos (starEach es X.env)).any (·.1)=false:=by rfl):
  PE X (.Call (.Name name p) (e::es) [] pos) (lP sp [] E0 t):=by
 obtain⟨f,fd,h1,h2,h3,h4⟩:=F.ex
 exact tu (h4.mono hk) hr hg h1 h2 h3 .nil wa ha E9 he Ez
theorem bu{P:Program}{w:World}{K:Fg06}{mg:Str→Option Value}{base:Heap}{name:Str}{ps:List Str}{k:Nat}{sp:Sp}{st:Stmt}{f:Addr}{fd:FuncData}(F:eX K name name st f fd) (hm:mg name=some (.ref f)) (hb:Binds K fd ps []) (h:bO P w K mg base fw k f fd ps sp):
  Def P w K mg base name ps k sp:=⟨f,fd,hm,F.kp,hb,h⟩
theorem af{H:Hp}{p:Addr}(h:H p=none) (o:HO):az H (upd H p o):=fun b u q=>by rw[aF (cC q h)];exact q
theorem small{n:Nat}(h:n≤1000000):n≤sizeLine:=by rw[sizeLine_eq];omega
end GS
namespace L3
open PySem PySem.Spec PyProof.Rows L2
@[irreducible] def LE (X:Cx) (e:Expr) (t:TE):Prop:=PE X e t
@[irreducible] def LT (X:Cx) (e:Expr) (t:TT):Prop:=PT X e t
@[irreducible] def LW (X:Cx) (e:Expr) (t:TT):Prop:=PW X e t
@[irreducible] def LA (X:Cx) (es:List Expr) (t:TA):Prop:=PA X es t
@[irreducible] def LO (X:Cx) (e:Option Expr) (t:TO):Prop:=PO X e t
@[irreducible] def LG (X:Cx) (e:Expr) (t:TG):Prop:=PG X e t
@[irreducible] def xA (X:Cx) (es:List Expr) (t:yY):Prop:=AZ X es t
@[irreducible] def LI (X:Cx) (tg e:Expr) (t:TI):Prop:=PI X tg e t
@[irreducible] def LS (X:Cx) (st:Stmt) (t:TS):Prop:=PS X st t
@[irreducible] def pJ (X:Cx) (st:List Stmt) (t:TS):Prop:=pI X st t
section
variable{X:Cx}{e a b c o tg:Expr}{es rest:List Expr}{oe lo hi:Option Expr}{st:Stmt}{sts:List Stmt}{te ta tb to:TE}{tA tB' tc:TT}{tl th:TO}{t:TA}{ts us:TS}{GN:TG}{tgs:yY}{wi:TI}{pos p p2 apos cpos:Pos}
theorem LE.mk (h:PE X e te):LE X e te:=by unfold LE;exact h
theorem LE.out (h:LE X e te):PE X e te:=by unfold LE at h;exact h
theorem LT.mk (h:PT X e tA):LT X e tA:=by unfold LT;exact h
theorem LT.out (h:LT X e tA):PT X e tA:=by unfold LT at h;exact h
theorem LW.mk (h:PW X e tA):LW X e tA:=by unfold LW;exact h
theorem LW.out (h:LW X e tA):PW X e tA:=by unfold LW at h;exact h
theorem LA.mk (h:PA X es t):LA X es t:=by unfold LA;exact h
theorem LA.out (h:LA X es t):PA X es t:=by unfold LA at h;exact h
theorem LO.mk (h:PO X oe tl):LO X oe tl:=by unfold LO;exact h
theorem LO.out (h:LO X oe tl):PO X oe tl:=by unfold LO at h;exact h
theorem LG.mk (h:PG X e GN):LG X e GN:=by unfold LG;exact h
theorem LG.out (h:LG X e GN):PG X e GN:=by unfold LG at h;exact h
theorem xA.mk (h:AZ X es tgs):xA X es tgs:=by unfold xA;exact h
theorem xA.out (h:xA X es tgs):AZ X es tgs:=by unfold xA at h;exact h
theorem LI.mk (h:PI X tg e wi):LI X tg e wi:=by unfold LI;exact h
theorem LI.out (h:LI X tg e wi):PI X tg e wi:=by unfold LI at h;exact h
theorem LS.mk (h:PS X st ts):LS X st ts:=by unfold LS;exact h
theorem LS.out (h:LS X st ts):PS X st ts:=by unfold LS at h;exact h
theorem pJ.mk (h:pI X sts ts):pJ X sts ts:=by unfold pJ;exact h
theorem pJ.out (h:pJ X sts ts):pI X sts ts:=by unfold pJ at h;exact h
theorem ak{i:Int}{j:Nat}:LE X (.Constant (.int i) j pos) (tC (.int i)):=.mk L2.ak
theorem cn{b:Bool}{j:Nat}:LE X (.Constant (.bool b) j pos) (tC (.bl b)):=.mk L2.cn
theorem bj{j:Nat}:LE X (.Constant .none j pos) (tC .aR):=.mk L2.bj
theorem aq{x:Str}{j:Nat}:LE X (.Constant (.str x) j pos) (tC (.str x)):=.mk L2.aq
theorem pv (i:Nat){x:Str}(hN:X.N[i]?=some x:=by rfl) (hv:Vis X.env.scope x:=by first | exact Or.inl rfl | exact Or.inr (Or.inl rfl) | exact Or.inr (Or.inr rfl)) (hd:(x == ("__debug__":Str))=false:=by decide)
  (Ft:(x == ("__classdict__":Str))=false:=by decide):LE X (.Name x pos) (fi i):=.mk (L2.pv i hN hv hd Ft)
theorem cZ{x:Str}{v:V}{u:Value}(hg:Gl X x) (hm:X.mg x=none) (hv:bootBuiltins x=some u) (r:RelV v u) (hn:x≠"__name__":=by decide) (hd:(x == ("__debug__":Str))=false:=by decide):LE X (.Name x pos) (tC v):=.mk (L2.cZ hg hm hv r hn hd)
theorem ay{op:Operator}{r:R2}(ho:i7 X (binaryOp op) r) (ha:LE X a ta) (hb:LE X b tb):LE X (.BinOp a op b pos) (nc r ta tb):=.mk (L2.ay ho ha.out hb.out)
theorem fQ{op:UnaryOp}{r:V→Hp→VK→Prop}(ho:UnR X (unaryOp op) r) (ha:LE X a ta):LE X (.UnaryOp op a pos) (tUn r ta):=.mk (L2.fQ ho ha.out)
theorem bZ{op:CmpOp}{r:R2}(ho:i7 X (compareOp op) r) (ha:LE X a ta) (hb:LE X b tb) (hm:behindInMarks op b=false):LE X (.Compare a [op] [b] pos) (nc r ta tb):=.mk (L2.bZ ho ha.out hb.out hm)
theorem dw{op:BoolOp}(h:LE X a te):LE X (.BoolOp op [a] pos) te:=.mk (L2.dw h.out)
theorem dY (ha:LE X a ta) (hb:LE X (.BoolOp .And (b::rest) pos) tb):LE X (.BoolOp .And (a::b::rest) pos) (zf ta tb):=.mk (L2.dY ha.out hb.out)
theorem fR (ha:LE X a ta) (hb:LE X (.BoolOp .Or (b::rest) pos) tb):LE X (.BoolOp .Or (a::b::rest) pos) (Bt ta tb):=.mk (L2.fR ha.out hb.out)
theorem b9 (hc:LT X c tA) (ha:LE X a ta) (hb:LE X b tb):LE X (.IfExp c a b pos) (tIf tA ta tb):=.mk (L2.b9 hc.out ha.out hb.out)
theorem bC{r:R2}(hr:Bg X r) (ha:LE X a ta) (hb:LE X b tb) (hs:tV b):LE X (.Subscript a b pos) (nc r ta tb):=.mk (L2.bC hr ha.out hb.out hs)
theorem cI:LO X none sD:=.mk L2.cI
theorem cH (h:LE X e te):LO X (some e) (y4 te):=.mk (L2.cH h.out)
theorem cm{r:V→Option Int→Option Int→Hp→VK→Prop}(hr:Be X r) (he:LE X e te) (hl:LO X lo tl) (hu:LO X hi th):LE X (.Subscript e (.Slice lo hi none p2) pos) (tSl r te tl th):=.mk (L2.cm hr he.out hl.out hu.out)
theorem ae:LA X [] gJ:=.mk L2.ae
theorem aa (ha:LE X e te) (hr:LA X es t) (hs:starEach (e::es) X.env=(false,eval e X.env)::starEach es X.env:=by rfl):LA X (e::es) (cL te t):=.mk (L2.aa ha.out hr.out hs)
theorem aI (h:LA X es t):LE X (.List es pos) (xJ t):=.mk (L2.aI h.out)
theorem aw{k:Nat}(h:LA X es t):LE X (.Tuple es k pos) (lN t):=.mk (L2.aw h.out)
theorem bG{x:Str}{id:String}{r:List V→Hp→VK→Prop}(hc:i9 X (.builtin id) r) (hg:Gl X x) (hm:X.mg x=none) (hv:bootBuiltins x=some (.builtin id)) (ha:LA X (e::es) t) (hn:x≠"__name__":=by decide) (E9:(x == ("__debug__":Str))=false:=by decide)
  (he:starEach (e::es) X.env=(false,eval e X.env)::starEach es X.env:=by rfl) (Ez:(backTo pos (starEach es X.env)).any (·.1)=false:=by rfl):LE X (.Call (.Name x p) (e::es) [] pos) (tCB r t):=.mk (L2.bG hc hg hm hv ha.out hn E9 he Ez)
theorem aV{x:Str}{T:String}{r:List V→Hp→VK→Prop}(hc:i9 X (.type T) r) (hg:Gl X x) (hm:X.mg x=none) (hv:bootBuiltins x=some (.type T)) (ha:LA X (e::es) t) (hn:x≠"__name__":=by decide) (E9:(x == ("__debug__":Str))=false:=by decide)
  (he:starEach (e::es) X.env=(false,eval e X.env)::starEach es X.env:=by rfl) (Ez:(backTo pos (starEach es X.env)).any (·.1)=false:=by rfl):LE X (.Call (.Name x p) (e::es) [] pos) (tCB r t):=.mk (L2.aV hc hg hm hv ha.out hn E9 he Ez)
theorem cj{T id:String}{name:Str}{r:V→List V→Hp→VK→Prop}(pa:PlainAttrs T) (slot:Slot T name id) (Iw:typeOf (.builtin id)=pure (.type "method_descriptor")) (hm:MtR X id r) (ho:LE X o to) (ha:LA X (e::es) t)
  (EJ:attributeBase o name X.env (eval o X.env)=eval o X.env:=by rfl)
  (Ic:((backTo cpos (starEach (e::es) X.env)).all (fun x=>!x.1)&&(backToKw cpos (keywordEach [] X.env)).all (fun x=>x.1.isSome)
   &&decide ((e::es).length+([]:List Keyword).length+(if([]:List Keyword).isEmpty then 0 else 1) < 30))=true:=by rfl)
  (EZ:(apos.endLine == cpos.line)=true:=by rfl) (hs:starEach (e::es) X.env=(false,eval e X.env)::starEach es X.env:=by rfl) (Fm:(backTo cpos (starEach es X.env)).any (·.1)=false:=by rfl):
  LE X (.Call (.Attribute o name apos) (e::es) [] cpos) (A8 X.K T r to t):=.mk (L2.cj pa slot Iw hm ho.out ha.out EJ Ic EZ hs Fm)
theorem eF{T id:String}{name:Str}{r:V→List V→Hp→VK→Prop}(pa:PlainAttrs T) (slot:Slot T name id) (Iw:typeOf (.builtin id)=pure (.type "method_descriptor")) (hm:MtR X id r) (ho:LE X o to)
  (EJ:attributeBase o name X.env (eval o X.env)=eval o X.env:=by rfl) (EZ:(apos.endLine == cpos.line)=true:=by rfl):LE X (.Call (.Attribute o name apos) [] [] cpos) (BC X.K T r to):=.mk (L2.eF pa slot Iw hm ho.out EJ EZ)
theorem aK{name:Str}{ps:List Str}{k k':Nat}{sp:Sp}(F:GS.Def X.prog X.w X.K X.mg X.base name ps k sp) (hr:dE k' X.A) (hk:k≤k') (hg:Gl X name) (ha:LA X (e::es) t)
  (E9:(name == ("__debug__":Str))=false:=by decide) (he:starEach (e::es) X.env=(false,eval e X.env)::starEach es X.env:=by rfl) (Ez:(backTo pos (starEach es X.env)).any (·.1)=false:=by rfl):
  LE X (.Call (.Name name p) (e::es) [] pos) (lP sp [] E0 t):=.mk (GS.aK F hr hk hg ha.out E9 he Ez)
theorem ar{op:CmpOp}{r:R2}(ho:i7 X (compareOp op) r) (ha:LE X a ta) (hb:LE X b tb) (hm:behindInMarks op b=false):LT X (.Compare a [op] [b] pos) (lO (nc r ta tb)):=.mk (L2.ar ho ha.out hb.out hm)
theorem cB (h:LE X e te) (he:∀whole,isTrue e X.env whole=(do let v ←whole;standAt e.pos;holding [v] (truthy v)):=by intro _;rfl):LT X e (tB te):=.mk (L2.cB h.out he)
theorem dk (ha:LT X a tA):LT X (.UnaryOp .Not a pos) (Bv tA):=.mk (L2.dk ha.out)
theorem bQ (ha:LT X a tA):LW X (.BoolOp .And [a] pos) tA:=.mk (L2.bQ ha.out)
theorem cX (ha:LT X a tA):LW X (.BoolOp .Or [a] pos) tA:=.mk (L2.cX ha.out)
theorem bX (ha:LT X a tA) (hb:LW X (.BoolOp .And (b::rest) pos) tB'):LW X (.BoolOp .And (a::b::rest) pos) (BD tA tB'):=.mk (L2.bX ha.out hb.out)
theorem dZ (ha:LT X a tA) (hb:LW X (.BoolOp .Or (b::rest) pos) tB'):LW X (.BoolOp .Or (a::b::rest) pos) (tOr tA tB'):=.mk (L2.dZ ha.out hb.out)
theorem LW.pt (h:LW X e tA):LT X e tA:=.mk (L2.PW.pt h.out)
theorem aL{i:Nat}{x:Str}(hN:X.N.Nodup) (hi:X.N[i]?=some x) (hx:Loc X.env.scope x) (hf:X.fn x=true∨X.env.scope.names.lookup x=some .local:=by first | exact .inl rfl | exact .inr rfl | assumption):LG X (.Name x pos) (fX i):=.mk (L2.aL hN hi hx hf)
theorem bU:xA X [] yT:=.mk L2.bU
theorem aU (h1:LG X e GN) (h2:xA X es tgs) (hs:(assignEach (e::es) X.env).map (·.2)=assign e X.env::(assignEach es X.env).map (·.2):=by rfl):xA X (e::es) (nX GN tgs):=.mk (L2.aU h1.out h2.out hs)
theorem cw{k n:Nat}(hc:X.calm=true) (h:xA X es tgs) (hn:(assignEach es X.env).length=n:=by rfl) (EE:(assignEach es X.env).findIdx? (·.1)=none:=by rfl):LG X (.Tuple es k pos) (yS X.K n tgs):=.mk (L2.cw hc h.out hn EE)
theorem bF (hl:LE X e te):LI X tg e (zq X.K te):=.mk (L2.bF hl.out)
theorem dm (hl:LE X e te):LI X tg e (Cm X.K te):=.mk (L2.dm hl.out)
theorem bz (hg:Gl X "range") (hm:X.mg "range"=none) (ha:LA X [a] t) (hs:starEach [a] X.env=[(false,eval a X.env)]:=by rfl):LI X tg (.Call (.Name "range" p) [a] [] pos) (zp t):=.mk (L2.bz hg hm ha.out hs)
theorem cU{elt iter:Expr}{x:Str}{px:Pos}{scope:Scope}{cl:List (Str×Addr)}{Nf:List Str}{js:List Nat}(K:sr X scope cl x Nf js) (hc:X.calm=true) (hi:LI X (.Name x px) iter wi)
  (he:∀C s0 H0 fp,LE (jm X scope cl C (x::Nf) s0 H0 fp) elt te) (hs:∀x,foldedSetIterable iter X.env x=pure x:=by intro _;rfl):
  LE X (.ListComp elt [⟨.Name x px,iter,[],0⟩] scope pos) (ze js wi te):=.mk (L2.cU K hc hi.out (fun C s0 H0 fp=>(he C s0 H0 fp).out) hs)
theorem aG (he:LE X e te):LS X (.Return (some e) pos) (Bs te):=.mk (L2.aG he.out)
theorem ba (he:LE X e te) (hs:swapsWith e none pos.line X.env=pure false:=by rfl):LS X (.Expr e pos) (vj te):=.mk (L2.ba he.out hs)
theorem aA{i:Nat}{x:Str}{pos':Pos}(hN:X.N.Nodup) (hi:X.N[i]?=some x) (hx:Loc X.env.scope x) (he:LE X e te) (hs:swapsWith e (some (.Name x pos')) pos.line X.env=pure false:=by rfl)
  (hf:X.fn x=true∨X.env.scope.names.lookup x=some .local:=by first | exact .inl rfl | exact .inr rfl | assumption):LS X (.Assign [.Name x pos'] e pos) (xK te (fX i)):=.mk (L2.aA hN hi hx he.out hs hf)
theorem eD (he:LE X e te) (hg:LG X tg GN) (hs:swapsWithSole [tg] e pos.line X.env=pure false:=by rfl) (hw:swappedStores [tg] e X.env=pure none:=by rfl) (h1:(assignEach [tg] X.env).map (·.2)=[assign tg X.env]:=by rfl):
  LS X (.Assign [tg] e pos) (xK te GN):=.mk (L2.eD he.out hg.out hs hw h1)
theorem aN{a b:List Stmt}(hc:LT X c tc) (ha:pJ X a ts) (hb:pJ X b us):LS X (.If c a b pos) (Bx tc ts us):=.mk (L2.aN hc.out ha.out hb.out)
theorem cu{body:List Stmt}(hp:PassesOwn (model X.prog X.w) X.A X.env X.xe) (hc:LT X c tc) (hb:pJ X body ts):LS X (.While c body [] pos) (u9 tc ts):=.mk (L2.cu hp hc.out hb.out)
theorem bR{iter:Expr}{body:List Stmt}(hp:PassesOwn (model X.prog X.w) X.A X.env X.xe) (hc:X.calm=true) (hi:LI X tg iter wi) (hg:LG X tg GN) (hb:pJ X body ts)
  (hs:∀x,foldedSetIterable iter X.env x=pure x:=by intro _;rfl):LS X (.For tg iter body [] pos) (Bz wi GN ts):=.mk (L2.bR hp hc hi.out hg.out hb.out hs)
theorem dU{t':TS}(h:LS X st ts) (hi:∀D σ H,t' D σ H→ts D σ H):LS X st t':=.mk fun Sb s σ H D I q=>h.out Sb s σ H D I (hi D σ H q)
theorem aB:pJ X [] y6:=.mk L2.aB
theorem ah (h1:LS X st ts) (h2:pJ X sts us):pJ X (st::sts) (zE ts us):=.mk (L2.ah h1.out h2.out)
theorem aj (h1:LS X st ts):pJ X [st] ts:=.mk (L2.aj h1.out)
end
end L3
namespace L2
open PySem PySem.Spec PyProof.Rows
theorem eX.hV{P:Program}{w:World}{K:Fg06}{mg:Str→Option Value}{base:Heap}{x qual:Str}{st:Stmt}{f:Addr}{fd:FuncData}{N ps:List Str}{k:Nat}{sp:Sp}(F:eX K x qual st f fd) (S:aW N ps (aE st)) (len:∀vs H Q E,sp vs H Q E→vs.length=ps.length)
  (Fo:∀(Si:Value) (A:Around) (outer:List Env) (s:Shared) (H:Hp) (vs:List V) (Q:VK) (E:XK),dE k (A.deeper (envOfC qual (aE st) s.heap.objs.size f Si))→sp vs H Q E→
   ∃t,L3.pJ (k8 fw P w K mg base N qual (aE st) f Si A outer s H E).Ba (dg st) t∧t { nx:=fun _ H'=>Q .aR H',rt:=Q } (start N vs) H):bO P w K mg base fw (k+1) f fd ps sp:=
 F.ok S len fun Si A outer s H vs Q E hr h=>let ⟨t,h1,h2⟩:=Fo Si A outer s H vs Q E hr h;⟨t,h1.out,h2⟩
end L2
namespace GS
open PySem L2 PyProof.Rows
inductive D where
 | aR | bl (b:Bool) | int (i:Int) | str (x:Str) | tup (xs:List D)
mutual
def At (K:Fg06) (H:Hp):D→V→Prop
 | .aR,v=>v=.aR
 | .bl b,v=>v=.bl b
 | .int i,v=>v=.int i
 | .str x,v=>v=.str x
 | .tup ds,v=>∃p vs,v=.ref p∧cq K H p vs∧ai K H ds vs
def ai (K:Fg06) (H:Hp):List D→List V→Prop
 | [],vs=>vs=[]
 | d::ds,vs=>∃v r,vs=v::r∧At K H d v∧ai K H ds r
end
section
variable{K:Fg06}{H H':Hp}
theorem aP{ds:List D}{v:V}:At K H (.tup ds) v↔∃p vs,v=.ref p∧cq K H p vs∧ai K H ds vs:=by rw[At]
theorem aD{vs:List V}:ai K H [] vs↔vs=[]:=by rw[ai]
theorem aJ{d:D}{ds:List D}{vs:List V}:ai K H (d::ds) vs↔∃v r,vs=v::r∧At K H d v∧ai K H ds r:=by rw[ai]
theorem aZ{v:V}:At K H .aR v↔v=.aR:=by rw[At]
theorem bP{b:Bool}{v:V}:At K H (.bl b) v↔v=.bl b:=by rw[At]
theorem bo{i:Int}{v:V}:At K H (.int i) v↔v=.int i:=by rw[At]
theorem av{x:Str}{v:V}:At K H (.str x) v↔v=.str x:=by rw[At]
theorem az.iG{a:Addr}{xs:List V}(e:az H H') (h:cq K H a xs):cq K H' a xs:=by
 rcases h with (h | ⟨o,h⟩) | h
 ·exact .inl (.inl (e _ _ h))
 ·exact .inl (.inr ⟨o,e _ _ h⟩)
 ·exact .inr h
mutual
theorem At.same (e:az H H'):∀(d:D) (v:V),At K H d v→At K H' d v
 | .aR,_,h=>aZ.mpr (aZ.mp h)
 | .bl _,_,h=>bP.mpr (bP.mp h)
 | .int _,_,h=>bo.mpr (bo.mp h)
 | .str _,_,h=>av.mpr (av.mp h)
 | .tup ds,_,h=>by
  obtain⟨p,vs,rfl,h1,h2⟩:=aP.mp h
  exact aP.mpr ⟨p,vs,rfl,az.iG e h1,ai.same e ds vs h2⟩
theorem ai.same (e:az H H'):∀(ds:List D) (vs:List V),ai K H ds vs→ai K H' ds vs
 | [],_,h=>aD.mpr (aD.mp h)
 | d::ds,_,h=>by
  obtain⟨v,r,rfl,h1,h2⟩:=aJ.mp h
  exact aJ.mpr ⟨v,r,rfl,At.same e d v h1,ai.same e ds r h2⟩
end
theorem ai.len:∀{ds:List D}{vs:List V},ai K H ds vs→vs.length=ds.length
 | [],_,h=>by rw[aD.mp h];rfl
 | d::ds,_,h=>by
  obtain⟨v,r,rfl,_,h2⟩:=aJ.mp h
  rw[CY,CY,ai.len h2]
theorem ai.get:∀{ds:List D}{vs:List V}{i:Nat}{d:D},ai K H ds vs→ds[i]?=some d→∃v,vs[i]?=some v∧At K H d v
 | [],_,i,d,_,e=>by simp at e
 | d0::ds,_,0,d,h,e=>by
  obtain⟨v,r,rfl,h1,_⟩:=aJ.mp h
  have:d0=d:=by simpa using e
  subst this
  exact⟨v,rfl,h1⟩
 | d0::ds,_,i+1,d,h,e=>by
  obtain⟨v,r,rfl,_,h2⟩:=aJ.mp h
  obtain⟨u,e1,e2⟩:=ai.get h2 (by simpa using e)
  exact⟨u,by simpa using e1,e2⟩
theorem ai.append:∀{ds es:List D}{vs ws:List V},ai K H ds vs→ai K H es ws→ai K H (ds++es) (vs++ws)
 | [],_,_,_,h,h'=>by rw[aD.mp h];exact h'
 | d::ds,_,_,_,h,h'=>by
  obtain⟨v,r,rfl,h1,h2⟩:=aJ.mp h
  exact aJ.mpr ⟨v,_,rfl,h1,ai.append h2 h'⟩
end
section
variable{X:Cx}{Sb:List (Addr×Obj)}{σ:L2.St}{H:Hp}{s:Shared}
mutual
theorem At.one (I:Inv X Sb σ H s):∀(d e:D) (v:V),At X.K H d v→At X.K H e v→d=e
 | .aR,e,v,h,h'=>by
  rw[aZ.mp h] at h'
  cases e with
  | aR=>rfl
  | tup ds=>obtain⟨p,vs,z,_⟩:=aP.mp h';cases z
  | bl b=>cases bP.mp h'
  | int i=>cases bo.mp h'
  | str x=>cases av.mp h'
 | .bl b,e,v,h,h'=>by
  rw[bP.mp h] at h'
  cases e with
  | bl c=>cases bP.mp h';rfl
  | tup ds=>obtain⟨p,vs,z,_⟩:=aP.mp h';cases z
  | aR=>cases aZ.mp h'
  | int i=>cases bo.mp h'
  | str x=>cases av.mp h'
 | .int i,e,v,h,h'=>by
  rw[bo.mp h] at h'
  cases e with
  | int c=>cases bo.mp h';rfl
  | tup ds=>obtain⟨p,vs,z,_⟩:=aP.mp h';cases z
  | aR=>cases aZ.mp h'
  | bl i=>cases bP.mp h'
  | str x=>cases av.mp h'
 | .str x,e,v,h,h'=>by
  rw[av.mp h] at h'
  cases e with
  | str c=>cases av.mp h';rfl
  | tup ds=>obtain⟨p,vs,z,_⟩:=aP.mp h';cases z
  | aR=>cases aZ.mp h'
  | bl i=>cases bP.mp h'
  | int x=>cases bo.mp h'
 | .tup ds,e,v,h,h'=>by
  obtain⟨p,vs,rfl,h1,h2⟩:=aP.mp h
  cases e with
  | tup es=>
   obtain⟨q,ws,z,g1,g2⟩:=aP.mp h'
   cases z
   have e1:=I.kj h1 g1
   subst e1
   rw[ai.one I ds es vs h2 g2]
  | aR=>cases aZ.mp h'
  | bl i=>cases bP.mp h'
  | int x=>cases bo.mp h'
  | str x=>cases av.mp h'
theorem ai.one (I:Inv X Sb σ H s):∀(ds es:List D) (vs:List V),ai X.K H ds vs→ai X.K H es vs→ds=es
 | [],[],_,_,_=>rfl
 | [],_::_,_,h,h'=>by
  rw[aD.mp h] at h'
  obtain⟨v,r,z,_⟩:=aJ.mp h';cases z
 | d::ds,[],_,h,h'=>by
  rw[aD.mp h'] at h
  obtain⟨v,r,z,_⟩:=aJ.mp h;cases z
 | d::ds,e::es,_,h,h'=>by
  obtain⟨v,r,rfl,h1,h2⟩:=aJ.mp h
  obtain⟨v',r',z,g1,g2⟩:=aJ.mp h'
  cases z
  rw[At.one I d e v h1 g1,ai.one I ds es r h2 g2]
end
end
mutual
def du:D→D→Bool
 | .aR,.aR=>true
 | .bl a,.bl b=>a == b
 | .bl a,.int b=>(if a then 1 else 0) == b
 | .int a,.bl b=>a == (if b then 1 else 0)
 | .int a,.int b=>a == b
 | .str a,.str b=>a == b
 | .tup xs,.tup ys=>iL xs ys
 | _,_=>false
def iL:List D→List D→Bool
 | [],[]=>true
 | x::xs,y::ys=>du x y&&iL xs ys
 | _,_=>false
end
mutual
def dep:D→Nat
 | .tup xs=>eW xs+1
 | _=>0
def eW:List D→Nat
 | []=>0
 | x::xs=>max (dep x) (eW xs)
end
theorem jD (b':Bool):du .aR (.bl b')=false:=by rw[du]<;>nofun
theorem iW (i':Int):du .aR (.int i')=false:=by rw[du]<;>nofun
theorem iV (x':Str):du .aR (.str x')=false:=by rw[du]<;>nofun
theorem iU (Kc:List D):du .aR (.tup Kc)=false:=by rw[du]<;>nofun
theorem jG (b:Bool):du (.bl b) .aR=false:=by rw[du]<;>nofun
theorem jF (b:Bool) (x':Str):du (.bl b) (.str x')=false:=by rw[du]<;>nofun
theorem jE (b:Bool) (Kc:List D):du (.bl b) (.tup Kc)=false:=by rw[du]<;>nofun
theorem iZ (i:Int):du (.int i) .aR=false:=by rw[du]<;>nofun
theorem iY (i:Int) (x':Str):du (.int i) (.str x')=false:=by rw[du]<;>nofun
theorem iX (i:Int) (Kc:List D):du (.int i) (.tup Kc)=false:=by rw[du]<;>nofun
theorem iR (x:Str):du (.str x) .aR=false:=by rw[du]<;>nofun
theorem jC (x:Str) (b':Bool):du (.str x) (.bl b')=false:=by rw[du]<;>nofun
theorem iT (x:Str) (i':Int):du (.str x) (.int i')=false:=by rw[du]<;>nofun
theorem iQ (x:Str) (Kc:List D):du (.str x) (.tup Kc)=false:=by rw[du]<;>nofun
theorem iO (xs:List D):du (.tup xs) .aR=false:=by rw[du]<;>nofun
theorem jB (xs:List D) (b':Bool):du (.tup xs) (.bl b')=false:=by rw[du]<;>nofun
theorem iP (xs:List D) (i':Int):du (.tup xs) (.int i')=false:=by rw[du]<;>nofun
theorem iM (xs:List D) (x':Str):du (.tup xs) (.str x')=false:=by rw[du]<;>nofun
theorem j8:dep .aR=0:=by rw[dep]<;>nofun
theorem pE (b:Bool):dep (.bl b)=0:=by rw[dep]<;>nofun
theorem lG (i:Int):dep (.int i)=0:=by rw[dep]<;>nofun
theorem lF (x:Str):dep (.str x)=0:=by rw[dep]<;>nofun
theorem pD:∀{ds:List D}{i:Nat}{d:D},ds[i]?=some d→dep d≤eW ds
 | [],i,d,e=>by simp at e
 | x::xs,0,d,e=>by
  have:x=d:=by simpa using e
  subst this
  rw[eW];exact Nat.le_max_left ..
 | x::xs,i+1,d,e=>by
  have:=pD (ds:=xs) (i:=i) (d:=d) (by simpa using e)
  rw[eW];exact CZ this (Nat.le_max_right ..)
mutual
theorem j7:∀d:D,du d d=true
 | .aR=>rfl
 | .bl b=>by rw[du];exact beq_self_eq_true b
 | .int i=>by rw[du];exact beq_self_eq_true i
 | .str x=>by rw[du];exact beq_self_eq_true x
 | .tup xs=>by rw[du];exact kG xs
theorem kG:∀ds:List D,iL ds ds=true
 | []=>by rw[iL]
 | d::ds=>by rw[iL,j7 d,kG ds];rfl
end
theorem qv:∀(ds es:List D),iL ds es=true↔ds.length=es.length∧∀(j:Nat) (d e:D),ds[j]?=some d→es[j]?=some e→du d e=true
 | [],[]=>by rw[iL];simp
 | [],e::es=>by
  have h:iL [] (e::es)=false:=by rw[iL]<;>nofun
  rw[h];simp
 | d::ds,[]=>by
  have h:iL (d::ds) []=false:=by rw[iL]<;>nofun
  rw[h];simp
 | d::ds,e::es=>by
  rw[iL,Bool.and_eq_true,qv ds es]
  constructor
  ·rintro⟨h1,h2,h3⟩
   refine⟨by simp[h2],fun j d' e' a b=>?_⟩
   cases j with
   | zero=>
    have e1:d=d':=by simpa using a
    have e2:e=e':=by simpa using b
    subst e1 e2;exact h1
   | succ j=>exact h3 j d' e' (by simpa using a) (by simpa using b)
  ·rintro⟨h1,h2⟩
   exact⟨h2 0 d e rfl rfl,by simpa using h1,fun j d' e' a b=>h2 (j+1) d' e' (by simpa using a) (by simpa using b)⟩
theorem qw (ds es:List D):((List.range (min ds.length es.length)).all (fun j=>du (ds.getD j .aR) (es.getD j .aR))&&ds.length == es.length)=iL ds es:=by
 rw[Bool.eq_iff_iff,Bool.and_eq_true,qv,List.all_eq_true,beq_iff_eq]
 constructor
 ·rintro⟨h1,h2⟩
  refine⟨h2,fun j d e a b=>?_⟩
  have hj:j < ds.length:=(CM.mp a).1
  have:=h1 j (List.mem_range.mpr (by omega))
  rw[List.getD_eq_getElem?_getD,List.getD_eq_getElem?_getD,a,b] at this
  exact this
 ·rintro⟨h1,h2⟩
  refine⟨fun j hj=>?_,h1⟩
  have Pl:=List.mem_range.mp hj
  have a:ds[j]?=some ds[j]:=C5 (by omega)
  have b:es[j]?=some es[j]:=C5 (by omega)
  rw[List.getD_eq_getElem?_getD,List.getD_eq_getElem?_getD,a,b]
  exact h2 j _ _ a b
section
variable{X:Cx}{Sb:List (Addr×Obj)}{σ:L2.St}{H:Hp}{s:Shared}
theorem AL (I:Inv X Sb σ H s):∀(n:Nat) (d e:D) (A:Around) (x y:V) (u v:Value),dep d≤n→RelV x u→RelV y v→At X.K H d x→At X.K H e y→A.units+n < cLine→SeqAt.EqAt A s u v (du d e):=by
 intro n
 induction n with
 | zero=>
  intro d e A x y u v hd rx ry hx hy hu
  cases d with
  | tup ds=>rw[dep] at hd;omega
  | aR=>
   have ex:=aZ.mp hx;subst ex;cases rx
   cases e with
   | aR=>have ey:=aZ.mp hy;subst ey;cases ry;rw[du];exact SeqAt.EqAt.same _
   | bl b=>have ey:=bP.mp hy;subst ey;cases ry;rw[jD];exact SeqAt.EqAt.none_bool b
   | int b=>have ey:=bo.mp hy;subst ey;obtain⟨t,rfl⟩:=ry;rw[iW];exact SeqAt.EqAt.none_int b t
   | str b=>have ey:=av.mp hy;subst ey;obtain⟨t,rfl⟩:=ry;rw[iV];exact SeqAt.EqAt.none_str b t
   | tup es=>
    obtain⟨p,vs,rfl,h1,_⟩:=aP.mp hy;cases ry
    obtain⟨Se,rv,ht,_⟩:=I.tuple h1
    rw[iU];exact SeqAt.EqAt.none_tuple ht (by omega)
  | bl a=>
   have ex:=bP.mp hx;subst ex;cases rx
   cases e with
   | aR=>have ey:=aZ.mp hy;subst ey;cases ry;rw[jG];exact SeqAt.EqAt.bool_none a
   | bl b=>have ey:=bP.mp hy;subst ey;cases ry;rw[du];exact SeqAt.EqAt.bool_bool a b
   | int b=>have ey:=bo.mp hy;subst ey;obtain⟨t,rfl⟩:=ry;rw[du];exact SeqAt.EqAt.bool_int a b t
   | str b=>have ey:=av.mp hy;subst ey;obtain⟨t,rfl⟩:=ry;rw[jF];exact SeqAt.EqAt.bool_str a b t
   | tup es=>
    obtain⟨p,vs,rfl,h1,_⟩:=aP.mp hy;cases ry
    obtain⟨Se,rv,ht,_⟩:=I.tuple h1
    rw[jE];exact SeqAt.EqAt.bool_tuple a ht (by omega)
  | int a=>
   have ex:=bo.mp hx;subst ex;obtain⟨t',rfl⟩:=rx
   cases e with
   | aR=>have ey:=aZ.mp hy;subst ey;cases ry;rw[iZ];exact SeqAt.EqAt.int_none a t'
   | bl b=>have ey:=bP.mp hy;subst ey;cases ry;rw[du];exact SeqAt.EqAt.int_bool a t' b
   | int b=>have ey:=bo.mp hy;subst ey;obtain⟨t,rfl⟩:=ry;rw[du];exact SeqAt.EqAt.int_int a t' b t
   | str b=>have ey:=av.mp hy;subst ey;obtain⟨t,rfl⟩:=ry;rw[iY];exact SeqAt.EqAt.int_str a t' b t
   | tup es=>
    obtain⟨p,vs,rfl,h1,_⟩:=aP.mp hy;cases ry
    obtain⟨Se,rv,ht,_⟩:=I.tuple h1
    rw[iX];exact SeqAt.EqAt.int_tuple a t' ht (by omega)
  | str a=>
   have ex:=av.mp hx;subst ex;obtain⟨t',rfl⟩:=rx
   cases e with
   | aR=>have ey:=aZ.mp hy;subst ey;cases ry;rw[iR];exact SeqAt.EqAt.str_none a t'
   | bl b=>have ey:=bP.mp hy;subst ey;cases ry;rw[jC];exact SeqAt.EqAt.str_bool a t' b
   | int b=>have ey:=bo.mp hy;subst ey;obtain⟨t,rfl⟩:=ry;rw[iT];exact SeqAt.EqAt.str_int a t' b t
   | str b=>have ey:=av.mp hy;subst ey;obtain⟨t,rfl⟩:=ry;rw[du];exact SeqAt.EqAt.str_str a t' b t
   | tup es=>
    obtain⟨p,vs,rfl,h1,_⟩:=aP.mp hy;cases ry
    obtain⟨Se,rv,ht,_⟩:=I.tuple h1
    rw[iQ];exact SeqAt.EqAt.str_tuple a t' ht (by omega)
 | succ n ih=>
  intro d e A x y u v hd rx ry hx hy hu
  cases d with
  | tup ds=>
   obtain⟨p,vs,rfl,h1,h2⟩:=aP.mp hx
   cases rx
   obtain⟨Se,rv,ht,_⟩:=I.tuple h1
   cases e with
   | aR=>have ey:=aZ.mp hy;subst ey;cases ry;rw[iO];exact SeqAt.EqAt.tuple_none ht (by omega)
   | bl b=>have ey:=bP.mp hy;subst ey;cases ry;rw[jB];exact SeqAt.EqAt.tuple_bool b ht (by omega)
   | int b=>have ey:=bo.mp hy;subst ey;obtain⟨t,rfl⟩:=ry;rw[iP];exact SeqAt.EqAt.tuple_int b t ht (by omega)
   | str b=>have ey:=av.mp hy;subst ey;obtain⟨t,rfl⟩:=ry;rw[iM];exact SeqAt.EqAt.tuple_str b t ht (by omega)
   | tup es=>
    obtain⟨q,ws,rfl,g1,g2⟩:=aP.mp hy
    cases ry
    obtain⟨jts,E4,hq,_⟩:=I.tuple g1
    rw[du]
    by_cases Rk:p=q
    ·subst Rk
     have e1:=At.one I (.tup ds) (.tup es) (.ref p) hx hy
     injection e1 with e2
     rw[e2,kG]
     exact SeqAt.EqAt.same _
    ·have l1:Se.length=ds.length:=by rw[←rv.length];exact ai.len h2
     have l2:jts.length=es.length:=by rw[←E4.length];exact ai.len g2
     have R:=SeqAt.RcAt.tuples (A:=A) (s:=s) (e:=fun j=>du (ds.getD j .aR) (es.getD j .aR)) (show s.heap.IsTuple p Se.toArray from ht) (show s.heap.IsTuple q jts.toArray from hq) (by omega) (fun j k1 k2=>by
      have OQ:j < ds.length:=by simpa[l1] using k1
      have OP:j < es.length:=by simpa[l2] using k2
      have a:ds[j]?=some ds[j]:=C5 OQ
      have b:es[j]?=some es[j]:=C5 OP
      obtain⟨x',ex,GR⟩:=ai.get h2 a
      obtain⟨y',ey,EI⟩:=ai.get g2 b
      obtain⟨u',eu,ru⟩:=rv.get ex
      obtain⟨v',ev,Oy⟩:=E4.get ey
      have e3:Se.toArray[j]=u':=by
       have:Se[j]?=some u':=eu
       have:=(CM.mp this).2
       simpa using this
      have e4:jts.toArray[j]=v':=by
       have:jts[j]?=some v':=ev
       have:=(CM.mp this).2
       simpa using this
      rw[e3,e4,List.getD_eq_getElem?_getD,List.getD_eq_getElem?_getD,a,b]
      have hdn:dep ds[j]≤n:=by
       have:=pD a
       rw[dep] at hd
       omega
      exact ih ds[j] es[j] A.in1 x' y' u' v' hdn ru Oy GR EI (by show A.units+1+n < cLine;omega))
     have e5:((List.range (min Se.toArray.size jts.toArray.size)).all (fun j=>du (ds.getD j .aR) (es.getD j .aR))&&Se.toArray.size == jts.toArray.size)=iL ds es:=by
      have a1:Se.toArray.size=ds.length:=by rw[List.size_toArray,l1]
      have a2:jts.toArray.size=es.length:=by rw[List.size_toArray,l2]
      rw[a1,a2];exact qw ds es
     rw[e5] at R
     exact SeqAt.EqAt.of_refs Rk R
  | aR=>exact ih .aR e A x y u v (by rw[j8];exact Nat.zero_le _) rx ry hx hy (by omega)
  | bl a=>exact ih (.bl a) e A x y u v (by rw[pE];exact Nat.zero_le _) rx ry hx hy (by omega)
  | int a=>exact ih (.int a) e A x y u v (by rw[lG];exact Nat.zero_le _) rx ry hx hy (by omega)
  | str a=>exact ih (.str a) e A x y u v (by rw[lF];exact Nat.zero_le _) rx ry hx hy (by omega)
end
end GS
namespace GS
open PySem L2
def D.k:D→Str
 | .tup (.str k::_)=>k
 | _=>""
def D.items:D→List D
 | .tup ds=>ds
 | _=>[]
def D.cK (d:D) (i:Nat):D:=d.items.getD i .aR
def D.txt:D→Option Str
 | .str x=>some x
 | _=>none
def fU (d:D):Bool:=d.k == "def"||d.k == "class"
def headD (c:D):D:=.tup [.str "except",c.cK 0,c.cK 1]
def dQ (c:D):List D:=headD c::(c.cK 2).items
def aO (d:D):List D:=
 if d.k="def"∨d.k="class" then(d.cK 3).items
 else if d.k="if"∨d.k="while" then(d.cK 2).items++(d.cK 3).items
 else if d.k="for" then(d.cK 3).items++(d.cK 4).items
 else if d.k="try" then(d.cK 1).items++((d.cK 2).items.flatMap dQ++((d.cK 3).items++(d.cK 4).items))
 else []
theorem kR (c:D):aO (headD c)=[]:=by
 unfold aO
 rw[CO,CO,CO,CO]<;>simp only[headD,D.k]<;>decide +kernel
def gG:Nat→D→Prop
 | 0,_=>False
 | n+1,d=>∀s∈aO d,gG n s
theorem gG.up:∀{n:Nat}{d:D},gG n d→gG (n+1) d
 | 0,_,h=>h.elim
 | n+1,_,h=>fun s hs=>(h s hs).up
theorem gG.mono{n m:Nat}{d:D}(h:gG n d) (hm:n≤m):gG m d:=by
 induction hm with
 | refl=>exact h
 | step _ ih=>exact ih.up
def aM:Nat→List D→List D
 | 0,_=>[]
 | n+1,xs=>xs.flatMap fun s=>s::(if fU s=true then [] else aM n (aO s))
theorem fE (n:Nat):aM n []=[]:=by cases n<;>rfl
theorem fb (n:Nat) (s:D) (xs:List D):aM (n+1) (s::xs)=(s::(if fU s=true then [] else aM n (aO s)))++aM (n+1) xs:=rfl
theorem fj (n:Nat) (xs ys:List D):aM n (xs++ys)=aM n xs++aM n ys:=by
 cases n with
 | zero=>rfl
 | succ n=>exact List.flatMap_append
theorem jT:∀(n:Nat) (xs:List D),(∀s∈xs,gG n s)→aM n xs=aM (n+1) xs
 | 0,xs,h=>by
  cases xs with
  | nil=>rfl
  | cons s _=>exact(h s C1).elim
 | n+1,xs,h=>by
  induction xs with
  | nil=>rfl
  | cons s xs ih=>
   rw[fb,fb (n+1),ih fun t ht=>h t (C0 _ ht),jT n (aO s) (h s C1)]
theorem rq (n:Nat) (s:D) (xs:List D) (h:gG (n+1) s):aM (n+1) (s::xs)=s::aM (n+1) ((if fU s=true then [] else aO s)++xs):=by
 rw[fb,fj,List.cons_append]
 congr 2
 split
 ·exact(fE _).symm
 ·exact jT n (aO s) h
def dn:List Str:=["set","more","def","class","for","yield"]
def bM (r:D):Option Str:=if r.k∈dn then(r.cK 1).txt else if r.k="except" then(r.cK 2).txt else none
def ff (d:D):List Str:=d.items.filterMap D.txt
def cg (word:Str) (rows:List D):List Str:=rows.flatMap fun r=>if r.k=word then ff (r.cK 1) else []
def bp (out:List Str) (found:List Str) (x:Str):List Str:=if x∈found∨x∈out then found else found++[x]
def ir (params:List Str) (rows:List D):List Str:=
 (rows.filterMap bM).foldl (bp (cg "global" rows++cg "nonlocal" rows)) (params.filter fun x=>decide (x∉cg "global" rows))
def yy (params bs told:List Str):List Str:=bs.foldl (bp told) params
theorem nz{out HG:List Str}(h:∀x,x∈out↔x∈HG) (found:List Str) (x:Str):bp out found x=bp HG found x:=by
 unfold bp
 by_cases h1:x∈found∨x∈out
 ·rw[CQ h1,CQ (h1.imp id (h x).mp)]
 ·rw[CO h1,CO fun z=>h1 (z.imp id (h x).mpr)]
theorem fold_congr{out HG:List Str}(h:∀x,x∈out↔x∈HG):∀(bs found:List Str),bs.foldl (bp out) found=bs.foldl (bp HG) found
 | [],_=>rfl
 | b::bs,found=>by rw[List.foldl_cons,List.foldl_cons,nz h,fold_congr h bs]
theorem we{params told:List Str}{rows:List D}(KR:∀x∈params,x∉cg "global" rows) (ht:∀x,x∈told↔x∈cg "global" rows++cg "nonlocal" rows):ir params rows=yy params (rows.filterMap bM) told:=by
 unfold ir yy
 rw[List.filter_eq_self.mpr fun x hx=>CJ (KR x hx)]
 exact fold_congr (fun x=>(ht x).symm) _ _
def gr (r:D):Option Str:=if r.k="bound" then(r.cK 1).txt else none
def gv (r:D):List Str:=if r.k="told" then ff ((r.cK 2).cK 1) else []
def g0 (r:D):List Str:=if r.k="global"∨r.k="nonlocal" then ff (r.cK 1) else []
theorem wF (rows:List D) (x:Str):x∈rows.flatMap g0↔x∈cg "global" rows++cg "nonlocal" rows:=by
 unfold cg
 rw[Df,List.mem_flatMap,List.mem_flatMap,List.mem_flatMap]
 constructor
 ·rintro⟨r,hr,h⟩
  unfold g0 at h
  by_cases h1:r.k="global"
  ·rw[CQ (.inl h1)] at h
   exact .inl ⟨r,hr,by rw[CQ h1];exact h⟩
  ·by_cases h2:r.k="nonlocal"
   ·rw[CQ (.inr h2)] at h
    exact .inr ⟨r,hr,by rw[CQ h2];exact h⟩
   ·rw[CO fun z=>z.elim h1 h2] at h;cases h
 ·rintro(⟨r,hr,h⟩ | ⟨r,hr,h⟩)
  ·by_cases h1:r.k="global"
   ·rw[CQ h1] at h
    exact⟨r,hr,by unfold g0;rw[CQ (.inl h1)];exact h⟩
   ·rw[CO h1] at h;cases h
  ·by_cases h1:r.k="nonlocal"
   ·rw[CQ h1] at h
    exact⟨r,hr,by unfold g0;rw[CQ (.inr h1)];exact h⟩
   ·rw[CO h1] at h;cases h
structure fu (rows stmts:List D):Prop where
 b:rows.filterMap gr=stmts.filterMap bM
 t:rows.flatMap gv=stmts.flatMap g0
theorem fu.nil:fu [] []:=⟨rfl,rfl⟩
theorem fu.append{r s r' s':List D}(h:fu r s) (h':fu r' s'):fu (r++r') (s++s'):=⟨by rw[List.filterMap_append,List.filterMap_append,h.b,h'.b],by rw[List.flatMap_append,List.flatMap_append,h.t,h'.t]⟩
def oY (d:D):List Str:=(d.cK 2).items.filterMap fun p=>(p.cK 0).txt
def Ci (n:Nat) (d:D):Prop:=d.k="def"→∀x∈oY d,x∉cg "global" (aM n (aO d))
def eJ:Nat→List D→List D
 | 0,_=>[]
 | n+1,xs=>xs.flatMap fun s=>s::eJ n (aO s)
theorem tS:∀(n:Nat) (xs:List D),(∀s∈xs,gG n s)→eJ n xs=eJ (n+1) xs
 | 0,xs,h=>by
  cases xs with
  | nil=>rfl
  | cons s _=>exact(h s C1).elim
 | n+1,xs,h=>by
  induction xs with
  | nil=>rfl
  | cons s xs ih=>
   show(s::eJ n (aO s))++eJ (n+1) xs=(s::eJ (n+1) (aO s))++eJ (n+2) xs
   rw[ih fun t ht=>h t (C0 _ ht),tS n (aO s) (h s C1)]
theorem gS{n:Nat}{xs:List D}{d:D}:d∈eJ (n+1) xs↔∃s∈xs,d=s∨d∈eJ n (aO s):=by
 show d∈xs.flatMap _↔_
 rw[List.mem_flatMap]
 constructor
 ·rintro⟨s,hs,h⟩;exact⟨s,hs,List.mem_cons.mp h⟩
 ·rintro⟨s,hs,h⟩;exact⟨s,hs,List.mem_cons.mpr h⟩
structure Good (n:Nat) (ps:List Str) (w:D):Prop where
 g:∀r∈aM n [w],r.k="global"→∀x∈ff (r.cK 1),x∉ps
 d:∀d∈eJ n [w],Ci n d
def cM (ps:List Str) (w:D):List Str:=if w.k="def" then oY w else if w.k="class" then [] else ps
theorem t5{rows:List D}{x word:Str}:x∈cg word rows↔∃r∈rows,r.k=word∧x∈ff (r.cK 1):=by
 unfold cg
 rw[List.mem_flatMap]
 constructor
 ·rintro⟨r,hr,h⟩
  by_cases h1:r.k=word
  ·rw[CQ h1] at h;exact⟨r,hr,h1,h⟩
  ·rw[CO h1] at h;cases h
 ·rintro⟨r,hr,h1,h⟩;exact⟨r,hr,by rw[CQ h1];exact h⟩
theorem kM{n:Nat}{xs:List D}{r:D}(h:r∈aM n xs):∃s∈xs,r∈aM n [s]:=by
 cases n with
 | zero=>cases h
 | succ n=>
  obtain⟨s,hs,hr⟩:=List.mem_flatMap.mp h
  exact⟨s,hs,List.mem_flatMap.mpr ⟨s,C1,hr⟩⟩
theorem ib{n:Nat}{xs:List D}{d:D}(h:d∈eJ n xs):∃s∈xs,d∈eJ n [s]:=by
 cases n with
 | zero=>cases h
 | succ n=>
  obtain⟨s,hs,hr⟩:=List.mem_flatMap.mp h
  exact⟨s,hs,List.mem_flatMap.mpr ⟨s,C1,hr⟩⟩
theorem Good.step{n:Nat}{ps:List Str}{w:D}(hd:gG n w) (h1:w.k="global"→∀x∈ff (w.cK 1),x∉ps) (h2:∀s∈aO w,Good n (cM ps w) s):Good n ps w:=by
 cases n with
 | zero=>exact hd.elim
 | succ n=>
  have e1:=jT n (aO w) hd
  have e2:=tS n (aO w) hd
  refine⟨fun r hr hg x hx=>?_,fun d ML=>?_⟩
  ·have hw:r∈[w].flatMap (fun s=>s::(if fU s=true then [] else aM n (aO s))):=hr
   clear hr
   rw[List.mem_flatMap] at hw
   obtain⟨s,hs,hr⟩:=hw
   have es:s=w:=by simpa using hs
   subst es
   rw[List.mem_cons] at hr
   rcases hr with rfl | hr
   ·exact h1 hg x hx
   ·cases e:fU s with
    | true=>rw[e] at hr;cases hr
    | false=>
     rw[e,CO CU] at hr
     have JQ:r∈aM (n+1) (aO s):=by rw[←e1];exact hr
     obtain⟨t,ht,Jg⟩:=kM JQ
     have:=(h2 t ht).g r Jg hg x hx
     have ep:cM ps s=ps:=by
      unfold fU at e
      rw[Bool.or_eq_false_iff,beq_eq_false_iff_ne,beq_eq_false_iff_ne] at e
      unfold cM
      rw[CO e.1,CO e.2]
     rw[ep] at this
     exact this
  ·rw[gS] at ML
   obtain⟨s,hs,h⟩:=ML
   have es:s=w:=by simpa using hs
   subst es
   rcases h with rfl | h
   ·intro hk x hx hm
    obtain⟨r,hr,hg,hn⟩:=t5.mp hm
    obtain⟨t,ht,Jg⟩:=kM hr
    have:=(h2 t ht).g r Jg hg x hn
    unfold cM at this
    rw[CQ hk] at this
    exact this hx
   ·have h':d∈eJ (n+1) (aO s):=by rw[←e2];exact h
    obtain⟨t,ht,MJ⟩:=ib h'
    exact(h2 t ht).d d MJ
end GS
namespace GS
open PySem L2 PyProof.Rows
section
variable{K:Fg06}{H:Hp}
theorem At.new{p:Addr}{ds:List D}{vs:List V}(hp:H p=none) (h:ai K H ds vs):At K (upd H p (.tup vs)) (.tup ds) (.ref p):=
 aP.mpr ⟨p,vs,rfl,cq.of ag,ai.same (af hp _) ds vs h⟩
theorem At.ix{ds:List D}{v:V}{i:Nat}{d:D}(h:At K H (.tup ds) v) (hi:ds[i]?=some d):∃p vs w,v=.ref p∧cq K H p vs∧xi vs (i:Int)=some w∧At K H d w:=by
 obtain⟨p,vs,rfl,h1,h2⟩:=aP.mp h
 obtain⟨w,e,hw⟩:=ai.get h2 hi
 exact⟨p,vs,w,rfl,h1,fG e,hw⟩
end
section
variable{X:Cx}{Sb:List (Addr×Obj)}{σ:L2.St}{H:Hp}{s:Shared}
theorem qr (I:Inv X Sb σ H s){ds es:List D}{vs ws:List V}{Se jts:List Value}{A:Around}{n:Nat}(rv:Vals vs Se) (E4:Vals ws jts) (h2:ai X.K H ds vs) (g2:ai X.K H es ws) (hd:eW ds≤n) (hu:A.units+n < cLine):
  ∀j (k1:j < Se.toArray.size) (k2:j < jts.toArray.size),SeqAt.EqAt A s Se.toArray[j] jts.toArray[j] (du (ds.getD j .aR) (es.getD j .aR)):=by
 intro j k1 k2
 have l1:Se.length=ds.length:=by rw[←rv.length];exact ai.len h2
 have l2:jts.length=es.length:=by rw[←E4.length];exact ai.len g2
 have OQ:j < ds.length:=by simpa[l1] using k1
 have OP:j < es.length:=by simpa[l2] using k2
 have a:ds[j]?=some ds[j]:=C5 OQ
 have b:es[j]?=some es[j]:=C5 OP
 obtain⟨x',ex,GR⟩:=ai.get h2 a
 obtain⟨y',ey,EI⟩:=ai.get g2 b
 obtain⟨u',eu,ru⟩:=rv.get ex
 obtain⟨v',ev,Oy⟩:=E4.get ey
 have e3:Se.toArray[j]=u':=by
  have:=(CM.mp eu).2
  simpa using this
 have e4:jts.toArray[j]=v':=by
  have:=(CM.mp ev).2
  simpa using this
 rw[e3,e4,List.getD_eq_getElem?_getD,List.getD_eq_getElem?_getD,a,b]
 exact AL I n ds[j] es[j] A x' y' u' v' (CZ (pD a) hd) ru Oy GR EI hu
theorem pU{ds es:List D}{vs ws:List V}{Se jts:List Value}(rv:Vals vs Se) (E4:Vals ws jts) (h2:ai X.K H ds vs) (g2:ai X.K H es ws):
  ((List.range (min Se.toArray.size jts.toArray.size)).all (fun j=>du (ds.getD j .aR) (es.getD j .aR))&&Se.toArray.size == jts.toArray.size)=iL ds es:=by
 have a1:Se.toArray.size=ds.length:=by rw[List.size_toArray,←rv.length];exact ai.len h2
 have a2:jts.toArray.size=es.length:=by rw[List.size_toArray,←E4.length];exact ai.len g2
 rw[a1,a2];exact qw ds es
theorem Aa (I:Inv X Sb σ H s) (d e:D) (A:Around) (x y:V) (u v:Value) (rx:RelV x u) (ry:RelV y v) (hx:At X.K H d x) (hy:At X.K H e y) (hu:A.units+dep d < cLine):SeqAt.RcAt A s u v (du d e):=by
 cases d with
 | tup ds=>
  rw[dep] at hu
  obtain⟨p,vs,rfl,h1,h2⟩:=aP.mp hx
  cases rx
  obtain⟨Se,rv,ht,_⟩:=I.tuple h1
  cases e with
  | aR=>have ey:=aZ.mp hy;subst ey;cases ry;rw[iO];exact SeqAt.RcAt.tuple_none ht (by omega)
  | bl b=>have ey:=bP.mp hy;subst ey;cases ry;rw[jB];exact SeqAt.RcAt.tuple_bool b ht (by omega)
  | int b=>have ey:=bo.mp hy;subst ey;obtain⟨t,rfl⟩:=ry;rw[iP];exact SeqAt.RcAt.tuple_int b t ht (by omega)
  | str b=>have ey:=av.mp hy;subst ey;obtain⟨t,rfl⟩:=ry;rw[iM];exact SeqAt.RcAt.tuple_str b t ht (by omega)
  | tup es=>
   obtain⟨q,ws,rfl,g1,g2⟩:=aP.mp hy
   cases ry
   obtain⟨jts,E4,hq,_⟩:=I.tuple g1
   have R:=SeqAt.RcAt.tuples (A:=A) (s:=s) (e:=fun j=>du (ds.getD j .aR) (es.getD j .aR)) (show s.heap.IsTuple p Se.toArray from ht) (show s.heap.IsTuple q jts.toArray from hq) (by omega)
    (qr I (A:=A.in1) (n:=eW ds) rv E4 h2 g2 (CN _) (by show A.units+1+eW ds < cLine;omega))
   rw[pU rv E4 h2 g2] at R
   rw[du];exact R
 | aR=>
  rw[j8] at hu
  have ex:=aZ.mp hx;subst ex;cases rx
  cases e with
  | aR=>have ey:=aZ.mp hy;subst ey;cases ry;rw[du];exact SeqAt.RcAt.none_none
  | bl b=>have ey:=bP.mp hy;subst ey;cases ry;rw[jD];exact SeqAt.RcAt.none_bool b
  | int b=>have ey:=bo.mp hy;subst ey;obtain⟨t,rfl⟩:=ry;rw[iW];exact SeqAt.RcAt.none_int b t
  | str b=>have ey:=av.mp hy;subst ey;obtain⟨t,rfl⟩:=ry;rw[iV];exact SeqAt.RcAt.none_str b t
  | tup es=>
   obtain⟨p,vs,rfl,h1,_⟩:=aP.mp hy;cases ry
   obtain⟨Se,rv,ht,_⟩:=I.tuple h1
   rw[iU];exact SeqAt.RcAt.none_tuple ht (by omega)
 | bl a=>
  rw[pE] at hu
  have ex:=bP.mp hx;subst ex;cases rx
  cases e with
  | aR=>have ey:=aZ.mp hy;subst ey;cases ry;rw[jG];exact SeqAt.RcAt.bool_none a
  | bl b=>have ey:=bP.mp hy;subst ey;cases ry;rw[du];exact SeqAt.RcAt.bool_bool a b
  | int b=>have ey:=bo.mp hy;subst ey;obtain⟨t,rfl⟩:=ry;rw[du];exact SeqAt.RcAt.bool_int a b t
  | str b=>have ey:=av.mp hy;subst ey;obtain⟨t,rfl⟩:=ry;rw[jF];exact SeqAt.RcAt.bool_str a b t
  | tup es=>
   obtain⟨p,vs,rfl,h1,_⟩:=aP.mp hy;cases ry
   obtain⟨Se,rv,ht,_⟩:=I.tuple h1
   rw[jE];exact SeqAt.RcAt.bool_tuple a ht (by omega)
 | int a=>
  rw[lG] at hu
  have ex:=bo.mp hx;subst ex;obtain⟨t',rfl⟩:=rx
  cases e with
  | aR=>have ey:=aZ.mp hy;subst ey;cases ry;rw[iZ];exact SeqAt.RcAt.int_none a t'
  | bl b=>have ey:=bP.mp hy;subst ey;cases ry;rw[du];exact SeqAt.RcAt.int_bool a t' b
  | int b=>have ey:=bo.mp hy;subst ey;obtain⟨t,rfl⟩:=ry;rw[du];exact SeqAt.RcAt.int_int a t' b t
  | str b=>have ey:=av.mp hy;subst ey;obtain⟨t,rfl⟩:=ry;rw[iY];exact SeqAt.RcAt.int_str a t' b t
  | tup es=>
   obtain⟨p,vs,rfl,h1,_⟩:=aP.mp hy;cases ry
   obtain⟨Se,rv,ht,_⟩:=I.tuple h1
   rw[iX];exact SeqAt.RcAt.int_tuple a t' ht (by omega)
 | str a=>
  rw[lF] at hu
  have ex:=av.mp hx;subst ex;obtain⟨t',rfl⟩:=rx
  cases e with
  | aR=>have ey:=aZ.mp hy;subst ey;cases ry;rw[iR];exact SeqAt.RcAt.str_none a t'
  | bl b=>have ey:=bP.mp hy;subst ey;cases ry;rw[jC];exact SeqAt.RcAt.str_bool a t' b
  | int b=>have ey:=bo.mp hy;subst ey;obtain⟨t,rfl⟩:=ry;rw[iT];exact SeqAt.RcAt.str_int a t' b t
  | str b=>have ey:=av.mp hy;subst ey;obtain⟨t,rfl⟩:=ry;rw[du];exact SeqAt.RcAt.str_str a t' b t
  | tup es=>
   obtain⟨p,vs,rfl,h1,_⟩:=aP.mp hy;cases ry
   obtain⟨Se,rv,ht,_⟩:=I.tuple h1
   rw[iQ];exact SeqAt.RcAt.str_tuple a t' ht (by omega)
end
section
variable{X:Cx}
def BR (X:Cx):R2:=fun x y H Q=>∃d e,At X.K H d x∧At X.K H e y∧dep d≤60∧Q (.bl (du d e)) H
theorem wo{k:Nat}(hr:dE k X.A):i7 X (compareOp .Eq) (BR X):=by
 intro Sb s σ H x y v u Q I rx ry h
 obtain⟨d,e,hx,hy,hd,q⟩:=h
 exact Aa I d e X.A x y v u rx ry hx hy (by have:=hr.units;omega) _ _ _ _ ⟨.bl _,H,I,rfl,q⟩
end
section
variable{X:Cx}{Sb:List (Addr×Obj)}{σ:L2.St}{H:Hp}{s:Shared}
theorem vR (I:Inv X Sb σ H s) (d e:D) (A:Around) (x y:V) (u v:Value) (rx:RelV x u) (ry:RelV y v) (hx:At X.K H d x) (hy:At X.K H e y) (hu:A.units+dep d < cLine):SeqAt.RcNeAt A s u v (!du d e):=by
 cases d with
 | tup ds=>
  rw[dep] at hu
  obtain⟨p,vs,rfl,h1,h2⟩:=aP.mp hx
  cases rx
  obtain⟨Se,rv,ht,_⟩:=I.tuple h1
  cases e with
  | aR=>have ey:=aZ.mp hy;subst ey;cases ry;rw[iO];exact SeqAt.RcNeAt.tuple_none ht (by omega)
  | bl b=>have ey:=bP.mp hy;subst ey;cases ry;rw[jB];exact SeqAt.RcNeAt.tuple_bool b ht (by omega)
  | int b=>have ey:=bo.mp hy;subst ey;obtain⟨t,rfl⟩:=ry;rw[iP];exact SeqAt.RcNeAt.tuple_int b t ht (by omega)
  | str b=>have ey:=av.mp hy;subst ey;obtain⟨t,rfl⟩:=ry;rw[iM];exact SeqAt.RcNeAt.tuple_str b t ht (by omega)
  | tup es=>
   obtain⟨q,ws,rfl,g1,g2⟩:=aP.mp hy
   cases ry
   obtain⟨jts,E4,hq,_⟩:=I.tuple g1
   have R:=SeqAt.RcNeAt.tuples (A:=A) (s:=s) (e:=fun j=>du (ds.getD j .aR) (es.getD j .aR)) (show s.heap.IsTuple p Se.toArray from ht) (show s.heap.IsTuple q jts.toArray from hq) (by omega)
    (qr I (A:=A.in1) (n:=eW ds) rv E4 h2 g2 (CN _) (by show A.units+1+eW ds < cLine;omega))
   rw[pU rv E4 h2 g2] at R
   rw[du];exact R
 | aR=>
  rw[j8] at hu
  have ex:=aZ.mp hx;subst ex;cases rx
  cases e with
  | aR=>have ey:=aZ.mp hy;subst ey;cases ry;rw[du];exact SeqAt.RcNeAt.none_none
  | bl b=>have ey:=bP.mp hy;subst ey;cases ry;rw[jD];exact SeqAt.RcNeAt.none_bool b
  | int b=>have ey:=bo.mp hy;subst ey;obtain⟨t,rfl⟩:=ry;rw[iW];exact SeqAt.RcNeAt.none_int b t
  | str b=>have ey:=av.mp hy;subst ey;obtain⟨t,rfl⟩:=ry;rw[iV];exact SeqAt.RcNeAt.none_str b t
  | tup es=>
   obtain⟨p,vs,rfl,h1,_⟩:=aP.mp hy;cases ry
   obtain⟨Se,rv,ht,_⟩:=I.tuple h1
   rw[iU];exact SeqAt.RcNeAt.none_tuple ht (by omega)
 | bl a=>
  rw[pE] at hu
  have ex:=bP.mp hx;subst ex;cases rx
  cases e with
  | aR=>have ey:=aZ.mp hy;subst ey;cases ry;rw[jG];exact SeqAt.RcNeAt.bool_none a
  | bl b=>have ey:=bP.mp hy;subst ey;cases ry;rw[du];exact SeqAt.RcNeAt.bool_bool a b
  | int b=>have ey:=bo.mp hy;subst ey;obtain⟨t,rfl⟩:=ry;rw[du];exact SeqAt.RcNeAt.bool_int a b t
  | str b=>have ey:=av.mp hy;subst ey;obtain⟨t,rfl⟩:=ry;rw[jF];exact SeqAt.RcNeAt.bool_str a b t
  | tup es=>
   obtain⟨p,vs,rfl,h1,_⟩:=aP.mp hy;cases ry
   obtain⟨Se,rv,ht,_⟩:=I.tuple h1
   rw[jE];exact SeqAt.RcNeAt.bool_tuple a ht (by omega)
 | int a=>
  rw[lG] at hu
  have ex:=bo.mp hx;subst ex;obtain⟨t',rfl⟩:=rx
  cases e with
  | aR=>have ey:=aZ.mp hy;subst ey;cases ry;rw[iZ];exact SeqAt.RcNeAt.int_none a t'
  | bl b=>have ey:=bP.mp hy;subst ey;cases ry;rw[du];exact SeqAt.RcNeAt.int_bool a t' b
  | int b=>have ey:=bo.mp hy;subst ey;obtain⟨t,rfl⟩:=ry;rw[du];exact SeqAt.RcNeAt.int_int a t' b t
  | str b=>have ey:=av.mp hy;subst ey;obtain⟨t,rfl⟩:=ry;rw[iY];exact SeqAt.RcNeAt.int_str a t' b t
  | tup es=>
   obtain⟨p,vs,rfl,h1,_⟩:=aP.mp hy;cases ry
   obtain⟨Se,rv,ht,_⟩:=I.tuple h1
   rw[iX];exact SeqAt.RcNeAt.int_tuple a t' ht (by omega)
 | str a=>
  rw[lF] at hu
  have ex:=av.mp hx;subst ex;obtain⟨t',rfl⟩:=rx
  cases e with
  | aR=>have ey:=aZ.mp hy;subst ey;cases ry;rw[iR];exact SeqAt.RcNeAt.str_none a t'
  | bl b=>have ey:=bP.mp hy;subst ey;cases ry;rw[jC];exact SeqAt.RcNeAt.str_bool a t' b
  | int b=>have ey:=bo.mp hy;subst ey;obtain⟨t,rfl⟩:=ry;rw[iT];exact SeqAt.RcNeAt.str_int a t' b t
  | str b=>have ey:=av.mp hy;subst ey;obtain⟨t,rfl⟩:=ry;rw[du];exact SeqAt.RcNeAt.str_str a t' b t
  | tup es=>
   obtain⟨p,vs,rfl,h1,_⟩:=aP.mp hy;cases ry
   obtain⟨Se,rv,ht,_⟩:=I.tuple h1
   rw[iQ];exact SeqAt.RcNeAt.str_tuple a t' ht (by omega)
end
section
variable{X:Cx}
def rNeD (X:Cx):R2:=fun x y H Q=>∃d e,At X.K H d x∧At X.K H e y∧dep d≤60∧Q (.bl (!du d e)) H
theorem wj{k:Nat}(hr:dE k X.A):i7 X (compareOp .NotEq) (rNeD X):=by
 intro Sb s σ H x y v u Q I rx ry h
 obtain⟨d,e,hx,hy,hd,q⟩:=h
 exact vR I d e X.A x y v u rx ry hx hy (by have:=hr.units;omega) _ _ _ _ ⟨.bl _,H,I,rfl,q⟩
end
mutual
def toPy:D→PyData
 | .aR=>.none
 | .bl b=>.bool b
 | .int i=>.int i
 | .str x=>.str x
 | .tup xs=>.tuple (eB xs)
def eB:List D→List PyData
 | []=>[]
 | x::xs=>toPy x::eB xs
end
mutual
theorem pO:∀d:D,(toPy d).depth≤dep d+1
 | .aR=>by rw[toPy,j8];simp[PyData.depth]
 | .bl b=>by rw[toPy,pE];simp[PyData.depth]
 | .int i=>by rw[toPy,lG];simp[PyData.depth]
 | .str x=>by rw[toPy,lF];simp[PyData.depth]
 | .tup xs=>by
  have:=nH xs
  rw[toPy,dep]
  show PyData.depthAll (eB xs)+1≤_
  omega
theorem nH:∀ds:List D,PyData.depthAll (eB ds)≤eW ds+1
 | []=>by rw[eB];simp[PyData.depthAll]
 | d::ds=>by
  have h1:=pO d
  have h2:=nH ds
  rw[eB,eW]
  show max (toPy d).depth (PyData.depthAll (eB ds))≤_
  omega
end
mutual
theorem kJ:∀d:D,(toPy d).hasDict=false
 | .aR=>by rw[toPy];rfl
 | .bl b=>by rw[toPy];rfl
 | .int i=>by rw[toPy];rfl
 | .str x=>by rw[toPy];rfl
 | .tup xs=>by
  rw[toPy]
  show PyData.hasDictAll (eB xs)=false
  exact jJ xs
theorem jJ:∀ds:List D,PyData.hasDictAll (eB ds)=false
 | []=>by rw[eB];rfl
 | d::ds=>by
  rw[eB]
  show((toPy d).hasDict||PyData.hasDictAll (eB ds))=false
  rw[kJ d,jJ ds];rfl
end
section
variable{X:Cx}{Sb:List (Addr×Obj)}{σ:L2.St}{H:Hp}{s:Shared}
mutual
theorem sY (I:Inv X Sb σ H s):∀(d:D) (x:V) (u:Value),RelV x u→At X.K H d x→∃as,Reads s.heap u (toPy d) as
 | .aR,x,u,r,h=>by have e:=aZ.mp h;subst e;cases r;rw[toPy];exact⟨_,.none⟩
 | .bl b,x,u,r,h=>by have e:=bP.mp h;subst e;cases r;rw[toPy];exact⟨_,.bool b⟩
 | .int i,x,u,r,h=>by have e:=bo.mp h;subst e;obtain⟨t,rfl⟩:=r;rw[toPy];exact⟨_,.int i t⟩
 | .str y,x,u,r,h=>by have e:=av.mp h;subst e;obtain⟨t,rfl⟩:=r;rw[toPy];exact⟨_,.str y t⟩
 | .tup ds,x,u,r,h=>by
  obtain⟨p,vs,rfl,h1,h2⟩:=aP.mp h
  cases r
  obtain⟨Se,rv,ht,_⟩:=I.tuple h1
  obtain⟨o,e1,e2,n,e3⟩:=(show IsTup s.heap p Se.toArray from ht)
  obtain⟨as,ra⟩:=pZ I ds vs Se rv h2
  rw[toPy]
  exact⟨_,.tuple e1 e2 e3 (by simpa using ra)⟩
theorem pZ (I:Inv X Sb σ H s):∀(ds:List D) (vs:List V) (Se:List Value),Vals vs Se→ai X.K H ds vs→∃as,ReadsAll s.heap Se (eB ds) as
 | [],vs,Se,r,h=>by have e:=aD.mp h;subst e;cases r;rw[eB];exact⟨_,.nil⟩
 | d::ds,vs,Se,r,h=>by
  obtain⟨v,vr,rfl,h1,h2⟩:=aJ.mp h
  cases r with
  | cons r1 r2=>
   obtain⟨as,x⟩:=sY I d v _ r1 h1
   obtain⟨bs,y⟩:=pZ I ds vr _ r2 h2
   rw[eB]
   exact⟨_,.cons x y⟩
end
end
section
variable{X:Cx}
end
end GS
namespace GS
open PySem PySem.Builtin PyProof.Rows L2
open AutoSeq1 (wpAny_loadPart')
section
variable{X:Cx}
theorem wm{k:Nat}(hr:dE k X.A):i7 X (compareOp .Eq) (fun x y H Q=>∃a b xs,x=.ref a∧y=.ref b∧br X.K H a xs∧br X.K H b []∧Q (.bl xs.isEmpty) H):=by
 intro Sb s σ H x y v u Q I rx ry h
 obtain⟨a,b,xs,rfl,rfl,ha,hb,q⟩:=h
 cases rx;cases ry
 obtain⟨Se,r1,p1,z1⟩:=I.list ha
 obtain⟨EK,r2,p2,z2⟩:=I.list hb
 cases r2
 have hu:X.A.units < cLine:=Nat.lt_of_succ_lt (mI hr)
 cases r1 with
 | nil=>exact SeqAt.eq_listAt (e:=fun _=>true) p1.isList p2.isList rfl hu (fun j h1 _=>absurd h1 (by simp)) (bI I q rfl)
 | cons _ _=>exact SeqAt.eq_list_lengthsAt p1.isList p2.isList (by simp) hu (bI I q rfl)
theorem gP{k:Nat}(hr:dE k X.A):i7 X (compareOp .NotEq) (fun x y H Q=>∃a b xs,x=.ref a∧y=.ref b∧br X.K H a xs∧br X.K H b []∧Q (.bl (!xs.isEmpty)) H):=by
 intro Sb s σ H x y v u Q I rx ry h
 obtain⟨a,b,xs,rfl,rfl,ha,hb,q⟩:=h
 cases rx;cases ry
 obtain⟨Se,r1,p1,z1⟩:=I.list ha
 obtain⟨EK,r2,p2,z2⟩:=I.list hb
 cases r2
 have hu:X.A.units < cLine:=Nat.lt_of_succ_lt (mI hr)
 cases r1 with
 | nil=>exact SeqAt.RcNeAt.lists (e:=fun _=>true) p1.isList p2.isList rfl hu (fun j h1 _=>absurd h1 (by simp)) _ _ _ _ (bI I q rfl)
 | cons _ _=>exact SeqAt.RcNeAt.lists_lengths p1.isList p2.isList (by simp) hu _ _ _ _ (bI I q rfl)
theorem range_any (bs:List Bool):((List.range bs.length).any fun j=>(bs[j]?).getD false)=bs.any id:=by
 rw[Bool.eq_iff_iff,List.any_eq_true,List.any_eq_true]
 constructor
 ·rintro⟨j,hj,h⟩
  have Pl:=List.mem_range.mp hj
  exact⟨bs[j],C2 Pl,by simpa[Pl] using h⟩
 ·rintro⟨x,hx,h⟩
  obtain⟨i,hi,rfl⟩:=List.mem_iff_getElem.mp hx
  exact⟨i,List.mem_range.mpr hi,by simpa[hi] using h⟩
theorem xf (hc:X.calm=true):i9 X (.builtin "any") (fun xs H Q=>∃(p:Addr) (bs:List Bool),xs=[.ref p]∧br X.K H p (bs.map V.bl)∧Q (.bl (bs.any id)) H):=by
 intro Sb s σ H xs us Q I r h
 obtain⟨p,bs,rfl,hq,q⟩:=h
 obtain⟨u,rfl,ru⟩:=vals1 r
 cases ru
 obtain⟨Se,rv,pl,hz⟩:=I.list hq
 have ei:=lI rv
 subst ei
 have Ez:p < s.heap.objs.size:=let ⟨o,n,e,_⟩:=pl;Heap.lt_size e
 refine call_any_walk (wpAny_pyIter_list pl.isList ?_)
 refine⟨s.heap.objs.size,[s.heap.objs.size,p],[s.heap.objs.size],(bs.map Value.bool).toArray.size,_,_,(fun j=>(bs[j]?).getD false),rfl,
  Walks.list (A:=X.A.in1) (I.ok.hd hc) _ p (Dc Ez) (bs.map Value.bool).toArray,⟨⟨_,Heap.get?_push_size _ rfl,rfl,rfl⟩,?_⟩,fun i v s' Q' E' hP hQ'=>?_,fun h' tk k=>?_⟩
 ·obtain⟨o,ho,r⟩:=pl.isList
  exact⟨o,CL _ ho,r⟩
 ·have M0:(bs.map Value.bool)[i]?=some v:=by simpa using hP
  rw[List.getElem?_map] at M0
  cases e:bs[i]? with
  | none=>rw[e] at M0;cases M0
  | some b=>
   rw[e] at M0
   have e':Value.bool b=v:=by simpa using M0
   subst e'
   exact wpAny_truthy_bool (show Q' b s' by simpa[e] using hQ')
 ·rw[show(bs.map Value.bool).toArray.size=bs.length by simp,range_any bs]
  exact⟨.bl _,H,I.kept fun b o e=>k b o (fun hm=>Dc (Heap.lt_size e) (Dg.mp hm)) (CL _ e),rfl,q⟩
theorem rN (l:Addr) (xs:Array Value) (n:Nat) (b:Addr) (ys:Array Value) (m:Nat) (dc:Option Addr) (sl:Array (Option Value)) (h0:¬(!xs.isEmpty&&List.listTooLong (xs.size+ys.size))=true) (h1:xs.size≤sizeLine) (h2:(xs++ys).size≤sizeLine+1):
  Meets («list.extend» ⟨[.ref l,.ref b],[]⟩) (fun _ R s=>s.heap.get? l=some { cls:=.type "list",dict:=none,data:=.seq xs n,slots:=#[] }∧s.heap.get? b=some ⟨.type "tuple",dc,.seq ys m,sl⟩∧R (.ok (.ret Value.none)) { s with heap:=s.heap.update l (Obj.mapSeq fun x=>x++ys),toks:=s.toks }):=
 .of_wp fun P w A R s h=>by
  obtain⟨p,g,d,tk,os⟩:=s;obtain⟨hl,hb,h⟩:=h
  wp_walk using(wpAny_updateSeq hl rfl (hz:=h1) (_hz':=h2)),wpAny_loadPart' hl,wpAny_loadPart' hb
  exact⟨_,rfl,h⟩
def qa (K:Fg06):V→List V→Hp→VK→Prop:=fun x vs H Q=>∃l b xs zs,x=.ref l∧vs=[.ref b]∧H l=some (.lst xs)∧cq K H b zs∧xs.length+zs.length≤sizeLine∧Q .aR (upd H l (.lst (xs++zs)))
theorem jz:Bf X "list.extend" (qa X.K):=by
 intro Sb s σ H x vs v us Q I rx rv h
 obtain⟨l,b,xs,zs,rfl,rfl,hH,hB,hz,q⟩:=h
 cases rx
 obtain⟨u,rfl,ru⟩:=rv.one
 cases ru
 obtain⟨z,Se,n,r,hl,e⟩:=I.qo hH
 obtain⟨EK,r2,⟨⟨cc,dc,dt,sl⟩,e2,k2,m,d2⟩,z2⟩:=I.tuple hB
 replace k2:cc=.type "tuple":=k2
 replace d2:dt=.seq EK.toArray m:=d2
 subst k2 d2
 have GA:=r2.length
 have h0:¬(!Se.toArray.isEmpty&&List.listTooLong (Se.toArray.size+EK.toArray.size))=true:=by
  rw[mx (by rw[List.size_toArray,List.size_toArray];omega),Bool.and_false]
  exact CU
 refine call_meets F.slot_list_extend ⟨_,e,rfl⟩ F.entry_list_extend (F.args_list_extend_2 _ _) (rN l Se.toArray n b EK.toArray m dc sl h0 (by rw[List.size_toArray];omega) (by rw[Array.size_append,List.size_toArray,List.size_toArray];omega)) ⟨e,e2,?_⟩
 exact⟨.aR,_,I.wH (its':=Se++EK) hH e (by simp) (r.append r2) (by rw[CK];omega),rfl,q⟩
end
end GS
namespace GS
open PySem PySem.Builtin PyProof.Rows L2
section
variable{X:Cx}
def BV (K:Fg06):R2:=fun x y H Q=>∃ds es,At K H (.tup ds) x∧At K H (.tup es) y∧ds.length+es.length≤sizeLine∧∀r H',az H H'→At K H' (.tup (ds++es)) r→Q r H'
theorem gC:i7 X (binaryOp .Add) (BV X.K):=by
 intro Sb s σ H x y v u Q I rx ry h
 obtain⟨ds,es,hx,hy,hz,q⟩:=h
 obtain⟨a,xs,rfl,ha,hA⟩:=aP.mp hx
 obtain⟨b,ys,rfl,hb,hB⟩:=aP.mp hy
 cases rx;cases ry
 have l1:=hA.len
 have l2:=hB.len
 obtain⟨Se,r1,p1,_⟩:=I.tuple ha
 obtain⟨EK,r2,p2,_⟩:=I.tuple hb
 have l3:=r1.length
 have l4:=r2.length
 by_cases h1:Se=[]
 ·subst h1
  cases r1
  have e1:ds=[]:=by cases ds with | nil=>rfl | cons _ _=>simp at l1
  subst e1
  obtain⟨⟨cc,dd,dt,sl⟩,ho,hc,n,hd⟩:=id p1
  obtain⟨⟨cc2,LL,dt2,NI⟩,KG,MT,n2,hd2⟩:=id p2
  simp only at hc hd MT hd2
  subst hc hd MT hd2
  exact concat_meets ⟨_,ho,rfl⟩ ⟨_,KG,rfl⟩ noFill_tuple_add seq_tuple_add PySem.F.slot_tuple_add PySem.F.entry_tuple_add (PySem.F.args_tuple_add_2 _ _) (tuple_addW0 a b _ EK.toArray n n2 dd LL sl NI (by simp)) ⟨ho,KG,.ref b,H,I,rfl,q _ H (az.refl H) hy⟩
 ·refine HT.tQ p1 p2 h1 (fun z=>⟨.ref a,H,I,rfl,q _ H (az.refl H) ?_⟩) (fun z=>?_) (by omega)
  ·have e2:es=[]:=by
    subst z
    cases es with
    | nil=>rfl
    | cons d r=>exact absurd (l4.symm.trans l2) (by simp)
   rw[e2,List.append_nil];exact hx
  ·refine⟨.ref s.heap.objs.size,_,I.laid (t':=s.toks) (o:=.tup (xs++ys)) (fun b ob q=>CL _ q) (CN _) ⟨by rw[CK];omega,_,r1.append r2,IsTup.new _ _⟩,rfl,?_⟩
   have hn:=I.bH.fresh (CN s.heap.objs.size)
   exact q _ _ (af hn _) (At.new hn (hA.append hB))
end
end GS
namespace L2
open PySem PySem.Spec PyProof.Rows PySem.Builtin PySem.Builtin.Str
theorem Inv.nG{X:Cx}{Sb:List (Addr×Obj)}{σ:St}{H:Hp}{s:Shared}{fp:List Addr}{T:Addr}{o:HO}{h':Heap}{t':Nat}(I:Inv X Sb σ H s) (k:∀b u,b∉fp→s.heap.get? b=some u→h'.get? b=some u)
  (hf:∀b∈fp,i8 X Sb H b) (hT:s.heap.objs.size≤T) (new:dG X.prog X.w (upd H T o) h' T o):Inv X Sb σ (upd H T o) { s with heap:=h',toks:=t' }:=by
 have hn:=I.bH.fresh hT
 have nf:∀b u,H b=some u→b∉fp:=fun b u e hb=>by rw[(hf b hb).1] at e;cases e
 refine I.qE (ch:=fp) (s':={ s with heap:=h',toks:=t' }) rfl ⟨fun b o q _ _ hx=>k b o hx q,fun b o q _ _ hx=>⟨o.slots,k b o hx q⟩,fun b u q n _=>?_,fun b o q hx=>⟨o,k b o hx q⟩,fun b xs q=>?_,fun b u xs q=>?_,fun b ps q=>⟨#[],?_⟩⟩ ?_ I.bare
  fun b hb=>⟨(hf b hb).2.2.2.1,(hf b hb).2.1,(hf b hb).2.2.2.2.1,(hf b hb).2.2.2.2.2⟩
 ·rw[aF (Dc (CT (Heap.lt_size q) hT))];exact n
 ·rw[aF (cC q hn)];exact q
 ·rw[aF (cC q hn)];exact q
 ·rw[aF (cC q hn),q];simp
 ·intro b u e
  by_cases hb:b=T
  ·subst hb;rw[ag] at e;cases e;exact new
  ·rw[aF hb] at e
   refine(I.bH b u e).lQ (fun c v hc q=>k c v ?_ q) (fun c q=>by rw[aF (cC q hn)];exact q) fun c xs q=>by rw[aF (cC q hn)];exact q
   rcases hc with z | z
   ·rw[z];exact nf b u e
   ·exact nf c _ z
def CD (K:Fg06) (a:Addr):It:=
 ⟨fun i H=>∃xs x,br K H a xs∧xs[i]?=some x,fun i H x H'=>∃T y,H T=none∧x=.ref T∧H'=upd H T (.tup [.int (i:Nat),y])∧∀xs,br K H a xs→xs[i]?=some y,fun i H=>∃xs,br K H a xs∧xs.length≤i⟩
theorem tY{P:Program}{w:World}{K:Fg06}{elts:List Expr}{x1:Nat}{pos:Pos}(a e it:Addr) (LB:e≠it):Turn P w K (.Tuple elts x1 pos) (CD K a) [e,it] e (fun i h=>(∃old,IsEnum h e it i old)∧h.IsListIter it a i) where
 mem:=by simp
 obj:=fun i h st b hb=>by
  obtain⟨⟨old,he⟩,hit⟩:=st
  rcases List.mem_cons.mp hb with rfl | hb
  ·exact⟨_,he,fun v z=>by cases z⟩
  ·have eb:b=it:=by simpa using hb
   subst eb
   obtain⟨o,e,c,d⟩:=hit
   exact⟨o,e,fun v z=>by rw[d] at z;cases z⟩
 keep:=fun i h h' st k=>by
  obtain⟨⟨old,he⟩,hit⟩:=st
  exact⟨⟨old,k e (by simp) _ he⟩,hit.at fun o z=>k it (by simp) o z⟩
 item:=by
  intro X hP hw hK hc i Sb s σ H E I hf st hg
  subst hP hw hK
  obtain⟨⟨old,he⟩,hit⟩:=st
  obtain⟨xs,x,hq,hx⟩:=hg
  obtain⟨Se,rv,p,hz⟩:=I.list hq
  obtain⟨u,hu,ru⟩:=rv.get hx
  have Ig:e < s.heap.objs.size:=Heap.lt_size he
  have KO:it < s.heap.objs.size:=by obtain⟨_,z,_⟩:=hit;exact Heap.lt_size z
  refine wpAny_pyNext_enum_item he hit p.isList (x:=u) (by simpa using hu) LB fun h1 Pc hit1 PH hsz1 ID=>?_
  refine⟨_,rfl,wpAny_letOwnedTupleGo_enum Pc fun h2 Pr FU=>?_⟩
  have K4:h2.get? s.heap.objs.size=some { cls:=.type "tuple",data:=.seq #[.int i s.toks,u] }:=(FU.2 _ (Nat.ne_of_gt Ig)).trans PH
  refine⟨.ref s.heap.objs.size,upd H s.heap.objs.size (.tup [.int (i:Nat),x]),?_,rfl,⟨_,x,I.bH.fresh (CN _),rfl,rfl,fun ys hy=>by rw[I.qp hy hq];exact hx⟩,⟨⟨_,by simpa using Pr⟩,hit1.at fun o z=>(FU.2 it LB.symm).trans z⟩,fun b hb=>?_⟩
  ·refine Inv.nG (s:=s) (h':=h2) (fp:=[e,it]) (t':=s.toks+1) I (fun b o hb q=>?_) hf (CN _) ⟨by show 2≤sizeLine;decide,_,.cons ⟨_,rfl⟩ (.cons ru .nil),⟨_,K4,rfl,_,rfl⟩⟩
   have ES:b≠e:=fun z=>hb (by simp[z])
   have EW:b≠it:=fun z=>hb (by simp[z])
   exact(FU.2 b ES).trans (ID b o ES EW q)
  ·have Ex:b < s.heap.objs.size:=by
    rcases List.mem_cons.mp hb with rfl | hb
    ·exact Ig
    ·have eb:b=it:=by simpa using hb
     subst eb;exact KO
   rw[aF (Dc Ex)]
   exact(hf b hb).1
 done:=by
  intro X hP hw hK hc i Sb s σ H E I hf st hg
  subst hP hw hK
  obtain⟨⟨old,he⟩,hit⟩:=st
  obtain⟨xs,hq,hx⟩:=hg
  obtain⟨Se,rv,p,hz⟩:=I.list hq
  obtain⟨f0,f1,f2,f3,f4,f5⟩:=hf it (by simp)
  have hl:=rv.length
  exact wpAny_pyNext_enum_end (I.ok.hd hc) he hit p.isList (by simp;omega) fun h' eb=>⟨rfl,I.turned (t':=s.toks) (fun b o hb e=>eb b o hb e) f0 f1 f3 f4 f5⟩
 self:=fun _ _ _ _ _ st h=>let ⟨⟨_,he⟩,_⟩:=st;wpAny_pyIter_enum he h
theorem kI:bootBuiltins "enumerate"=some (.type "enumerate"):=by decide +kernel
section
variable{X:Cx}{elts:List Expr}{x1:Nat}{tpos:Pos}
def Cn (K:Fg06) (ta:TA):TI:=fun σ H R=>ta σ H fun vs H1=>∃a,vs=[.ref a]∧(∃xs,br K H1 a xs)∧R (CD K a) H1
theorem tq{a:Expr}{ta:TA}{p pos:Pos}(hg:Gl X "enumerate") (hm:X.mg "enumerate"=none) (ha:PA X [a] ta) (hs:starEach [a] X.env=[(false,eval a X.env)]:=by rfl):PI X (.Tuple elts x1 tpos) (.Call (.Name "enumerate" p) [a] [] pos) (Cn X.K ta):=by
 intro Sb s σ H R I h
 refine Call_ (gm I hg hm kI (PyProof.Rows.callWith_type1 (cx (ha pos Sb s σ H _ I h) fun us s1 zq=>?_) hs rfl))
 obtain⟨vs,H1,I1,r1,q1⟩:=zq
 obtain⟨l,e,⟨xs,hq⟩,q⟩:=q1
 subst e
 obtain⟨u,rfl,ru⟩:=vals1 r1
 cases ru
 obtain⟨Se,rv,p,hz⟩:=I1.list hq
 refine call_enumerate_list p.isList fun h' he hit hsz hk=>wpAny_pyIter_enum he ?_
 refine⟨s1.heap.objs.size+1,[s1.heap.objs.size+1,s1.heap.objs.size],_,_,H1,rfl,I1.kept (t':=s1.toks) hk,tY l _ _ (Nat.succ_ne_self _),⟨⟨_,he⟩,hit⟩,fun b hb=>?_,q⟩
 have ET:s1.heap.objs.size≤b:=by
  rcases List.mem_cons.mp hb with rfl | hb
  ·exact Nat.le_succ _
  ·have eb:b=s1.heap.objs.size:=by simpa using hb
   exact Nat.le_of_eq eb.symm
 exact I1.uI ET (I1.bH.fresh ET)
end
theorem qu{K:Fg06}{a:Addr}{xs:List V}{g:TG}{tb:TS}{D:Ends}{σ:St}{H:Hp}(Pv:Nat→St→Hp→Prop) (h0:Pv 0 σ H) (hl:∀i σ H,i≤xs.length→Pv i σ H→br K H a xs)
  (hs:∀i x σ H T,xs[i]?=some x→Pv i σ H→H T=none→g (.ref T) σ (upd H T (.tup [.int (i:Nat),x])) fun σ2 H2=>tb { D with nx:=Pv (i+1),ct:=Pv (i+1),bk:=D.nx } σ2 H2) (hd:∀σ H,Pv xs.length σ H→D.nx σ H):
  ∃W:Nat→Nat→St→Hp→Prop,(∃m,W 0 m σ H)∧∀i m σ H,W i m σ H→
   ((CD K a).stop i H∧D.nx σ H)∨((CD K a).go i H∧∃N:St→Hp→Prop,(∀σ' H',N σ' H'→∃m',m' < m∧W (i+1) m' σ' H')∧∀x H',(CD K a).pK i H x H'→g x σ H' fun σ2 H2=>tb { D with nx:=N,ct:=N,bk:=D.nx } σ2 H2):=by
 refine⟨fun i m σ H=>m=xs.length - i∧i≤xs.length∧Pv i σ H,⟨xs.length,by simp,Nat.zero_le _,h0⟩,?_⟩
 rintro i m σ H ⟨rfl,hi,p⟩
 have q:=hl i σ H hi p
 by_cases Ex:i < xs.length
 ·refine .inr ⟨⟨xs,xs[i],q,by simp[Ex]⟩,Pv (i+1),fun σ' H' p'=>⟨xs.length - (i+1),by omega,rfl,Ex,p'⟩,fun x H' y=>?_⟩
  obtain⟨T,y',hT,rfl,rfl,hy⟩:=y
  exact hs i y' σ _ T (hy xs q) p hT
 ·have e:i=xs.length:=by omega
  subst e
  exact .inl ⟨⟨xs,q,CN _⟩,hd σ H p⟩
section
variable{X:Cx}
end
end L2
namespace GS
open PySem PySem.Builtin PySem.Builtin.Str
section
variable{P:Program}{w:World}{B:Around}{E:Value→Shared→Prop}{σ:Shared}
theorem rH{r c:Addr}{k:Nat}{xs:Array Value}{y:Value}{Q:Value→Shared→Prop}(hr:σ.heap.IsTupleIter r c k) (hc:σ.heap.IsTuple c xs) (hy:xs[k]?=some y)
  (q:∀g,g.IsTupleIter r c (k+1)→Heap.SameBut r σ.heap g→Q y { σ with heap:=g }):wpAny (model P w) B (SmallTypes.nextOf (.ref r)) Q E σ:=by
 obtain⟨or,e1,e2,e3⟩:=id hr
 obtain⟨oc,f1,_,m,f2⟩:=hc
 unfold SmallTypes.nextOf
 refine CG (wpAny_callSpecial?_slot (name:=Str.ofString "__next__") hr.typeIs F.slot_tuple_iterator_next (wpAny_call_entry F.slot_tuple_iterator_next hr.typeIs F.entry_tuple_iterator_next ?_ (F.args_tuple_iterator_next_1 _)))
 show wpAny _ _ (field (.ref r) 0 >>= _) _ _ σ
 refine CG (wpAny_field e1 e3 (x:=.ref c) rfl ?_)
 show wpAny _ _ (if(Value.ref c == Value.none)=true then _ else _) _ _ σ
 rw[CO (show ¬((Value.ref c == Value.none)=true) from CU)]
 show wpAny _ _ (field (.ref r) 1 >>= _) _ _ σ
 refine CG (wpAny_field e1 e3 (x:=.int k 0) rfl ?_)
 show wpAny _ _ (seqItems? (.ref c) >>= _) _ _ σ
 refine CG (wpAny_seqItems f1 f2 ?_)
 simp only[Int.toNat_natCast,hy]
 refine CG (wpAny_setField e1 e3 (by simp) (CH ⟨y,rfl,CH (q _ ⟨_,Heap.get?_update_self _ e1 (Obj.isFreed_of_fields (Obj.data_mapFields e3 _)),(Obj.cls_mapFields ..).trans e2,by rw[Obj.data_mapFields e3];simp[rawInt]⟩ (Heap.SameBut.update ..))⟩))
theorem nR{r c:Addr}{k:Nat}{xs:Array Value}{Q:Value→Shared→Prop}(calm:B.handled=none) (hr:σ.heap.IsTupleIter r c k) (hc:σ.heap.IsTuple c xs) (hy:xs[k]?=none)
  (q:∀g x,Heap.ExtBut r σ.heap g→(∃o,g.get? x=some o∧o.cls=.type "StopIteration")→E (.ref x) { σ with heap:=g }):wpAny (model P w) B (SmallTypes.nextOf (.ref r)) Q E σ:=by
 obtain⟨or,e1,e2,e3⟩:=id hr
 obtain⟨oc,f1,_,m,f2⟩:=hc
 unfold SmallTypes.nextOf
 refine CG (wpAny_callSpecial?_slot (name:=Str.ofString "__next__") hr.typeIs F.slot_tuple_iterator_next (wpAny_call_entry F.slot_tuple_iterator_next hr.typeIs F.entry_tuple_iterator_next ?_ (F.args_tuple_iterator_next_1 _)))
 show wpAny _ _ (field (.ref r) 0 >>= _) _ _ σ
 refine CG (wpAny_field e1 e3 (x:=.ref c) rfl ?_)
 show wpAny _ _ (if(Value.ref c == Value.none)=true then _ else _) _ _ σ
 rw[CO (show ¬((Value.ref c == Value.none)=true) from CU)]
 show wpAny _ _ (field (.ref r) 1 >>= _) _ _ σ
 refine CG (wpAny_field e1 e3 (x:=.int k 0) rfl ?_)
 show wpAny _ _ (seqItems? (.ref c) >>= _) _ _ σ
 refine CG (wpAny_seqItems f1 f2 ?_)
 simp only[Int.toNat_natCast,hy]
 refine CG (wpAny_rule (CG (wpAny_setField e1 e3 (by simp) ?_)))
 show wpAny _ _ (newExc (.type "StopIteration") [] >>= _) _ _ _
 refine CG ?_
 simp only[newExc,newTuple]
 refine CG (wpAny_newObj_type (CG (m:=firstArgMember _ _) (wpAny_of_eq (a:=Value.none) (by first | rfl | (simp only[firstArgMember];rfl)) (wpAny_newObj_type ?_ (by size_fits)))) (by size_fits))
 simp only[raiseNew]
 refine CG (wpAny_handled ?_)
 first | rw[show B.in1.handled=none from calm] | rw[calm]
 refine CG (CH (wpAny_throw ?_))
 exact q _ _ (((Heap.SameBut.update ..).extBut.push _).push _) ⟨_,Heap.get?_push_size _ rfl,rfl⟩
theorem AN (calm:B.handled=none) (r c:Addr) (E2:c≠r) (xs:Array Value):Draws P w B r [r,c] xs.size (fun k v=>xs[k]?=some v) (fun k g=>g.IsTupleIter r c k∧g.IsTuple c xs) where
 live:=fun _ _ st=>let ⟨o,ho,_⟩:=st.1;⟨o,ho⟩
 frame:=fun _ _ _ ⟨⟨o,e,e'⟩,⟨o2,f,f'⟩⟩ hk=>⟨⟨o,hk r (by simp) o e,e'⟩,⟨o2,hk c (by simp) o2 f,f'⟩⟩
 item:=fun k s Q E hi st hQ=>rH st.1 st.2 (y:=xs[k]) (by simp[hi]) fun g a b=>hQ _ g s.toks (by simp[hi]) ⟨a,st.2.extBut b.extBut E2⟩ b
 done:=fun s Q E st hE=>nR calm st.1 st.2 (by simp) hE
theorem wY{e r:Addr}{fp:List Addr}{n k:Nat}{m:Int}{Pv:Nat→Value→Prop}{St:Nat→Heap→Prop}{old:Value}{Q:Value→Shared→Prop}(D:Draws P w B r fp n Pv St) (he:IsEnum σ.heap e r m old) (EE:St k σ.heap) (Ex:k < n) (E2:e≠r) (MF:e∉fp)
  (q:∀y g tk,Pv k y→IsEnumOut g e r (m+1) y σ.heap.objs.size→St (k+1) g→g.get? σ.heap.objs.size=some { cls:=.type "tuple",data:=.seq #[.int m tk,y] }→g.objs.size=σ.heap.objs.size+1→
   (∀b o,b≠e→b≠r→σ.heap.get? b=some o→g.get? b=some o)→Q (.ref σ.heap.objs.size) { σ with heap:=g,toks:=tk+1 }):
  wpAny (model P w) B («enumerate.__next__» ⟨[.ref e],[]⟩) (fun fin s'=>∃v,fin=.done (.ret v)∧Q v s') E σ:=by
 obtain⟨p0,gn,dr,t0,os⟩:=σ
 show wpAny _ _ (field (.ref e) 2 >>= _) _ _ _
 refine CG (wpAny_field he rfl (x:=.ref r) rfl (CG (D.item k _ _ _ Ex EE fun y p1 tk py JE Lq=>?_)))
 replace Lq:Heap.SameBut r p0 p1:=Lq
 have e1:IsEnum p1 e r m old:=(Lq.2 e E2).trans he
 show wpAny _ _ (field (.ref e) 3 >>= _) _ _ ⟨p1,gn,dr,tk,os⟩
 refine CG (wpAny_field e1 rfl (x:=rawInt m) rfl ?_)
 show wpAny _ _ (field (.ref e) 4 >>= _) _ _ ⟨p1,gn,dr,tk,os⟩
 refine CG (wpAny_field e1 rfl (x:=.none) rfl ?_)
 show wpAny _ _ (mkInt m >>= _) _ _ ⟨p1,gn,dr,tk,os⟩
 refine CG (wpAny_mkInt ?_)
 show wpAny _ _ (setField (.ref e) 3 (rawInt (m+1)) >>= _) _ _ ⟨p1,gn,dr,tk+1,os⟩
 refine CG (wpAny_setField_rec e1 (by simp) fun p2 e2 Lp=>?_)
 replace Lp:Heap.SameBut e p1 p2:=Lp
 replace e2:IsEnum p2 e r (m+1) old:=e2
 show wpAny _ _ (setField (.ref e) 4 .none >>= _) _ _ ⟨p2,gn,dr,tk+1,os⟩
 refine CG (wpAny_setField_rec e2 (by simp) fun p3 e3 Lo=>?_)
 replace Lo:Heap.SameBut e p2 p3:=Lo
 replace e3:IsEnum p3 e r (m+1) old:=e3
 show wpAny _ _ (newTuple [.int m tk,y] >>= _) _ _ ⟨p3,gn,dr,tk+1,os⟩
 refine CG (wpAny_newTuple ?_)
 have e4:IsEnum (p3.push { cls:=.type "tuple",data:=.seq #[.int m tk,y] }) e r (m+1) old:=CL _ e3
 generalize Fy:p3.push { cls:=.type "tuple",data:=.seq #[.int m tk,y] }=p4 at e4
 have z3:p3.objs.size=p0.objs.size:=by rw[Lo.1,Lp.1,Lq.1]
 have el:e < p0.objs.size:=Heap.lt_size he
 have t4:p4.get? p0.objs.size=some { cls:=.type "tuple",data:=.seq #[.int m tk,y] }:=by rw[←Fy,←z3];exact Heap.get?_push_size _ rfl
 have z4:p4.objs.size=p0.objs.size+1:=by rw[←Fy,Heap.size_push,z3]
 have kp:∀b o,b≠e→b≠r→p0.get? b=some o→p4.get? b=some o:=fun b o b1 b2 x=>by rw[←Fy];exact CL _ (Lo.extBut b o b1 (Lp.extBut b o b1 (Lq.extBut b o b2 x)))
 have Iq:St (k+1) p4:=D.frame _ _ _ JE fun b hb o x=>by rw[←Fy];exact CL _ (Lo.extBut b o (fun z=>MF (z▸hb)) (Lp.extBut b o (fun z=>MF (z▸hb)) x))
 show wpAny _ _ (SmallTypes.ownedTupleIsFree (.ref e) >>= _) _ _ ⟨p4,gn,dr,tk+1,os⟩
 rw[z3]
 clear Fy e3 Lo e2 Lp e1 Lq JE z3 p3 p2 p1
 refine CG ?_
 unfold SmallTypes.ownedTupleIsFree
 refine CG (wpAny_field e4 rfl (x:=.none) rfl (CH ?_))
 simp only[if_true]
 refine CG (wpAny_rule (CG (wpAny_field e4 rfl (x:=old) rfl (CG (wpAny_setField_rec e4 (by simp) fun p5 e5 NM=>?_)))))
 replace NM:Heap.SameBut e p4 p5:=NM
 replace e5:IsEnum p5 e r (m+1) y:=e5
 show wpAny _ _ (SmallTypes.ownedTupleHandOut (.ref e) (.ref p0.objs.size) >>= _) _ _ ⟨p5,gn,dr,tk+1,os⟩
 refine CG ?_
 unfold SmallTypes.ownedTupleHandOut
 refine CG (wpAny_setField_rec e5 (by simp) fun p6 e6 NL=>?_)
 replace NL:Heap.SameBut e p5 p6:=NL
 replace e6:IsEnumOut p6 e r (m+1) y p0.objs.size:=e6
 refine wpAny_setField_rec e6 (by simp) fun p7 e7 NK=>?_
 replace NK:Heap.SameBut e p6 p7:=NK
 replace e7:IsEnumOut p7 e r (m+1) y p0.objs.size:=e7
 have Co:∀b o,b≠e→p4.get? b=some o→p7.get? b=some o:=fun b o z x=>NK.extBut b o z (NL.extBut b o z (NM.extBut b o z x))
 exact CG (wpAny_letGo (CH ⟨_,rfl,q y p7 tk py e7 (D.frame _ _ _ Iq fun b hb o x=>Co b o (fun z=>MF (z▸hb)) x) (Co _ _ (Nat.ne_of_gt el) t4) (by rw[NK.1,NL.1,NM.1,z4]) fun b o b1 b2 x=>Co b o b1 (kp b o b1 b2 x)⟩))
theorem qb{e r:Addr}{fp:List Addr}{n k:Nat}{m:Int}{Pv:Nat→Value→Prop}{St:Nat→Heap→Prop}{old:Value}{Q:Option Value→Shared→Prop}(D:Draws P w B.in1 r fp n Pv St) (he:IsEnum σ.heap e r m old) (EE:St k σ.heap) (Ex:k < n) (E2:e≠r) (MF:e∉fp)
  (q:∀y g tk,Pv k y→IsEnumOut g e r (m+1) y σ.heap.objs.size→St (k+1) g→g.get? σ.heap.objs.size=some { cls:=.type "tuple",data:=.seq #[.int m tk,y] }→g.objs.size=σ.heap.objs.size+1→
   (∀b o,b≠e→b≠r→σ.heap.get? b=some o→g.get? b=some o)→Q (some (.ref σ.heap.objs.size)) { σ with heap:=g,toks:=tk+1 }):wpAny (model P w) B (pyNext (.ref e)) Q E σ:=by
 have ty:σ.TypeIs (.ref e) "enumerate":=⟨_,he,rfl⟩
 unfold pyNext
 exact CG (wpAny_attempt (wpAny_callSpecial?_slot (name:=Str.ofString "__next__") ty F.slot_enumerate_next (wpAny_call_entry F.slot_enumerate_next ty F.entry_enumerate_next (wY D he EE Ex E2 MF fun y g tk a b c d k x=>CH (q y g tk a b c d k x)) (F.args_enumerate_next_1 _))))
end
end GS
namespace GS
open PySem PySem.Builtin PySem.Builtin.Str
open AutoSeq1 (wpAny_loadPart')
theorem ql (c:Addr) (xs:Array Value) (n:Nat) (dc:Option Addr) (sl:Array (Option Value)):
  Meets («enumerate.__new__» ⟨[.type "enumerate",.ref c],[]⟩) (fun _ R s=>s.heap.get? c=some ⟨.type "tuple",dc,.seq xs n,sl⟩∧
   R (.ok (.ret (.ref (s.heap.push { cls:=.type "tuple_iterator",data:=.fields #[.ref c,.int 0 0] }).objs.size)))
    { s with heap:=(s.heap.push { cls:=.type "tuple_iterator",data:=.fields #[.ref c,.int 0 0] }).push { cls:=.type "enumerate",data:=.fields #[.none,.bool false,.ref s.heap.objs.size,rawInt 0,.none,.none] } }):=
 .of_wp fun prog w A R s h=>by
  obtain⟨p,g,d,tk,os⟩:=s;obtain⟨hc,h⟩:=h
  have sub:=sub_enumerate
  have hT:Heap.IsTuple (Shared.heap ⟨p,g,d,tk,os⟩) c xs:=⟨_,hc,rfl,n,rfl⟩
  wp_walk using wpAny_loadPart' hc
  refine wpAny_stack_any fun st=>CH ?_
  split
  ·rename_i c _ _ _ _ _
   cases (c == Value.type "enumerate")<;>(wp_walk using wpAny_loadPart' hc,wpAny_pyIter_tuple hT;exact⟨_,rfl,h⟩)
  ·wp_walk using wpAny_loadPart' hc,wpAny_pyIter_tuple hT
   exact⟨_,rfl,h⟩
section
variable{P:Program}{w:World}{B:Around}{E:Value→Shared→Prop}{σ:Shared}
theorem sg{c:Addr}{xs:Array Value}{Q:Value→Shared→Prop}(hT:σ.heap.IsTuple c xs)
  (q:∀g,IsEnum g (σ.heap.objs.size+1) σ.heap.objs.size 0 .none→g.IsTupleIter σ.heap.objs.size c 0→(∀b o,σ.heap.get? b=some o→g.get? b=some o)→Q (.ref (σ.heap.objs.size+1)) { σ with heap:=g }):
  wpAny (model P w) B (call (.type "enumerate") [.ref c]) Q E σ:=by
 obtain⟨⟨cc,dc,dt,sl⟩,hc,hk,n,hd⟩:=hT
 replace hk:cc=.type "tuple":=hk
 replace hd:dt=.seq xs n:=hd
 subst hk hd
 refine callType_new F.called_enumerate (by decide) (F.typeCall_enumerate_1 _) (F.newCall_enumerate_1 _) (fun obj=>F.args_object_init_2 obj _) F.entry_enumerate_new (ql c xs n dc sl) ⟨hc,?_⟩
 have hz:(σ.heap.push { cls:=.type "tuple_iterator",data:=.fields #[.ref c,.int 0 0] }).objs.size=σ.heap.objs.size+1:=Heap.size_push ..
 show _∧_
 rw[hz]
 have he:IsEnum ((σ.heap.push { cls:=.type "tuple_iterator",data:=.fields #[.ref c,.int 0 0] }).push { cls:=.type "enumerate",data:=.fields #[.none,.bool false,.ref σ.heap.objs.size,rawInt 0,.none,.none] }) (σ.heap.objs.size+1) σ.heap.objs.size 0 .none:=by
  have z:=Heap.get?_push_size (σ.heap.push { cls:=.type "tuple_iterator",data:=.fields #[.ref c,.int 0 0] }) (o:={ cls:=.type "enumerate",data:=.fields #[.none,.bool false,.ref σ.heap.objs.size,rawInt 0,.none,.none] }) rfl
  rw[hz] at z;exact z
 exact⟨⟨_,he,rfl⟩,q _ he ⟨_,CL _ (Heap.get?_push_size _ rfl),rfl,rfl⟩ fun b o x=>CL _ (CL _ x)⟩
theorem wt0 (T:String) (us:List Value) (kw:List (Str×Value)):(Code.builtin "type.__call__" ⟨.type T::us,kw⟩).weight=0:=rfl
theorem un1 (T:String) (us:List Value) (kw:List (Str×Value)):(Code.builtin "type.__call__" ⟨.type T::us,kw⟩).cUnits=1:=rfl
theorem initK{T new:String}{u:Value}{us:List Value}{kw:List (Str×Value)}(hl:typeLookup (.type T) "__init__"=pure (some (.builtin "object.__init__"))) (hm:Bind.madeBy (.type T)=pure (some new)) (E2:(some new != some "object.__new__")=true):
  Meets («object.__init__» ⟨u::us,kw⟩) (fun _ R s=>s.TypeIs u T∧R (.ok (.ret .none)) s):=by
 refine Meets.of_wp fun prog w A R s hs=>?_
 obtain⟨hT,hq⟩:=hs
 cases us with
 | nil=>
  cases kw with
  | nil=>exact CH ⟨_,rfl,hq⟩
  | cons a b=>
   repeat (any_goals (first | assumption | wp_step))
   exact⟨_,rfl,hq⟩
 | cons a us=>
  repeat (any_goals (first | assumption | wp_step))
  exact⟨_,rfl,hq⟩
theorem uQ{T new:String}{Bn:Builtin}{us:List Value}{kw:List (Str×Value)}{S:PySem.Spec}{Q:Value→Shared→Prop}(ft:TypeCalled T new "object.__init__") (E2:(some new != some "object.__new__")=true) (N2:checkTypeCall T ⟨us,kw⟩=pure ()) (MP:checkBuiltinCall new ⟨.type T::us,kw⟩=pure ())
  (bH:∀u,argsOk "object.__init__" ⟨u::us,kw⟩) (en:entryFor table new=some Bn) (g:Meets (Bn ⟨.type T::us,kw⟩) S) (h:S B.in1 (wants (fun u s=>s.TypeIs u T∧Q u s) E) σ):wpAny (model P w) B (call (.type T) us kw) Q E σ:=by
 obtain⟨c,tl,Mu⟩:=ft.mro
 have k1:=ft.made
 have k2:=ft.sub
 refine wpAny_call (codeAny_of_tree ?_)
 show wpAny _ _ (callAny (.type T) _) _ _ _
 refine CH ⟨Code.quiet_builtin _ (by decide +kernel),codeAny_builtin F.entry_type_call ?_⟩
 rw[Around.under_plain (wt0 T us kw) (un1 T us kw)]
 have k3:=ft.notType
 have k4:=ft.canCreate
 repeat (any_goals (first | assumption | wp_step))
 refine codeAny_mono (codeAny_call_builtin ft.plain en (wpAny_of_eq MP (g P w B.in1 _ σ h))) fun r s1 hr=>?_
 cases r with
 | error e=>exact hr
 | ok fl=>
  cases fl with
  | ret u=>
   obtain⟨hT,hq⟩:=hr
   have k5:=ft.init.lookup
   have k6:=ft.init.bind u
   repeat (any_goals (first | assumption | wp_step))
   refine codeAny_mono (codeAny_call_builtin ft.init.plain F.entry_object_init (ft.init.check _ _ _ _ _ _ _ _ hT (bH u) (initK ft.init.lookup ft.made E2 P w B.in1 (wants (fun r s=>r=.none∧Q u s) E) s1 ⟨hT,rfl,hq⟩))) fun r2 s2 Gb=>?_
   cases r2 with
   | error e=>exact Gb
   | ok fl2=>
    cases fl2 with
    | ret r=>
     obtain⟨rfl,hq⟩:=Gb
     repeat (any_goals (first | assumption | wp_step))
    | _=>exact Gb.elim
  | _=>exact hr.elim
end
theorem ck1 (c v:Value):checkTypeCall "enumerate" ⟨[c],[("start",v)]⟩=pure ():=by rfl
theorem ck2 (c v:Value):checkBuiltinCall "enumerate.__new__" ⟨[.type "enumerate",c],[("start",v)]⟩=pure ():=by first | kernel_rfl | (unfold checkBuiltinCall;kernel_rfl)
theorem ck3 (u c v:Value):argsOk "object.__init__" ⟨[u,c],[("start",v)]⟩:=by first | rfl | decide | exact F.args_object_init_2 _ _
theorem qm (c:Addr) (xs:Array Value) (n:Nat) (dc:Option Addr) (sl:Array (Option Value)) (t:Tok):
  Meets («enumerate.__new__» ⟨[.type "enumerate",.ref c],[("start",.int 1 t)]⟩) (fun _ R s=>s.heap.get? c=some ⟨.type "tuple",dc,.seq xs n,sl⟩∧
   R (.ok (.ret (.ref (s.heap.push { cls:=.type "tuple_iterator",data:=.fields #[.ref c,.int 0 0] }).objs.size)))
    { s with heap:=(s.heap.push { cls:=.type "tuple_iterator",data:=.fields #[.ref c,.int 0 0] }).push { cls:=.type "enumerate",data:=.fields #[.none,.bool false,.ref s.heap.objs.size,rawInt 1,.none,.none] } }):=
 .of_wp fun prog w A R s h=>by
  obtain⟨p,g,d,tk,os⟩:=s;obtain⟨hc,h⟩:=h
  have sub:=sub_enumerate
  have hT:Heap.IsTuple (Shared.heap ⟨p,g,d,tk,os⟩) c xs:=⟨_,hc,rfl,n,rfl⟩
  wp_walk using wpAny_loadPart' hc
  refine wpAny_stack_any fun st=>CH ?_
  split
  ·rename_i c _ _ _ _ _
   cases (c == Value.type "enumerate")<;>(wp_walk using wpAny_loadPart' hc,wpAny_pyIter_tuple hT;exact⟨_,rfl,h⟩)
  ·wp_walk using wpAny_loadPart' hc,wpAny_pyIter_tuple hT
   exact⟨_,rfl,h⟩
end GS
namespace L2
open PySem PySem.Spec PyProof.Rows PySem.Builtin PySem.Builtin.Str GS
def qJ (K:Fg06) (a:Addr) (m:Int):It:=
 ⟨fun i H=>∃xs x,cq K H a xs∧xs[i]?=some x,fun i H x H'=>∃T y,H T=none∧x=.ref T∧H'=upd H T (.tup [.int (m+(i:Nat)),y])∧∀xs,cq K H a xs→xs[i]?=some y,fun i H=>∃xs,cq K H a xs∧xs.length≤i⟩
theorem lL{P:Program}{w:World}{K:Fg06}{elts:List Expr}{x1:Nat}{pos:Pos}(a e it:Addr) (m:Int) (LB:e≠it):Turn P w K (.Tuple elts x1 pos) (qJ K a m) [e,it] e (fun i h=>(∃old,IsEnum h e it (m+(i:Nat)) old)∧h.IsTupleIter it a i) where
 mem:=by simp
 obj:=fun i h st b hb=>by
  obtain⟨⟨old,he⟩,hit⟩:=st
  rcases List.mem_cons.mp hb with rfl | hb
  ·exact⟨_,he,fun v z=>by cases z⟩
  ·have eb:b=it:=by simpa using hb
   subst eb
   obtain⟨o,e,c,d⟩:=hit
   exact⟨o,e,fun v z=>by rw[d] at z;cases z⟩
 keep:=fun i h h' st k=>by
  obtain⟨⟨old,he⟩,o,e1,e2⟩:=st
  exact⟨⟨old,k e (by simp) _ he⟩,o,k it (by simp) o e1,e2⟩
 item:=by
  intro X hP hw hK hc i Sb s σ H E I hf st hg
  subst hP hw hK
  obtain⟨⟨old,he⟩,hit⟩:=st
  obtain⟨xs,x,hq,hx⟩:=hg
  obtain⟨Se,rv,p,hz⟩:=I.tuple hq
  obtain⟨u,hu,ru⟩:=rv.get hx
  have Ig:e < s.heap.objs.size:=Heap.lt_size he
  have KO:it < s.heap.objs.size:=by obtain⟨_,z,_⟩:=hit;exact Heap.lt_size z
  have hT:s.heap.IsTuple a Se.toArray:=p
  have nea:e≠a:=fun z=>by
   subst z
   obtain⟨o,k1,k2,_⟩:=hT
   rw[he] at k1;cases k1
   exact absurd (Value.type.inj k2) (by decide)
  have nia:a≠it:=fun z=>by
   subst z
   obtain⟨o,k1,k2,_⟩:=hT
   obtain⟨o',l1,l2,_⟩:=hit
   rw[k1] at l1;cases l1;rw[k2] at l2
   exact absurd (Value.type.inj l2) (by decide)
  refine qb (AN (B:=X.A.in1) (show X.A.in1.handled=none from I.ok.hd hc) it a nia Se.toArray) he ⟨hit,hT⟩ (by have:=(CM.mp hu).1;simpa using this) LB (by simp[LB,nea]) fun y h1 tk hy Pc JE PH hsz1 ID=>?_
  have ey:y=u:=by rw[show Se.toArray[i]?=some u by simpa using hu] at hy;cases hy;rfl
  subst ey
  refine⟨_,rfl,wpAny_letOwnedTupleGo_enum Pc fun h2 Pr FU=>?_⟩
  have K4:h2.get? s.heap.objs.size=some { cls:=.type "tuple",data:=.seq #[.int (m+(i:Nat)) tk,y] }:=(FU.2 _ (Nat.ne_of_gt Ig)).trans PH
  obtain⟨oi,i1,i2⟩:=JE.1
  have ec:m+(i:Nat)+1=m+((i+1:Nat):Int):=by omega
  refine⟨.ref s.heap.objs.size,upd H s.heap.objs.size (.tup [.int (m+(i:Nat)),x]),?_,rfl,⟨_,x,I.bH.fresh (CN _),rfl,rfl,fun ys hy=>by rw[I.kj hy hq];exact hx⟩,⟨⟨_,by rw[←ec];exact Pr⟩,oi,(FU.2 it LB.symm).trans i1,i2⟩,fun b hb=>?_⟩
  ·refine Inv.nG (s:=s) (h':=h2) (fp:=[e,it]) (t':=tk+1) I (fun b o hb q=>?_) hf (CN _) ⟨by show 2≤sizeLine;decide,_,.cons ⟨_,rfl⟩ (.cons ru .nil),⟨_,K4,rfl,_,rfl⟩⟩
   have ES:b≠e:=fun z=>hb (by simp[z])
   have EW:b≠it:=fun z=>hb (by simp[z])
   exact(FU.2 b ES).trans (ID b o ES EW q)
  ·have Ex:b < s.heap.objs.size:=by
    rcases List.mem_cons.mp hb with rfl | hb
    ·exact Ig
    ·have eb:b=it:=by simpa using hb
     subst eb;exact KO
   rw[aF (Dc Ex)]
   exact(hf b hb).1
 done:=by
  intro X hP hw hK hc i Sb s σ H E I hf st hg
  subst hP hw hK
  obtain⟨⟨old,he⟩,hit⟩:=st
  obtain⟨xs,hq,hx⟩:=hg
  obtain⟨Se,rv,p,hz⟩:=I.tuple hq
  obtain⟨f0,f1,f2,f3,f4,f5⟩:=hf it (by simp)
  have hl:=rv.length
  have hT:s.heap.IsTuple a Se.toArray:=p
  have nia:a≠it:=fun z=>by
   subst z
   obtain⟨o,k1,k2,_⟩:=hT
   obtain⟨o',l1,l2,_⟩:=hit
   rw[k1] at l1;cases l1;rw[k2] at l2
   exact absurd (Value.type.inj l2) (by decide)
  have ty:s.TypeIs (.ref e) "enumerate":=⟨_,he,rfl⟩
  unfold pyNext
  refine CG (wpAny_attempt (wpAny_callSpecial?_slot (name:=Str.ofString "__next__") ty F.slot_enumerate_next (wpAny_call_entry F.slot_enumerate_next ty F.entry_enumerate_next ?_ (F.args_enumerate_next_1 _))))
  show wpAny _ _ (field (.ref e) 2 >>= _) _ _ _
  refine CG (wpAny_field he rfl (x:=.ref it) rfl (CG (nR (show X.A.in1.handled=none from I.ok.hd hc) hit hT (by simp;omega) fun h' x eb GR=>?_)))
  obtain⟨o,ho,IG⟩:=GR
  refine CG (wpAny_isInstance (T:="StopIteration") (b:=true) ⟨o,ho,IG⟩ isSubtype_stop ?_)
  exact CH ⟨rfl,I.turned (t':=s.toks) (fun b o hb e=>eb b o hb e) f0 f1 f3 f4 f5⟩
 self:=fun _ _ _ _ _ st h=>let ⟨⟨_,he⟩,_⟩:=st;wpAny_pyIter_enum he h
section
variable{P:Program}{w:World}{B:Around}{E:Value→Shared→Prop}{σ:Shared}
theorem si{c:Addr}{xs:Array Value}{t:Tok}{Q:Value→Shared→Prop}(hT:σ.heap.IsTuple c xs)
  (q:∀g,IsEnum g (σ.heap.objs.size+1) σ.heap.objs.size 1 .none→g.IsTupleIter σ.heap.objs.size c 0→(∀b o,σ.heap.get? b=some o→g.get? b=some o)→Q (.ref (σ.heap.objs.size+1)) { σ with heap:=g }):
  wpAny (model P w) B (call (.type "enumerate") [.ref c] [("start",.int 1 t)]) Q E σ:=by
 obtain⟨⟨cc,dc,dt,sl⟩,hc,hk,n,hd⟩:=hT
 replace hk:cc=.type "tuple":=hk
 replace hd:dt=.seq xs n:=hd
 subst hk hd
 refine uQ F.called_enumerate (by decide) (ck1 _ _) (ck2 _ _) (fun u=>ck3 u _ _) F.entry_enumerate_new (qm c xs n dc sl t) ⟨hc,?_⟩
 have hz:(σ.heap.push { cls:=.type "tuple_iterator",data:=.fields #[.ref c,.int 0 0] }).objs.size=σ.heap.objs.size+1:=Heap.size_push ..
 show _∧_
 rw[hz]
 have he:IsEnum ((σ.heap.push { cls:=.type "tuple_iterator",data:=.fields #[.ref c,.int 0 0] }).push { cls:=.type "enumerate",data:=.fields #[.none,.bool false,.ref σ.heap.objs.size,rawInt 1,.none,.none] }) (σ.heap.objs.size+1) σ.heap.objs.size 1 .none:=by
  have z:=Heap.get?_push_size (σ.heap.push { cls:=.type "tuple_iterator",data:=.fields #[.ref c,.int 0 0] }) (o:={ cls:=.type "enumerate",data:=.fields #[.none,.bool false,.ref σ.heap.objs.size,rawInt 1,.none,.none] }) rfl
  rw[hz] at z;exact z
 exact⟨⟨_,he,rfl⟩,q _ he ⟨_,CL _ (Heap.get?_push_size _ rfl),rfl,rfl⟩ fun b o x=>CL _ (CL _ x)⟩
end
section
variable{X:Cx}{elts:List Expr}{x1:Nat}{tpos:Pos}
def wQ (K:Fg06) (m:Int) (ta:TA):TI:=fun σ H R=>ta σ H fun vs H1=>∃a,vs=[.ref a]∧(∃xs,cq K H1 a xs)∧R (qJ K a m) H1
theorem tI{Sb:List (Addr×Obj)}{σ:St}{H:Hp}{s:Shared}(I:Inv X Sb σ H s):∀b∈[s.heap.objs.size+1,s.heap.objs.size],i8 X Sb H b:=fun b hb=>by
 have ET:s.heap.objs.size≤b:=by
  rcases List.mem_cons.mp hb with rfl | hb
  ·exact Nat.le_succ _
  ·exact Nat.le_of_eq (by simpa using hb:b=s.heap.objs.size).symm
 exact I.uI ET (I.bH.fresh ET)
theorem gO{a:Expr}{ta:TA}{p pos:Pos}(hg:Gl X "enumerate") (hm:X.mg "enumerate"=none) (ha:PA X [a] ta) (hs:starEach [a] X.env=[(false,eval a X.env)]:=by rfl):PI X (.Tuple elts x1 tpos) (.Call (.Name "enumerate" p) [a] [] pos) (wQ X.K 0 ta):=by
 intro Sb s σ H R I h
 refine Call_ (gm I hg hm kI (PyProof.Rows.callWith_type1 (cx (ha pos Sb s σ H _ I h) fun us s1 zq=>?_) hs rfl))
 obtain⟨vs,H1,I1,r1,q1⟩:=zq
 obtain⟨l,e,⟨xs,hq⟩,q⟩:=q1
 subst e
 obtain⟨u,rfl,ru⟩:=vals1 r1
 cases ru
 obtain⟨Se,rv,p,hz⟩:=I1.tuple hq
 refine sg (show s1.heap.IsTuple l Se.toArray from p) fun h' he hit hk=>wpAny_pyIter_enum he ?_
 refine⟨s1.heap.objs.size+1,[s1.heap.objs.size+1,s1.heap.objs.size],_,_,H1,rfl,I1.kept (t':=s1.toks) hk,lL l _ _ 0 (Nat.succ_ne_self _),⟨⟨_,by rw[show(0:Int)+((0:Nat):Int)=0 from rfl];exact he⟩,hit⟩,tI I1,q⟩
theorem pF{M:Model}{A:Around}{E:Value→Shared→Prop}{s:Shared}{env:Env}{pos:Pos}{T:String}{e:Expr}{kws:List Keyword}{Q:Value→Shared→Prop}
  (h:wpAny M A (spliced (backTo pos (starEach [e] env))) (fun vs s1=>wpAny M A (evalAll ((backToKw pos (keywordEach kws env)).map (·.2))) (fun ks s2=>wpAny M A (call (.type T) vs (((backToKw pos (keywordEach kws env)).filterMap (·.1)).zip ks)) Q E s2) E s1) E s)
  (he:backTo pos (starEach [e] env)=[(false,eval e env)]:=by rfl) (GD:(backToKw pos (keywordEach kws env)).all (·.1.isSome)=true:=by rfl) (KI:(backToKw pos (keywordEach kws env)).any (·.1.isNone)=false:=by rfl):
  wpAny M A (callWith pos (.type T) [] (backTo pos (starEach [e] env)) (backToKw pos (keywordEach kws env))) Q E s:=by
 rw[he] at h ⊢
 have ev:wpAny M A (evalArgs (.type T) true [(false,eval e env)] (backToKw pos (keywordEach kws env))) (fun a s3=>wpAny M A (call (.type T) ([]++a.pos) a.kw) Q E s3) E s:=evalArgs_kwB GD h
 unfold callWith
 refine CG (wpAny_holding (cx ev fun a s3 h3=>CG (wpAny_standAt ?_)))
 simp only[KI,List.any_cons,List.any_nil,Bool.or_false]
 exact CG (CH (CG (cx h3 fun r s4 hr=>CG (wpAny_holding (wpAny_point (CH hr))))))
theorem um{a:Expr}{ta:TA}{p pos kp cp:Pos}{j:Nat}(hg:Gl X "enumerate") (hm:X.mg "enumerate"=none) (ha:PA X [a] ta) (hs:backTo pos (starEach [a] X.env)=[(false,eval a X.env)]:=by rfl):
  PI X (.Tuple elts x1 tpos) (.Call (.Name "enumerate" p) [a] [⟨some "start",.Constant (.int 1) j cp,kp⟩] pos) (wQ X.K 1 ta):=by
 intro Sb s σ H R I h
 refine wpAny_Call_Name_kw (gm I hg hm kI (pF (cx (ha pos Sb s σ H _ I h) fun us s1 zq=>?_) hs))
 obtain⟨vs,H1,I1,r1,q1⟩:=zq
 obtain⟨l,e,⟨xs,hq⟩,q⟩:=q1
 subst e
 obtain⟨u,rfl,ru⟩:=vals1 r1
 cases ru
 refine cx (yj (X:=X) (nm:=some "start") (kpos:=kp) (ak (i:=1) (j:=j) (pos:=cp)) Ae pos Sb s1 σ H1 (fun zs H2=>zs=[.int 1]∧H2=H1) I1 ⟨rfl,rfl⟩) fun ks s2 zq=>?_
 obtain⟨zs,H2,I2,rz,e1,e2⟩:=zq
 subst e1 e2
 obtain⟨u,rfl,t,rfl⟩:=vals1 rz
 obtain⟨Se,rv,p,hz⟩:=I2.tuple hq
 refine si (t:=t) (show s2.heap.IsTuple l Se.toArray from p) fun h' he hit hk=>wpAny_pyIter_enum he ?_
 exact⟨s2.heap.objs.size+1,[s2.heap.objs.size+1,s2.heap.objs.size],_,_,_,rfl,I2.kept (t':=s2.toks) hk,lL l _ _ 1 (Nat.succ_ne_self _),⟨⟨_,by rw[show(1:Int)+((0:Nat):Int)=1 from rfl];exact he⟩,hit⟩,tI I2,q⟩
end
theorem gi{K:Fg06}{a:Addr}{m:Int}{xs:List V}{g:TG}{tb:TS}{D:Ends}{σ:St}{H:Hp}(Pv:Nat→St→Hp→Prop) (h0:Pv 0 σ H) (hl:∀i σ H,i≤xs.length→Pv i σ H→cq K H a xs)
  (hs:∀i x σ H T,xs[i]?=some x→Pv i σ H→H T=none→g (.ref T) σ (upd H T (.tup [.int (m+(i:Nat)),x])) fun σ2 H2=>tb { D with nx:=Pv (i+1),ct:=Pv (i+1),bk:=D.nx } σ2 H2) (hd:∀σ H,Pv xs.length σ H→D.nx σ H):
  ∃W:Nat→Nat→St→Hp→Prop,(∃m,W 0 m σ H)∧∀i k σ H,W i k σ H→
   ((qJ K a m).stop i H∧D.nx σ H)∨((qJ K a m).go i H∧∃N:St→Hp→Prop,(∀σ' H',N σ' H'→∃k',k' < k∧W (i+1) k' σ' H')∧∀x H',(qJ K a m).pK i H x H'→g x σ H' fun σ2 H2=>tb { D with nx:=N,ct:=N,bk:=D.nx } σ2 H2):=by
 refine⟨fun i k σ H=>k=xs.length - i∧i≤xs.length∧Pv i σ H,⟨xs.length,by simp,Nat.zero_le _,h0⟩,?_⟩
 rintro i k σ H ⟨rfl,hi,p⟩
 have q:=hl i σ H hi p
 by_cases Ex:i < xs.length
 ·refine .inr ⟨⟨xs,xs[i],q,by simp[Ex]⟩,Pv (i+1),fun σ' H' p'=>⟨xs.length - (i+1),by omega,rfl,Ex,p'⟩,fun x H' y=>?_⟩
  obtain⟨T,y',hT,rfl,rfl,hy⟩:=y
  exact hs i y' σ _ T (hy xs q) p hT
 ·have e:i=xs.length:=by omega
  subst e
  exact .inl ⟨⟨xs,q,CN _⟩,hd σ H p⟩
end L2
namespace GS
open PySem PySem.Builtin PySem.Builtin.List
section
variable{P:Program}{w:World}{B:Around}{E:Value→Shared→Prop}{σ:Shared}{R:Result→Shared→Prop}{I:Addr}{fp wr:List Addr}{n:Nat}{Pv:Nat→Value→Prop}{St:Nat→Heap→Prop}{T:String}
theorem wW (W:Walks P w B.in1 I fp wr n Pv St) (ty:∀s:Shared,St 0 s.heap→s.TypeIs (.ref I) T) (nl:(Value.type T == Value.type "list")=false) (nt:(Value.type T == Value.type "tuple")=false)
  (hint:∀(s:Shared) (Q:Bool→Shared→Prop) (E:Value→Shared→Prop),St 0 s.heap→(∀c tk,s.toks≤tk→Q c { s with toks:=tk })→wpAny (model P w) B.in1 (listLengthHint (.ref I)) Q E s)
  (S:Addr) (res:Value) (c0:Nat) (EE:St 0 σ.heap) (LC:S∉fp) (hI:I∈fp) (hS:σ.heap.get? S=some { cls:=.type "list",data:=.seq #[] c0 })
  (q:∀s' acc c,Moved (S::wr) (fun a b=>b=a) σ s'→s'.heap.get? S=some { cls:=.type "list",dict:=none,data:=.seq acc c,slots:=#[] }→ItemsOf Pv acc n→R (.ok (.ret res)) s') (hn:n≤sizeLine):
  wpAny (model P w) B.in1 (listExtendWith (.ref S) (.ref I) res) (fun fin s'=>match fin with | .done f=>R (.ok f) s' | .again c'=>c'.quiet=true∧codeAny (model P w) B c' R s') (fun e s'=>R (.error e) s') σ:=by
 have hSI:S≠I:=fun e=>LC (e▸hI)
 have V:=W.toS
 unfold listExtendWith
 refine CG (wpAny_typeOf (ty σ EE) ?_)
 have h1:listSameRef (.ref S) (.ref I)=false:=by simp[listSameRef,hSI]
 simp only[h1,nl,nt,Bool.or_false,Bool.false_eq_true,if_false]
 refine CG (W.self 0 _ _ _ EE (CG (wpAny_holding (hint _ _ _ EE fun c tk Rg=>?_))))
 have mv0:Moved (S::wr) (fun a b=>b=a) σ { σ with toks:=tk }:=⟨fun _ _ _ e=>e,rfl,rfl,rfl,Rg⟩
 have key:∀(h:Heap) (c1:Nat),(∀b o,b≠S→σ.heap.get? b=some o→h.get? b=some o)→h.get? S=some { cls:=.type "list",data:=.seq #[] c1 }→codeAny (model P w) B (.builtin "list.extend.loop" ⟨[.ref S,.ref I,res],[]⟩) R { σ with heap:=h,toks:=tk }:=fun h c1 hk hs=>by
  refine codeAny_extend_loopS V hn S LC res n 0 _ #[] c1 rfl (Nat.zero_le _) (W.frame 0 σ.heap h EE fun b hb o e=>hk b o (fun z=>LC (z▸hb)) e) hs (ItemsOf.nil _) fun s' acc c' hm LD GF=>?_
  have mv:Moved (S::wr) (fun a b=>b=a) σ { σ with heap:=h,toks:=tk }:=⟨fun b o hb e=>hk b o (fun z=>hb (by rw[z];exact C1)) e,rfl,rfl,rfl,Rg⟩
  exact q s' acc c' (Moved.trans V.gtrans mv hm) LD GF
 refine wpAny_ite_split (fun _=>?_) (fun _=>CH ⟨plainId_quiet F.plain_extend_loop _,key _ c0 (fun _ _ _ e=>e) hS⟩)
 refine CG (wpAny_rule (CG ?_))
 show wpAny _ _ (updateSeq S (·.push .none) >>= fun _=>updateSeq S (·.pop)) _ _ _
 refine CG (wpAny_updateSeq hS rfl ?_)
 have N6:=Heap.get?_update_self (Obj.mapSeq (·.push Value.none)) hS rfl
 refine wpAny_updateSeq (hz:=by seq_fits) N6 rfl ?_
 exact CH ⟨plainId_quiet F.plain_extend_loop _,key _ _ (fun b o hb e=>(Heap.get?_update_other _ _ (Ne.symm hb)).trans ((Heap.get?_update_other _ _ (Ne.symm hb)).trans e)) (Heap.get?_update_self (Obj.mapSeq (·.pop)) N6 rfl)⟩
theorem kU{Q:Value→Shared→Prop}(W:Walks P w B.in1.in1 I fp wr n Pv St) (ty:∀s:Shared,St 0 s.heap→s.TypeIs (.ref I) T) (nl:(Value.type T == Value.type "list")=false) (nt:(Value.type T == Value.type "tuple")=false)
  (hint:∀(s:Shared) (Q:Bool→Shared→Prop) (E:Value→Shared→Prop),St 0 s.heap→(∀c tk,s.toks≤tk→Q c { s with toks:=tk })→wpAny (model P w) B.in1.in1 (listLengthHint (.ref I)) Q E s)
  (EE:St 0 σ.heap) (RA:∀b∈fp,b < σ.heap.objs.size) (hI:I∈fp)
  (q:∀h tk acc c,(∀b o,b∉wr→σ.heap.get? b=some o→h.get? b=some o)→h.get? σ.heap.objs.size=some { cls:=.type "list",dict:=none,data:=.seq acc c,slots:=#[] }→ItemsOf Pv acc n→Q (.ref σ.heap.objs.size) { σ with heap:=h,toks:=tk }) (hn:n≤sizeLine):
  wpAny (model P w) B (call (.type "list") [.ref I]) Q E σ:=by
 have LC:σ.heap.objs.size∉fp:=fun hm=>C7 _ (RA _ hm)
 refine callType_codes (Q₁:=fun u s=>u=.ref σ.heap.objs.size∧s={ σ with heap:=σ.heap.push { cls:=.type "list",data:=.seq #[] } }) F.called_list (F.typeCall_list_1 _) F.entry_list_init (code_list_new _ ⟨rfl,rfl⟩) fun u s h=>?_
 obtain⟨rfl,rfl⟩:=h
 have hS:(σ.heap.push { cls:=.type "list",data:=.seq #[] }).get? σ.heap.objs.size=some { cls:=.type "list",data:=.seq #[] }:=Heap.get?_push_size _ rfl
 refine⟨⟨_,hS,rfl⟩,F.args_list_init_2 _ _,?_⟩
 have JE:St 0 (σ.heap.push { cls:=.type "list",data:=.seq #[] }):=W.frame 0 _ _ EE fun b _ o e=>CL _ e
 have L1:∀b o,σ.heap.get? b=some o→(σ.heap.push { cls:=.type "list",data:=.seq #[] }).get? b=some o:=fun b o e=>CL _ e
 revert hS JE L1
 generalize σ.heap.push { cls:=.type "list",data:=.seq #[] }=h1
 intro hS JE L1
 show wpAny _ _ (do let old ←listItems (.ref σ.heap.objs.size);listUpdate (.ref σ.heap.objs.size) (fun _=>#[]);letGo old.toList.reverse;listExtendWith (.ref σ.heap.objs.size) (.ref I) .none) _ _ _
 refine CG ?_
 unfold listItems
 refine CG (wpAny_seqItems hS rfl (CH ?_))
 show wpAny _ _ (updateSeq σ.heap.objs.size (fun _=>#[]) >>= fun _=>letGo (#[]:Array Value).toList.reverse >>= fun _=>listExtendWith (.ref σ.heap.objs.size) (.ref I) .none) _ _ _
 refine CG (wpAny_updateSeq hS rfl (CG (wpAny_letGo ?_)))
 have N6:=Heap.get?_update_self (Obj.mapSeq (fun _=>(#[]:Array Value))) hS rfl
 have oth:∀b o,b≠σ.heap.objs.size→h1.get? b=some o→(h1.update σ.heap.objs.size (Obj.mapSeq (fun _=>(#[]:Array Value)))).get? b=some o:=fun b o hb e=>(Heap.get?_update_other _ _ (Ne.symm hb)).trans e
 refine wW (B:=B.in1) W ty nl nt hint _ .none _ (W.frame 0 _ _ JE fun b hb o e=>oth b o (fun z=>LC (z▸hb)) e) LC hI N6 (fun s' acc c hm Ga GF=>?_) hn
 refine⟨rfl,?_⟩
 rw[Moved.eq_with hm]
 refine q s'.heap s'.toks acc c (fun b o hb e=>hm.heap b o (fun KL=>?_) (oth b o (Dc (Heap.lt_size e)) (L1 b o e))) Ga GF
 rcases List.mem_cons.mp KL with z | z
 ·exact absurd (Heap.lt_size e) (by rw[z];exact C7 _)
 ·exact hb z
end
end GS
namespace L2
open PySem PySem.Spec PyProof.Rows GS
theorem wI{P:Program}{w:World}{A:Around}{E:Value→Shared→Prop}{s:Shared}{I l:Addr}{i:Int}{Q:Bool→Shared→Prop}(hit:s.heap.IsRevIter I l i) (q:Q false s):wpAny (model P w) A (Builtin.List.listLengthHint (.ref I)) Q E s:=by
 unfold Builtin.List.listLengthHint
 have k1:typeLookup (.type "list_reverseiterator") "__len__"=pure none:=by rw[typeLookup_type,builtinLookup_eq_fast];kernel_rfl
 have k2:typeLookup (.type "list_reverseiterator") "__length_hint__"=pure (some (.builtin "list_reverseiterator.__length_hint__")):=by rw[typeLookup_type,builtinLookup_eq_fast];kernel_rfl
 have k3:isSubtype (.type "list_reverseiterator") (.type "list_reverseiterator")=pure true:=by rw[isSubtype_type];kernel_rfl
 refine CG (wpAny_specialOf hit.typeIs k1 ?_)
 show wpAny _ _ (specialOf (.ref I) (Str.ofString "__length_hint__") >>= _) _ _ _
 refine CG (wpAny_specialOf hit.typeIs k2 ?_)
 show wpAny _ _ (isInstance (.ref I) (.type "list_reverseiterator") >>= _) _ _ _
 refine CG (wpAny_isInstance (T:="list_reverseiterator") (b:=true) hit.typeIs k3 ?_)
 exact CH q
theorem nL{Se:List Value}{acc:Array Value}(h:ItemsOf (fun i v=>Se.toArray[Se.toArray.size - 1 - i]?=some v) acc Se.toArray.size):acc=Se.reverse.toArray:=by
 obtain⟨h1,h2⟩:=h
 have P0:acc.size=Se.length:=by rw[h1];simp
 apply Array.ext
 ·rw[P0];simp
 ·intro i hi hj
  have:=h2 i acc[i] (by simp[hi])
  have e:Se.toArray.size=Se.length:=by simp
  rw[e] at this
  have Ex:i < Se.length:=by omega
  simp only[List.getElem?_toArray] at this
  have h3:=(CM.mp this).2
  rw[←h3]
  simp
theorem Vals.rev{xs:List V}{Se:List Value}(h:Vals xs Se):Vals xs.reverse Se.reverse:=by
 induction h with
 | nil=>exact .nil
 | cons a b ih=>
  rw[List.reverse_cons,List.reverse_cons]
  exact ih.append (.cons a .nil)
theorem qF:bootBuiltins "reversed"=some (.type "reversed"):=by decide +kernel
theorem boot_list:bootBuiltins "list"=some (.type "list"):=by decide +kernel
section
variable{X:Cx}
def vg (K:Fg06) (ta:TA):TE:=fun σ H Q=>ta σ H fun vs H1=>∃a xs,vs=[.ref a]∧br K H1 a xs∧∀l,H1 l=none→Q (.ref l) (upd H1 l (.lst xs.reverse))
theorem ju{a:Expr}{ta:TA}{p p2 pos FO:Pos}(hc:X.calm=true) (hg:Gl X "list") (hm:X.mg "list"=none) (NY:Gl X "reversed") (Pg:X.mg "reversed"=none) (ha:PA X [a] ta) (hs:starEach [a] X.env=[(false,eval a X.env)]:=by rfl)
  (FU:starEach [.Call (.Name "reversed" p2) [a] [] FO] X.env=[(false,eval (.Call (.Name "reversed" p2) [a] [] FO) X.env)]:=by rfl):PE X (.Call (.Name "list" p) [.Call (.Name "reversed" p2) [a] [] FO] [] pos) (vg X.K ta):=by
 intro Sb s σ H Q I h
 refine Call_ (gm I hg hm boot_list (PyProof.Rows.callWith_type1 (spliced_more ?_ FU) FU rfl))
 refine Call_ (gm I NY Pg qF (PyProof.Rows.callWith_type1 (cx (ha FO Sb s σ H _ I h) fun us s1 zq=>?_) hs rfl))
 obtain⟨vs,H1,I1,r1,q1⟩:=zq
 obtain⟨l,xs,e,hq,q⟩:=q1
 subst e
 obtain⟨u,rfl,ru⟩:=vals1 r1
 cases ru
 obtain⟨Se,rv,pl,hz⟩:=I1.list hq
 have hL:s1.heap.IsList l Se.toArray:=pl.isList
 refine call_reversed_list hL (spliced_none ?_)
 have Ex:l < s1.heap.objs.size:=by obtain⟨_,z,_⟩:=hL;exact Heap.lt_size z
 have Jb:∀b o,s1.heap.get? b=some o→(s1.heap.push (revObj l ((Se.toArray.size:Int) - 1))).get? b=some o:=fun b o e=>CL _ e
 have Kj:(s1.heap.push (revObj l ((Se.toArray.size:Int) - 1))).IsRevIter s1.heap.objs.size l ((Se.toArray.size:Int) - 1):=⟨_,Heap.get?_push_size _ rfl,rfl,rfl⟩
 have Hi:(s1.heap.push (revObj l ((Se.toArray.size:Int) - 1))).objs.size=s1.heap.objs.size+1:=Heap.size_push ..
 revert Jb Kj Hi
 generalize s1.heap.push (revObj l ((Se.toArray.size:Int) - 1))=h0
 intro Jb Kj Hi
 have calm:X.A.in1.in1.handled=none:=I1.ok.hd hc
 have hL0:h0.IsList l Se.toArray:=hL.at fun o e=>Jb _ _ e
 have hn:Se.toArray.size≤sizeLine:=by rw[List.size_toArray,←rv.length];exact hz
 refine kU (σ:={ s1 with heap:=h0 }) (T:="list_reverseiterator") (Walks.listRev calm s1.heap.objs.size l (Dc Ex) Se.toArray) (fun s2 st=>st.2.1.typeIs) (by decide) (by decide) (fun s2 Q E st q=>wI st.2.1 (q false s2.toks (CN _))) ⟨Nat.zero_le _,by rw[show((0:Nat):Int)=0 from rfl,Int.sub_zero];exact Kj,hL0⟩ (fun b hb=>?_) (by simp) (fun h tk acc c kp hS GF=>?_) hn
 ·show b < h0.objs.size
  rw[Hi]
  rcases List.mem_cons.mp hb with rfl | hb
  ·exact Dd _
  ·rw[Dg.mp hb];exact Nat.lt_succ_of_lt Ex
 ·rw[nL GF] at hS
  have kpA:∀b o,s1.heap.get? b=some o→h.get? b=some o:=fun b o e=>kp b o (by simp;exact Dc (Heap.lt_size e)) (Jb b o e)
  have Mz:s1.heap.objs.size≤h0.objs.size:=by rw[Hi];exact Nat.le_succ _
  exact⟨.ref h0.objs.size,_,I1.laid (t':=tk) kpA Mz (show dG X.prog X.w _ h _ (.lst xs.reverse) from⟨by rw[List.length_reverse];exact hz,Se.reverse,c,rv.rev,hS⟩),rfl,q _ (I1.bH.fresh Mz)⟩
end
end L2
namespace GS
open PySem PySem.Builtin PyProof.Rows
theorem jS:Slot "reversed" "__next__" "reversed.__next__":=
 .of (owner:="reversed") (n:="__next__") (by rw[typeLookup_type,builtinLookup_eq_fast];kernel_rfl) (by decide +kernel) (by decide +kernel) (by decide +kernel) (by first | exact .inl (by decide +kernel) | exact .inr (by decide +kernel)) (by rw[isSubtype_type];kernel_rfl)
theorem jn:entryFor table "reversed.__next__"=some Builtin.«reversed.__next__»:=entryFor_of_tree (by kernel_rfl)
theorem ku:Manifest.owners.lookup (String.ofList ['d','e','s','r','e','v','e','r'].reverse)=some Manifest.sig_reversed:=by kernel_rfl
theorem jR (a:Value):argsOk "reversed.__next__" ⟨[a],[]⟩:=by
 unfold argsOk;rw[signature?_of (id:="reversed.__next__") (n:=['_','_','t','x','e','n','_','_']) (o:=['d','e','s','r','e','v','e','r']) (by kernel_rfl) ku];kernel_rfl
theorem sX:Slot "reversed" "__iter__" "reversed.__iter__":=
 .of (owner:="reversed") (n:="__iter__") (by rw[typeLookup_type,builtinLookup_eq_fast];kernel_rfl) (by decide +kernel) (by decide +kernel) (by decide +kernel) (by first | exact .inl (by decide +kernel) | exact .inr (by decide +kernel)) (by rw[isSubtype_type];kernel_rfl)
theorem ya:Slot "reversed" "__init__" "object.__init__":=
 .of (owner:="object") (n:="__init__") (by rw[typeLookup_type,builtinLookup_eq_fast];kernel_rfl) (by decide +kernel) (by decide +kernel) (by decide +kernel) (by first | exact .inl (by decide +kernel) | exact .inr (by decide +kernel)) (by rw[isSubtype_type];kernel_rfl)
theorem uf:TypeCalled "reversed" "reversed.__new__" "object.__init__":=⟨by decide +kernel,F.create_reversed,⟨_,_,F.mro_reversed⟩,F.made_reversed,F.plain_reversed_new,F.sub_reversed_self,ya⟩
theorem tZ:typeLookup (.type "tuple") "__reversed__"=pure none:=by rw[typeLookup_type,builtinLookup_eq_fast];kernel_rfl
theorem qR:isSubtype (.type "tuple") (.type "dict")=pure false:=by rw[isSubtype_type];kernel_rfl
theorem rM (c:Addr) (xs:Array Value) (hz:(xs.size:Int) < 2 ^ 63):Meets («reversed.__new__» ⟨[.type "reversed",.ref c],[]⟩) (fun _ R s=>IsTup s.heap c xs∧∀tk,
   R (.ok (.ret (.ref s.heap.objs.size))) { s with heap:=s.heap.push { cls:=.type "reversed",data:=.fields #[.ref c,rawInt ((xs.size:Int) - 1)] },toks:=tk }):=
 .of_wp fun P w A R s h=>by
  obtain⟨hT,h⟩:=h
  unfold «reversed.__new__»
  refine CG (wpAny_of_eq (newClass_reversed _) ?_)
  try dsimp only
  refine CG (wpAny_of_eq (a:=()) (by first | rfl | kernel_rfl) ?_)
  refine CG (wpAny_of_eq (a:=()) (by first | rfl | kernel_rfl) ?_)
  try dsimp only
  refine CG (wpAny_specialOf hT.typeIs tZ ?_)
  try dsimp only
  refine CG ?_
  show wpAny _ _ (isInstance (.ref c) (.type "dict") >>= _) _ _ _
  refine CG (wpAny_isInstance (T:="tuple") (b:=false) hT.typeIs qR ?_)
  show wpAny _ _ (specialOf (.ref c) (Str.ofString "__getitem__") >>= _) _ _ _
  refine CG (wpAny_specialOf hT.typeIs slot_tuple_getitem.lookup (CH ?_))
  show wpAny _ _ (call (.builtin "len") [.ref c] >>= _) _ _ _
  refine CG (len_tuple hT hz ?_)
  refine CG (wpAny_of_eq (a:=some (xs.size:Int)) rfl ?_)
  refine CG ?_
  show wpAny _ _ (newObj (.type "reversed") (.fields #[.ref c,rawInt ((xs.size:Int) - 1)])) _ _ _
  exact wpAny_newObj_type (CH ⟨_,rfl,h _⟩)
def k9 (h:Heap) (a c:Addr) (i:Int):Prop:=∃o,h.get? a=some o∧o.cls=.type "reversed"∧o.data=.fields #[.ref c,rawInt i]
section
variable{P:Program}{w:World}{B:Around}{E:Value→Shared→Prop}{σ:Shared}
theorem k9.ty{a c:Addr}{i:Int}(x:k9 σ.heap a c i):σ.TypeIs (.ref a) "reversed":=let ⟨o,e,k,_⟩:=x;⟨o,e,k⟩
theorem k9.at{h h':Heap}{a c:Addr}{i:Int}(x:k9 h a c i) (k:∀o,h.get? a=some o→h'.get? a=some o):k9 h' a c i:=let ⟨o,e,r⟩:=x;⟨o,k _ e,r⟩
theorem xZ{r c:Addr}{i:Nat}{xs:Array Value}{y:Value}{Q:Option Value→Shared→Prop}(hr:k9 σ.heap r c (i:Int)) (hT:IsTup σ.heap c xs) (hy:xs[i]?=some y) (hz:xs.size≤sizeLine)
  (q:∀g tk,k9 g r c ((i:Int) - 1)→Heap.SameBut r σ.heap g→Q (some y) { σ with heap:=g,toks:=tk }):wpAny (model P w) B (pyNext (.ref r)) Q E σ:=by
 obtain⟨or,e1,e2,e3⟩:=id hr
 have hi:i < xs.size:=(Array.getElem?_eq_some_iff.mp hy).1
 have hl:sizeLine≤16777216:=by decide
 unfold pyNext
 refine CG (wpAny_attempt (wpAny_callSpecial?_slot (name:=Str.ofString "__next__") hr.ty jS (wpAny_call_entry jS hr.ty jn ?_ (jR _))))
 unfold «reversed.__next__»
 refine CG (wpAny_of_eq (a:=(Value.ref r,[])) rfl ?_)
 try dsimp only
 refine CG (wpAny_field e1 e3 (x:=.ref c) rfl (CG (wpAny_field e1 e3 (x:=rawInt (i:Int)) rfl ?_)))
 show wpAny _ _ (if(i:Int) < 0 then _ else _) _ _ σ
 rw[CO (by omega)]
 show wpAny _ _ (specialOf (.ref c) (Str.ofString "__getitem__") >>= _) _ _ σ
 refine CG (wpAny_specialOf hT.typeIs slot_tuple_getitem.lookup ?_)
 show wpAny _ _ (mkInt (i:Int) >>= _) _ _ σ
 refine CG (wpAny_mkInt ?_)
 refine CG (wpAny_attempt (getItem_tuple (j:=i) hT (by omega) (by omega) ?_ hy ?_))
 ·unfold seqIndex?
  simp
  omega
 ·show wpAny _ _ (field (.ref r) 1 >>= _) _ _ _
  refine CG (wpAny_field e1 e3 (x:=rawInt (i:Int)) rfl ?_)
  show wpAny _ _ (setField (.ref r) 1 (rawInt ((i:Int) - 1)) >>= _) _ _ _
  refine CG (wpAny_setField e1 e3 (by simp) (CH ⟨y,rfl,CH (q _ _ ⟨_,Heap.get?_update_self _ e1 (Obj.isFreed_of_fields (Obj.data_mapFields e3 _)),(Obj.cls_mapFields ..).trans e2,by rw[Obj.data_mapFields e3];simp⟩ (Heap.SameBut.update ..))⟩))
theorem zZ{r c:Addr}{Q:Option Value→Shared→Prop}(calm:B.handled=none) (hr:k9 σ.heap r c (-1)) (q:∀g,Heap.ExtBut r σ.heap g→Q none { σ with heap:=g }):wpAny (model P w) B (pyNext (.ref r)) Q E σ:=by
 obtain⟨or,e1,e2,e3⟩:=id hr
 unfold pyNext
 refine CG (wpAny_attempt (wpAny_callSpecial?_slot (name:=Str.ofString "__next__") hr.ty jS (wpAny_call_entry jS hr.ty jn ?_ (jR _))))
 unfold «reversed.__next__»
 refine CG (wpAny_of_eq (a:=(Value.ref r,[])) rfl ?_)
 try dsimp only
 refine CG (wpAny_field e1 e3 (x:=.ref c) rfl (CG (wpAny_field e1 e3 (x:=rawInt (-1)) rfl ?_)))
 show wpAny _ _ (if(-1:Int) < 0 then _ else _) _ _ σ
 rw[CQ (by decide)]
 refine CG (wpAny_rule ?_)
 refine CG ?_
 show wpAny _ _ (setField (.ref r) 1 (rawInt (-1)) >>= fun _=>setField (.ref r) 0 .none) _ _ _
 refine CG (wpAny_setField e1 e3 (by simp) ?_)
 have f1:=Heap.get?_update_self (Obj.mapFields (·.set! 1 (rawInt (-1)))) e1 (Obj.isFreed_of_fields (Obj.data_mapFields e3 _))
 refine wpAny_setField f1 (Obj.data_mapFields e3 _) (by simp) ?_
 refine CG ?_
 unfold SmallTypes.stopIteration
 refine CG ?_
 simp only[newExc,newTuple]
 refine CG (wpAny_newObj_type (CG (m:=firstArgMember _ _) (wpAny_of_eq (a:=Value.none) (by first | rfl | (simp only[firstArgMember];rfl)) (wpAny_newObj_type ?_ (by size_fits)))) (by size_fits))
 simp only[raiseNew]
 refine CG (wpAny_handled ?_)
 first | rw[show B.in1.handled=none from calm] | rw[calm]
 refine CG (CH (wpAny_throw ?_))
 refine CG (wpAny_isInstance (T:="StopIteration") (b:=true) ⟨_,Heap.get?_push_size _ rfl,rfl⟩ isSubtype_stop (CH (q _ ?_)))
 exact((((Heap.SameBut.update ..).trans (Heap.SameBut.update ..)).extBut).push _).push _
theorem nj:entryFor table "reversed.__iter__"=some Builtin.«dict_keyiterator.__iter__»:=
 entryFor_alias (id':="dict_keyiterator.__iter__") (by kernel_rfl) (by first | rfl | decide +kernel | (unfold String.splitOn;simp +decide [String.splitOnAux])) (by decide +kernel) (by kernel_rfl)
theorem oQ (a:Value):argsOk "reversed.__iter__" ⟨[a],[]⟩:=by
 unfold argsOk;rw[signature?_of (id:="reversed.__iter__") (n:=['_','_','r','e','t','i','_','_']) (o:=['d','e','s','r','e','v','e','r']) (by kernel_rfl) ku];kernel_rfl
theorem oU:Slot "reversed" "__length_hint__" "reversed.__length_hint__":=
 .of (owner:="reversed") (n:="__length_hint__") (by rw[typeLookup_type,builtinLookup_eq_fast];kernel_rfl) (by decide +kernel) (by decide +kernel) (by decide +kernel) (by first | exact .inl (by decide +kernel) | exact .inr (by decide +kernel)) (by rw[isSubtype_type];kernel_rfl)
theorem nk:entryFor table "reversed.__length_hint__"=some Builtin.«reversed.__length_hint__»:=entryFor_of_tree (by kernel_rfl)
theorem oS (a:Value):argsOk "reversed.__length_hint__" ⟨[a],[]⟩:=by
 unfold argsOk;rw[signature?_of (id:="reversed.__length_hint__") (n:=['_','_','t','n','i','h','_','h','t','g','n','e','l','_','_']) (o:=['d','e','s','r','e','v','e','r']) (by kernel_rfl) ku];kernel_rfl
theorem xY{r c:Addr}{i:Int}{Q:Value→Shared→Prop}(hr:k9 σ.heap r c i) (q:Q (.ref r) σ):wpAny (model P w) B (pyIter (.ref r)) Q E σ:=by
 refine wpAny_pyIter_slot hr.ty sX (wpAny_call_entry sX hr.ty nj ?_ (oQ _))
 show wpAny _ _ (ret (.ref r)) _ _ σ
 exact CH ⟨_,rfl,"reversed",_,hr.ty,jS.lookup,q⟩
theorem zY{r c:Addr}{xs:Array Value}{Q:Bool→Shared→Prop}(hr:k9 σ.heap r c ((xs.size:Int) - 1)) (hT:IsTup σ.heap c xs) (hz:xs.size≤sizeLine) (q:∀b tk,σ.toks≤tk→Q b { σ with toks:=tk }):wpAny (model P w) B (Builtin.List.listLengthHint (.ref r)) Q E σ:=by
 obtain⟨or,e1,e2,e3⟩:=id hr
 have hl:sizeLine≤16777216:=by decide
 have k1:typeLookup (.type "reversed") "__len__"=pure none:=by rw[typeLookup_type,builtinLookup_eq_fast];kernel_rfl
 unfold Builtin.List.listLengthHint
 refine CG (wpAny_specialOf hr.ty k1 ?_)
 show wpAny _ _ (specialOf (.ref r) (Str.ofString "__length_hint__") >>= _) _ _ _
 refine CG (wpAny_specialOf hr.ty oU.lookup ?_)
 show wpAny _ _ (isInstance (.ref r) (.type "reversed") >>= _) _ _ _
 refine CG (wpAny_isInstance (T:="reversed") (b:=true) hr.ty F.sub_reversed_self ?_)
 show wpAny _ _ (rule "list.length-hint.hint" >>= _) _ _ _
 refine CG (wpAny_rule (CG (wpAny_of_eq (oU.bind _) ?_)))
 try dsimp only
 refine CG (wpAny_attempt (wpAny_call_entry oU hr.ty nk ?_ (oS _)))
 unfold «reversed.__length_hint__»
 refine CG (wpAny_of_eq (a:=Value.ref r) rfl ?_)
 refine CG (wpAny_field e1 e3 (x:=.ref c) rfl ?_)
 show wpAny _ _ (call (.builtin "len") [.ref c] >>= _) _ _ _
 refine CG (len_tuple hT (by omega) (CG (wpAny_of_eq (a:=some (xs.size:Int)) rfl ?_)))
 show wpAny _ _ (field (.ref r) 1 >>= _) _ _ _
 refine CG (wpAny_field e1 e3 (x:=rawInt ((xs.size:Int) - 1)) rfl ?_)
 show wpAny _ _ (if(xs.size:Int) < (xs.size:Int) - 1+1 then _ else _) _ _ _
 rw[CO (by omega)]
 refine CG (wpAny_mkInt (CH ⟨_,rfl,?_⟩))
 try dsimp only
 refine CG (wpAny_of_eq (a:=some ((xs.size:Int) - 1+1)) rfl ?_)
 try dsimp only
 have e0:(xs.size:Int) - 1+1=(xs.size:Int):=by omega
 rw[e0]
 have k2:Builtin.List.listFitsIndex (xs.size:Int)=true:=by
  unfold Builtin.List.listFitsIndex
  simp
  omega
 have k3:Builtin.List.listTooLong (xs.size:Int).toNat=false:=by rw[Int.toNat_natCast];exact L2.mx hz
 simp only[k2,Bool.not_true,Bool.false_eq_true,if_false]
 rw[CO (by omega)]
 simp only[k3,Bool.false_eq_true,if_false]
 exact CH (q _ _ (by show σ.toks≤_;omega))
end
theorem xC{P:Program}{w:World}{B:Around}(calm:B.handled=none) (r c:Addr) (E2:c≠r) (xs:Array Value) (hz:xs.size≤sizeLine):
  Walks P w B r [r,c] [r] xs.size (fun i v=>xs[xs.size - 1 - i]?=some v) (fun i h=>i≤xs.size∧k9 h r c ((xs.size:Int) - 1 - (i:Int))∧IsTup h c xs) where
 sub:=fun b hb=>by simp at hb;simp[hb]
 frame:=fun _ _ _ x hk=>⟨x.1,x.2.1.at fun o e=>hk r (by simp) o e,by obtain⟨o,e,k⟩:=x.2.2;exact⟨o,hk c (by simp) o e,k⟩⟩
 item:=fun i s Q E hi x q=>by
  have e:(xs.size:Int) - 1 - (i:Int)=((xs.size - 1 - i:Nat):Int):=by omega
  have hr:=x.2.1
  rw[e] at hr
  have hx:xs[xs.size - 1 - i]?=some (xs[xs.size - 1 - i]'(by omega)):=Array.getElem?_eq_getElem (by omega)
  refine xZ hr x.2.2 hx hz fun g tk JQ sb=>?_
  have e2:((xs.size - 1 - i:Nat):Int) - 1=(xs.size:Int) - 1 - ((i+1:Nat):Int):=by omega
  rw[e2] at JQ
  obtain⟨o,k1,k2⟩:=x.2.2
  exact q _ g tk hx ⟨hi,JQ,o,(sb.2 c E2).trans k1,k2⟩ fun b o hb eo=>sb.extBut b o (fun h=>hb (by simp[h])) eo
 done:=fun s Q E x q=>by
  have e:(xs.size:Int) - 1 - (xs.size:Int)=-1:=by omega
  have hr:=x.2.1
  rw[e] at hr
  exact zZ calm hr fun g eb=>q g s.toks fun b o hb eo=>eb b o (fun h=>hb (by simp[h])) eo
 self:=fun _ _ _ _ x q=>xY x.2.1 q
theorem uN{P:Program}{w:World}{B:Around}{E:Value→Shared→Prop}{σ:Shared}{c:Addr}{xs:Array Value}{Q:Value→Shared→Prop}(hT:IsTup σ.heap c xs) (hz:(xs.size:Int) < 2 ^ 63)
  (q:∀tk,Q (.ref σ.heap.objs.size) { σ with heap:=σ.heap.push { cls:=.type "reversed",data:=.fields #[.ref c,rawInt ((xs.size:Int) - 1)] },toks:=tk }):wpAny (model P w) B (call (.type "reversed") [.ref c]) Q E σ:=
 callType_new uf (by decide) (F.typeCall_reversed_1 _) (F.newCall_reversed_1 _) (fun u=>F.args_object_init_2 u _) F.entry_reversed_new (rM c xs hz) ⟨hT,fun tk=>⟨⟨_,Heap.get?_push_size _ rfl,rfl⟩,q tk⟩⟩
end GS
namespace L2
open PySem PySem.Spec PyProof.Rows GS
section
variable{X:Cx}
def uc (K:Fg06) (ta:TA):TE:=fun σ H Q=>ta σ H fun vs H1=>∃a xs,vs=[.ref a]∧cq K H1 a xs∧∀l,H1 l=none→Q (.ref l) (upd H1 l (.lst xs.reverse))
theorem qc{a:Expr}{ta:TA}{p p2 pos FO:Pos}(hc:X.calm=true) (hg:Gl X "list") (hm:X.mg "list"=none) (NY:Gl X "reversed") (Pg:X.mg "reversed"=none) (ha:PA X [a] ta) (hs:starEach [a] X.env=[(false,eval a X.env)]:=by rfl)
  (FU:starEach [.Call (.Name "reversed" p2) [a] [] FO] X.env=[(false,eval (.Call (.Name "reversed" p2) [a] [] FO) X.env)]:=by rfl):PE X (.Call (.Name "list" p) [.Call (.Name "reversed" p2) [a] [] FO] [] pos) (uc X.K ta):=by
 intro Sb s σ H Q I h
 refine Call_ (gm I hg hm boot_list (PyProof.Rows.callWith_type1 (spliced_more ?_ FU) FU rfl))
 refine Call_ (gm I NY Pg qF (PyProof.Rows.callWith_type1 (cx (ha FO Sb s σ H _ I h) fun us s1 zq=>?_) hs rfl))
 obtain⟨vs,H1,I1,r1,q1⟩:=zq
 obtain⟨l,xs,e,hq,q⟩:=q1
 subst e
 obtain⟨u,rfl,ru⟩:=vals1 r1
 cases ru
 obtain⟨Se,rv,pl,hz⟩:=I1.tuple hq
 have hn:Se.toArray.size≤sizeLine:=by rw[List.size_toArray,←rv.length];exact hz
 have hl:sizeLine≤16777216:=by decide
 refine uN pl (by omega) fun tk0=>spliced_none ?_
 have Ex:l < s1.heap.objs.size:=by obtain⟨_,z,_⟩:=pl;exact Heap.lt_size z
 have Jb:∀b o,s1.heap.get? b=some o→(s1.heap.push { cls:=.type "reversed",data:=.fields #[.ref l,rawInt ((Se.toArray.size:Int) - 1)] }).get? b=some o:=fun b o e=>CL _ e
 have Kj:k9 (s1.heap.push { cls:=.type "reversed",data:=.fields #[.ref l,rawInt ((Se.toArray.size:Int) - 1)] }) s1.heap.objs.size l ((Se.toArray.size:Int) - 1):=⟨_,Heap.get?_push_size _ rfl,rfl,rfl⟩
 have Hi:(s1.heap.push { cls:=.type "reversed",data:=.fields #[.ref l,rawInt ((Se.toArray.size:Int) - 1)] }).objs.size=s1.heap.objs.size+1:=Heap.size_push ..
 revert Jb Kj Hi
 generalize s1.heap.push { cls:=.type "reversed",data:=.fields #[.ref l,rawInt ((Se.toArray.size:Int) - 1)] }=h0
 intro Jb Kj Hi
 have calm:X.A.in1.in1.handled=none:=I1.ok.hd hc
 have hT0:IsTup h0 l Se.toArray:=by obtain⟨o,e,k⟩:=pl;exact⟨o,Jb _ _ e,k⟩
 refine kU (σ:={ s1 with heap:=h0,toks:=tk0 }) (T:="reversed") (xC calm s1.heap.objs.size l (Dc Ex) Se.toArray hn) (fun s2 st=>st.2.1.ty) (by decide) (by decide)
  (fun s2 Q E st q=>zY (by have z:=st.2.1;rw[show((0:Nat):Int)=0 from rfl,Int.sub_zero] at z;exact z) st.2.2 hn q) ⟨Nat.zero_le _,by rw[show((0:Nat):Int)=0 from rfl,Int.sub_zero];exact Kj,hT0⟩ (fun b hb=>?_) (by simp) (fun h tk acc c kp hS GF=>?_) hn
 ·show b < h0.objs.size
  rw[Hi]
  rcases List.mem_cons.mp hb with rfl | hb
  ·exact Dd _
  ·rw[Dg.mp hb];exact Nat.lt_succ_of_lt Ex
 ·rw[nL GF] at hS
  have kpA:∀b o,s1.heap.get? b=some o→h.get? b=some o:=fun b o e=>kp b o (by simp;exact Dc (Heap.lt_size e)) (Jb b o e)
  have Mz:s1.heap.objs.size≤h0.objs.size:=by rw[Hi];exact Nat.le_succ _
  exact⟨.ref h0.objs.size,_,I1.laid (t':=tk) kpA Mz (show dG X.prog X.w _ h _ (.lst xs.reverse) from⟨by rw[List.length_reverse];exact hz,Se.reverse,c,rv.rev,hS⟩),rfl,q _ (I1.bH.fresh Mz)⟩
end
end L2
namespace GS
open PySem PyProof.Rows
open L2 hiding ak cn bj aq pv cZ ay fQ bZ dw dY fR b9 bC cI cH cm ae aa aI aw bG aV cj eF ar cB dk bQ cX bX dZ aL bU aU cw bF dm bz cU aG ba aA eD aN cu bR aB ah aj
open L3
def dz (i:Nat):Stmt:=PySem.Challenge.pw_grassnake_k06_own_names.main.body.getD i (.Pass ⟨0,0,0,0⟩)
structure fh (mg:Str→Option Value):Prop where
 jY:mg "enumerate"=none
 uz:mg "len"=none
 nList:mg "list"=none
 yN:mg "reversed"=none
 fm:mg "tuple"=none
 zm:mg "dict"=none
 nAny:mg "any"=none
 jy:mg "range"=none
 nInt:mg "int"=none
 AA:mg "isinstance"=none
theorem oy:bootBuiltins "len"=some (.builtin "len"):=by decide +kernel
theorem eg:bootBuiltins "tuple"=some (.type "tuple"):=by decide +kernel
theorem dF (x y:Str):decide (V.str x=V.str y)=decide (x=y):=decide_eq_decide.mpr ⟨V.str.inj,fun e=>by rw[e]⟩
theorem aQ{b:Bool}{A B:Prop}(h1:b=true→A) (h2:b=false→B):if b=true then A else B:=by
 cases b with
 | true=>exact bJ (h1 rfl)
 | false=>exact bg (h2 rfl)
def iI (K:Fg06):R2:=fun x y H Q=>∃(i:Nat) (ds:List D) (d:D),y=.int (i:Nat)∧At K H (.tup ds) x∧ds[i]?=some d∧∀v,At K H d v→Q v H
theorem wN{X:Cx}:Bg X (iI X.K):=by
 intro value slice Sb s σ H x y v u Q I rx ry h hs
 obtain⟨i,ds,d,rfl,hx,hd,q⟩:=h
 obtain⟨p,vs,w,rfl,h2,h3,h4⟩:=At.ix (i:=i) hx hd
 exact pz value slice Sb s σ H _ _ v u Q I rx ry ⟨p,vs,_,w,rfl,rfl,h2,h3,q w h4⟩ hs
theorem aC{X:Cx}{e:Expr}{te:TE}{n:Int}{j:Nat}{p pos:Pos}(he:LE X e te):LE X (.Subscript e (.Constant (.int n) j p) pos) (nc (iI X.K) te (tC (.int n))):=bC wN he ak (fun _ _=>rfl)
def cG (K:Fg06) (H:Hp) (p:Addr) (ds:List D):Prop:=∃vs,H p=some (.lst vs)∧ai K H ds vs
theorem cG.same{K:Fg06}{H H':Hp}{p:Addr}{ds:List D}(h:cG K H p ds) (s:az H H'):cG K H' p ds:=let ⟨vs,h1,h2⟩:=h;⟨vs,s _ _ h1,ai.same s _ _ h2⟩
def gj (K:Fg06) (H:Hp) (Q:VK) (ds:List D):Prop:=∀p H',H p=none→az H H'→cG K H' p ds→Q (.ref p) H'
theorem gj.new{K:Fg06}{H H1:Hp}{Q:VK}{ds:List D}{vs:List V}(q:gj K H Q ds) (hs:az H H1) (h:ai K H1 ds vs):∀p,H1 p=none→Q (.ref p) (upd H1 p (.lst vs)):=fun p hp=>by
 have h0:H p=none:=by
  cases e:H p with
  | none=>rfl
  | some o=>rw[hs _ _ e] at hp;cases hp
 have s2:az H1 (upd H1 p (.lst vs)):=fun r o e=>by
  by_cases hr:r=p
  ·rw[hr,hp] at e;cases e
  ·rw[aF hr];exact e
 exact q p _ h0 (hs.trans s2) ⟨vs,ag,ai.same s2 _ _ h⟩
structure Shape (k:Str) (r:List D):Prop where
 dc:k="def"∨k="class"→∃a b c,r=[a,b,.tup c]
 iw:k="if"∨k="while"→∃a b c,r=[a,.tup b,.tup c]
 fr:k="for"→∃a e b c,r=[a,e,.tup b,.tup c]
 tr:k="try"→∃b cs o l,r=[.tup b,.tup cs,.tup o,l]∧cs.length≤1000∧(∀c∈cs,∃e x b',c=.tup [e,x,.tup b'])∧(l=.aR∨∃b',l=.tup b')
def fg (i:Nat) (h b:D):D:=.tup [.int (i:Nat),h,b]
def dy (cs:List D):List D:=cs.mapIdx fun i c=>fg (i+1) (headD c) (c.cK 2)
def bt (d:D):List D:=
 if d.k="def"∨d.k="class" then [fg 0 .aR (d.cK 3)]
 else if d.k="if"∨d.k="while" then [fg 0 .aR (d.cK 2),fg 1 .aR (d.cK 3)]
 else if d.k="for" then [fg 0 .aR (d.cK 3),fg 1 .aR (d.cK 4)]
 else if d.k="try" then fg 0 .aR (d.cK 1)::(dy (d.cK 2).items++(fg ((d.cK 2).items.length+1) .aR (d.cK 3)::match d.cK 4 with | .aR=>[] | l=>[fg ((d.cK 2).items.length+2) .aR l]))
 else []
def bW:D→List D
 | .aR=>[]
 | h=>[h]
def cf (b:D):List D:=bW (b.cK 1)++(b.cK 2).items
theorem gg{k:Str}{r:List D}(h:Shape k r):(bt (.tup (.str k::r))).flatMap cf=aO (.tup (.str k::r)):=by
 unfold bt aO
 have ek:D.k (.tup (.str k::r))=k:=rfl
 rw[ek]
 split
 ·simp[cf,bW,fg,D.cK,D.items]
 ·split
  ·simp[cf,bW,fg,D.cK,D.items]
  ·split
   ·simp[cf,bW,fg,D.cK,D.items]
   ·split
    ·rename_i h4
     obtain⟨b,cs,o,l,rfl,_,hc,hl⟩:=h.tr h4
     have e1:∀(cs:List D) (i:Nat),(∀c∈cs,∃e x b',c=.tup [e,x,.tup b'])→(cs.mapIdx fun j c=>fg (j+i) (headD c) (c.cK 2)).flatMap cf=cs.flatMap dQ:=fun cs=>by
      induction cs with
      | nil=>intro i _;rfl
      | cons c cs ih=>
       intro i hc
       rw[List.mapIdx_cons,List.flatMap_cons,List.flatMap_cons]
       have:=ih (i+1) fun d hd=>hc d (C0 _ hd)
       congr 1
       rw[←this]
       congr 2
       funext j c
       rw[Nat.add_assoc,Nat.add_comm 1 i]
     have e2:=e1 cs 1 hc
     simp only[D.cK,D.items,List.getD_cons_succ,List.getD_cons_zero,List.flatMap_cons,List.flatMap_append]
     unfold dy
     rw[e2]
     rcases hl with rfl | ⟨b',rfl⟩
     ·simp[cf,bW,fg,D.cK,D.items]
     ·simp[cf,bW,fg,D.cK,D.items]
    ·rfl
def bN (H H':Hp):Prop:=∀p vs,Rd H p (.tup vs)→Rd H' p (.tup vs)
theorem bN.of{H H':Hp}(h:az H H'):bN H H':=fun p vs e=>e.imp (h p _) fun⟨o,e⟩=>⟨o,h p _ e⟩
theorem bN.trans{A B C:Hp}(h:bN A B) (h':bN B C):bN A C:=fun p vs e=>h' p vs (h p vs e)
theorem cq.ax{K:Fg06}{H H':Hp}{p:Addr}{vs:List V}(s:bN H H') (h:cq K H p vs):cq K H' p vs:=by
 rcases h with h | h
 ·exact .inl (s p vs h)
 ·exact .inr h
mutual
theorem At.ax{K:Fg06}{H H':Hp}(e:bN H H'):∀(d:D) (v:V),At K H d v→At K H' d v
 | .aR,_,h=>by rw[At] at h ⊢;exact h
 | .bl _,_,h=>by rw[At] at h ⊢;exact h
 | .int _,_,h=>by rw[At] at h ⊢;exact h
 | .str _,_,h=>by rw[At] at h ⊢;exact h
 | .tup ds,v,h=>by
  obtain⟨p,vs,h1,h2,h3⟩:=aP.mp h
  exact aP.mpr ⟨p,vs,h1,cq.ax e h2,ai.ax e ds vs h3⟩
theorem ai.ax{K:Fg06}{H H':Hp}(e:bN H H'):∀(ds:List D) (vs:List V),ai K H ds vs→ai K H' ds vs
 | [],vs,h=>by rw[aD] at h ⊢;exact h
 | d::ds,vs,h=>by
  obtain⟨v,r,h1,h2,h3⟩:=aJ.mp h
  exact aJ.mpr ⟨v,r,h1,At.ax e d v h2,ai.ax e ds r h3⟩
end
theorem aS{H:Hp}{l:Addr}{xs ys:List V}(h:H l=some (.lst xs)):bN H (upd H l (.lst ys)):=fun p vs e=>by
 by_cases hp:p=l
 ·rw[hp] at e
  rcases e with e | ⟨o,e⟩<;>(rw[h] at e;cases e)
 ·rcases e with e | ⟨o,e⟩
  ·exact .inl (by rw[aF hp];exact e)
  ·exact .inr ⟨o,by rw[aF hp];exact e⟩
theorem bh{H H':Hp}{l:Addr}{o:HO}(h0:H l=none) (s:az H H'):az H (upd H' l o):=fun p u e=>by
 by_cases hp:p=l
 ·rw[hp,h0] at e;cases e
 ·rw[aF hp];exact s p u e
theorem ai.eA{K:Fg06}{H:Hp}{a:D}{x:V}(h:At K H a x):ai K H [a] [x]:=aJ.mpr ⟨x,[],rfl,h,aD.mpr rfl⟩
theorem cG.push{K:Fg06}{H:Hp}{l:Addr}{ds:List D}{vs:List V}{d:D}{x:V}(h:H l=some (.lst vs)) (ha:ai K H ds vs) (hx:At K H d x):cG K (upd H l (.lst (vs++[x]))) l (ds++[d]):=
 ⟨_,ag,ai.append (ai.ax (aS h) _ _ ha) (ai.eA (At.ax (aS h) _ _ hx))⟩
theorem cD{K:Fg06}{H:Hp}{a b c:D}{x y z:V}(h:At K H a x) (h2:At K H b y) (h3:At K H c z):ai K H [a,b,c] [x,y,z]:=aJ.mpr ⟨x,_,rfl,h,aJ.mpr ⟨y,_,rfl,h2,ai.eA h3⟩⟩
abbrev pf:Stmt:=dz 4
abbrev pBT:Stmt:=dz 5
section
variable{P:Program}{w:World}{K:Fg06}{mg:Str→Option Value}{base:Heap}{f:Addr}{fd:FuncData}
def tryD (b cs o:List D) (l:D):D:=.tup [.str "try",.tup b,.tup cs,.tup o,l]
def zS (K:Fg06):Sp:=fun vs H Q _=>∃(x:V) (b cs o:List D) (l:D),vs=[x]∧At K H (tryD b cs o l) x∧cs.length≤1000∧(∀c∈cs,∃e x b',c=.tup [e,x,.tup b'])∧(l=.aR∨∃b',l=.tup b')∧gj K H Q (bt (tryD b cs o l))
theorem vH:aW ["statement","blocks","number","catch","behind"] ["statement"] (aE pBT):=fsX rfl rfl rfl rfl (by decide +kernel)
theorem mU (b cs o:List D) (l:D):bt (tryD b cs o l)=(fg 0 .aR (.tup b)::dy cs)++[fg (cs.length+1) .aR (.tup o)]++(match l with | .aR=>[] | l=>[fg (cs.length+2) .aR l]):=by
 unfold bt tryD
 rw[CO (by simp only[D.k];decide +kernel),CO (by simp only[D.k];decide +kernel),CO (by simp only[D.k];decide +kernel),CQ (by simp only[D.k])]
 simp[D.cK,D.items]<;>(cases l<;>rfl)
theorem Cg (g:fh mg) (F:eX K "blocks_of_try" "blocks_of_try" pBT f fd):bO P w K mg base fw 1 f fd ["statement"] (zS K):=by
 refine F.hV vH (fun vs H Q E h=>?_) (fun Si A outer s H vs Q E hr h=>?_)
 ·obtain⟨_,_,_,_,_,rfl,_⟩:=h;rfl
 obtain⟨x,b,cs,o,l,rfl,hx,hlen,EM,hl,q⟩:=h
 refine⟨_,ah (aA (i:=1) vH.nd rfl (Or.inl rfl) (aI (aa (aw (aa ak (aa bj (aa (aC (pv 0)) ae)))) ae)))
  (ah (bR C9 rfl (.mk (L2.um rfl g.jY (LA.out (aa (aC (pv 0)) ae)))) (cw rfl (aU (aL (i:=2) vH.nd rfl (Or.inl rfl)) (aU (aL (i:=3) vH.nd rfl (Or.inl rfl)) bU)))
   (aj (ba (cj CW C3 C4 bA (pv 1) (aa (aw (aa (pv 2) (aa (aw (aa aq (aa (aC (pv 3)) (aa (aC (pv 3)) ae)))) (aa (aC (pv 3)) ae)))) ae)))))
  (ah (aA (i:=4) vH.nd rfl (Or.inl rfl) (ay eS (bG eM rfl g.uz oy (aa (aC (pv 0)) ae)) ak))
  (ah (ba (cj CW C3 C4 bA (pv 1) (aa (aw (aa (pv 4) (aa bj (aa (aC (pv 0)) ae)))) ae)))
  (ah (aN (ar gc (aC (pv 0)) bj (aH _)) (aj (ba (cj CW C3 C4 bA (pv 1) (aa (aw (aa (ay eS (pv 4) ak) (aa bj (aa (aC (pv 0)) ae)))) ae)))) aB)
  (aj (aG (pv 1))))))),?main⟩
 case main=>
  refine⟨_,rfl,1,_,_,rfl,hx,rfl,fun yb HH=>⟨by show 3≤sizeLine;decide,fun p0 Fi=>⟨by show 1≤sizeLine;decide,fun bl Ih=>?_⟩⟩⟩
  have s0:az H (upd H p0 (.tup [.int 0,.aR,yb])):=af Fi _
  have a0:At K (upd H p0 (.tup [.int 0,.aR,yb])) (fg 0 .aR (.tup b)) (.ref p0):=At.new Fi (cD (bo.mpr rfl) (aZ.mpr rfl) HH)
  revert s0 a0 Ih
  generalize upd H p0 (.tup [.int 0,.aR,yb])=H0
  intro Ih s0 a0
  have h0:H bl=none:=by
   cases e:H bl with
   | none=>rfl
   | some u=>rw[s0 _ _ e] at Ih;cases Ih
  have s1:az H (upd H0 bl (.lst [.ref p0])):=bh h0 s0
  have l1:ai K (upd H0 bl (.lst [.ref p0])) [fg 0 .aR (.tup b)] [.ref p0]:=ai.same (af Ih _) _ _ (ai.eA a0)
  have c1:upd H0 bl (.lst [.ref p0]) bl=some (.lst [.ref p0]):=ag
  revert s1 l1 c1
  generalize upd H0 bl (.lst [.ref p0])=H1
  intro s1 l1 c1
  refine⟨_,rfl,2,_,_,rfl,At.same s1 _ _ hx,rfl,fun yc Jc=>?_⟩
  obtain⟨a,vcs,rfl,hq,hA⟩:=aP.mp Jc
  have lc:=hA.len
  have lb:(dy cs).length=cs.length:=by simp[dy]
  refine⟨a,rfl,⟨vcs,hq⟩,gi (K:=K) (a:=a) (m:=1) (xs:=vcs) (fun i σ H'=>(∃o2 o3,σ=[some x,some (.ref bl),o2,o3,none])∧az H H'∧bN H1 H'∧∃vs,H' bl=some (.lst vs)∧ai K H' (fg 0 .aR (.tup b)::(dy cs).take i) vs) ⟨⟨none,none,rfl⟩,s1,fun _ _ e=>e,_,c1,l1⟩ (fun i σ H' _ h=>by obtain⟨_,_,st,_⟩:=h;exact cq.ax st hq) ?_ ?_⟩
  ·rintro i c σ H' T hc ⟨⟨o2,o3,rfl⟩,sH,sT,vs,hb,hv⟩ hT
   have hi:i < cs.length:=by rw[←lc];exact(CM.mp hc).1
   obtain⟨vc,Rc,hcA⟩:=ai.get (i:=i) hA (d:=cs[i]) (by simp[hi])
   have ec:vc=c:=by rw[hc] at Rc;cases Rc;rfl
   subst ec
   obtain⟨e,n,b',ecd⟩:=EM cs[i] (C2 hi)
   have Px:At K H' (.tup [e,n,.tup b']) vc:=by rw[←ecd];exact At.ax sT _ _ hcA
   have t1:az H' (upd H' T (.tup [.int (1+(i:Nat)),vc])):=af hT _
   have hbT:bl≠T:=fun z=>by rw[z,hT] at hb;cases hb
   have ES:upd H' T (.tup [.int (1+(i:Nat)),vc]) bl=some (.lst vs):=t1 _ _ hb
   have sq:cq K (upd H' T (.tup [.int (1+(i:Nat)),vc])) T [.int (1+(i:Nat)),vc]:=cq.of ag
   revert t1 ES sq
   generalize upd H' T (.tup [.int (1+(i:Nat)),vc])=H2
   intro t1 ES sq
   refine⟨T,_,rfl,sq,rfl,_,_,rfl,_,_,rfl,rfl,?_⟩
   refine⟨_,rfl,.inl ⟨rfl,vs,br.of ES⟩,_,rfl,_,rfl,0,_,_,rfl,At.same t1 _ _ Px,rfl,fun y0 Gw=>⟨_,rfl,1,_,_,rfl,At.same t1 _ _ Px,rfl,fun y1 E5=>⟨by show 3≤sizeLine;decide,fun ph Rm=>?_⟩⟩⟩
   have t2:az H2 (upd H2 ph (.tup [.str "except",y0,y1])):=af Rm _
   have hh:At K (upd H2 ph (.tup [.str "except",y0,y1])) (.tup [.str "except",e,n]) (.ref ph):=At.new Rm (cD (av.mpr rfl) Gw E5)
   revert t2 hh
   generalize upd H2 ph (.tup [.str "except",y0,y1])=H3
   intro t2 hh
   refine⟨_,rfl,2,_,_,rfl,At.same (t1.trans t2) _ _ Px,rfl,fun y2 Fl=>⟨by show 3≤sizeLine;decide,fun pt Fw=>?_⟩⟩
   have t3:az H3 (upd H3 pt (.tup [.int (1+(i:Nat)),.ref ph,y2])):=af Fw _
   have hp:At K (upd H3 pt (.tup [.int (1+(i:Nat)),.ref ph,y2])) (fg (i+1) (.tup [.str "except",e,n]) (.tup b')) (.ref pt):=At.new Fw (cD (bo.mpr (by rw[show(1:Int)+(i:Nat)=((i+1:Nat):Int) by omega])) hh Fl)
   revert t3 hp
   generalize upd H3 pt (.tup [.int (1+(i:Nat)),.ref ph,y2])=H4
   intro t3 hp
   have NG:az H' H4:=(t1.trans t2).trans t3
   have lv:=hv.len
   have OZ:=ai.same NG _ _ hv
   have Fd:=NG _ _ hb
   have tl:(dy cs).take (i+1)=(dy cs).take i++[fg (i+1) (.tup [.str "except",e,n]) (.tup b')]:=by
    rw[C8]
    congr 1
    rw[C5 (by rw[lb];exact hi)]
    simp only[dy,List.getElem_mapIdx,Option.toList_some,ecd]
    rfl
   refine⟨bl,vs,.ref pt,rfl,rfl,Fd,?_,?_⟩
   ·rw[lv,CY,De]
    exact small (by omega)
   ·obtain⟨ws,k1,k2⟩:=cG.push Fd OZ hp
    refine⟨⟨_,_,rfl⟩,bh h0 (sH.trans NG),(sT.trans (.of NG)).trans (aS Fd),ws,k1,?_⟩
    rw[tl];exact k2
  ·rintro σ H' ⟨⟨o2,o3,rfl⟩,sH,sT,vs,hb,hv⟩
   rw[lc,←lb,List.take_length] at hv
   have lv:=hv.len
   refine⟨_,rfl,2,_,_,rfl,At.same sH _ _ hx,rfl,fun yd hyd=>?_⟩
   obtain⟨a2,vd,rfl,Mj,PU⟩:=aP.mp hyd
   refine⟨a2,vd,rfl,.inr Mj,_,_,rfl,rfl,?_⟩
   have ld:=PU.len
   have en:((vd.length:Nat):Int)+1=((cs.length+1:Nat):Int):=by rw[ld];omega
   dsimp only
   rw[en]
   refine⟨_,rfl,.inl ⟨rfl,vs,br.of hb⟩,_,rfl,_,rfl,3,_,_,rfl,At.same sH _ _ hx,rfl,fun yo OT=>⟨by show 3≤sizeLine;decide,fun pt Fw=>?_⟩⟩
   have t1:az H' (upd H' pt (.tup [.int ((cs.length+1:Nat):Int),.aR,yo])):=af Fw _
   have hp:At K (upd H' pt (.tup [.int ((cs.length+1:Nat):Int),.aR,yo])) (fg (cs.length+1) .aR (.tup o)) (.ref pt):=At.new Fw (cD (bo.mpr rfl) (aZ.mpr rfl) OT)
   revert t1 hp
   generalize upd H' pt (.tup [.int ((cs.length+1:Nat):Int),.aR,yo])=H2
   intro t1 hp
   have EW:=t1 _ _ hb
   have JN:=ai.same t1 _ _ hv
   refine⟨bl,vs,.ref pt,rfl,rfl,EW,by rw[lv,CY,lb];exact small (by omega),?_⟩
   obtain⟨ws,k1,k2⟩:=cG.push EW JN hp
   have s3:az H (upd H2 bl (.lst (vs++[.ref pt]))):=bh h0 (sH.trans t1)
   revert k1 k2 s3
   generalize upd H2 bl (.lst (vs++[.ref pt]))=H3
   intro k1 k2 s3
   have lw:=k2.len
   refine⟨_,rfl,4,_,_,rfl,At.same s3 _ _ hx,rfl,fun yl Gn=>⟨rfl,_,rfl,?_⟩⟩
   rcases hl with rfl | ⟨b',rfl⟩
   ·rw[aZ.mp Gn,show(!decide (V.aR=V.aR))=false from rfl]
    refine bg ⟨_,rfl,q bl H3 h0 s3 ⟨ws,k1,?_⟩⟩
    rw[mU,List.append_nil];exact k2
   ·obtain⟨pl,vl,rfl,_,_⟩:=aP.mp Gn
    rw[show(!decide (V.ref pl=V.aR))=true from rfl]
    refine bJ ⟨_,rfl,.inl ⟨rfl,ws,br.of k1⟩,_,rfl,_,_,rfl,rfl,_,rfl,4,_,_,rfl,At.same s3 _ _ hx,rfl,fun ym hym=>⟨by show 3≤sizeLine;decide,fun p4 Fy=>?_⟩⟩
    have en2:((cs.length+1:Nat):Int)+1=((cs.length+2:Nat):Int):=by omega
    dsimp only
    rw[en2]
    have t4:az H3 (upd H3 p4 (.tup [.int ((cs.length+2:Nat):Int),.aR,ym])):=af Fy _
    have h4:At K (upd H3 p4 (.tup [.int ((cs.length+2:Nat):Int),.aR,ym])) (fg (cs.length+2) .aR (.tup b')) (.ref p4):=At.new Fy (cD (bo.mpr rfl) (aZ.mpr rfl) hym)
    revert t4 h4
    generalize upd H3 p4 (.tup [.int ((cs.length+2:Nat):Int),.aR,ym])=H4
    intro t4 h4
    have Fd:=t4 _ _ k1
    have OZ:=ai.same t4 _ _ k2
    refine⟨bl,ws,.ref p4,rfl,rfl,Fd,by rw[lw,CK,CY,lb,List.length_singleton];exact small (by omega),?_⟩
    have:=cG.push Fd OZ h4
    refine⟨_,rfl,q bl _ h0 (bh h0 (s3.trans t4)) ?_⟩
    rw[mU];exact this
theorem jl (z:Str) (l:List Str):(if false=true then !gq (.str z) (l.map V.str) else gq (.str z) (l.map V.str))=decide (z∈l):=by
 rw[CO CU]
 unfold gq
 rw[List.any_map,Bool.eq_iff_iff,List.any_eq_true,decide_eq_true_eq]
 constructor
 ·rintro⟨y,hy,e⟩
  have:y=z:=by simpa[xw] using e
  rw[←this];exact hy
 ·exact fun h=>⟨z,h,by simp[xw]⟩
theorem hX (z:Str) (l:List Str):(if true=true then !gq (.str z) (l.map V.str) else gq (.str z) (l.map V.str))=!decide (z∈l):=by
 have:=jl z l
 rw[CO CU] at this
 rw[CQ rfl,this]
theorem blk1{H H1:Hp}{Q:VK}{d:D}(q:gj K H Q [fg 0 .aR d]) (s:az H H1){y:V}(hy:At K H1 d y):([.int 0,.aR,y]:List V).length≤sizeLine∧∀p,H1 p=none→([.ref p]:List V).length≤sizeLine∧∀l,upd H1 p (.tup [.int 0,.aR,y]) l=none→Q (.ref l) (upd (upd H1 p (.tup [.int 0,.aR,y])) l (.lst [.ref p])):=
 ⟨by show 3≤sizeLine;decide,fun p hp=>⟨by show 1≤sizeLine;decide,q.new (s.trans (af hp _)) (ai.eA (At.new hp (cD (bo.mpr rfl) (aZ.mpr rfl) hy)))⟩⟩
def jN (K:Fg06):Sp:=fun vs H Q _=>∃(x:V) (k:Str) (r:List D),vs=[x]∧At K H (.tup (.str k::r)) x∧Shape k r∧gj K H Q (bt (.tup (.str k::r)))
theorem pX:aW ["statement","kind"] ["statement"] (aE pf):=fsX rfl rfl rfl rfl (by decide +kernel)
theorem uw (F:eX K "blocks_of" "blocks_of" pf f fd) (dT:Def P w K mg base "blocks_of_try" ["statement"] 1 (zS K)):bO P w K mg base fw 2 f fd ["statement"] (jN K):=by
 refine F.hV pX (fun vs H Q E h=>?_) (fun Si A outer s H vs Q E hr h=>?_)
 ·obtain⟨_,_,_,rfl,_⟩:=h;rfl
 obtain⟨x,k,r,rfl,hx,sh,q⟩:=h
 refine⟨_,ah (aA (i:=1) pX.nd rfl (Or.inl rfl) (aC (pv 0)))
  (ah (aN (ar bq (pv 1) (aw (aa aq (aa aq ae))) rfl) (aj (aG (aI (aa (aw (aa ak (aa bj (aa (aC (pv 0)) ae)))) ae)))) aB)
  (ah (aN (ar bq (pv 1) (aw (aa aq (aa aq ae))) rfl) (aj (aG (aI (aa (aw (aa ak (aa bj (aa (aC (pv 0)) ae)))) (aa (aw (aa ak (aa bj (aa (aC (pv 0)) ae)))) ae))))) aB)
  (ah (aN (ar bw (pv 1) aq (aH _)) (aj (aG (aI (aa (aw (aa ak (aa bj (aa (aC (pv 0)) ae)))) (aa (aw (aa ak (aa bj (aa (aC (pv 0)) ae)))) ae))))) aB)
  (aj (aG (b9 (ar bw (pv 1) aq (aH _)) (L3.aK dT hr (by decide) rfl (aa (pv 0) ae)) (aI ae))))))),?main⟩
 case main=>
  refine⟨_,rfl,0,_,_,rfl,hx,rfl,fun yk EB=>?_⟩
  rw[av.mp EB]
  have two:∀(H1:Hp) (d e:D),az H H1→gj K H Q [fg 0 .aR d,fg 1 .aR e]→∀(i j:Nat),(D.str k::r)[i]?=some d→(D.str k::r)[j]?=some e→
    xJ (cL (lN (cL (tC (.int 0)) (cL (tC .aR) (cL (nc (iI K) (fi 0) (tC (.int (i:Nat)))) gJ)))) (cL (lN (cL (tC (.int 1)) (cL (tC .aR) (cL (nc (iI K) (fi 0) (tC (.int (j:Nat)))) gJ)))) gJ)) [some x,some (.str k)] H1 Q:=fun H1 d e hs q i j hi hj=>by
   refine⟨_,rfl,i,_,_,rfl,At.same hs _ _ hx,hi,fun y hy=>⟨by show 3≤sizeLine;decide,fun p hp=>?_⟩⟩
   have t1:=af hp (.tup [.int 0,.aR,y])
   refine⟨_,rfl,j,_,_,rfl,At.same (hs.trans t1) _ _ hx,hj,fun z hz=>⟨by show 3≤sizeLine;decide,fun p2 EC=>⟨by show 2≤sizeLine;decide,?_⟩⟩⟩
   have t2:=af EC (.tup [.int 1,.aR,z])
   exact q.new ((hs.trans t1).trans t2) (aJ.mpr ⟨_,_,rfl,At.same t2 _ _ (At.new hp (cD (bo.mpr rfl) (aZ.mpr rfl) hy)),ai.eA (At.new EC (cD (bo.mpr rfl) (aZ.mpr rfl) hz))⟩)
  have ek:D.k (.tup (.str k::r))=k:=rfl
  unfold bt at q
  rw[ek] at q
  refine⟨_,rfl,by show 2≤sizeLine;decide,fun p1 EG=>⟨p1,_,rfl,.inr (cq.of ag),rfl,rfl,_,rfl,?_⟩⟩
  have s1:=af EG (.tup [.str "def",.str "class"])
  revert s1
  generalize upd H p1 (.tup [.str "def",.str "class"])=H1
  intro s1
  rw[show(if false=true then !gq (.str k) [.str "def",.str "class"] else gq (.str k) [.str "def",.str "class"])=decide (k∈(["def","class"]:List Str)) from jl k ["def","class"]]
  by_cases c1:k="def"∨k="class"
  ·rw[CQ c1] at q
   rw[CJ (show k∈(["def","class"]:List Str) by simpa using c1)]
   obtain⟨a,b,c,rfl⟩:=sh.dc c1
   refine bJ ⟨_,rfl,3,_,_,rfl,At.same s1 _ _ hx,rfl,fun y hy=>?_⟩
   exact blk1 q s1 hy
  rw[CO c1] at q
  rw[CI (show ¬k∈(["def","class"]:List Str) from fun m=>c1 (by simpa using m))]
  refine bg ⟨_,rfl,by show 2≤sizeLine;decide,fun p2 EC=>⟨p2,_,rfl,.inr (cq.of ag),rfl,rfl,_,rfl,?_⟩⟩
  have s2:=s1.trans (af EC (.tup [.str "if",.str "while"]))
  revert s2
  generalize upd H1 p2 (.tup [.str "if",.str "while"])=H2
  intro s2
  rw[show(if false=true then !gq (.str k) [.str "if",.str "while"] else gq (.str k) [.str "if",.str "while"])=decide (k∈(["if","while"]:List Str)) from jl k ["if","while"]]
  by_cases c2:k="if"∨k="while"
  ·rw[CQ c2] at q
   rw[CJ (show k∈(["if","while"]:List Str) by simpa using c2)]
   obtain⟨a,b,c,rfl⟩:=sh.iw c2
   exact bJ (two H2 _ _ s2 q 2 3 rfl rfl)
  rw[CO c2] at q
  rw[CI (show ¬k∈(["if","while"]:List Str) from fun m=>c2 (by simpa using m))]
  refine bg ⟨_,rfl,rfl,_,rfl,?_⟩
  rw[dF]
  by_cases c3:k="for"
  ·rw[CQ c3] at q
   rw[CJ c3]
   obtain⟨a,e,b,c,rfl⟩:=sh.fr c3
   exact bJ (two H2 _ _ s2 q 3 4 rfl rfl)
  rw[CO c3] at q
  rw[CI c3]
  refine bg ⟨_,rfl,rfl,_,rfl,?_⟩
  rw[dF]
  by_cases c4:k="try"
  ·rw[CJ c4]
   obtain⟨b,cs,o,l,rfl,h1,h2,h3⟩:=sh.tr c4
   subst c4
   refine bJ ⟨_,rfl,x,b,cs,o,l,rfl,At.same s2 _ _ hx,h1,h2,h3,fun p H' hp hs hl=>?_⟩
   have Fi:H p=none:=by
    cases e:H p with
    | none=>rfl
    | some u=>rw[s2 _ _ e] at hp;cases hp
   refine q p H' Fi (s2.trans hs) ?_
   rw[CQ rfl]
   unfold bt tryD at hl
   rw[show D.k (.tup [.str "try",.tup b,.tup cs,.tup o,l])="try" from rfl,CO c1,CO c2,CO c3,CQ rfl] at hl
   exact hl
  ·rw[CO c4] at q
   rw[CI c4]
   exact bg ⟨by decide,q.new s2 (aD.mpr rfl)⟩
abbrev rE:Stmt:=dz 7
theorem kc{k:Str}{r:List D}(h:Shape k r):∀bd∈bt (.tup (.str k::r)),∃(i:Nat) (hd:D) (b:List D),bd=.tup [.int (i:Nat),hd,.tup b]∧(hd=.aR∨∃hs,hd=.tup hs):=by
 unfold bt
 rw[show D.k (.tup (.str k::r))=k from rfl]
 split
 ·rename_i c
  obtain⟨a,b,c,rfl⟩:=h.dc c
  intro bd hb
  simp[D.cK,D.items] at hb
  exact⟨0,.aR,c,hb,.inl rfl⟩
 ·split
  ·rename_i c
   obtain⟨a,b,c,rfl⟩:=h.iw c
   intro bd hb
   simp[D.cK,D.items] at hb
   rcases hb with rfl | rfl
   ·exact⟨0,.aR,b,rfl,.inl rfl⟩
   ·exact⟨1,.aR,c,rfl,.inl rfl⟩
  ·split
   ·rename_i c
    obtain⟨a,e,b,c,rfl⟩:=h.fr c
    intro bd hb
    simp[D.cK,D.items] at hb
    rcases hb with rfl | rfl
    ·exact⟨0,.aR,b,rfl,.inl rfl⟩
    ·exact⟨1,.aR,c,rfl,.inl rfl⟩
   ·split
    ·rename_i c
     obtain⟨b,cs,o,l,rfl,_,hc,hl⟩:=h.tr c
     intro bd hb
     simp only[D.cK,D.items,List.getD_cons_succ,List.getD_cons_zero,List.mem_cons,List.mem_append] at hb
     rcases hb with rfl | hb | rfl | hb
     ·exact⟨0,.aR,b,rfl,.inl rfl⟩
     ·unfold dy at hb
      obtain⟨j,hj,e⟩:=List.mem_mapIdx.mp hb
      obtain⟨e',x,b',ec⟩:=hc cs[j] (C2 hj)
      rw[ec] at e
      exact⟨j+1,headD (.tup [e',x,.tup b']),b',e.symm,.inr ⟨_,rfl⟩⟩
     ·exact⟨cs.length+1,.aR,o,rfl,.inl rfl⟩
     ·rcases hl with rfl | ⟨b',rfl⟩
      ·cases hb
      ·have:bd=fg (cs.length+2) .aR (.tup b'):=by simpa using hb
       exact⟨cs.length+2,.aR,b',this,.inl rfl⟩
    ·intro bd hb;cases hb
def oJ (K:Fg06):Sp:=fun vs H Q _=>∃(x:V) (k:Str) (r:List D),vs=[x]∧At K H (.tup (.str k::r)) x∧Shape k r∧(aO (.tup (.str k::r))).length≤1000000∧gj K H Q (aO (.tup (.str k::r)))
theorem jP:aW ["statement","rows","number","head","block"] ["statement"] (aE rE):=fsX rfl rfl rfl rfl (by decide +kernel)
theorem wt (F:eX K "inner_rows" "inner_rows" rE f fd) (dB:Def P w K mg base "blocks_of" ["statement"] 2 (jN K)):bO P w K mg base fw 3 f fd ["statement"] (oJ K):=by
 refine F.hV jP (fun vs H Q E h=>?_) (fun Si A outer s H vs Q E hr h=>?_)
 ·obtain⟨_,_,_,rfl,_⟩:=h;rfl
 obtain⟨x,k,r,rfl,hx,sh,hlen,q⟩:=h
 refine⟨_,ah (aA (i:=1) jP.nd rfl (Or.inl rfl) (aI ae))
  (ah (bR C9 rfl (bF (L3.aK dB hr (by decide) rfl (aa (pv 0) ae))) (cw rfl (aU (aL (i:=2) jP.nd rfl (Or.inl rfl)) (aU (aL (i:=3) jP.nd rfl (Or.inl rfl)) (aU (aL (i:=4) jP.nd rfl (Or.inl rfl)) bU))))
   (ah (aN (ar gc (pv 3) bj (aH _)) (aj (ba (cj CW C3 C4 bA (pv 1) (aa (pv 3) ae)))) aB)
   (aj (ba (cj CW PySem.F.slot_list_extend PySem.F.type_list_extend jz (pv 1) (aa (pv 4) ae))))))
  (aj (aG (pv 1)))),?main⟩
 case main=>
  refine⟨by decide,fun rl E8=>?_⟩
  have s1:az H (upd H rl (.lst [])):=af E8 _
  have c1:upd H rl (.lst []) rl=some (.lst []):=ag
  revert s1 c1
  generalize upd H rl (.lst [])=H1
  intro s1 c1
  refine⟨_,rfl,x,k,r,rfl,At.same s1 _ _ hx,sh,fun bl H2 Ih s2 ⟨vbs,EW,hA⟩=>?_⟩
  have lA:=hA.len
  have c2:=s2 _ _ c1
  have nb:rl≠bl:=fun z=>by rw[z,Ih] at c1;cases c1
  have sum:∀i,((bt (.tup (.str k::r))).take i).flatMap cf++((bt (.tup (.str k::r))).drop i).flatMap cf=aO (.tup (.str k::r)):=fun i=>by rw[←List.flatMap_append,List.take_append_drop,gg sh]
  refine⟨bl,rfl,⟨vbs,br.of EW⟩,fo (K:=K) (a:=bl) (xs:=vbs) (fun i σ H'=>(∃o2 o3 o4,σ=[some x,some (.ref rl),o2,o3,o4])∧az H H'∧bN H2 H'∧H' bl=some (.lst vbs)∧∃vs,H' rl=some (.lst vs)∧ai K H' (((bt (.tup (.str k::r))).take i).flatMap cf) vs) ⟨⟨none,none,none,rfl⟩,s1.trans s2,fun _ _ e=>e,EW,[],c2,aD.mpr rfl⟩ (fun i σ H' _ h=>by obtain⟨_,_,_,hb,_⟩:=h;exact br.of hb) ?_ ?_⟩
  ·rintro i v σ H' hv ⟨⟨o2,o3,o4,rfl⟩,sH,sT,hb,vs,Fv,GI⟩
   have hi:i < (bt (.tup (.str k::r))).length:=by rw[←lA];exact(CM.mp hv).1
   obtain⟨v',ED,ER⟩:=ai.get (i:=i) hA (d:=(bt (.tup (.str k::r)))[i]) (by simp[hi])
   have ev:v'=v:=by rw[hv] at ED;cases ED;rfl
   subst ev
   obtain⟨num,hd,b,ebd,Pn⟩:=kc sh _ (C2 hi)
   have Ey:At K H' (.tup [.int (num:Nat),hd,.tup b]) v':=by rw[←ebd];exact At.ax sT _ _ ER
   obtain⟨pb,vb,rfl,sqb,Fb⟩:=aP.mp Ey
   obtain⟨z0,r0,rfl,Hi,Fb⟩:=aJ.mp Fb
   obtain⟨z1,r1,rfl,Gv,Fb⟩:=aJ.mp Fb
   obtain⟨z2,r2,rfl,L7,Fb⟩:=aJ.mp Fb
   cases aD.mp Fb
   obtain⟨pblk,vblk,rfl,sqblk,JZ⟩:=aP.mp L7
   have tl:((bt (.tup (.str k::r))).take (i+1)).flatMap cf=(((bt (.tup (.str k::r))).take i).flatMap cf++bW hd)++b:=by
    rw[C8,List.flatMap_append,C5 hi,ebd,List.append_assoc]
    congr 1
    simp[cf,D.cK,D.items]
   have bound:(((bt (.tup (.str k::r))).take (i+1)).flatMap cf).length≤1000000:=by
    have:=congrArg List.length (sum (i+1))
    rw[CK] at this
    omega
   rw[tl,CK,CK] at bound
   have lv:=GI.len
   have lb:=JZ.len
   refine⟨pb,_,rfl,sqb,rfl,_,_,rfl,_,_,rfl,_,_,rfl,rfl,?_⟩

   have ext:∀(H3:Hp) (ws:List V),az H H3→bN H2 H3→bN H' H3→H3 bl=some (.lst vbs)→H3 rl=some (.lst ws)→ai K H3 (((bt (.tup (.str k::r))).take i).flatMap cf++bW hd) ws→
     A8 K "list" (qa K) (fi 1) (cL (fi 4) gJ) [some x,some (.ref rl),some z0,some z1,some (.ref pblk)] H3 (fun _ H'=>(∃o2 o3 o4,[some x,some (.ref rl),some z0,some z1,some (.ref pblk)]=[some x,some (.ref rl),o2,o3,o4])∧az H H'∧bN H2 H'∧H' bl=some (.lst vbs)∧∃vs,H' rl=some (.lst vs)∧ai K H' (((bt (.tup (.str k::r))).take (i+1)).flatMap cf) vs):=fun H3 ws Ff NP sT' FI Ha Hr=>by
    have l3:=Hr.len
    refine⟨_,rfl,.inl ⟨rfl,ws,br.of Ha⟩,_,rfl,rl,pblk,ws,vblk,rfl,rfl,Ha,cq.ax sT' sqblk,by rw[l3,lb,CK];exact small (by omega),⟨_,_,_,rfl⟩,bh E8 Ff,NP.trans (aS Ha),?_,_,ag,?_⟩
    ·rw[aF (Ne.symm nb)];exact FI
    ·rw[tl]
     exact ai.append (ai.ax (aS Ha) _ _ Hr) (ai.ax (sT'.trans (aS Ha)) _ _ JZ)
   refine⟨_,rfl,rfl,_,rfl,?_⟩
   rcases Pn with rfl | ⟨hs,rfl⟩
   ·rw[aZ.mp Gv,show(!decide (V.aR=V.aR))=false from rfl]
    rw[aZ.mp Gv] at ext
    exact bg (ext H' vs sH sT (fun _ _ e=>e) hb Fv (by rw[show bW .aR=[] from rfl,List.append_nil];exact GI))
   ·obtain⟨ph,vh,rfl,_,_⟩:=aP.mp Gv
    rw[show(!decide (V.ref ph=V.aR))=true from rfl]
    have lh:(bW (.tup hs)).length=1:=rfl
    refine bJ ⟨_,rfl,.inl ⟨rfl,vs,br.of Fv⟩,_,rfl,rl,vs,.ref ph,rfl,rfl,Fv,by rw[lv];exact small (by omega),?_⟩
    refine ext _ (vs++[.ref ph]) (bh E8 sH) (sT.trans (aS Fv)) (aS Fv) (by rw[aF (Ne.symm nb)];exact hb) ag ?_
    exact ai.append (ai.ax (aS Fv) _ _ GI) (ai.eA (At.ax (aS Fv) _ _ Gv))
  ·rintro σ H' ⟨⟨o2,o3,o4,rfl⟩,sH,sT,hb,vs,Fv,GI⟩
   refine⟨_,rfl,q rl H' E8 sH ⟨vs,Fv,?_⟩⟩
   rw[lA,List.take_length,gg sh] at GI
   exact GI
abbrev wc:Stmt:=dz 6
def jX:Nat→D→Prop
 | 0,_=>False
 | n+1,d=>(∃k r,d=.tup (.str k::r)∧Shape k r)∧∀s∈aO d,jX n s
theorem jX.deep:∀{n:Nat}{d:D},jX n d→gG n d
 | 0,_,h=>h.elim
 | n+1,_,h=>fun s hs=>(h.2 s hs).deep
theorem jX.up:∀{n:Nat}{d:D},jX n d→jX (n+1) d
 | 0,_,h=>h.elim
 | n+1,_,h=>⟨h.1,fun s hs=>(h.2 s hs).up⟩
theorem jX.shape{n:Nat}{d:D}(h:jX n d):∃k r,d=.tup (.str k::r)∧Shape k r:=by
 cases n with
 | zero=>exact h.elim
 | succ n=>exact h.1
theorem kB (n:Nat):∀xs:List D,xs.length≤(aM (n+1) xs).length
 | []=>Nat.zero_le _
 | s::xs=>by
  rw[fb,CK,CY,CY]
  have:=kB n xs
  omega
theorem ai.snoc{H:Hp}:∀{ds:List D}{d:D}{vs:List V},ai K H (ds++[d]) vs→∃us v,vs=us++[v]∧ai K H ds us∧At K H d v
 | [],d,vs,h=>by
  obtain⟨v,r,rfl,h1,h2⟩:=aJ.mp h
  cases aD.mp h2
  exact⟨[],v,rfl,aD.mpr rfl,h1⟩
 | c::ds,d,vs,h=>by
  obtain⟨v,r,rfl,h1,h2⟩:=aJ.mp h
  obtain⟨us,u,rfl,h3,h4⟩:=ai.snoc h2
  exact⟨v::us,u,rfl,aJ.mpr ⟨v,us,rfl,h1,h3⟩,h4⟩
theorem ai.rev{H:Hp}:∀{ds:List D}{vs:List V},ai K H ds vs→ai K H ds.reverse vs.reverse
 | [],vs,h=>by rw[aD.mp h];exact aD.mpr rfl
 | d::ds,vs,h=>by
  obtain⟨v,r,rfl,h1,h2⟩:=aJ.mp h
  rw[List.reverse_cons,List.reverse_cons]
  exact ai.append (ai.rev h2) (ai.eA h1)
def oE (K:Fg06):Sp:=fun vs H Q _=>∃(x:V) (n:Nat) (ds:List D),vs=[x]∧At K H (.tup ds) x∧(∀d∈ds,jX n d)∧(aM n ds).length≤500000∧gj K H Q (aM n ds)
theorem oN:aW ["block","rows","waiting","statement"] ["block"] (aE wc):=fsX rfl rfl rfl rfl (by decide +kernel)
theorem yF (g:fh mg) (F:eX K "rows_of_scope" "rows_of_scope" wc f fd) (dI:Def P w K mg base "inner_rows" ["statement"] 3 (oJ K)):bO P w K mg base fw 4 f fd ["block"] (oE K):=by
 refine F.hV oN (fun vs H Q E h=>?_) (fun Si A outer s H vs Q E hr h=>?_)
 ·obtain⟨_,_,_,rfl,_⟩:=h;rfl
 obtain⟨x,n,ds,rfl,hx,bH,hlen,q⟩:=h
 refine⟨_,ah (aA (i:=1) oN.nd rfl (Or.inl rfl) (aI ae))
  (ah (aA (i:=2) oN.nd rfl (Or.inl rfl) (.mk (L2.qc rfl rfl g.nList rfl g.yN (LA.out (aa (pv 0) ae)))))
  (ah (cu C9 (ar (gP hr) (pv 2) (aI ae) (aH _))
   (ah (aA (i:=3) oN.nd rfl (Or.inl rfl) (eF CW PySem.F.slot_list_pop PySem.F.type_list_pop rL (pv 2)))
   (ah (ba (cj CW C3 C4 bA (pv 1) (aa (pv 3) ae)))
   (aj (aN (ar dJ (aC (pv 3)) (aw (aa aq (aa aq ae))) rfl)
    (aj (ba (cj CW PySem.F.slot_list_extend PySem.F.type_list_extend kA (pv 2) (aa (.mk (L2.ju rfl rfl g.nList rfl g.yN (LA.out (aa (L3.aK dI hr (by decide) rfl (aa (pv 3) ae)) ae)))) ae)))) aB)))))
  (aj (aG (pv 1))))),?main⟩
 case main=>
  refine⟨by decide,fun rl E8=>?_⟩
  have s1:az H (upd H rl (.lst [])):=af E8 _
  have c1:upd H rl (.lst []) rl=some (.lst []):=ag
  revert s1 c1
  generalize upd H rl (.lst [])=H1
  intro s1 c1
  obtain⟨a,vx,rfl,sqx,Hy⟩:=aP.mp (At.same s1 _ _ hx)
  refine⟨_,rfl,a,vx,rfl,sqx,fun wl Ht=>?_⟩
  have Hw:H wl=none:=by
   cases e:H wl with
   | none=>rfl
   | some u=>rw[s1 _ _ e] at Ht;cases Ht
  have nrw:rl≠wl:=fun z=>by rw[z,Ht] at c1;cases c1
  have s2:az H1 (upd H1 wl (.lst vx.reverse)):=af Ht _
  have c2:upd H1 wl (.lst vx.reverse) wl=some (.lst vx.reverse):=ag
  revert s2 c2
  generalize upd H1 wl (.lst vx.reverse)=H2
  intro s2 c2
  refine⟨fun m σ H'=>(∃o3,σ=[some (.ref a),some (.ref rl),some (.ref wl),o3])∧az H H'∧∃Sg wds vr vw,H' rl=some (.lst vr)∧ai K H' Sg vr∧H' wl=some (.lst vw)∧ai K H' wds vw∧(∀d∈wds,jX n d)∧Sg++aM n wds.reverse=aM n ds∧m=(aM n wds.reverse).length,
   ⟨_,⟨none,rfl⟩,s1.trans s2,[],ds.reverse,[],vx.reverse,s2 _ _ c1,aD.mpr rfl,c2,ai.rev (ai.same s2 _ _ Hy),fun d hd=>bH d (List.mem_reverse.mp hd),by rw[List.reverse_reverse];rfl,rfl⟩,?_⟩
  rintro m σ H3 ⟨⟨o3,rfl⟩,sH,Sg,wds,vr,vw,Ha,He,JM,JX,Kz,E7,rfl⟩
  refine⟨_,rfl,by decide,fun p0 Fi=>⟨wl,p0,vw,rfl,rfl,br.of ((af Fi _) _ _ JM),br.of ag,_,rfl,?_⟩⟩
  have t0:az H3 (upd H3 p0 (.lst [])):=af Fi _
  revert t0
  generalize upd H3 p0 (.lst [])=H4
  intro t0
  have IB:=t0 _ _ Ha
  have HI:=t0 _ _ JM
  have Nb:=ai.same t0 _ _ He
  have GH:=ai.same t0 _ _ JX
  have FG:=sH.trans t0
  rcases List.eq_nil_or_concat wds with rfl | ⟨wi,st,rfl⟩
  ·cases aD.mp JX
   refine bg ⟨_,rfl,q rl H4 E8 FG ⟨vr,IB,?_⟩⟩
   have e:aM n ([]:List D).reverse=[]:=fE n
   rw[e,List.append_nil] at E7
   rw[←E7];exact Nb
  ·rw[List.concat_eq_append] at GH Kz E7 ⊢
   obtain⟨vi,v,rfl,ER,GI⟩:=ai.snoc GH
   have okst:=Kz st (by simp)
   cases n with
   | zero=>exact okst.elim
   | succ n=>
    obtain⟨k,r,rfl,sh⟩:=okst.shape
    have erev:(wi++[D.tup (.str k::r)]).reverse=.tup (.str k::r)::wi.reverse:=by simp
    rw[erev,rq n _ _ okst.deep] at E7 ⊢
    have total:=congrArg List.length E7
    rw[CK,CY] at total
    rw[show(!(vi++[v]).isEmpty)=true by simp]
    refine bJ ⟨fun σ H'=>∃m',m' < _∧((∃o3,σ=[some (.ref a),some (.ref rl),some (.ref wl),o3])∧az H H'∧∃Sg wds vr vw,H' rl=some (.lst vr)∧ai K H' Sg vr∧H' wl=some (.lst vw)∧ai K H' wds vw∧(∀d∈wds,jX (n+1) d)∧Sg++aM (n+1) wds.reverse=aM (n+1) ds∧m'=(aM (n+1) wds.reverse).length),fun σ' H' z=>z,?_⟩
    refine⟨_,rfl,.inl ⟨rfl,_,br.of HI⟩,wl,_,v,rfl,rfl,HI,by simp,?_⟩
    rw[List.dropLast_concat]
    have w5:bN H4 (upd H4 wl (.lst vi)):=aS HI
    have Gq:upd H4 wl (.lst vi) rl=some (.lst vr):=by rw[aF nrw];exact IB
    have Hv:upd H4 wl (.lst vi) wl=some (.lst vi):=ag
    have s5:az H (upd H4 wl (.lst vi)):=bh Hw FG
    revert w5 Gq Hv s5
    generalize upd H4 wl (.lst vi)=H5
    intro w5 Gq Hv s5
    have FE:=ai.ax w5 _ _ Nb
    have K9:=ai.ax w5 _ _ ER
    have Ij:=At.ax w5 _ _ GI
    have lr:=FE.len
    refine⟨_,rfl,.inl ⟨rfl,_,br.of Gq⟩,_,rfl,rl,vr,v,rfl,rfl,Gq,by rw[lr];exact small (by omega),?_⟩
    obtain⟨ws,k1,k2⟩:=cG.push Gq FE Ij
    have w6:bN H5 (upd H5 rl (.lst (vr++[v]))):=aS Gq
    have Lw:upd H5 rl (.lst (vr++[v])) wl=some (.lst vi):=by rw[aF (Ne.symm nrw)];exact Hv
    have s6:az H (upd H5 rl (.lst (vr++[v]))):=bh E8 s5
    revert k1 k2 w6 Lw s6
    generalize upd H5 rl (.lst (vr++[v]))=H6
    intro k1 k2 w6 Lw s6
    have hAi6:=ai.ax w6 _ _ K9
    have Na:=At.ax w6 _ _ Ij
    refine⟨_,rfl,0,_,_,rfl,Na,rfl,fun yk EB=>⟨by show 2≤sizeLine;decide,fun p7 Fx=>?_⟩⟩
    rw[av.mp EB]
    refine⟨p7,_,rfl,.inr (cq.of ag),rfl,rfl,_,rfl,?_⟩
    have t7:az H6 (upd H6 p7 (.tup [.str "def",.str "class"])):=af Fx _
    revert t7
    generalize upd H6 p7 (.tup [.str "def",.str "class"])=H7
    intro t7
    have s7:=s6.trans t7
    have r7:=t7 _ _ k1
    have Hu:=t7 _ _ Lw
    have Il:=ai.same t7 _ _ k2
    have Rw:=ai.same t7 _ _ hAi6
    have Mb:=At.same t7 _ _ Na
    rw[show(if true=true then !gq (.str k) [.str "def",.str "class"] else gq (.str k) [.str "def",.str "class"])=!decide (k∈(["def","class"]:List Str)) from hX k ["def","class"]]
    have Ms:∀d∈wi,jX (n+1) d:=fun d hd=>Kz d (by simp[hd])
    by_cases c1:k="def"∨k="class"
    ·have eh:fU (.tup (.str k::r))=true:=by
      unfold fU
      rw[show D.k (.tup (.str k::r))=k from rfl]
      rcases c1 with rfl | rfl<;>decide +kernel
     rw[eh,CQ rfl,List.nil_append] at E7
     rw[CJ (show k∈(["def","class"]:List Str) by simpa using c1)]
     refine bg ⟨(aM (n+1) wi.reverse).length,by rw[eh,CQ rfl,List.nil_append,CY];exact Dd _,⟨_,rfl⟩,s7,Sg++[.tup (.str k::r)],wi,ws,vi,r7,Il,Hu,Rw,Ms,?_,rfl⟩
     rw[←E7];simp
    ·have eh:fU (.tup (.str k::r))=false:=by
      unfold fU
      rw[show D.k (.tup (.str k::r))=k from rfl,Bool.or_eq_false_iff,beq_eq_false_iff_ne,beq_eq_false_iff_ne]
      exact⟨fun z=>c1 (.inl z),fun z=>c1 (.inr z)⟩
     rw[eh,CO CU] at E7 total
     rw[CI (show ¬k∈(["def","class"]:List Str) from fun m=>c1 (by simpa using m))]
     rw[fj] at total
     rw[CK] at total
     have li:=kB n (aO (.tup (.str k::r)))
     have lwi:=kB n wi.reverse
     rw[List.length_reverse] at lwi
     refine bJ ⟨_,rfl,.inl ⟨rfl,_,br.of Hu⟩,_,rfl,v,k,r,rfl,Mb,sh,by omega,fun pi H8 hpi t8 ⟨vin,Js,Nh⟩=>⟨pi,vin,rfl,br.of Js,fun l9 hl9=>?_⟩⟩
     have t9:az H8 (upd H8 l9 (.lst vin.reverse)):=af hl9 _
     have c9:upd H8 l9 (.lst vin.reverse) l9=some (.lst vin.reverse):=ag
     revert t9 c9
     generalize upd H8 l9 (.lst vin.reverse)=H9
     intro t9 c9
     have LQ:=t8.trans t9
     have r9:=LQ _ _ r7
     have Lv:=LQ _ _ Hu
     have Nm:=ai.same LQ _ _ Il
     have Rv:=ai.same LQ _ _ Rw
     have Pe:=ai.rev (ai.same t9 _ _ Nh)
     have l1:=Rv.len
     have l2:=Nh.len
     refine⟨wl,l9,vi,vin.reverse,rfl,rfl,Lv,c9,by rw[List.length_reverse,l1,l2];exact small (by omega),?_⟩
     have wT:=aS (ys:=vi++vin.reverse) Lv
     refine⟨(aM (n+1) (aO (.tup (.str k::r))++wi.reverse)).length,by rw[eh,CO CU,CY];exact Dd _,⟨_,rfl⟩,bh Hw (s7.trans LQ),Sg++[.tup (.str k::r)],wi++(aO (.tup (.str k::r))).reverse,ws,vi++vin.reverse,by rw[aF nrw];exact r9,ai.ax wT _ _ Nm,ag,ai.append (ai.ax wT _ _ Rv) (ai.ax wT _ _ Pe),fun d hd=>?_,?_,?_⟩
     ·rcases Df.mp hd with z | z
      ·exact Ms d z
      ·exact(okst.2 d (List.mem_reverse.mp z)).up
     ·rw[List.reverse_append,List.reverse_reverse,←E7];simp
     ·rw[List.reverse_append,List.reverse_reverse]
abbrev rF:Stmt:=dz 8
abbrev wb:Stmt:=dz 9
def jv (a:D):Prop:=a=.aR∨∃z,a=.str z
structure A2 (k:Str) (r:List D):Prop where
 bd:k∈dn→∃a t,r=a::t∧jv a
 ex:k="except"→∃e a,r=[e,a]∧jv a
 tl:k="global"∨k="nonlocal"→∃xs:List Str,r=[.tup (xs.map .str)]
def jU (d:D):Prop:=∃k r,d=.tup (.str k::r)∧A2 k r
def uv:Option Str→V
 | some z=>.str z
 | none=>.aR
theorem jv.v{H:Hp}{a:D}{y:V}(h:jv a) (hy:At K H a y):y=uv a.txt:=by
 rcases h with rfl | ⟨z,rfl⟩
 ·exact aZ.mp hy
 ·exact av.mp hy
def ll (K:Fg06):Sp:=fun vs H Q _=>∃(x:V) (d:D),vs=[x]∧At K H d x∧jU d∧∀H',az H H'→Q (uv (bM d)) H'
theorem xX:aW ["row"] ["row"] (aE rF):=fsX rfl rfl rfl rfl (by decide +kernel)
theorem wx (F:eX K "bound_name" "bound_name" rF f fd):bO P w K mg base fw 1 f fd ["row"] (ll K):=by
 refine F.hV xX (fun vs H Q E h=>?_) (fun Si A outer s H vs Q E hr h=>?_)
 ·obtain⟨_,_,rfl,_⟩:=h;rfl
 obtain⟨x,d,rfl,hx,⟨k,r,rfl,sh⟩,q⟩:=h
 refine⟨_,ah (aN (ar bq (aC (pv 0)) (aw (aa aq (aa aq (aa aq (aa aq (aa aq (aa aq ae))))))) rfl) (aj (aG (aC (pv 0)))) aB)
  (aj (aG (b9 (ar bw (aC (pv 0)) aq (aH _)) (aC (pv 0)) bj))),?main⟩
 case main=>
  refine⟨_,rfl,0,_,_,rfl,hx,rfl,fun yk EB=>⟨by show 6≤sizeLine;decide,fun p1 EG=>?_⟩⟩
  rw[av.mp EB]
  refine⟨p1,_,rfl,.inr (cq.of ag),rfl,rfl,_,rfl,?_⟩
  have s1:az H (upd H p1 (.tup (dn.map V.str))):=af EG _
  show if(if false=true then !gq (.str k) (dn.map V.str) else gq (.str k) (dn.map V.str))=true then _ else _
  rw[jl k dn]
  unfold bM at q
  rw[show D.k (.tup (.str k::r))=k from rfl] at q
  by_cases c1:k∈dn
  ·rw[CQ c1] at q
   rw[CJ c1]
   obtain⟨a,t,rfl,ha⟩:=sh.bd c1
   refine bJ ⟨_,rfl,1,_,_,rfl,At.same s1 _ _ hx,rfl,fun y hy=>?_⟩
   rw[ha.v hy];exact q _ s1
  ·rw[CO c1] at q
   rw[CI c1]
   refine bg ⟨_,rfl,0,_,_,rfl,At.same s1 _ _ hx,rfl,fun yk EB=>?_⟩
   rw[av.mp EB]
   refine⟨rfl,_,rfl,?_⟩
   rw[dF]
   by_cases c2:k="except"
   ·rw[CQ c2] at q
    rw[CJ c2]
    obtain⟨e,a,rfl,ha⟩:=sh.ex c2
    refine bJ ⟨_,rfl,2,_,_,rfl,At.same s1 _ _ hx,rfl,fun y hy=>?_⟩
    rw[ha.v hy];exact q _ s1
   ·rw[CO c2] at q
    rw[CI c2]
    exact bg (q _ s1)
theorem ai.strs{H:Hp}:∀(zs:List Str) (vs:List V),ai K H (zs.map D.str) vs↔vs=zs.map V.str
 | [],vs=>aD
 | z::zs,vs=>by
  rw[List.map_cons,aJ,List.map_cons]
  constructor
  ·rintro⟨v,r,rfl,h1,h2⟩
   rw[av.mp h1,(ai.strs zs r).mp h2]
  ·rintro rfl
   exact⟨_,_,rfl,av.mpr rfl,(ai.strs zs _).mpr rfl⟩
theorem ia (zs:List Str):ff (.tup (zs.map D.str))=zs:=by
 unfold ff D.items
 induction zs with
 | nil=>rfl
 | cons z zs ih=>rw[List.map_cons,List.filterMap_cons];simp only[D.txt];rw[ih]
def oC (K:Fg06):Sp:=fun vs H Q _=>∃(p:Addr) (word:Str) (Sg:List D),vs=[.ref p,.str word]∧cG K H p Sg∧(∀d∈Sg,jU d)∧(word="global"∨word="nonlocal")∧(cg word Sg).length≤1000000∧gj K H Q ((cg word Sg).map D.str)
theorem rb:aW ["rows","word","names","row"] ["rows","word"] (aE wb):=fsX rfl rfl rfl rfl (by decide +kernel)
theorem yE (F:eX K "told_names" "told_names" wb f fd):bO P w K mg base fw 1 f fd ["rows","word"] (oC K):=by
 refine F.hV rb (fun vs H Q E h=>?_) (fun Si A outer s H vs Q E hr h=>?_)
 ·obtain⟨_,_,_,rfl,_⟩:=h;rfl
 obtain⟨p,word,Sg,rfl,⟨vr,hp,hA⟩,bH,hw,hlen,q⟩:=h
 refine⟨_,ah (aA (i:=2) rb.nd rfl (Or.inl rfl) (aI ae))
  (ah (bR C9 rfl (bF (pv 0)) (aL (i:=3) rb.nd rfl (Or.inl rfl))
   (aj (aN (ar bw (aC (pv 3)) (pv 1) (aH _)) (aj (ba (cj CW PySem.F.slot_list_extend PySem.F.type_list_extend jz (pv 2) (aa (aC (pv 3)) ae)))) aB)))
  (aj (aG (pv 2)))),?main⟩
 case main=>
  refine⟨by decide,fun nl NW=>?_⟩
  have s1:az H (upd H nl (.lst [])):=af NW _
  have c1:upd H nl (.lst []) nl=some (.lst []):=ag
  revert s1 c1
  generalize upd H nl (.lst [])=H1
  intro s1 c1
  have npl:p≠nl:=fun z=>by rw[z,NW] at hp;cases hp
  have lA:=hA.len
  refine⟨_,rfl,p,rfl,⟨vr,br.of (s1 _ _ hp)⟩,fo (K:=K) (a:=p) (xs:=vr) (fun i σ H'=>(∃o3,σ=[some (.ref p),some (.str word),some (.ref nl),o3])∧az H H'∧H' nl=some (.lst ((cg word (Sg.take i)).map V.str))) ⟨⟨none,rfl⟩,s1,c1⟩ (fun i σ H' _ h=>by obtain⟨_,sH,_⟩:=h;exact br.of (sH _ _ hp)) ?_ ?_⟩
  ·rintro i v σ H' hv ⟨⟨o3,rfl⟩,sH,hn⟩
   have hi:i < Sg.length:=by rw[←lA];exact(CM.mp hv).1
   obtain⟨v',ED,ER⟩:=ai.get (i:=i) hA (d:=Sg[i]) (by simp[hi])
   have ev:v'=v:=by rw[hv] at ED;cases ED;rfl
   subst ev
   obtain⟨k,r,ed,sh⟩:=bH Sg[i] (C2 hi)
   have Ey:At K H' (.tup (.str k::r)) v':=by rw[←ed];exact At.same sH _ _ ER
   have tl:cg word (Sg.take (i+1))=cg word (Sg.take i)++(if k=word then ff (D.cK (.tup (.str k::r)) 1) else []):=by
    unfold cg
    rw[C8,List.flatMap_append,C5 hi,ed]
    rw[Option.toList_some,List.flatMap_cons,List.flatMap_nil,List.append_nil]
    rfl
   have bound:(cg word (Sg.take (i+1))).length≤1000000:=by
    refine CZ ?_ hlen
    have:cg word Sg=cg word (Sg.take (i+1))++cg word (Sg.drop (i+1)):=by
     unfold cg
     rw[←List.flatMap_append,List.take_append_drop]
    rw[this,CK]
    omega
   refine⟨_,rfl,0,_,_,rfl,Ey,rfl,fun yk EB=>?_⟩
   rw[av.mp EB]
   refine⟨_,rfl,rfl,_,rfl,?_⟩
   rw[dF]
   by_cases c:k=word
   ·rw[CJ c]
    obtain⟨xs,rfl⟩:=sh.tl (by rw[c];exact hw)
    rw[CQ c,show D.cK (.tup [.str k,.tup (xs.map .str)]) 1=.tup (xs.map .str) from rfl,ia] at tl
    refine bJ ⟨_,rfl,.inl ⟨rfl,_,br.of hn⟩,_,rfl,1,_,_,rfl,Ey,rfl,fun y hy=>?_⟩
    obtain⟨pn,vn,rfl,sqn,GJ⟩:=aP.mp hy
    have evn:=(ai.strs xs vn).mp GJ
    subst evn
    rw[tl,CK] at bound
    refine⟨nl,pn,_,_,rfl,rfl,hn,sqn,by rw[CS,CS];exact small (by omega),⟨_,rfl⟩,bh NW sH,?_⟩
    rw[ag,tl,List.map_append]
   ·rw[CI c]
    rw[CO c,List.append_nil] at tl
    refine bg ⟨⟨_,rfl⟩,sH,?_⟩
    rw[tl];exact hn
  ·rintro σ H' ⟨⟨o3,rfl⟩,sH,hn⟩
   rw[lA,List.take_length] at hn
   exact⟨_,rfl,q nl H' NW sH ⟨_,hn,(ai.strs _ _).mpr rfl⟩⟩
end
end GS
namespace PySem
section
variable{prog:Program}{w:World}{A:Around}{E:Value→Shared→Prop}{R:Result→Shared→Prop}{s:Shared}
def sC (ifs:List Expr) (env:Env):Sem Bool:=forIn ifs true fun c r=>if r=true then do let ok ←PySem.isTrue c env (eval c env);pure (ForInStep.yield ok) else pure (ForInStep.yield r)
theorem ka{elt target iter:Expr}{ifs:List Expr}{scope:Scope}{pos:Pos}{it acc:Value}{env:Env}(I:Nat→Shared→Prop)
  (turn:∀n s,I n s→wpAny (model prog w) A (pyNext it) (fun r s₁=>match r with
   | none=>R (.ok .next) s₁
   | some v=>wpAny (model prog w) A (letOwnedTupleGo target it v) (fun _ s₂=>wpAny (model prog w) A (assign target env v) (fun _ s₃=>
     wpAny (model prog w) A (sC ifs env) (fun b s₄=>if b=true then
      wpAny (model prog w) A (eval elt env) (fun x s₄=>
       wpAny (model prog w) A (call (.builtin "list.append") [acc,x]) (fun _ s₅=>∃m,m < n∧I m s₅) (notedBy (model prog w) A env fun e s'=>R (.error e) s') s₄) (notedBy (model prog w) A env fun e s'=>R (.error e) s') s₄ else ∃m,m < n∧I m s₄) (notedBy (model prog w) A env fun e s'=>R (.error e) s') s₃) (notedBy (model prog w) A env fun e s'=>R (.error e) s') s₂) (notedBy (model prog w) A env fun e s'=>R (.error e) s') s₁) (notedBy (model prog w) A env fun e s'=>R (.error e) s') s)
  (n:Nat) (h:I n s):
  codeAny (model prog w) A (.compLoop (.ListComp elt [⟨target,iter,ifs,0⟩] scope pos) 0 it acc env) R s:=by
 refine codeAny_loop rfl I (fun n s hI=>?_) n h
 show wpAny _ A ((compTurn (.ListComp elt [⟨target,iter,ifs,0⟩] scope pos) 0 it acc env).onRaise (fun x=>do noteFrame x env;theTreesLotGoes x)) _ _ s
 refine wpAny_noted ?_
 rw[compTurn_list]
 refine CG (wpAny_standAt (CG (wpAny_mono (turn n s hI) (fun r s₁ h₁=>?_) fun _ _ h'=>h')))
 cases r with
 | none=>exact CH h₁
 | some v=>
  refine CG (wpAny_mono h₁ (fun _ s₂ h₂=>CG (wpAny_mono h₂ (fun _ s₃ h₃=>?_) fun _ _ h'=>h')) fun _ _ h'=>h')
  refine CG (wpAny_mono h₃ (fun b s₄ h₄=>?_) fun _ _ h'=>h')
  cases b with
  | false=>
   rw[CO CU] at h₄
   exact wpAny_ite_false (by simp) (CH ⟨rfl,h₄⟩)
  | true=>
   rw[CQ rfl] at h₄
   exact wpAny_ite_true (by simp) (CG (CG (wpAny_mono h₄ (fun x s₄ h₄=>CG (wpAny_mono h₄ (fun _ s₅ h₅=>CH (CH ⟨rfl,h₅⟩)) fun _ _ h'=>h')) fun _ _ h'=>h')))
end
end PySem
namespace L2
open PySem PySem.Spec PyProof.Rows PySem.Builtin PySem.Builtin.Str
structure pH (X:Cx) (scope:Scope) (cl:List (Str×Addr)) (Xs Nf:List Str) (js:List Nat):Prop where
 yW:closureFor scope X.env=pure cl
 cell:∀y∈scope.names,y.2≠.cell
 kind:scope.kind=.function
 names:∀y∈scope.names,y.2=.local→scope.names.lookup y.1=some .local
 sub:∀y c,cl.lookup y=some c→X.env.cells.lookup y=some c
 has:∀y,((relabel scope X.env).names.lookup y=some .cell∨(relabel scope X.env).names.lookup y=some .free)→∃c,cl.lookup y=some c
 len:js.length=Nf.length
 frees:∀(j:Nat) (y:Str),Nf[j]?=some y→∃i,js[j]?=some i∧X.N[i]?=some y∧X.env.scope.names.lookup y=some .cell∧((relabel scope X.env).names.lookup y=some .cell∨(relabel scope X.env).names.lookup y=some .free)
def PTs (X:Cx) (ifs:List Expr) (tc:TT):Prop:=∀(Sb:List (Addr×Obj)) (s:Shared) (σ:St) (H:Hp) (Q:Bool→Hp→Prop),Inv X Sb σ H s→tc σ H Q→wpAny (model X.prog X.w) X.A (sC ifs X.env) (TP X Sb σ Q) X.xe s
def iA:TT:=fun _ H Q=>Q true H
theorem gb{X:Cx}:PTs X [] iA:=fun Sb s σ H Q I h=>wpAny_tests_nil ⟨H,I,h⟩
theorem jV{X:Cx}{c:Expr}{tc:TT}(h:PT X c tc):PTs X [c] tc:=fun Sb s σ H Q I q=>wpAny_tests_one (h Sb s σ H Q I q)
def qU (k:Nat) (js:List Nat) (wi:TI) (g:TG) (tc:TT) (te:TE):TE:=fun σ H Q=>wi σ H fun J H1=>∃vs:List V,(vs.length=js.length∧∀(j i:Nat),js[j]?=some i→∃v,vs[j]?=some v∧σ[i]?=some (some v))∧
 ∀D,H1 D=none→∃W:Nat→Nat→List V→Hp→Prop,(∃m,W 0 m [] (upd H1 D (.lst [])))∧∀i m ys H,W i m ys H→
  (J.stop i H∧Q (.ref D) H)∨(J.go i H∧∀x H' (ox:List (Option V)),ox.length=k→J.pK i H x H'→g x (ox++vs.map some) H' fun σ2 H2=>∃EN,EN.length=k∧σ2=EN++vs.map some∧tc σ2 H2 fun b H3=>
   if b=true then te σ2 H3 fun v H4=>H4 D=some (.lst ys)∧ys.length < sizeLine∧∃m',m' < m∧W (i+1) m' (ys++[v]) (upd H4 D (.lst (ys++[v]))) else ∃m',m' < m∧W (i+1) m' ys H3)
section
variable{X:Cx}
theorem mV{Sb:List (Addr×Obj)}{σ:St}{H:Hp}{s:Shared}{scope:Scope}{cl:List (Str×Addr)}{Xs Nf:List Str}{js:List Nat}{vs:List V}{fp:List Addr}{h1:Heap}{tk:Nat}{m:Str→Option Value}
  (K:pH X scope cl Xs Nf js) (I:Inv X Sb σ H s) (GU:vs.length=js.length) (Fv:∀(j i:Nat),js[j]?=some i→∃v,vs[j]?=some v∧σ[i]?=some (some v))
  (hf:∀b∈fp,i8 X Sb H b) (Ex:∀b∈fp,b < s.heap.objs.size) (ns:h1.Ns s.heap.objs.size m) (keep:∀b o,s.heap.get? b=some o→h1.get? b=some o):
  Inv (jm X scope cl s.heap.objs.size (Xs++Nf) s H fp) [] (List.replicate Xs.length none++vs.map some) H { s with heap:=h1,toks:=tk }:=by
 refine⟨⟨I.ok.mod,K.kind,I.ok.glob,I.ok.blt,CN _,fun y z c e1 e2=>I.ok.inj y z c (K.sub y c e1) (K.sub z c e2),fun y hy=>K.has y hy,fun y c e _=>(Bool.noConfusion (show false=true from e)),I.ok.hd,I.ok.frames,.inl rfl,
  fun b hb=>⟨Dc (Ex b hb),fun y c e=>(hf b hb).2.2.2.2.1 y c (K.sub y c e)⟩,I.bs,CZ I.ok.sj I.sz,fun b o e hb=>?_,fun b hb z=>?_,I.stack,I.jL⟩,
  rfl,I.bare,Un.kept keep,⟨m,ns,fun i y v e1 e2 e3=>?_⟩,fun y c e=>?_,I.bH.fresh (CN _),fun y c e=>I.fJ y c (K.sub y c e),fun p hp=>absurd (show p∈([]:List (Addr×Obj)) from hp) (by simp),I.bH.kept keep,?_⟩
 ·rcases(hf b hb).2.2.2.1 with z | z
  ·exact I.ok.pk b o e z
  ·exact absurd (CT (Heap.lt_size e) (CZ I.ok.sj z)) (C7 _)
 ·rcases List.mem_cons.mp (I.jr b z) with e | e
  ·exact(hf b hb).2.1 e
  ·exact(hf b hb).2.2.1 e
 ·by_cases hi:i < Xs.length
  ·rw[List.getElem?_append_left (by rw[List.length_replicate];exact hi)] at e2
   rw[List.getElem?_replicate] at e2
   split at e2<;>simp at e2
  ·obtain⟨j,rfl⟩:∃j,i=Xs.length+j:=⟨i - Xs.length,by omega⟩
   have Qm:Nf[j]?=some y:=by
    have e1'':(Xs++Nf)[Xs.length+j]?=some y:=e1
    rw[List.getElem?_append_right (by omega)] at e1''
    simpa using e1''
   have e2b:(vs.map some)[j]?=some (some v):=by
    rw[List.getElem?_append_right (by rw[List.length_replicate];omega),List.length_replicate] at e2
    simpa using e2
   obtain⟨i0,hj,hN,hk,hr⟩:=K.frees j y Qm
   obtain⟨v',GV,JN⟩:=Fv j i0 hj
   have ev:v=v':=by
    have Nz:(vs.map some)[j]?=some (some v):=e2b
    rw[List.getElem?_map,GV] at Nz
    simpa using Nz.symm
   subst ev
   obtain⟨m0,Hn,hl⟩:=I.loc
   obtain⟨u,r,l⟩:=hl i0 y v hN JN (.inr (.inl hk))
   refine⟨u,r,?_⟩
   rcases l with ⟨l1,_⟩ | ⟨_,c,hc,o,ho,hd⟩
   ·have L0:X.env.scope.names.lookup y=some .local:=l1
    rw[hk] at L0;cases L0
   ·obtain⟨c',EH⟩:=K.has y hr
    have ec:=K.sub y c' EH
    rw[hc] at ec;cases ec
    exact .inr ⟨hr,c,EH,o,keep c o ho,hd⟩
 ·obtain⟨v,o,ho,hd⟩:=I.cell y c (K.sub y c e)
  exact⟨v,o,keep c o ho,hd⟩
 ·show(List.replicate Xs.length none++vs.map some).length=(Xs++Nf).length
  rw[CK,CK,List.length_replicate,CS,GU,K.len]
theorem eE{elt iter tg:Expr}{ifs:List Expr}{pos:Pos}{scope:Scope}{cl:List (Str×Addr)}{Xs Nf:List Str}{js:List Nat}{wi:TI}{g:TG}{tc:TT}{te:TE}(K:pH X scope cl Xs Nf js) (hc:X.calm=true) (hi:PI X tg iter wi)
  (hg:∀C s0 H0 fp,PG (jm X scope cl C (Xs++Nf) s0 H0 fp) tg g) (MP:∀C s0 H0 fp,PTs (jm X scope cl C (Xs++Nf) s0 H0 fp) ifs tc) (he:∀C s0 H0 fp,PE (jm X scope cl C (Xs++Nf) s0 H0 fp) elt te) (hs:∀x,foldedSetIterable iter X.env x=pure x:=by intro _;rfl):
  PE X (.ListComp elt [⟨tg,iter,ifs,0⟩] scope pos) (qU Xs.length js wi g tc te):=by
 intro Sb s σ H Q I h
 rw[eval_ListComp]
 refine wpAny_comprehension_free (use:=none) rfl hs K.yW K.kind K.names (cx (hi Sb s σ H _ I h) fun v s1 h1=>cx h1 fun itv s2 h2=>?_)
 obtain⟨it,fp,tn,J,H2,e,I2,T,Ir,f2,vs,⟨GU,Fv⟩,hW⟩:=h2
 subst e
 have hD:H2 s2.heap.objs.size=none:=I2.bH.fresh (CN _)
 obtain⟨W,⟨m0,w0⟩,turn⟩:=hW s2.heap.objs.size hD
 have HW:∀b∈fp,b < s2.heap.objs.size:=fun b hb=>let ⟨o,e,_⟩:=T.obj _ _ Ir b hb;Heap.lt_size e
 refine wpAny_newObj_type (wpAny_newFunctionEnv K.cell (by intro y hy;simp at hy) (fun h₁ Gg₁ F0₁=>?_) K.kind)
 dsimp only at Gg₁ F0₁ ⊢
 generalize JV:s2.heap.push { cls:=.type "list",dict:=none,data:=.seq ([]:List Value).toArray }=P3 at Gg₁ F0₁ ⊢
 obtain⟨s3,HL⟩:∃s3:Shared,s3={ s2 with heap:=P3 }:=⟨_,rfl⟩
 have eP:P3=s3.heap:=by rw[HL]
 rw[eP] at Gg₁ F0₁ ⊢
 have I3:Inv X Sb σ (upd H2 s2.heap.objs.size (.lst [])) s3:=by
  rw[HL,←JV]
  exact I2.laid (t':=s2.toks) (fun b u e=>CL _ e) (CN _) ⟨Nat.zero_le _,[],0,.nil,Heap.get?_push_size _ rfl⟩
 have keep23:∀b o,s2.heap.get? b=some o→s3.heap.get? b=some o:=fun b o e=>by rw[←eP,←JV];exact CL _ e
 have f3:∀b∈fp,i8 X Sb (upd H2 s2.heap.objs.size (.lst [])) b:=fun b hb=>⟨by rw[aF (Dc (HW b hb))];exact(f2 b hb).1,(f2 b hb).2⟩
 have HB:tn 0 s3.heap:=T.keep _ _ _ Ir fun b hb o e=>keep23 b o e
 have Gi:∀b∈fp,b < s3.heap.objs.size:=fun b hb=>let ⟨o,e,_⟩:=T.obj _ _ HB b hb;Heap.lt_size e
 have keep34:∀b o,s3.heap.get? b=some o→h₁.get? b=some o:=fun b o e=>F0₁.extBut b o (Dc (Heap.lt_size e)) (CL _ e)
 have Iq:tn 0 h₁:=T.keep _ _ _ HB fun b hb o e=>keep34 b o e
 have J7:∀b∈fp,upd H2 s2.heap.objs.size (.lst []) b=none:=fun b hb=>(f3 b hb).1
 have stat:∀{H':Hp},(∀b∈fp,H' b=none)→∀b∈fp,i8 (jm X scope cl s3.heap.objs.size (Xs++Nf) s3 (upd H2 s2.heap.objs.size (.lst [])) fp) [] H' b:=fun {H'} hn b hb=>by
  refine⟨hn b hb,Dc (Gi b hb),fun z=>?_,.inl hb,fun y c e=>(f3 b hb).2.2.2.2.1 y c (K.sub y c e),fun p hp=>absurd (show p∈([]:List (Addr×Obj)) from hp) (by simp)⟩
  rcases List.mem_cons.mp (I3.jr b z) with e | e
  ·exact(f3 b hb).2.1 e
  ·exact(f3 b hb).2.2.1 e
 have fin:∀{σ':St}{H':Hp}{s':Shared},Inv (jm X scope cl s3.heap.objs.size (Xs++Nf) s3 (upd H2 s2.heap.objs.size (.lst [])) fp) [] σ' H' s'→Q (.ref s2.heap.objs.size) H'→
   compPost (model X.prog X.w) X.A X.xe none (EP X Sb σ Q) (.ref s2.heap.objs.size) s3.heap.objs.size (.ok .next) s':=fun {σ' H' s'} J q=>by
  obtain⟨m,hn,_⟩:=J.loc
  refine⟨m,hn,fun h' Ga=>⟨.ref s2.heap.objs.size,H',?_,rfl,q⟩⟩
  have ne:∀b o,s3.heap.get? b=some o→b≠s3.heap.objs.size:=fun b o e=>Dc (Heap.lt_size e)
  have nC:∀b u,H' b=some u→b≠s3.heap.objs.size:=fun b u e z=>by
   have f:=J.free
   rw[z] at e
   have f':H' s3.heap.objs.size=none:=f
   rw[f'] at e;cases e
  have B:=J.base
  refine I3.qE (ch:=fp) (s':={ s' with heap:=h' }) J.os ?_ (fun b u e=>(J.bH b u e).lQ (fun c v hc q=>Ga.extBut c v ?_ q) (fun _ q=>q) fun _ _ q=>q) J.bare fun b hb=>⟨(f3 b hb).2.2.2.1,(f3 b hb).2.1,(f3 b hb).2.2.2.2.1,(f3 b hb).2.2.2.2.2⟩
  ·exact⟨fun b o e n hb hx=>Ga.extBut b o (ne b o e) (B.keep b o e n hb hx),fun b o e n hb hx=>let ⟨sl,z⟩:=B.slot b o e n hb hx;⟨sl,Ga.extBut b _ (ne b o e) z⟩,fun b o e n hx=>B.free b o e n hx,
    fun b o e hx=>let ⟨o',z⟩:=B.there b o e hx;⟨o',Ga.extBut b _ (ne b o e) z⟩,B.ki,B.j6,B.ko⟩
  ·rcases hc with z | z
   ·rw[z];exact nC b u e
   ·exact nC c _ z
 have loop:∀s4:Shared,s4={ s3 with heap:=h₁,toks:=s3.toks+([]:List (Str×Value)).length }→
   codeAny (model X.prog X.w) X.A (.compLoop (.ListComp elt [⟨tg,iter,ifs,0⟩] scope pos) 0 (.ref it) (.ref s2.heap.objs.size) (compEnvC scope cl s3.heap.objs.size X.env))
    (compPost (model X.prog X.w) X.A X.xe none (EP X Sb σ Q) (.ref s2.heap.objs.size) s3.heap.objs.size) s4:=by
  rintro s4 rfl
  have I4:=mV (Xs:=Xs) (tk:=s3.toks+([]:List (Str×Value)).length) K I3 GU Fv f3 Gi Gg₁ keep34
  refine ka (fun n s'=>∃i ox ys H',ox.length=Xs.length∧Inv (jm X scope cl s3.heap.objs.size (Xs++Nf) s3 (upd H2 s2.heap.objs.size (.lst [])) fp) [] (ox++vs.map some) H' s'∧tn i s'.heap∧(∀b∈fp,H' b=none)∧W i n ys H') ?_ m0 ⟨0,List.replicate Xs.length none,[],_,List.length_replicate,I4,Iq,J7,w0⟩
  rintro n s5 ⟨i,ox,ys,H5,Fn,I5,Hs,IK,w5⟩
  rcases turn i n ys H5 w5 with ⟨stop,qn⟩ | ⟨go,step⟩
  ·refine wpAny_mono (T.done (jm X scope cl s3.heap.objs.size (Xs++Nf) s3 (upd H2 s2.heap.objs.size (.lst [])) fp) rfl rfl rfl hc i [] s5 _ H5 _ I5 (stat IK) Hs stop) (fun r s6 ⟨hr,I6⟩=>?_) fun _ _ z=>z
   subst hr
   exact fin I6 qn
  ·refine wpAny_mono (T.item (jm X scope cl s3.heap.objs.size (Xs++Nf) s3 (upd H2 s2.heap.objs.size (.lst [])) fp) rfl rfl rfl hc i [] s5 _ H5 _ I5 (stat IK) Hs go) (fun r s6 ⟨u,hr,h6⟩=>?_) fun _ _ z=>z
   subst hr
   refine wpAny_mono h6 (fun _ s7 ⟨x7,H7,I7,r7,y7,HA,Nv⟩=>?_) fun _ _ z=>z
   have ND:=I7.pinned (stat Nv) (T.obj _ _ HA)
   refine wpAny_mono (hg s3.heap.objs.size s3 (upd H2 s2.heap.objs.size (.lst [])) fp _ s7 _ H7 x7 u _ ND r7 (step x7 H7 ox Fn y7)) (fun _ s8 ⟨σ8,H8,I8,EN,Ky,e8,q8⟩=>?_) fun _ _ z=>False.elim z
   subst e8
   refine wpAny_mono (MP s3.heap.objs.size s3 _ fp _ s8 _ H8 _ I8 q8) (fun b8 s8b ⟨H8b,I8b,q8b⟩=>?_) fun _ _ z=>False.elim z
   have ends:∀(FF:Hp) (EU:Shared) (Kb:List V) (m':Nat),m' < n→W (i+1) m' Kb FF→Inv (jm X scope cl s3.heap.objs.size (Xs++Nf) s3 (upd H2 s2.heap.objs.size (.lst [])) fp) ([]++kz fp s7.heap) (EN++vs.map some) FF EU→
     ∃m,m < n∧∃i ox ys H',ox.length=Xs.length∧Inv (jm X scope cl s3.heap.objs.size (Xs++Nf) s3 (upd H2 s2.heap.objs.size (.lst [])) fp) [] (ox++vs.map some) H' EU∧tn i EU.heap∧(∀b∈fp,H' b=none)∧W i m ys H':=fun FF EU Kb m' Ho w9 GK=>by
    refine⟨m',Ho,i+1,EN,Kb,_,Ky,GK.gM,T.keep _ _ _ HA fun b hb o e=>(GK.pin (b,o) (Dh _ (Dh _ (eG hb e)))).1,fun b hb=>?_,w9⟩
    obtain⟨o,e,d⟩:=T.obj _ _ HA b hb
    exact(GK.pin (b,o) (Dh _ (Dh _ (eG hb e)))).2.1
   cases b8 with
   | false=>
    rw[CO CU] at q8b ⊢
    obtain⟨m',Ho,w9⟩:=q8b
    exact ends _ _ _ _ Ho w9 I8b
   | true=>
    rw[CQ rfl] at q8b ⊢
    refine wpAny_mono (he s3.heap.objs.size s3 _ fp _ s8b _ H8b _ I8b q8b) (fun v9 s9 ⟨v,H9,I9,r9,M5,L6,m',Ho,w9⟩=>?_) fun _ _ z=>False.elim z
    refine wpAny_mono (bA (X:=jm X scope cl s3.heap.objs.size (Xs++Nf) s3 (upd H2 s2.heap.objs.size (.lst [])) fp) _ s9 _ H9 (.ref s2.heap.objs.size) [v] (.ref s2.heap.objs.size) [v9] (fun _ H'=>H'=upd H9 s2.heap.objs.size (.lst (ys++[v]))) I9 rfl (.cons r9 .nil) ⟨_,ys,v,rfl,rfl,M5,L6,rfl⟩)
     (fun _ EU ⟨_,FF,GK,_,NA⟩=>?_) fun _ _ z=>False.elim z
    subst NA
    exact ends _ _ _ _ Ho w9 GK
 have e4:({ s2 with heap:=h₁,toks:=s2.toks+([]:List (Str×Value)).length }:Shared)={ s3 with heap:=h₁,toks:=s3.toks+([]:List (Str×Value)).length }:=by rw[HL]
 rw[e4]
 exact codeAny_compStart_list (loop _ rfl) (T.self _ 0 _ _ _ Iq (loop _ rfl))
end
end L2
namespace L2
open PySem PySem.Spec PyProof.Rows PySem.Builtin PySem.Builtin.Str
def ub (k:Nat) (js:List Nat) (wi:TI) (g:TG) (tc:TT) (te:TE) (i:Nat):TS:=fun D σ H=>qU k js wi g tc te σ H fun v H'=>D.nx (σ.set i (some v)) H'
section
variable{X:Cx}
theorem iJ{elt iter tg:Expr}{ifs:List Expr}{y:Str}{py spos:Pos}{iy:Nat}{pos:Pos}{scope:Scope}{cl:List (Str×Addr)}{Xs Nf:List Str}{js:List Nat}{wi:TI}{g:TG}{tc:TT}{te:TE}(K:pH X scope cl Xs Nf js) (hc:X.calm=true) (hi:PI X tg iter wi)
  (hg:∀C s0 H0 fp,PG (jm X scope cl C (Xs++Nf) s0 H0 fp) tg g) (MP:∀C s0 H0 fp,PTs (jm X scope cl C (Xs++Nf) s0 H0 fp) ifs tc) (he:∀C s0 H0 fp,PE (jm X scope cl C (Xs++Nf) s0 H0 fp) elt te)
  (hN:X.N.Nodup) (hiy:X.N[iy]?=some y) (hy:Loc X.env.scope y) (hsw:swapsWith (.ListComp elt [⟨tg,iter,ifs,0⟩] scope pos) (some (.Name y py)) spos.line X.env=pure true:=by rfl)
  (hfy:X.fn y=true∨X.env.scope.names.lookup y=some .local:=by first | exact .inl rfl | exact .inr rfl | assumption) (hs:∀x,foldedSetIterable iter X.env x=pure x:=by intro _;rfl):
  PS X (.Assign [.Name y py] (.ListComp elt [⟨tg,iter,ifs,0⟩] scope pos) spos) (ub Xs.length js wi g tc te iy):=by
 intro Sb s σ H DD I h
 obtain⟨Q,hQ⟩:∃Q:VK,Q=fun v H'=>DD.nx (σ.set iy (some v)) H':=⟨_,rfl⟩
 have h':qU Xs.length js wi g tc te σ H Q:=by rw[hQ];exact h
 rw[exec_Assign_Name_used _ _ _ _ hsw]
 refine CG (wpAny_standAt (CG ?_))
 show wpAny _ X.A (do let _ ←comprehension (.ListComp elt [⟨tg,iter,ifs,0⟩] scope pos) scope X.env _ (newList []) false (eval iter X.env) (some (assign (.Name y py) X.env))) _ _ s
 refine CG (wpAny_mono (wpAny_comprehension_free (use:=some (assign (.Name y py) X.env)) (Q:=fun _ s'=>SP X Sb DD .next s') rfl hs K.yW K.kind K.names (cx (hi Sb s σ H _ I h') fun v s1 h1=>cx h1 fun itv s2 h2=>?_)) (fun _ s' hq=>CH (CH hq)) fun _ _ e=>e)
 obtain⟨it,fp,tn,J,H2,e,I2,T,Ir,f2,vs,⟨GU,Fv⟩,hW⟩:=h2
 subst e
 have hD:H2 s2.heap.objs.size=none:=I2.bH.fresh (CN _)
 obtain⟨W,⟨m0,w0⟩,turn⟩:=hW s2.heap.objs.size hD
 have HW:∀b∈fp,b < s2.heap.objs.size:=fun b hb=>let ⟨o,e,_⟩:=T.obj _ _ Ir b hb;Heap.lt_size e
 refine wpAny_newObj_type (wpAny_newFunctionEnv K.cell (by intro y hy;simp at hy) (fun h₁ Gg₁ F0₁=>?_) K.kind)
 dsimp only at Gg₁ F0₁ ⊢
 generalize JV:s2.heap.push { cls:=.type "list",dict:=none,data:=.seq ([]:List Value).toArray }=P3 at Gg₁ F0₁ ⊢
 obtain⟨s3,HL⟩:∃s3:Shared,s3={ s2 with heap:=P3 }:=⟨_,rfl⟩
 have eP:P3=s3.heap:=by rw[HL]
 rw[eP] at Gg₁ F0₁ ⊢
 have I3:Inv X Sb σ (upd H2 s2.heap.objs.size (.lst [])) s3:=by
  rw[HL,←JV]
  exact I2.laid (t':=s2.toks) (fun b u e=>CL _ e) (CN _) ⟨Nat.zero_le _,[],0,.nil,Heap.get?_push_size _ rfl⟩
 have keep23:∀b o,s2.heap.get? b=some o→s3.heap.get? b=some o:=fun b o e=>by rw[←eP,←JV];exact CL _ e
 have f3:∀b∈fp,i8 X Sb (upd H2 s2.heap.objs.size (.lst [])) b:=fun b hb=>⟨by rw[aF (Dc (HW b hb))];exact(f2 b hb).1,(f2 b hb).2⟩
 have HB:tn 0 s3.heap:=T.keep _ _ _ Ir fun b hb o e=>keep23 b o e
 have Gi:∀b∈fp,b < s3.heap.objs.size:=fun b hb=>let ⟨o,e,_⟩:=T.obj _ _ HB b hb;Heap.lt_size e
 have keep34:∀b o,s3.heap.get? b=some o→h₁.get? b=some o:=fun b o e=>F0₁.extBut b o (Dc (Heap.lt_size e)) (CL _ e)
 have Iq:tn 0 h₁:=T.keep _ _ _ HB fun b hb o e=>keep34 b o e
 have J7:∀b∈fp,upd H2 s2.heap.objs.size (.lst []) b=none:=fun b hb=>(f3 b hb).1
 have stat:∀{H':Hp},(∀b∈fp,H' b=none)→∀b∈fp,i8 (jm X scope cl s3.heap.objs.size (Xs++Nf) s3 (upd H2 s2.heap.objs.size (.lst [])) fp) [] H' b:=fun {H'} hn b hb=>by
  refine⟨hn b hb,Dc (Gi b hb),fun z=>?_,.inl hb,fun y c e=>(f3 b hb).2.2.2.2.1 y c (K.sub y c e),fun p hp=>absurd (show p∈([]:List (Addr×Obj)) from hp) (by simp)⟩
  rcases List.mem_cons.mp (I3.jr b z) with e | e
  ·exact(f3 b hb).2.1 e
  ·exact(f3 b hb).2.2.1 e
 have fin:∀{σ':St}{H':Hp}{s':Shared},Inv (jm X scope cl s3.heap.objs.size (Xs++Nf) s3 (upd H2 s2.heap.objs.size (.lst [])) fp) [] σ' H' s'→Q (.ref s2.heap.objs.size) H'→
   compPost (model X.prog X.w) X.A X.xe (some (assign (.Name y py) X.env)) (fun _ s'=>SP X Sb DD .next s') (.ref s2.heap.objs.size) s3.heap.objs.size (.ok .next) s':=fun {σ' H' s'} J q=>by
  obtain⟨m,hn,_⟩:=J.loc
  have ne:∀b o,s3.heap.get? b=some o→b≠s3.heap.objs.size:=fun b o e=>Dc (Heap.lt_size e)
  have B:=J.base
  have I5:Inv X Sb σ H' s':=by
   refine I3.qE (ch:=fp) (s':=s') J.os ?_ J.bH J.bare fun b hb=>⟨(f3 b hb).2.2.2.1,(f3 b hb).2.1,(f3 b hb).2.2.2.2.1,(f3 b hb).2.2.2.2.2⟩
   exact⟨fun b o e n hb hx=>B.keep b o e n hb hx,fun b o e n hb hx=>B.slot b o e n hb hx,fun b o e n hx=>B.free b o e n hx,fun b o e hx=>B.there b o e hx,B.ki,B.j6,B.ko⟩
  have fC:i8 X Sb H' s3.heap.objs.size:=I3.uI (CN _) J.free
  obtain⟨c0,c1,c2,c3,c4,c5⟩:=fC
  show wpAny _ X.A (assign (.Name y py) X.env (.ref s2.heap.objs.size)) _ _ s'
  refine wpAny_assign_Name (nI (v:=.ref s2.heap.objs.size) I5 hN hiy hy rfl (fun s'' I'' sb=>?_) hfy)
  obtain⟨a,sb,ha⟩:=sb
  have hCa:s3.heap.objs.size≠a:=by
   rcases ha with z | z
   ·rw[z];exact c1
   ·exact fun e=>c4 y a z e.symm
  refine⟨m,hn.sameBut sb hCa,fun h' Ga=>⟨_,H',I''.turned (t':=s''.toks) (fun b o hb e=>Ga.extBut b o hb e) c0 c1 c3 c4 c5,?_⟩⟩
  rw[hQ] at q
  exact q
 have loop:∀s4:Shared,s4={ s3 with heap:=h₁,toks:=s3.toks+([]:List (Str×Value)).length }→
   codeAny (model X.prog X.w) X.A (.compLoop (.ListComp elt [⟨tg,iter,ifs,0⟩] scope pos) 0 (.ref it) (.ref s2.heap.objs.size) (compEnvC scope cl s3.heap.objs.size X.env))
    (compPost (model X.prog X.w) X.A X.xe (some (assign (.Name y py) X.env)) (fun _ s'=>SP X Sb DD .next s') (.ref s2.heap.objs.size) s3.heap.objs.size) s4:=by
  rintro s4 rfl
  have I4:=mV (Xs:=Xs) (tk:=s3.toks+([]:List (Str×Value)).length) K I3 GU Fv f3 Gi Gg₁ keep34
  refine ka (fun n s'=>∃i ox ys H',ox.length=Xs.length∧Inv (jm X scope cl s3.heap.objs.size (Xs++Nf) s3 (upd H2 s2.heap.objs.size (.lst [])) fp) [] (ox++vs.map some) H' s'∧tn i s'.heap∧(∀b∈fp,H' b=none)∧W i n ys H') ?_ m0 ⟨0,List.replicate Xs.length none,[],_,List.length_replicate,I4,Iq,J7,w0⟩
  rintro n s5 ⟨i,ox,ys,H5,Fn,I5,Hs,IK,w5⟩
  rcases turn i n ys H5 w5 with ⟨stop,qn⟩ | ⟨go,step⟩
  ·refine wpAny_mono (T.done (jm X scope cl s3.heap.objs.size (Xs++Nf) s3 (upd H2 s2.heap.objs.size (.lst [])) fp) rfl rfl rfl hc i [] s5 _ H5 _ I5 (stat IK) Hs stop) (fun r s6 ⟨hr,I6⟩=>?_) fun _ _ z=>z
   subst hr
   exact fin I6 qn
  ·refine wpAny_mono (T.item (jm X scope cl s3.heap.objs.size (Xs++Nf) s3 (upd H2 s2.heap.objs.size (.lst [])) fp) rfl rfl rfl hc i [] s5 _ H5 _ I5 (stat IK) Hs go) (fun r s6 ⟨u,hr,h6⟩=>?_) fun _ _ z=>z
   subst hr
   refine wpAny_mono h6 (fun _ s7 ⟨x7,H7,I7,r7,y7,HA,Nv⟩=>?_) fun _ _ z=>z
   have ND:=I7.pinned (stat Nv) (T.obj _ _ HA)
   refine wpAny_mono (hg s3.heap.objs.size s3 (upd H2 s2.heap.objs.size (.lst [])) fp _ s7 _ H7 x7 u _ ND r7 (step x7 H7 ox Fn y7)) (fun _ s8 ⟨σ8,H8,I8,EN,Ky,e8,q8⟩=>?_) fun _ _ z=>False.elim z
   subst e8
   refine wpAny_mono (MP s3.heap.objs.size s3 _ fp _ s8 _ H8 _ I8 q8) (fun b8 s8b ⟨H8b,I8b,q8b⟩=>?_) fun _ _ z=>False.elim z
   have ends:∀(FF:Hp) (EU:Shared) (Kb:List V) (m':Nat),m' < n→W (i+1) m' Kb FF→Inv (jm X scope cl s3.heap.objs.size (Xs++Nf) s3 (upd H2 s2.heap.objs.size (.lst [])) fp) ([]++kz fp s7.heap) (EN++vs.map some) FF EU→
     ∃m,m < n∧∃i ox ys H',ox.length=Xs.length∧Inv (jm X scope cl s3.heap.objs.size (Xs++Nf) s3 (upd H2 s2.heap.objs.size (.lst [])) fp) [] (ox++vs.map some) H' EU∧tn i EU.heap∧(∀b∈fp,H' b=none)∧W i m ys H':=fun FF EU Kb m' Ho w9 GK=>by
    refine⟨m',Ho,i+1,EN,Kb,_,Ky,GK.gM,T.keep _ _ _ HA fun b hb o e=>(GK.pin (b,o) (Dh _ (Dh _ (eG hb e)))).1,fun b hb=>?_,w9⟩
    obtain⟨o,e,d⟩:=T.obj _ _ HA b hb
    exact(GK.pin (b,o) (Dh _ (Dh _ (eG hb e)))).2.1
   cases b8 with
   | false=>
    rw[CO CU] at q8b ⊢
    obtain⟨m',Ho,w9⟩:=q8b
    exact ends _ _ _ _ Ho w9 I8b
   | true=>
    rw[CQ rfl] at q8b ⊢
    refine wpAny_mono (he s3.heap.objs.size s3 _ fp _ s8b _ H8b _ I8b q8b) (fun v9 s9 ⟨v,H9,I9,r9,M5,L6,m',Ho,w9⟩=>?_) fun _ _ z=>False.elim z
    refine wpAny_mono (bA (X:=jm X scope cl s3.heap.objs.size (Xs++Nf) s3 (upd H2 s2.heap.objs.size (.lst [])) fp) _ s9 _ H9 (.ref s2.heap.objs.size) [v] (.ref s2.heap.objs.size) [v9] (fun _ H'=>H'=upd H9 s2.heap.objs.size (.lst (ys++[v]))) I9 rfl (.cons r9 .nil) ⟨_,ys,v,rfl,rfl,M5,L6,rfl⟩)
     (fun _ EU ⟨_,FF,GK,_,NA⟩=>?_) fun _ _ z=>False.elim z
    subst NA
    exact ends _ _ _ _ Ho w9 GK
 have e4:({ s2 with heap:=h₁,toks:=s2.toks+([]:List (Str×Value)).length }:Shared)={ s3 with heap:=h₁,toks:=s3.toks+([]:List (Str×Value)).length }:=by rw[HL]
 rw[e4]
 exact codeAny_compStart_list (loop _ rfl) (T.self _ 0 _ _ _ Iq (loop _ rfl))
end
end L2
namespace GS
open PySem PyProof.Rows
open L2 hiding ak cn bj aq pv cZ ay fQ bZ dw dY fR b9 bC cI cH cm ae aa aI aw bG aV cj eF ar cB dk bQ cX bX dZ aL bU aU cw bF dm bz cU aG ba aA eD aN cu bR aB ah aj
open L3
abbrev Aj:Stmt:=dz 10
section
variable{P:Program}{w:World}{K:Fg06}{mg:Str→Option Value}{base:Heap}{f:Addr}{fd:FuncData}
theorem zo{a:Str}{x c:Addr}{y:Str}(h:([(a,x)]:List (Str×Addr)).lookup y=some c):y=a∧c=x:=by
 rw[List.lookup_cons] at h
 split at h
 ·rename_i e;exact⟨eq_of_beq e,by injection h with h;exact h.symm⟩
 ·cases h
def cv (ps:List D):List Str:=ps.filterMap fun p=>(p.cK 0).txt
def nJ (K:Fg06):Sp:=fun vs H Q _=>∃(xp xb:V) (n:Nat) (ps Sf:List D),vs=[xp,xb]∧At K H (.tup ps) xp∧At K H (.tup Sf) xb∧(∀p∈ps,∃z e,p=.tup [.str z,e])∧ps.length≤1000∧(∀d∈Sf,jX n d)∧(aM n Sf).length≤300000∧(∀d∈aM n Sf,jU d)∧
 (cg "global" (aM n Sf)).length≤500000∧(cg "nonlocal" (aM n Sf)).length≤500000∧∀r H',az H H'→At K H' (.tup ((ir (cv ps) (aM n Sf)).map D.str)) r→Q r H'
theorem lW:aW ["params","block","rows","far","names","left_out","row","name"] ["params","block"] (aE Aj):=fsX rfl rfl rfl rfl (by decide +kernel)
theorem Au (g:fh mg) (F:eX K "own_names" "own_names" Aj f fd) (dR:Def P w K mg base "rows_of_scope" ["block"] 4 (oE K)) (dT:Def P w K mg base "told_names" ["rows","word"] 1 (oC K)) (dB:Def P w K mg base "bound_name" ["row"] 1 (ll K)):bO P w K mg base fw 5 f fd ["params","block"] (nJ K):=by
 refine F.hV lW (fun vs H Q E h=>?_) (fun Si A outer s H vs Q E hr h=>?_)
 ·obtain⟨_,_,_,_,_,rfl,_⟩:=h;rfl
 obtain⟨xp,xb,n,ps,Sf,rfl,hp,hb,EL,Ez,bH,hlen,Hk,Rz,NY,q⟩:=h
 refine⟨_,ah (aA (i:=2) lW.nd rfl (Or.inl rfl) (L3.aK dR hr (by decide) rfl (aa (pv 1) ae)))
  (ah (aA (i:=3) lW.nd rfl (Or.inr rfl) (L3.aK dT hr (by decide) rfl (aa (pv 2) (aa aq ae))))
  (ah (.mk (L2.iJ (iy:=4) (cl:=[("far",s.heap.objs.size+1)]) (Xs:=["param"]) (Nf:=["far"]) (js:=[3]) ?k rfl (LI.out (dm (pv 0))) (fun C s0 H0 fp=>LG.out (aL (i:=0) (show(["param","far"]:List Str).Nodup by decide +kernel) rfl (Or.inl rfl))) (fun C s0 H0 fp=>jV (LT.out (ar (r:=rIn K true) dJ (bC (r:=iI K) wN (pv 0) ak (fun _ _=>rfl)) (pv 1) rfl))) (fun C s0 H0 fp=>LE.out (bC (r:=iI K) wN (pv 0) ak (fun _ _=>rfl))) lW.nd rfl (Or.inl rfl)))
  (ah (aA (i:=5) lW.nd rfl (Or.inl rfl) (ay fM (pv 3) (L3.aK dT hr (by decide) rfl (aa (pv 2) (aa aq ae)))))
  (ah (bR C9 rfl (bF (pv 2)) (aL (i:=6) lW.nd rfl (Or.inl rfl))
   (ah (aA (i:=7) lW.nd rfl (Or.inl rfl) (L3.aK dB hr (by decide) rfl (aa (pv 6) ae)))
   (aj (aN (LW.pt (bX (ar gc (pv 7) bj (aH _)) (bX (ar dJ (pv 7) (pv 4) rfl) (bQ (ar dJ (pv 7) (pv 5) rfl)))))
    (aj (ba (cj CW C3 C4 bA (pv 4) (aa (pv 7) ae)))) aB))))
  (aj (aG (aV b4 rfl g.fm eg (aa (pv 4) ae)))))))),?main⟩
 case k=>
  refine⟨rfl,by decide +kernel,rfl,by decide +kernel,fun y c h=>?_,fun y hy=>?_,rfl,fun j y h=>?_⟩
  ·obtain⟨rfl,rfl⟩:=zo h;rfl
  ·have EI:([(".0",.local),("param",.local),("far",.cell)]:List (Str×NameKind)).lookup y=some .cell∨([(".0",.local),("param",.local),("far",.cell)]:List (Str×NameKind)).lookup y=some .free:=hy
   rcases EI with z | z
   ·have m:=CV z
    simp at m
    subst m
    exact⟨_,rfl⟩
   ·have m:=CV z
    simp at m
  ·match j,h with
   | 0,h=>cases h;exact⟨3,rfl,rfl,rfl,.inl rfl⟩
   | j+1,h=>simp at h
 case main=>
  refine⟨_,rfl,xb,n,Sf,rfl,hb,bH,by omega,fun rp H1 Ri s1 hL=>?_⟩
  refine⟨_,rfl,rp,"global",aM n Sf,rfl,hL,Hk,.inl rfl,by omega,fun fp H2 RA s2 ⟨vf,hf,E1⟩=>?_⟩
  have evf:=(ai.strs _ _).mp E1
  subst evf
  obtain⟨vr,Mi,He⟩:=hL
  have Fp:=s1.trans s2
  obtain⟨ap,Sh,rfl,sqp,FJ⟩:=aP.mp (At.same Fp _ _ hp)
  have lp:=FJ.len
  refine⟨_,rfl,ap,rfl,⟨Sh,sqp⟩,[.ref fp],⟨rfl,fun j i h=>?_⟩,fun np EF=>?_⟩
  ·match j,h with
   | 0,h=>cases h;exact⟨_,rfl,rfl⟩
   | j+1,h=>simp at h
  refine⟨fun i m ys H'=>m=Sh.length - i∧i≤Sh.length∧az H2 H'∧H' np=some (.lst ys)∧ys=((cv (ps.take i)).filter fun x=>decide (x∉cg "global" (aM n Sf))).map V.str,⟨_,rfl,Nat.zero_le _,af EF _,ag,rfl⟩,?_⟩
  rintro i m ys H' ⟨rfl,hi,sH,hD,rfl⟩
  by_cases Ex:i < Sh.length
  ·refine .inr ⟨⟨Sh,Sh[i],az.iG sH sqp,by simp[Ex]⟩,fun x H'' ox Fn hy=>?_⟩
   obtain⟨rfl,hy⟩:=hy
   have ex:=hy Sh (az.iG sH sqp)
   have Fs:i < ps.length:=by rw[←lp];exact Ex
   obtain⟨v',ED,ER⟩:=ai.get (i:=i) FJ (d:=ps[i]) (by simp[Fs])
   have ev:v'=x:=by rw[ex] at ED;cases ED;rfl
   subst ev
   obtain⟨z,e,epd⟩:=EL ps[i] (C2 Fs)
   have Ey:At K H'' (.tup [.str z,e]) v':=by rw[←epd];exact At.same sH _ _ ER
   obtain⟨o,rfl⟩:∃o,ox=[o]:=by
    match ox,Fn with
    | [o],_=>exact⟨o,rfl⟩
   have tl:cv (ps.take (i+1))=cv (ps.take i)++[z]:=by
    unfold cv
    rw[C8,List.filterMap_append,C5 Fs,epd]
    rfl
   refine⟨[some v'],rfl,rfl,_,rfl,0,_,_,rfl,Ey,rfl,fun y Fl=>?_⟩
   rw[av.mp Fl]
   refine⟨_,rfl,fp,_,rfl,.inl (br.of (sH _ _ hf)),rfl,?_,_,rfl,?_⟩
   ·rw[List.all_map,List.all_eq_true];exact fun _ _=>rfl
   rw[hX]
   by_cases c:z∈cg "global" (aM n Sf)
   ·rw[CJ c]
    refine bg ⟨Sh.length - (i+1),by omega,rfl,Ex,sH,hD,?_⟩
    rw[tl,List.filter_append,List.filter_cons,CO (by simpa using c),List.filter_nil,List.append_nil]
   ·rw[CI c]
    refine bJ ⟨_,rfl,0,_,_,rfl,Ey,rfl,fun y3 OV=>?_⟩
    rw[av.mp OV]
    refine⟨hD,?_,Sh.length - (i+1),by omega,rfl,Ex,?_,ag,?_⟩
    ·rw[CS]
     have l1:=List.length_filter_le (fun x=>decide (x∉cg "global" (aM n Sf))) (cv (ps.take i))
     have l2:(cv (ps.take i)).length≤(ps.take i).length:=List.length_filterMap_le ..
     rw[De] at l2
     exact small (by omega)
    ·exact bh EF sH
    ·rw[tl,List.filter_append,List.filter_cons,CQ (by simpa using c),List.filter_nil,List.map_append]
     rfl
  ·have ei:i=Sh.length:=by omega
   subst ei
   refine .inl ⟨⟨Sh,az.iG sH sqp,CN _⟩,?_⟩
   rw[lp,List.take_length] at hD
   generalize N7:((cv ps).filter fun x=>decide (x∉cg "global" (aM n Sf)))=names0 at hD
   have l0:names0.length≤1000:=by
    rw[←N7]
    have l1:=List.length_filter_le (fun x=>decide (x∉cg "global" (aM n Sf))) (cv ps)
    have l2:(cv ps).length≤ps.length:=List.length_filterMap_le ..
    omega
   have JI:az H1 H':=s2.trans sH
   refine⟨_,rfl,_,rfl,rp,"nonlocal",aM n Sf,rfl,⟨vr,JI _ _ Mi,ai.same JI _ _ He⟩,Hk,.inr rfl,by omega,fun lp' H4 hlp s4 ⟨vl,hl,N8⟩=>?_⟩
   have evl:=(ai.strs _ _).mp N8
   subst evl
   refine⟨fp,lp',_,_,rfl,rfl,(sH.trans s4) _ _ hf,hl,by rw[CS,CS];exact small (by omega),fun op Ro=>?_⟩
   rw[←List.map_append]
   generalize hOut:cg "global" (aM n Sf)++cg "nonlocal" (aM n Sf)=out
   have s5:az H4 (upd H4 op (.lst (out.map V.str))):=af Ro _
   have Pb:upd H4 op (.lst (out.map V.str)) op=some (.lst (out.map V.str)):=ag
   revert s5 Pb
   generalize upd H4 op (.lst (out.map V.str))=H5
   intro s5 Pb
   have Hn:H np=none:=by
    cases e:H np with
    | none=>rfl
    | some u=>rw[Fp _ _ e] at EF;cases EF
   have sA:az H H5:=((Fp.trans sH).trans s4).trans s5
   have Gh:H5 np=some (.lst (names0.map V.str)):=s5 _ _ (s4 _ _ hD)
   have Gq:H5 rp=some (.lst vr):=s5 _ _ (s4 _ _ (JI _ _ Mi))
   have FE:ai K H5 (aM n Sf) vr:=ai.same ((JI.trans s4).trans s5) _ _ He
   have nor:op≠np:=fun z=>by
    have:=s4 _ _ hD
    rw[←z,Ro] at this;cases this
   have nrn:rp≠np:=fun z=>by
    have:=s2 _ _ Mi
    rw[z,EF] at this;cases this
   have lr:=FE.len
   have lf:∀i,(((aM n Sf).take i).filterMap bM).length≤300000:=fun i=>by
    have a1:(((aM n Sf).take i).filterMap bM).length≤((aM n Sf).take i).length:=List.length_filterMap_le ..
    rw[De] at a1
    omega
   have lfold:∀(bs found:List Str),(bs.foldl (bp out) found).length≤found.length+bs.length:=fun bs=>by
    induction bs with
    | nil=>intro found;exact CN _
    | cons b bs ih=>
     intro found
     rw[List.foldl_cons,CY]
     have h1:=ih (bp out found b)
     have h2:(bp out found b).length≤found.length+1:=by
      unfold bp
      split
      ·omega
      ·rw[CK,List.length_singleton];exact CN _
     omega
   refine⟨_,rfl,rp,rfl,⟨vr,br.of Gq⟩,fo (K:=K) (a:=rp) (xs:=vr) (fun i σ H'=>(∃o6 o7,σ=[some (.ref ap),some xb,some (.ref rp),some (.ref fp),some (.ref np),some (.ref op),o6,o7])∧az H H'∧bN H5 H'∧H' rp=some (.lst vr)∧H' op=some (.lst (out.map V.str))∧H' np=some (.lst (((((aM n Sf).take i).filterMap bM).foldl (bp out) names0).map V.str))) ⟨⟨none,none,rfl⟩,sA,fun _ _ e=>e,Gq,Pb,Gh⟩ (fun i σ H' _ h=>by obtain⟨_,_,_,hb,_⟩:=h;exact br.of hb) ?_ ?_⟩
   ·rintro i v σ H6 hv ⟨⟨o6,o7,rfl⟩,sB,sT,IA,Rp,FW⟩
    have KP:i < (aM n Sf).length:=by rw[←lr];exact(CM.mp hv).1
    obtain⟨v',ED,ER⟩:=ai.get (i:=i) FE (d:=(aM n Sf)[i]) (by simp[KP])
    have ev:v'=v:=by rw[hv] at ED;cases ED;rfl
    subst ev
    have tl:((aM n Sf).take (i+1)).filterMap bM=((aM n Sf).take i).filterMap bM++(bM (aM n Sf)[i]).toList:=by
     rw[C8,List.filterMap_append,C5 KP]
     congr 1
    refine⟨_,rfl,v',_,rfl,At.ax sT _ _ ER,Hk _ (C2 KP),fun H7 s7=>?_⟩
    have G9:=s7 _ _ IA
    have KD:=s7 _ _ Rp
    have Jp:=s7 _ _ FW
    have NN:=sT.trans (.of s7)
    have NR:=sB.trans s7
    have flat:∀l:List Str,(l.map V.str).all ik=true:=fun l=>by rw[List.all_map,List.all_eq_true];exact fun _ _=>rfl
    refine⟨_,rfl,rfl,_,rfl,?_⟩
    cases eb:bM (aM n Sf)[i] with
    | none=>
     rw[show(!decide (uv none=V.aR))=false from rfl]
     refine bg (bg ⟨⟨_,_,rfl⟩,NR,NN,G9,KD,?_⟩)
     rw[tl,eb,Option.toList_none,List.append_nil];exact Jp
    | some z=>
     have Om:(((aM n Sf).take (i+1)).filterMap bM).foldl (bp out) names0=bp out ((((aM n Sf).take i).filterMap bM).foldl (bp out) names0) z:=by
      rw[tl,eb,Option.toList_some,List.foldl_append];rfl
     have bnd:((((aM n Sf).take i).filterMap bM).foldl (bp out) names0).length≤301000:=by
      have a1:=lfold (((aM n Sf).take i).filterMap bM) names0
      have a2:=lf i
      omega
     rw[Om]
     revert bnd Jp
     generalize (((aM n Sf).take i).filterMap bM).foldl (bp out) names0=found
     intro Jp bnd
     rw[show(!decide (uv (some z)=V.aR))=true from rfl]
     refine bJ ⟨_,rfl,_,rfl,np,_,rfl,.inl (br.of Jp),rfl,flat found,_,rfl,?_⟩
     show if(if true=true then !gq (.str z) (found.map V.str) else gq (.str z) (found.map V.str))=true then _ else _
     rw[hX]
     unfold bp
     by_cases c1:z∈found
     ·rw[CJ c1]
      refine bg (bg ⟨⟨_,_,rfl⟩,NR,NN,G9,KD,?_⟩)
      rw[CQ (.inl c1)];exact Jp
     ·rw[CI c1]
      refine bJ ⟨_,rfl,_,rfl,op,_,rfl,.inl (br.of KD),rfl,flat out,_,rfl,?_⟩
      show if(if true=true then !gq (.str z) (out.map V.str) else gq (.str z) (out.map V.str))=true then _ else _
      rw[hX]
      by_cases c2:z∈out
      ·rw[CJ c2]
       refine bg ⟨⟨_,_,rfl⟩,NR,NN,G9,KD,?_⟩
       rw[CQ (.inr c2)];exact Jp
      ·rw[CI c2]
       refine bJ ⟨_,rfl,.inl ⟨rfl,_,br.of Jp⟩,_,rfl,np,_,_,rfl,rfl,Jp,by rw[CS];exact small (by omega),⟨_,_,rfl⟩,bh Hn NR,NN.trans (aS Jp),?_,?_,?_⟩
       ·rw[aF nrn];exact G9
       ·rw[aF nor];exact KD
       ·rw[ag,CO fun e=>e.elim c1 c2,List.map_append];rfl
   ·rintro σ H6 ⟨⟨o6,o7,rfl⟩,sB,sT,IA,Rp,FW⟩
    rw[lr,List.take_length] at FW
    refine⟨_,rfl,np,_,rfl,.inl ⟨br.of FW,fun l hl=>?_⟩⟩
    refine q _ _ (sB.trans (af hl _)) ?_
    unfold ir
    rw[N7,hOut]
    exact At.new hl ((ai.strs _ _).mpr rfl)
abbrev oP:Stmt:=dz 37
def aY (d:D):List D:=
 if d.k="if"∨d.k="while" then [d.cK 2,d.cK 3]
 else if d.k="for" then [d.cK 3,d.cK 4]
 else if d.k="def"∨d.k="class" then [d.cK 3]
 else if d.k="try" then(([d.cK 1]++(d.cK 2).items.map fun c=>c.cK 2)++[d.cK 3])++bW (d.cK 4)
 else []
theorem j9{H1:Hp}{a:Addr}{Sh:List V}{ds:List D}{i0:Nat}{σ:L2.St}{Q:Addr→Hp→Prop}(sq:cq K H1 a Sh) (hA:ai K H1 ds Sh) (hd:∀d∈ds,∃es e,d=.tup es∧es[i0]?=some e) (hl:ds.length≤1000000) (q:∀p H',H1 p=none→az H1 H'→cG K H' p (ds.map fun d=>d.cK i0)→Q p H'):
  ∃vs:List V,(vs.length=([]:List Nat).length∧∀(j i:Nat),([]:List Nat)[j]?=some i→∃v,vs[j]?=some v∧σ[i]?=some (some v))∧∀D,H1 D=none→∃W:Nat→Nat→List V→Hp→Prop,(∃m,W 0 m [] (upd H1 D (.lst [])))∧∀i m ys H,W i m ys H→
   ((xq K a).stop i H∧Q D H)∨((xq K a).go i H∧∀x H' (ox:List (Option V)),ox.length=1→(xq K a).pK i H x H'→fX 0 x (ox++vs.map some) H' fun σ2 H2=>∃EN,EN.length=1∧σ2=EN++vs.map some∧iA σ2 H2 fun b H3=>
    if b=true then nc (iI K) (fi 0) (tC (.int (i0:Nat))) σ2 H3 fun v H4=>H4 D=some (.lst ys)∧ys.length < sizeLine∧∃m',m' < m∧W (i+1) m' (ys++[v]) (upd H4 D (.lst (ys++[v]))) else ∃m',m' < m∧W (i+1) m' ys H3):=by
 have lp:=hA.len
 refine⟨[],⟨rfl,fun j i h=>by simp at h⟩,fun np EF=>⟨fun i m ys H'=>m=Sh.length - i∧i≤Sh.length∧az H1 H'∧H' np=some (.lst ys)∧ai K H' ((ds.take i).map fun d=>d.cK i0) ys,⟨_,rfl,Nat.zero_le _,af EF _,ag,aD.mpr rfl⟩,?_⟩⟩
 rintro i m ys H' ⟨rfl,hi,sH,hD,hY⟩
 by_cases Ex:i < Sh.length
 ·refine .inr ⟨⟨Sh,Sh[i],az.iG sH sq,by simp[Ex]⟩,fun x H'' ox Fn hy=>?_⟩
  obtain⟨rfl,hy⟩:=hy
  have ex:=hy Sh (az.iG sH sq)
  have Fs:i < ds.length:=by rw[←lp];exact Ex
  obtain⟨v',ED,ER⟩:=ai.get (i:=i) hA (d:=ds[i]) (by simp[Fs])
  have ev:v'=x:=by rw[ex] at ED;cases ED;rfl
  subst ev
  obtain⟨es,e,epd,he⟩:=hd ds[i] (C2 Fs)
  have Ey:At K H'' (.tup es) v':=by rw[←epd];exact At.same sH _ _ ER
  obtain⟨o,rfl⟩:∃o,ox=[o]:=by
   match ox,Fn with
   | [o],_=>exact⟨o,rfl⟩
  refine⟨[some v'],rfl,rfl,?_⟩
  unfold iA
  dsimp only
  rw[CQ rfl]
  refine⟨_,rfl,i0,_,_,rfl,Ey,he,fun y Fl=>⟨hD,?_,Sh.length - (i+1),by omega,rfl,Ex,bh EF sH,ag,?_⟩⟩
  ·rw[hY.len,CS,De];exact small (by omega)
  ·have tl:(ds.take (i+1)).map (fun d=>d.cK i0)=(ds.take i).map (fun d=>d.cK i0)++[e]:=by
    rw[C8,List.map_append,C5 Fs,epd]
    congr 1
    simp[D.cK,D.items,he]
   rw[tl]
   exact ai.append (ai.ax (aS hD) _ _ hY) (ai.eA (At.ax (aS hD) _ _ Fl))
 ·have ei:i=Sh.length:=by omega
  subst ei
  refine .inl ⟨⟨Sh,az.iG sH sq,CN _⟩,q np H' EF sH ⟨ys,hD,?_⟩⟩
  rw[lp,List.take_length] at hY
  exact hY
theorem uM{H1:Hp}{a:Addr}{y:V}{d:D}{σ:L2.St}{Q:Addr→Hp→Prop}(ha:H1 a=some (.lst [y])) (hy:At K H1 d y) (hd:d=.aR∨∃b,d=.tup b) (q:∀p H',H1 p=none→az H1 H'→cG K H' p (bW d)→Q p H'):
  ∃vs:List V,(vs.length=([]:List Nat).length∧∀(j i:Nat),([]:List Nat)[j]?=some i→∃v,vs[j]?=some v∧σ[i]?=some (some v))∧∀D,H1 D=none→∃W:Nat→Nat→List V→Hp→Prop,(∃m,W 0 m [] (upd H1 D (.lst [])))∧∀i m ys H,W i m ys H→
   ((oA K a).stop i H∧Q D H)∨((oA K a).go i H∧∀x H' (ox:List (Option V)),ox.length=1→(oA K a).pK i H x H'→fX 0 x (ox++vs.map some) H' fun σ2 H2=>∃EN,EN.length=1∧σ2=EN++vs.map some∧lO (nc (fun x y H Q=>y=.aR∧Q (.bl (!decide (x=.aR))) H) (fi 0) (tC .aR)) σ2 H2 fun b H3=>
    if b=true then fi 0 σ2 H3 fun v H4=>H4 D=some (.lst ys)∧ys.length < sizeLine∧∃m',m' < m∧W (i+1) m' (ys++[v]) (upd H4 D (.lst (ys++[v]))) else ∃m',m' < m∧W (i+1) m' ys H3):=by
 refine⟨[],⟨rfl,fun j i h=>by simp at h⟩,fun np EF=>⟨fun i m ys H'=>m=1 - i∧i≤1∧az H1 H'∧H' np=some (.lst ys)∧ai K H' (if i=0 then [] else bW d) ys,⟨_,rfl,by omega,af EF _,ag,aD.mpr rfl⟩,?_⟩⟩
 rintro i m ys H' ⟨rfl,hi,sH,hD,hY⟩
 have HK:br K H' a [y]:=br.of (sH _ _ ha)
 by_cases h0:i=0
 ·subst h0
  refine .inr ⟨⟨[y],y,HK,rfl⟩,fun x H'' ox Fn Gn=>?_⟩
  obtain⟨rfl,Gn⟩:=Gn
  have ex:=Gn [y] HK
  have ev:y=x:=by simpa using ex
  subst ev
  rw[CQ rfl] at hY
  have ey:ys=[]:=aD.mp hY
  subst ey
  obtain⟨o,rfl⟩:∃o,ox=[o]:=by
   match ox,Fn with
   | [o],_=>exact⟨o,rfl⟩
  have Fl:=At.same sH _ _ hy
  refine⟨[some y],rfl,rfl,_,rfl,rfl,_,rfl,?_⟩
  rcases hd with rfl | ⟨b,rfl⟩
  ·rw[aZ.mp hy,show(!decide (V.aR=V.aR))=false from rfl]
   refine bg ⟨0,by omega,rfl,by omega,sH,hD,aD.mpr rfl⟩
  ·obtain⟨pb,vb,rfl,_,_⟩:=aP.mp hy
   rw[show(!decide (V.ref pb=V.aR))=true from rfl]
   refine bJ ⟨_,rfl,hD,by decide,0,by omega,rfl,by omega,bh EF sH,ag,?_⟩
   exact ai.eA (At.ax (aS hD) _ _ Fl)
 ·have e1:i=1:=by omega
  subst e1
  rw[CO (by decide)] at hY
  exact .inl ⟨⟨[y],HK,CN _⟩,q np H' EF sH ⟨ys,hD,hY⟩⟩
def xQ (K:Fg06):Sp:=fun vs H Q _=>∃(x:V) (k:Str) (r:List D),vs=[x]∧At K H (.tup (.str k::r)) x∧Shape k r∧gj K H Q (aY (.tup (.str k::r)))
theorem scLB:aW ["_law_one"] ["_law_one"] (aE oP):=fsX rfl rfl rfl rfl (by decide +kernel)
theorem Ce (F:eX K "_law_blocks" "_law_blocks" oP f fd):bO P w K mg base fw 1 f fd ["_law_one"] (xQ K):=by
 refine F.hV scLB (fun vs H Q E h=>?_) (fun Si A outer s H vs Q E hr h=>?_)
 ·obtain⟨_,_,_,rfl,_⟩:=h;rfl
 obtain⟨x,k,r,rfl,hx,sh,q⟩:=h
 refine⟨_,ah (aN (ar bq (aC (pv 0)) (aw (aa aq (aa aq ae))) rfl) (aj (aG (aI (aa (aC (pv 0)) (aa (aC (pv 0)) ae))))) aB)
  (ah (aN (ar bw (aC (pv 0)) aq (aH _)) (aj (aG (aI (aa (aC (pv 0)) (aa (aC (pv 0)) ae))))) aB)
  (ah (aN (ar bq (aC (pv 0)) (aw (aa aq (aa aq ae))) rfl) (aj (aG (aI (aa (aC (pv 0)) ae)))) aB)
  (ah (aN (ar qe (aC (pv 0)) aq (aH _)) (aj (aG (aI ae))) aB)
  (aj (aG (ay fM (ay fM (ay fM (aI (aa (aC (pv 0)) ae))
   (.mk (L2.eE (cl:=[]) (Xs:=["_law_catch"]) (Nf:=[]) (js:=[]) ?k1 rfl (LI.out (dm (aC (pv 0)))) (fun C s0 H0 fp=>LG.out (aL (i:=0) (show(["_law_catch"]:List Str).Nodup by decide +kernel) rfl (Or.inl rfl))) (fun C s0 H0 fp=>gb) (fun C s0 H0 fp=>LE.out (bC (r:=iI K) wN (pv 0) ak (fun _ _=>rfl))))))
   (aI (aa (aC (pv 0)) ae)))
   (.mk (L2.eE (cl:=[]) (Xs:=["_law_block_here"]) (Nf:=[]) (js:=[]) ?k2 rfl (LI.out (bF (aI (aa (aC (pv 0)) ae)))) (fun C s0 H0 fp=>LG.out (aL (i:=0) (show(["_law_block_here"]:List Str).Nodup by decide +kernel) rfl (Or.inl rfl))) (fun C s0 H0 fp=>jV (LT.out (ar gc (pv 0) bj (aH _)))) (fun C s0 H0 fp=>LE.out (pv 0)))))))))),?main⟩
 case k1=>
  refine⟨rfl,by decide +kernel,rfl,by decide +kernel,fun y c h=>(by cases h),fun y hy=>?_,rfl,fun j y h=>(by simp at h)⟩
  have EI:([(".0",.local),("_law_catch",.local)]:List (Str×NameKind)).lookup y=some .cell∨([(".0",.local),("_law_catch",.local)]:List (Str×NameKind)).lookup y=some .free:=hy
  rcases EI with z | z<;>(have m:=CV z;simp at m)
 case k2=>
  refine⟨rfl,by decide +kernel,rfl,by decide +kernel,fun y c h=>(by cases h),fun y hy=>?_,rfl,fun j y h=>(by simp at h)⟩
  have EI:([(".0",.local),("_law_block_here",.local)]:List (Str×NameKind)).lookup y=some .cell∨([(".0",.local),("_law_block_here",.local)]:List (Str×NameKind)).lookup y=some .free:=hy
  rcases EI with z | z<;>(have m:=CV z;simp at m)
 case main=>
  have ek:D.k (.tup (.str k::r))=k:=rfl
  unfold aY at q
  rw[ek] at q
  have two:∀(H1:Hp) (d e:D),az H H1→gj K H Q [d,e]→∀(i j:Nat),(D.str k::r)[i]?=some d→(D.str k::r)[j]?=some e→
    xJ (cL (nc (iI K) (fi 0) (tC (.int (i:Nat)))) (cL (nc (iI K) (fi 0) (tC (.int (j:Nat)))) gJ)) [some x] H1 Q:=fun H1 d e hs q i j hi hj=>
   ⟨_,rfl,i,_,_,rfl,At.same hs _ _ hx,hi,fun y hy=>⟨_,rfl,j,_,_,rfl,At.same hs _ _ hx,hj,fun z hz=>⟨by show 2≤sizeLine;decide,q.new hs (aJ.mpr ⟨_,_,rfl,hy,ai.eA hz⟩)⟩⟩⟩
  refine⟨_,rfl,0,_,_,rfl,hx,rfl,fun yk EB=>⟨by show 2≤sizeLine;decide,fun p1 EG=>?_⟩⟩
  rw[av.mp EB]
  refine⟨p1,_,rfl,.inr (cq.of ag),rfl,rfl,_,rfl,?_⟩
  have s1:=af EG (.tup [.str "if",.str "while"])
  revert s1
  generalize upd H p1 (.tup [.str "if",.str "while"])=H1
  intro s1
  rw[show(if false=true then !gq (.str k) [.str "if",.str "while"] else gq (.str k) [.str "if",.str "while"])=decide (k∈(["if","while"]:List Str)) from jl k ["if","while"]]
  by_cases c1:k="if"∨k="while"
  ·rw[CQ c1] at q
   rw[CJ (show k∈(["if","while"]:List Str) by simpa using c1)]
   obtain⟨a,b,c,rfl⟩:=sh.iw c1
   exact bJ (two H1 _ _ s1 q 2 3 rfl rfl)
  rw[CO c1] at q
  rw[CI (show ¬k∈(["if","while"]:List Str) from fun m=>c1 (by simpa using m))]
  refine bg ⟨_,rfl,0,_,_,rfl,At.same s1 _ _ hx,rfl,fun yk EB=>?_⟩
  rw[av.mp EB]
  refine⟨rfl,_,rfl,?_⟩
  rw[dF]
  by_cases c2:k="for"
  ·rw[CQ c2] at q
   rw[CJ c2]
   obtain⟨a,e,b,c,rfl⟩:=sh.fr c2
   exact bJ (two H1 _ _ s1 q 3 4 rfl rfl)
  rw[CO c2] at q
  rw[CI c2]
  refine bg ⟨_,rfl,0,_,_,rfl,At.same s1 _ _ hx,rfl,fun yk EB=>⟨by show 2≤sizeLine;decide,fun p2 EC=>?_⟩⟩
  rw[av.mp EB]
  refine⟨p2,_,rfl,.inr (cq.of ag),rfl,rfl,_,rfl,?_⟩
  have s2:=s1.trans (af EC (.tup [.str "def",.str "class"]))
  revert s2
  generalize upd H1 p2 (.tup [.str "def",.str "class"])=H2
  intro s2
  rw[show(if false=true then !gq (.str k) [.str "def",.str "class"] else gq (.str k) [.str "def",.str "class"])=decide (k∈(["def","class"]:List Str)) from jl k ["def","class"]]
  by_cases c3:k="def"∨k="class"
  ·rw[CQ c3] at q
   rw[CJ (show k∈(["def","class"]:List Str) by simpa using c3)]
   obtain⟨a,b,c,rfl⟩:=sh.dc c3
   exact bJ ⟨_,rfl,3,_,_,rfl,At.same s2 _ _ hx,rfl,fun y hy=>⟨by show 1≤sizeLine;decide,q.new s2 (ai.eA hy)⟩⟩
  rw[CO c3] at q
  rw[CI (show ¬k∈(["def","class"]:List Str) from fun m=>c3 (by simpa using m))]
  refine bg ⟨_,rfl,0,_,_,rfl,At.same s2 _ _ hx,rfl,fun yk EB=>?_⟩
  rw[av.mp EB]
  refine⟨rfl,_,rfl,?_⟩
  rw[dF]
  by_cases c4:k="try"
  ·rw[CQ c4] at q
   rw[CJ c4]
   obtain⟨b,cs,o,l,rfl,hlen,EM,hl⟩:=sh.tr c4
   have hx2:=At.same s2 _ _ hx
   refine bg ⟨_,rfl,1,_,_,rfl,hx2,rfl,fun yb HH=>⟨by show 1≤sizeLine;decide,fun pa hpa=>?_⟩⟩
   have s3:=af hpa (.lst [yb])
   have ca:upd H2 pa (.lst [yb]) pa=some (.lst [yb]):=ag
   have Km:=At.same s3 _ _ HH
   revert s3 ca Km
   generalize upd H2 pa (.lst [yb])=H3
   intro s3 ca Km
   have Ff:=s2.trans s3
   refine⟨_,rfl,2,_,_,rfl,At.same Ff _ _ hx,rfl,fun yc Jc=>?_⟩
   obtain⟨ac,vcs,rfl,sqc,JY⟩:=aP.mp Jc
   refine⟨ac,rfl,⟨vcs,sqc⟩,j9 (K:=K) (a:=ac) (i0:=2) (ds:=cs) sqc JY (fun d hd=>by obtain⟨e,n,b',rfl⟩:=EM d hd;exact⟨_,_,rfl,rfl⟩) (by omega) fun pm H4 hpm s4 ⟨vm,hm4,RN⟩=>?_⟩
   have lm:=RN.len
   rw[CS] at lm
   refine⟨pa,pm,[yb],vm,rfl,rfl,s4 _ _ ca,hm4,by rw[lm];exact small (by show 1+_≤_;omega),fun p5 EV=>?_⟩
   have s5:=af EV (.lst ([yb]++vm))
   have c5:upd H4 p5 (.lst ([yb]++vm)) p5=some (.lst ([yb]++vm)):=ag
   have A5:ai K (upd H4 p5 (.lst ([yb]++vm))) ([.tup b]++cs.map fun d=>d.cK 2) ([yb]++vm):=ai.same s5 _ _ (ai.append (ai.eA (At.same s4 _ _ Km)) RN)
   revert s5 c5 A5
   generalize upd H4 p5 (.lst ([yb]++vm))=H5
   intro s5 c5 A5
   have Gs:=(Ff.trans s4).trans s5
   refine⟨_,rfl,3,_,_,rfl,At.same Gs _ _ hx,rfl,fun yo OT=>⟨by show 1≤sizeLine;decide,fun p6 Hb=>?_⟩⟩
   have s6:=af Hb (.lst [yo])
   have c6:upd H5 p6 (.lst [yo]) p6=some (.lst [yo]):=ag
   have Kk:=At.same s6 _ _ OT
   revert s6 c6 Kk
   generalize upd H5 p6 (.lst [yo])=H6
   intro s6 c6 Kk
   refine⟨p5,p6,_,_,rfl,rfl,s6 _ _ c5,c6,by rw[CK,lm];exact small (by show 1+_+1≤_;omega),fun p7 Fx=>?_⟩
   have s7:=af Fx (.lst (([yb]++vm)++[yo]))
   have c7:upd H6 p7 (.lst (([yb]++vm)++[yo])) p7=some (.lst (([yb]++vm)++[yo])):=ag
   have A7:ai K (upd H6 p7 (.lst (([yb]++vm)++[yo]))) (([.tup b]++cs.map fun d=>d.cK 2)++[.tup o]) (([yb]++vm)++[yo]):=ai.same s7 _ _ (ai.append (ai.same s6 _ _ A5) (ai.eA Kk))
   revert s7 c7 A7
   generalize upd H6 p7 (.lst (([yb]++vm)++[yo]))=H7
   intro s7 c7 A7
   have JH:=(Gs.trans s6).trans s7
   refine⟨_,rfl,4,_,_,rfl,At.same JH _ _ hx,rfl,fun yl Gn=>⟨by show 1≤sizeLine;decide,fun p8 Jj=>?_⟩⟩
   have s8:=af Jj (.lst [yl])
   have c8:upd H7 p8 (.lst [yl]) p8=some (.lst [yl]):=ag
   have Kl:=At.same s8 _ _ Gn
   revert s8 c8 Kl
   generalize upd H7 p8 (.lst [yl])=H8
   intro s8 c8 Kl
   refine⟨p8,rfl,⟨[yl],br.of c8⟩,uM (K:=K) (a:=p8) (y:=yl) (d:=l) c8 Kl hl fun p9 H9 Gz s9 ⟨vn,Pe,GJ⟩=>?_⟩
   have ln:=GJ.len
   have lh:(bW l).length≤1:=by rcases hl with rfl | ⟨b',rfl⟩<;>simp[bW]
   have l7:=A7.len
   refine⟨p7,p9,_,_,rfl,rfl,s9 _ _ (s8 _ _ c7),Pe,?_,?_⟩
   ·rw[l7,ln,CK,CK,CS]
    exact small (by show 1+_+1+_≤_;omega)
   ·have:=q.new (((JH.trans s8).trans s9)) (ai.append (ai.same (s8.trans s9) _ _ A7) GJ)
    exact this
  ·rw[CO c4] at q
   rw[CI c4]
   exact bJ ⟨by decide,q.new s2 (aD.mpr rfl)⟩
abbrev zX:Stmt:=dz 38
theorem kY{k:Str}{r:List D}(h:Shape k r):∀b∈aY (.tup (.str k::r)),∃ds,b=.tup ds∧∀s∈ds,s∈aO (.tup (.str k::r)):=by
 intro b hb
 unfold aY at hb
 unfold aO
 rw[show D.k (.tup (.str k::r))=k from rfl] at hb ⊢
 by_cases c1:k="if"∨k="while"
 ·have n1:¬(k="def"∨k="class"):=by rcases c1 with rfl | rfl<;>decide +kernel
  rw[CQ c1] at hb
  rw[CO n1,CQ c1]
  obtain⟨a,b1,b2,rfl⟩:=h.iw c1
  simp[D.cK,D.items] at hb ⊢
  rcases hb with rfl | rfl
  ·exact⟨b1,rfl,fun s hs=>.inl hs⟩
  ·exact⟨b2,rfl,fun s hs=>.inr hs⟩
 rw[CO c1] at hb
 by_cases c2:k="for"
 ·have n1:¬(k="def"∨k="class"):=by rw[c2];decide +kernel
  rw[CQ c2] at hb
  rw[CO n1,CO c1,CQ c2]
  obtain⟨a,e,b1,b2,rfl⟩:=h.fr c2
  simp[D.cK,D.items] at hb ⊢
  rcases hb with rfl | rfl
  ·exact⟨b1,rfl,fun s hs=>.inl hs⟩
  ·exact⟨b2,rfl,fun s hs=>.inr hs⟩
 rw[CO c2] at hb
 by_cases c3:k="def"∨k="class"
 ·rw[CQ c3] at hb
  rw[CQ c3]
  obtain⟨a,b1,b2,rfl⟩:=h.dc c3
  simp[D.cK,D.items] at hb ⊢
  exact⟨b2,hb,fun s hs=>hs⟩
 rw[CO c3] at hb
 by_cases c4:k="try"
 ·rw[CQ c4] at hb
  rw[CO c3,CO c1,CO c2,CQ c4]
  obtain⟨b1,cs,o,l,rfl,_,EM,hl⟩:=h.tr c4
  simp only[D.cK,D.items,List.getD_cons_succ,List.getD_cons_zero,List.mem_append,List.mem_singleton,List.mem_map] at hb ⊢
  rcases hb with ((rfl | ⟨c,hc,rfl⟩) | rfl) | hb
  ·exact⟨b1,rfl,fun s hs=>.inl hs⟩
  ·obtain⟨e,n,b',rfl⟩:=EM c hc
   exact⟨b',rfl,fun s hs=>.inr (.inl (List.mem_flatMap.mpr ⟨_,hc,C0 _ hs⟩))⟩
  ·exact⟨o,rfl,fun s hs=>.inr (.inr (.inl hs))⟩
  ·rcases hl with rfl | ⟨b',rfl⟩
   ·cases hb
   ·have:b=.tup b':=by simpa[bW] using hb
    subst this
    exact⟨b',rfl,fun s hs=>.inr (.inr (.inr hs))⟩
 ·rw[CO c4] at hb;cases hb
def uU:Nat→D→Prop
 | 0,_=>False
 | n+1,d=>(aY d).length≤6∧∀b∈aY d,b.items.length≤6∧∀s∈b.items,uU n s
def cN:Nat→Nat
 | 0=>0
 | n+1=>1+36*cN n
theorem xk:∀{n:Nat}{xs ys:List D}{d:D},(∀s∈xs,s∈ys)→d∈eJ n xs→d∈eJ n ys
 | 0,_,_,_,_,h=>by cases h
 | n+1,xs,ys,d,hs,h=>by
  obtain⟨s,h1,h2⟩:=gS.mp h
  exact gS.mpr ⟨s,hs s h1,h2⟩
def pairOf (n:Nat) (ds:List D) (r:D):Prop:=∃wy d,r=.tup [wy,d]∧d∈eJ n ds
def sM (K:Fg06):Nat→Sp
 | 0=>fun _ _ _ _=>False
 | n+1=>fun vs H Q _=>∃(x xa:V) (ds way:List D),vs=[x,xa]∧At K H (.tup ds) x∧At K H (.tup way) xa∧(∀d∈ds,jX n d∧uU n d)∧ds.length≤6∧n≤5∧way.length+2*n≤100∧
  ∀p H' Sg,H p=none→az H H'→cG K H' p Sg→(∀r∈Sg,pairOf n ds r)→Sg.length≤ds.length*cN n→Q (.ref p) H'
theorem lY:aW ["_law_block_here","_law_at","_law_found","_law_place","_law_one","_law_number","_law_inner"] ["_law_block_here","_law_at"] (aE zX):=fsX rfl rfl rfl rfl (by decide +kernel)
theorem Cu:∀n,n≤5→cN n≤1727605:=fun n h=>by
 match n,h with
 | 0,_=>decide
 | 1,_=>decide
 | 2,_=>decide
 | 3,_=>decide
 | 4,_=>decide
 | 5,_=>decide
theorem ny{n:Nat}(h:n≤16000000):n≤sizeLine:=by rw[sizeLine_eq];omega
theorem none_of{H H':Hp}{p:Addr}(s:az H H') (h:H' p=none):H p=none:=by
 cases e:H p with
 | none=>rfl
 | some u=>rw[s _ _ e] at h;cases h
abbrev alI (K:Fg06) (H H1:Hp) (a:Addr) (xa:V) (ds:List D) (n:Nat):Nat→L2.St→Hp→Prop:=fun i σ H'=>∃fl o3 o4 o5 o6,σ=[some (.ref a),some xa,some (.ref fl),o3,o4,o5,o6]∧H fl=none∧az H H'∧bN H1 H'∧∃Sg,cG K H' fl Sg∧(∀r∈Sg,pairOf n ds r)∧Sg.length≤i*cN n
abbrev alJ (K:Fg06) (H H6:Hp) (a:Addr) (xa v':V) (ds:List D) (n i:Nat):Nat→L2.St→Hp→Prop:=fun j σ H'=>∃fl o5 o6,σ=[some (.ref a),some xa,some (.ref fl),some (.int (0+(i:Nat))),some v',o5,o6]∧H fl=none∧az H H'∧az H6 H'∧∃Sg,cG K H' fl Sg∧(∀r∈Sg,pairOf (n+1) ds r)∧Sg.length≤i*cN (n+1)+1+j*(6*cN n)
theorem wz (g:fh mg) (F:eX K "_law_all" "_law_all" zX f fd) (hm:mg "_law_all"=some (.ref f)) (hb:Binds K fd ["_law_block_here","_law_at"] []) (dB:Def P w K mg base "_law_blocks" ["_law_one"] 1 (xQ K)):∀n,bO P w K mg base fw (n+1) f fd ["_law_block_here","_law_at"] (sM K n)
 | 0=>⟨fun vs H Q E h=>h.elim,fun A outer s H args us vs Q E _ _ _ _ h=>h.elim⟩
 | n+1=>by
  have dA:Def P w K mg base "_law_all" ["_law_block_here","_law_at"] (n+1) (sM K n):=⟨f,fd,hm,F.kp,hb,wz g F hm hb dB n⟩
  refine F.hV lY (fun vs H Q E h=>?_) (fun Si A outer s H vs Q E hr h=>?_)
  ·obtain⟨_,_,_,_,rfl,_⟩:=h;rfl
  obtain⟨x,xa,ds,way,rfl,hx,Gp,bH,KN,Gh,hw,q⟩:=h
  refine⟨_,ah (aA (i:=2) lY.nd rfl (Or.inl rfl) (aI ae))
   (ah (bR C9 rfl (.mk (L2.gO rfl g.jY (LA.out (aa (pv 0) ae)))) (cw rfl (aU (aL (i:=3) lY.nd rfl (Or.inl rfl)) (aU (aL (i:=4) lY.nd rfl (Or.inl rfl)) bU)))
    (ah (ba (cj CW C3 C4 bA (pv 2) (aa (aw (aa (ay gC (pv 1) (aw (aa (pv 3) ae))) (aa (pv 4) ae))) ae)))
    (aj (bR C9 rfl (.mk (L2.tq rfl g.jY (LA.out (aa (L3.aK dB hr (by omega) rfl (aa (pv 4) ae)) ae)))) (cw rfl (aU (aL (i:=5) lY.nd rfl (Or.inl rfl)) (aU (aL (i:=6) lY.nd rfl (Or.inl rfl)) bU)))
     (aj (aA (i:=2) lY.nd rfl (Or.inl rfl) (ay fM (pv 2) (L3.aK dA hr (CN _) rfl (aa (pv 6) (aa (ay gC (pv 1) (aw (aa (pv 3) (aa (pv 5) ae)))) ae))))))))))
   (aj (aG (pv 2)))),?main⟩
  case main=>
   refine⟨by decide,fun f0 Ie=>?_⟩
   have s1:az H (upd H f0 (.lst [])):=af Ie _
   have c1:upd H f0 (.lst []) f0=some (.lst []):=ag
   revert s1 c1
   generalize upd H f0 (.lst [])=H1
   intro s1 c1
   obtain⟨a,vx,rfl,sqx,Hy⟩:=aP.mp (At.same s1 _ _ hx)
   have lx:=Hy.len
   refine⟨_,rfl,a,rfl,⟨vx,sqx⟩,gi (K:=K) (a:=a) (m:=0) (xs:=vx) (alI K H H1 a xa ds n) ⟨f0,none,none,none,none,rfl,Ie,s1,fun _ _ e=>e,[],⟨[],c1,aD.mpr rfl⟩,by simp,by simp⟩ (fun i σ H' _ h=>by obtain⟨_,_,_,_,_,_,_,_,st,_⟩:=h;exact cq.ax st sqx) ?_ ?_⟩
   ·rintro i v σ H' T hv ⟨fl,o3,o4,o5,o6,rfl,EO,sH,sT,Sg,⟨vr,E8,He⟩,Hl,IC⟩ hT
    have hi:i < ds.length:=by rw[←lx];exact(CM.mp hv).1
    obtain⟨v',ED,ER⟩:=ai.get (i:=i) Hy (d:=ds[i]) (by simp[hi])
    have ev:v'=v:=by rw[hv] at ED;cases ED;rfl
    subst ev
    obtain⟨okd,smd⟩:=bH ds[i] (C2 hi)
    cases n with
    | zero=>exact okd.elim
    | succ n=>
     obtain⟨k,r,ed,sh⟩:=okd.shape
     have MK:ds[i]∈ds:=C2 hi
     have Ey:At K H' (.tup (.str k::r)) v':=by rw[←ed];exact At.ax sT _ _ ER
     have cb:=Cu (n+1) Gh
     have cs:cN (n+1)=1+36*cN n:=rfl
     have hmul:i*cN (n+1)+cN (n+1)≤6*1727605:=by
      have:(i+1)*cN (n+1)≤6*cN (n+1):=Nat.mul_le_mul_right _ (by omega)
      rw[Nat.add_mul] at this
      omega
     have t1:az H' (upd H' T (.tup [.int (0+(i:Nat)),v'])):=af hT _
     have Gk:cq K (upd H' T (.tup [.int (0+(i:Nat)),v'])) T [.int (0+(i:Nat)),v']:=cq.of ag
     revert t1 Gk
     generalize upd H' T (.tup [.int (0+(i:Nat)),v'])=H2
     intro t1 Gk
     have JI:=sH.trans t1
     refine⟨T,_,rfl,Gk,rfl,_,_,rfl,_,_,rfl,rfl,?_⟩
     refine⟨_,rfl,.inl ⟨rfl,vr,br.of (t1 _ _ E8)⟩,_,rfl,_,rfl,by show 1≤sizeLine;decide,fun pw HQ=>?_⟩
     have t2:=af HQ (.tup [.int (0+(i:Nat))])
     refine⟨way,[.int (0+(i:Nat))],At.same (JI.trans t2) _ _ Gp,At.new HQ (ai.eA (bo.mpr rfl)),by show _+1≤_;exact ny (by omega),fun wy H3 s3 Gf=>?_⟩
     have Gm:az H' H3:=(t1.trans t2).trans s3
     refine⟨_,rfl,by show 2≤sizeLine;decide,fun pt Fw=>?_⟩
     have t4:=af Fw (.tup [wy,v'])
     have Ku:At K (upd H3 pt (.tup [wy,v'])) (.tup [.tup (way++[.int (0+(i:Nat))]),.tup (.str k::r)]) (.ref pt):=At.new Fw (aJ.mpr ⟨_,_,rfl,Gf,ai.eA (At.same Gm _ _ Ey)⟩)
     revert t4 Ku
     generalize upd H3 pt (.tup [wy,v'])=H4
     intro t4 Ku
     have Fg:=Gm.trans t4
     have lr:=He.len
     refine⟨fl,vr,.ref pt,rfl,rfl,Fg _ _ E8,by rw[lr];exact ny (by omega),?_⟩
     obtain⟨wr,k1,k2⟩:=cG.push (Fg _ _ E8) (ai.same Fg _ _ He) Ku
     have NO:bN H4 (upd H4 fl (.lst (vr++[.ref pt]))):=aS (Fg _ _ E8)
     have Gs:az H (upd H4 fl (.lst (vr++[.ref pt]))):=bh EO (sH.trans Fg)
     revert k1 k2 NO Gs
     generalize upd H4 fl (.lst (vr++[.ref pt]))=H5
     intro k1 k2 NO Gs
     have FR:At K H5 (.tup (.str k::r)) v':=At.ax NO _ _ (At.same Fg _ _ Ey)
     have sT15:bN H1 H5:=(sT.trans (.of Fg)).trans NO
     have EV:∀r'∈Sg++[D.tup [.tup (way++[.int (0+(i:Nat))]),.tup (.str k::r)]],pairOf (n+1) ds r':=fun r' JQ=>by
      rcases Df.mp JQ with z | z
      ·exact Hl r' z
      ·rw[Dg.mp z]
       exact⟨_,_,rfl,gS.mpr ⟨ds[i],MK,.inl ed.symm⟩⟩
     refine⟨_,rfl,v',k,r,rfl,FR,sh,fun bl H6 Ih s6 ⟨vbs,Hd,Fb⟩=>?_⟩
     have lb:=Fb.len
     rw[ed] at smd
     have lb6:vbs.length≤6:=by rw[lb];exact smd.1
     refine⟨bl,rfl,⟨vbs,br.of Hd⟩,qu (K:=K) (a:=bl) (xs:=vbs) (alJ K H H6 a xa v' ds n i) ⟨fl,o5,o6,rfl,EO,Gs.trans s6,az.refl _,_,cG.same ⟨wr,k1,k2⟩ s6,EV,by rw[CK,List.length_singleton];omega⟩ (fun j σ H' _ h=>by obtain⟨_,_,_,_,_,_,s,_⟩:=h;exact br.of (s _ _ Hd)) ?_ ?_⟩
     ·rintro j b σ H7 T2 MV ⟨Qe,o57,o67,rfl,MA,JH,IY,I0,⟨v7,G9,Il⟩,Kv,hlr7⟩ K4
      have hj:j < (aY (.tup (.str k::r))).length:=by rw[←lb];exact(CM.mp MV).1
      obtain⟨b',ET,PR⟩:=ai.get (i:=j) Fb (d:=(aY (.tup (.str k::r)))[j]) (by simp[hj])
      have eb:b'=b:=by rw[MV] at ET;cases ET;rfl
      subst eb
      obtain⟨Sf,ebd,Js⟩:=kY sh _ (C2 hj)
      obtain⟨KZ,Rh⟩:=smd.2 _ (C2 hj)
      rw[ebd] at KZ Rh
      have hAj7:At K H7 (.tup Sf) b':=by rw[←ebd];exact At.same IY _ _ PR
      have t8:az H7 (upd H7 T2 (.tup [.int (j:Nat),b'])):=af K4 _
      have Oq:cq K (upd H7 T2 (.tup [.int (j:Nat),b'])) T2 [.int (j:Nat),b']:=cq.of ag
      revert t8 Oq
      generalize upd H7 T2 (.tup [.int (j:Nat),b'])=H8
      intro t8 Oq
      have sH8:=JH.trans t8
      refine⟨T2,_,rfl,Oq,rfl,_,_,rfl,_,_,rfl,rfl,?_⟩
      refine⟨_,rfl,_,rfl,_,rfl,_,rfl,_,rfl,by show 2≤sizeLine;decide,fun pw2 HN=>?_⟩
      have t9:=af HN (.tup [.int (0+(i:Nat)),.int (j:Nat)])
      refine⟨way,[.int (0+(i:Nat)),.int (j:Nat)],At.same (sH8.trans t9) _ _ Gp,At.new HN (aJ.mpr ⟨_,_,rfl,bo.mpr rfl,ai.eA (bo.mpr rfl)⟩),by show _+2≤_;exact ny (by omega),fun Oj FF EU Kp=>?_⟩
      have s7_10:az H7 FF:=(t8.trans t9).trans EU
      rw[ed] at okd
      have ml:I0.length+6*cN n≤6*1727605:=by
       have:j*(6*cN n)≤5*(6*cN n):=Nat.mul_le_mul_right _ (by omega)
       omega
      refine⟨b',Oj,Sf,way++[D.int (0+(i:Nat)),D.int (j:Nat)],rfl,At.same s7_10 _ _ hAj7,Kp,fun d hd=>⟨okd.2 d (Js d hd),Rh d hd⟩,KZ,by omega,by rw[CK];show _+2+_≤_;omega,fun p11 Ka JK hp11 Hh ⟨v11,hr11,Nr⟩ hpr11 hlr11=>?_⟩
      have s7_11:=s7_10.trans Hh
      have l7:=Il.len
      have l11:=Nr.len
      have b6:Sf.length≤6:=KZ
      have ml2:JK.length≤6*cN n:=CZ hlr11 (Nat.mul_le_mul_right _ b6)
      refine⟨Qe,p11,v7,v11,rfl,rfl,s7_11 _ _ G9,hr11,by rw[l7,l11];exact ny (by omega),fun p12 Mr=>?_⟩
      have LR:=af Mr (.lst (v7++v11))
      refine⟨p12,_,_,rfl,none_of (JH.trans s7_11) Mr,(JH.trans s7_11).trans LR,(IY.trans s7_11).trans LR,I0++JK,⟨_,ag,ai.same LR _ _ (ai.append (ai.same s7_11 _ _ Il) Nr)⟩,fun r' JQ=>?_,?_⟩
      ·rcases Df.mp JQ with z | z
       ·exact Kv r' z
       ·obtain⟨w',d',e',GB⟩:=hpr11 r' z
        refine⟨w',d',e',gS.mpr ⟨ds[i],MK,.inr ?_⟩⟩
        rw[ed]
        exact xk Js GB
      ·rw[CK,Nat.add_mul,Nat.one_mul]
       omega
     ·rintro σ H7 ⟨Qe,o57,o67,rfl,MA,JH,IY,I0,PM,Kv,hlr7⟩
      refine⟨Qe,_,_,_,_,rfl,MA,JH,(sT15.trans (.of s6)).trans (.of IY),I0,PM,Kv,?_⟩
      rw[Nat.add_mul,Nat.one_mul]
      have:vbs.length*(6*cN n)≤6*(6*cN n):=Nat.mul_le_mul_right _ lb6
      omega
   ·rintro σ H' ⟨fl,o3,o4,o5,o6,rfl,EO,sH,sT,Sg,hL,Hl,IC⟩
    exact⟨_,rfl,q fl H' Sg EO sH hL Hl (by rw[lx] at IC;exact IC)⟩
end
end GS
namespace GS
open PySem L2 PyProof.Rows
section
variable{X:Cx}
def tyD:D→String
 | .aR=>"NoneType" | .bl _=>"bool" | .int _=>"int" | .str _=>"str" | .tup _=>"tuple"
theorem Ck{Sb:List (Addr×Obj)}{σ:L2.St}{H:Hp}{s:Shared}{x:V}{u:Value}{d:D}(I:Inv X Sb σ H s) (rx:RelV x u) (hx:At X.K H d x):∃HP,PySem.W.KitX X.K u (.type (tyD d)) HP∧HP s.heap∧u≠Value.builtin "__main__.__loader__#opaque":=by
 cases d with
 | aR=>rw[aZ.mp hx] at rx;cases (show u=Value.none from rx);exact⟨_,PySem.W.kitx_none,True.intro,(fun z=>nomatch z)⟩
 | bl y=>rw[bP.mp hx] at rx;cases (show u=Value.bool y from rx);exact⟨_,PySem.W.kitx_bool,True.intro,(fun z=>nomatch z)⟩
 | int i=>rw[bo.mp hx] at rx;obtain⟨t,q⟩:=(show ∃t,u=Value.int i t from rx);cases q;exact⟨_,PySem.W.kitx_int,True.intro,(fun z=>nomatch z)⟩
 | str y=>rw[av.mp hx] at rx;obtain⟨t,q⟩:=(show ∃t,u=Value.str y t from rx);cases q;exact⟨_,PySem.W.kitx_str,True.intro,(fun z=>nomatch z)⟩
 | tup ds=>
  obtain⟨p,vs,rfl,hq,_⟩:=aP.mp hx
  cases (show u=Value.ref p from rx)
  obtain⟨Se,_,⟨o,h1,h2,_⟩,_⟩:=I.tuple hq
  exact⟨_,PySem.W.kitx_tuple,⟨o,h1,h2⟩,(fun z=>nomatch z)⟩
theorem kH:i9 X (.builtin "isinstance") (fun xs H Q=>∃x T d b,xs=[x,.ty T]∧At X.K H d x∧PySem.W.kitOne X.K (.type (tyD d)) (.type T)=some b∧Q (.bl b) H):=by
 intro Sb s σ H xs us Q I r h
 obtain⟨x,T,d,b,rfl,hx,hk,q⟩:=h
 obtain⟨u,w',rfl,r1,r2⟩:=vals2 r
 cases r2
 obtain⟨HP,kx,hh,ne⟩:=Ck I r1 hx
 exact PySem.W.kia_one kx I.kQ hh hk ne fun tk=>⟨.bl b,H,I.tok _,rfl,q⟩
end
end GS
namespace GS
open PySem PySem.Spec PySem.Builtin PyProof.Rows L2
open PySem.SeqAt
open PySem.MeetsSeq PySem.MeetsSeq2 PySem.MeetsSeq3
theorem fW{prog:Program}{w:World}{A:Around}{E:Value→Shared→Prop}{s:Shared}{t sl:Addr}{items:Array Value}{vl vu:Value}{lo hi:Option Int}{Q:Value→Shared→Prop}(ht:IsTup s.heap t items) (hs:s.heap.IsSliceOf sl vl vu .none) (pl:IsPart vl lo) (pu:IsPart vu hi)
  (hw:HT.eY items.size 0 lo=0∧HT.eY items.size items.size hi=items.size) (h:Q (.ref t) s):wpAny (model prog w) A (getItem (.ref t) (.ref sl)) Q E s:=by
 obtain⟨os,Hm,EM,JS⟩:=id hs
 have Jw:s.TypeIs (.ref sl) "slice":=⟨os,Hm,EM⟩
 unfold getItem
 try with_reducible refine wpAny_holding ?_
 first | refine CG (CH ?_) | skip
 refine CG (wpAny_sequenceKey ht.typeIs (by decide) ?_)
 refine CG (wpAny_callSpecial?_slot (name:=Str.ofString "__getitem__") ht.typeIs PyProof.Rows.slot_tuple_getitem
  (wpAny_call_entry PyProof.Rows.slot_tuple_getitem ht.typeIs entry_tuple_getitem ?_ (args_tuple_getitem _ _)))
 show wpAny _ _ (Builtin.Tuple.tupleItemsOf (.ref t) >>= _) _ _ s
 refine CG (tupleItemsOf_ ht ?_)
 refine CG (wpAny_typeOf Jw ?_)
 rw[CQ (by decide)]
 refine CG (HT.gN hs pl pu ?_)
 rw[hw.1,hw.2]
 show wpAny _ _ (if(((0:Nat):Int) == 0&&(1:Int) == 1&&(items.size - 0) == items.size)=true then _ else _) _ _ s
 rw[CQ (by simp)]
 refine CG ?_
 unfold Builtin.Tuple.tupleIsExact
 refine CG (wpAny_typeOf ht.typeIs (CH ?_))
 rw[CQ (by decide)]
 exact CG (wpAny_rule (CH ⟨_,rfl,CH h⟩))
def cutD (ds:List D) (lo hi:Option Int):List D:=(ds.drop (HT.eY ds.length 0 lo)).take (HT.eY ds.length ds.length hi - HT.eY ds.length 0 lo)
section
variable{X:Cx}{K:Fg06}{H:Hp}
theorem ai.drop:∀(n:Nat){ds:List D}{vs:List V},ai K H ds vs→ai K H (ds.drop n) (vs.drop n)
 | 0,_,_,h=>h
 | n+1,[],vs,h=>by rw[aD.mp h];exact aD.mpr rfl
 | n+1,d::ds,vs,h=>by
  obtain⟨v,r,rfl,h1,h2⟩:=aJ.mp h
  exact ai.drop n h2
theorem ai.take:∀(n:Nat){ds:List D}{vs:List V},ai K H ds vs→ai K H (ds.take n) (vs.take n)
 | 0,_,_,h=>aD.mpr rfl
 | n+1,[],vs,h=>by rw[aD.mp h];exact aD.mpr rfl
 | n+1,d::ds,vs,h=>by
  obtain⟨v,r,rfl,h1,h2⟩:=aJ.mp h
  exact aJ.mpr ⟨v,r.take n,rfl,h1,ai.take n h2⟩
def rSlD (K:Fg06):V→Option Int→Option Int→Hp→VK→Prop:=fun x lo hi H Q=>∃ds,At K H (.tup ds) x∧∀r H',az H H'→At K H' (.tup (cutD ds lo hi)) r→Q r H'
theorem BF:Be X (rSlD X.K):=by
 intro Sb s σ H x v vl vu lo hi sl Q I rx hs pl pu h
 obtain⟨ds,hx,q⟩:=h
 obtain⟨a,xs,rfl,hq,hA⟩:=aP.mp hx
 have ln:=hA.len
 by_cases hw:HT.eY xs.length 0 lo=0∧HT.eY xs.length xs.length hi=xs.length
 ·cases rx
  obtain⟨Se,r,ht,hz⟩:=I.tuple hq
  have hlen:Se.toArray.size=xs.length:=by rw[List.size_toArray];exact r.length.symm
  refine⟨"tuple",_,PyProof.Rows.slot_tuple_getitem.lookup,ht.typeIs,?_⟩
  refine fW ht hs pl pu (by rw[hlen];exact hw) ⟨.ref a,H,I,rfl,q _ H (az.refl H) ?_⟩
  have e:cutD ds lo hi=ds:=by
   unfold cutD
   rw[←ln,hw.1,hw.2,ln]
   simp
  rw[e];exact hx
 ·refine vB Sb s σ H _ v vl vu lo hi sl Q I rx hs pl pu ⟨a,xs,rfl,hq,hw,fun p hp=>q _ _ (af hp _) (At.new hp ?_)⟩
  unfold cutD i6
  rw[←ln];exact ai.take _ (ai.drop _ hA)
end
end GS
namespace GS
open PySem PyProof.Rows
open L2 hiding ak cn bj aq pv cZ ay fQ bZ dw dY fR b9 bC cI cH cm ae aa aI aw bG aV cj eF ar cB dk bQ cX bX dZ aL bU aU cw bF dm bz cU aG ba aA eD aN cu bR aB ah aj
open L3
abbrev lZ:Stmt:=dz 39
theorem xg:bootBuiltins "isinstance"=some (.builtin "isinstance"):=by decide +kernel
theorem b6L:bootBuiltins "list"=some (.type "list"):=by decide +kernel
mutual
def lj:D→Nat
 | .tup ds=>eN ds+1
 | _=>1
def eN:List D→Nat
 | []=>0
 | d::ds=>lj d+eN ds
end
def zl:List D→Bool
 | [.str x]=>decide (x≠"name")
 | _=>true
mutual
def uV:D→Bool
 | .tup ds=>zl ds&&hZ ds
 | _=>true
def hZ:List D→Bool
 | []=>true
 | d::ds=>uV d&&hZ ds
end
theorem dH (ds:List D):lj (.tup ds)=eN ds+1:=by rw[lj]
theorem aX (d:D) (ds:List D):eN (d::ds)=lj d+eN ds:=by rw[eN]
theorem cE:eN []=0:=by rw[eN]
theorem gf (ds:List D):uV (.tup ds)=(zl ds&&hZ ds):=by rw[uV]
theorem bV (d:D) (ds:List D):hZ (d::ds)=(uV d&&hZ ds):=by rw[hZ]
theorem lg (d:D):1≤lj d:=by
 cases d with
 | tup ds=>rw[dH];omega
 | _=>rw[lj]<;>first | exact CN 1 | nofun
theorem eC:∀a b:List D,eN (a++b)=eN a+eN b
 | [],b=>by rw[cE,List.nil_append];omega
 | d::a,b=>by rw[List.cons_append,aX,aX,eC a b];omega
theorem kK:∀a b:List D,hZ (a++b)=(hZ a&&hZ b)
 | [],b=>by rw[List.nil_append,show hZ []=true by rw[hZ]];rfl
 | d::a,b=>by rw[List.cons_append,bV,bV,kK a b,Bool.and_assoc]
theorem iD:∀a:List D,a.length≤eN a
 | []=>Nat.zero_le _
 | d::a=>by rw[aX,CY];have:=iD a;have:=lg d;omega
theorem qz:∀{ds:List D}{d:D},d∈ds→dep d≤eW ds
 | [],_,h=>by cases h
 | e::ds,d,h=>by
  rw[eW]
  rcases List.mem_cons.mp h with rfl | h
  ·exact Nat.le_max_left _ _
  ·exact CZ (qz h) (Nat.le_max_right _ _)
theorem Ct (ds:List D):cutD ds none (some 1)=ds.take 1:=by
 unfold cutD
 rw[HT.pY,show HT.eY ds.length ds.length (some 1)=min 1 ds.length from HT.sV _ _ 1]
 cases ds<;>simp
theorem isNm{ds:List D}(h:du (.tup (cutD ds none (some 1))) (.tup [.str "name"])=true):∃t,ds=.str "name"::t:=by
 rw[Ct] at h
 cases ds with
 | nil=>simp[du,iL] at h
 | cons a t=>
  have h2:du a (.str "name")=true:=by simpa[du,iL] using h
  cases a with
  | str z=>rw[du] at h2;rw[eq_of_beq h2];exact⟨t,rfl⟩
  | _=>simp[du] at h2
theorem yV{ds:List D}{n:Nat}(h:∀d∈ds,dep d≤n):dep (.tup (cutD ds none (some 1)))≤n+1:=by
 rw[Ct]
 cases ds with
 | nil=>simp[dep,eW]
 | cons a t=>
  have:=h a C1
  simp only[List.take_succ_cons,List.take_zero,dep,eW]
  omega
section
variable{P:Program}{w:World}{K:Fg06}{mg:Str→Option Value}{base:Heap}{f:Addr}{fd:FuncData}
def zB (K:Fg06) (H:Hp) (Q:VK) (n:Nat):Prop:=∀p H' fs,H p=none→az H H'→cG K H' p fs→fs.length≤n→Q (.ref p) H'
def zP (K:Fg06):Sp:=fun vs H Q _=>∃(x:V) (d:D),vs=[x]∧At K H d x∧uV d=true∧lj d≤1000∧dep d≤50∧zB K H Q (lj d)
theorem vE:aW ["_law_thing","_law_waiting","_law_found","_law_one"] ["_law_thing"] (aE lZ):=fsX rfl rfl rfl rfl (by decide +kernel)
def wA (K:Fg06) (N:Nat) (H:Hp) (x:V) (f0:Addr) (m:Nat) (σ:L2.St) (H':Hp):Prop:=(∃wl o3,σ=[some x,some (.ref wl),some (.ref f0),o3]∧H wl=none∧wl≠f0∧∃wds vw,H' wl=some (.lst vw)∧ai K H' wds vw∧hZ wds=true∧(∀d∈wds,dep d≤50)∧m=eN wds)∧az H H'∧∃fds vf,H' f0=some (.lst vf)∧ai K H' fds vf∧fds.length+m≤N
theorem Cc (g:fh mg) (F:eX K "_law_names_in" "_law_names_in" lZ f fd):bO P w K mg base fw 1 f fd ["_law_thing"] (zP K):=by
 refine F.hV vE (fun vs H Q E h=>?_) (fun Si A outer s H vs Q E hr h=>?_)
 ·obtain⟨_,_,rfl,_⟩:=h;rfl
 obtain⟨x,d,rfl,hx,hn,hs,Pt,q⟩:=h
 refine⟨_,ah (aA (i:=1) vE.nd rfl (Or.inl rfl) (aI (aa (pv 0) ae)))
  (ah (aA (i:=2) vE.nd rfl (Or.inl rfl) (aI ae))
  (ah (cu C9 (ar (gP hr) (pv 1) (aI ae) (aH _))
   (ah (aA (i:=3) vE.nd rfl (Or.inl rfl) (cj CW PySem.F.slot_list_pop PySem.F.type_list_pop wC (pv 1) (aa ak ae)))
   (aj (aN (LW.pt (bX (cB (bG kH rfl g.AA xg (aa (pv 3) (aa (cZ (v:=.ty "tuple") rfl g.fm eg rfl) ae))))
     (bQ (ar (wo hr) (cm BF (pv 3) cI (cH ak)) (aw (aa aq ae)) (aH _)))))
    (aj (ba (cj CW C3 C4 bA (pv 2) (aa (aC (pv 3)) ae))))
    (aj (aN (cB (bG kH rfl g.AA xg (aa (pv 3) (aa (cZ (v:=.ty "tuple") rfl g.fm eg rfl) ae))))
     (aj (aA (i:=1) vE.nd rfl (Or.inl rfl) (ay fM (aV fq rfl g.nList b6L (aa (pv 3) ae)) (pv 1)))) aB))))))
  (aj (aG (pv 2))))),?main⟩
 case main=>
  refine⟨_,rfl,by show 1≤sizeLine;decide,fun w0 Hw=>?_⟩
  have s1:az H (upd H w0 (.lst [x])):=af Hw _
  have c1:upd H w0 (.lst [x]) w0=some (.lst [x]):=ag
  revert s1 c1
  generalize upd H w0 (.lst [x])=H1
  intro s1 c1
  refine⟨by decide,fun f0 Ie=>?_⟩
  have ME:H f0=none:=none_of s1 Ie
  have n01:w0≠f0:=fun z=>by rw[z,Ie] at c1;cases c1
  have s2:=af Ie (.lst [])
  have c2:upd H1 f0 (.lst []) f0=some (.lst []):=ag
  revert s2 c2
  generalize upd H1 f0 (.lst [])=H2
  intro s2 c2
  have e1:eN [d]=lj d:=by rw[aX,cE];omega
  generalize hN:lj d=N0 at q hs e1
  refine⟨wA K N0 H x f0,⟨eN [d],⟨w0,none,rfl,Hw,n01,[d],[x],s2 _ _ c1,ai.eA (At.same (s1.trans s2) _ _ hx),by rw[bV,hn,show hZ []=true by rw[hZ]];rfl,fun e he=>by rw[Dg.mp he];exact Pt,rfl⟩,s1.trans s2,[],[],c2,aD.mpr rfl,by rw[e1];simp⟩,?_⟩
  rintro m σ H3 ⟨⟨wl,o3,rfl,Kq,nwf,wds,vw,JM,JX,HV,MI,rfl⟩,sH,fds,vf,MD,E1,hlen⟩
  refine⟨_,rfl,by decide,fun p0 Fi=>⟨wl,p0,vw,rfl,rfl,br.of ((af Fi _) _ _ JM),br.of ag,_,rfl,?_⟩⟩
  have t0:az H3 (upd H3 p0 (.lst [])):=af Fi _
  revert t0
  generalize upd H3 p0 (.lst [])=H4
  intro t0
  have HI:=t0 _ _ JM
  have MC:=t0 _ _ MD
  have GH:=ai.same t0 _ _ JX
  have Nk:=ai.same t0 _ _ E1
  have FG:=sH.trans t0
  cases wds with
  | nil=>
   cases aD.mp JX
   exact bg ⟨_,rfl,q f0 H4 fds ME FG ⟨vf,MC,Nk⟩ (by omega)⟩
  | cons e es=>
   obtain⟨v,r,rfl,hv,IB⟩:=aJ.mp GH
   rw[show(!(v::r).isEmpty)=true from rfl]
   rw[aX] at hlen ⊢
   rw[bV,Bool.and_eq_true] at HV
   have hp:=lg e
   refine bJ ⟨fun σ H'=>∃m',m' < lj e+eN es∧wA K N0 H x f0 m' σ H',fun σ' H' z=>z,?_⟩
   refine⟨_,rfl,.inl ⟨rfl,_,br.of HI⟩,wl,_,0,0,v,rfl,rfl,HI,by decide,by decide,by rw[seqIndex_of (by decide) (by rw[CY];omega)];rfl,rfl,?_⟩
   rw[List.eraseIdx_cons_zero]
   have w5:bN H4 (upd H4 wl (.lst r)):=aS HI
   have Ly:upd H4 wl (.lst r) f0=some (.lst vf):=by rw[aF (Ne.symm nwf)];exact MC
   have Hv:upd H4 wl (.lst r) wl=some (.lst r):=ag
   have s5:az H (upd H4 wl (.lst r)):=bh Kq FG
   revert w5 Ly Hv s5
   generalize upd H4 wl (.lst r)=H5
   intro w5 Ly Hv s5
   have Nj:=ai.ax w5 _ _ Nk
   have FE:=ai.ax w5 _ _ IB
   have FR:=At.ax w5 _ _ hv
   have KS:∀d∈es,dep d≤50:=fun d hd=>MI d (C0 _ hd)
   have plain:∃m',m' < lj e+eN es∧wA K N0 H x f0 m' [some x,some (.ref wl),some (.ref f0),some v] H5:=
    ⟨eN es,by omega,⟨wl,_,rfl,Kq,nwf,es,r,Hv,FE,HV.2,KS,rfl⟩,s5,fds,vf,Ly,Nj,by omega⟩
   have hde:=MI e C1
   cases e with
   | tup ds=>
    rw[dH] at hlen hp ⊢
    rw[gf,Bool.and_eq_true] at HV
    rw[dep] at hde
    have ML:∀d∈ds,dep d≤49:=fun d hd=>by have:=qz hd;omega
    refine⟨_,rfl,v,"tuple",.tup ds,true,rfl,FR,rfl,_,rfl,bJ ?_⟩
    refine⟨_,rfl,1,rfl,ds,FR,fun r6 H6 t6 IA=>⟨by show 1≤sizeLine;decide,fun p7 Fx=>?_⟩⟩
    have t7:=t6.trans (af Fx (.tup [.str "name"]))
    have G9:=At.same (af Fx (.tup [.str "name"])) _ _ IA
    have Kw:At K (upd H6 p7 (.tup [.str "name"])) (.tup [.str "name"]) (.ref p7):=At.new Fx (ai.eA (av.mpr rfl))
    revert t7 G9 Kw
    generalize upd H6 p7 (.tup [.str "name"])=H7
    intro t7 G9 Kw
    refine⟨_,_,G9,Kw,CZ (yV ML) (by decide),_,rfl,?_⟩
    have Mb:=At.same t7 _ _ FR
    have Jt:=t7 _ _ Ly
    have Hu:=t7 _ _ Hv
    have La:=ai.same t7 _ _ Nj
    have K8:=ai.same t7 _ _ FE
    have s7:=s5.trans t7
    have lf:=La.len
    have lr:=K8.len
    have lw:=iD es
    have ld:=iD ds
    cases hb:du (.tup (cutD ds none (some 1))) (.tup [.str "name"]) with
    | true=>
     obtain⟨t,rfl⟩:=isNm hb
     cases t with
     | nil=>simp[zl] at HV
     | cons b t=>
      refine bJ ⟨_,rfl,.inl ⟨rfl,_,br.of Jt⟩,_,rfl,1,_,_,rfl,Mb,rfl,fun y hy=>⟨f0,vf,y,rfl,rfl,Jt,by rw[lf];exact small (by omega),?_⟩⟩
      obtain⟨ws,k1,k2⟩:=cG.push Jt La hy
      refine⟨eN es,by omega,⟨wl,_,rfl,Kq,nwf,es,r,by rw[aF nwf];exact Hu,ai.ax (aS Jt) _ _ K8,HV.2,KS,rfl⟩,bh ME s7,fds++[b],ws,k1,k2,by rw[CK,List.length_singleton];omega⟩
    | false=>
     refine bg ⟨_,rfl,v,"tuple",.tup ds,true,rfl,Mb,rfl,_,rfl,bJ ?_⟩
     obtain⟨pa,va,rfl,sqa,RO⟩:=aP.mp Mb
     refine⟨_,rfl,pa,va,rfl,.inr sqa,fun l8 hl8=>?_⟩
     have t8:=af hl8 (.lst va)
     have c8:upd H7 l8 (.lst va) l8=some (.lst va):=ag
     revert t8 c8
     generalize upd H7 l8 (.lst va)=H8
     intro t8 c8
     have la:=RO.len
     refine⟨_,rfl,l8,wl,va,r,rfl,rfl,c8,t8 _ _ Hu,by rw[la,lr];exact small (by omega),fun p9 Gz=>?_⟩
     have t9:=af Gz (.lst (va++r))
     have s9:=(s7.trans t8)
     refine⟨eN (ds++es),by rw[eC];omega,⟨p9,_,rfl,none_of s9 Gz,fun z=>?_,ds++es,va++r,ag,ai.same t9 _ _ (ai.append (ai.same t8 _ _ RO) (ai.same t8 _ _ K8)),by rw[kK,HV.1.2,HV.2];rfl,fun d hd=>?_,rfl⟩,s9.trans t9,fds,vf,t9 _ _ (t8 _ _ Jt),ai.same (t8.trans t9) _ _ La,by rw[eC];omega⟩
     ·have:=t8 _ _ Jt
      rw[←z,Gz] at this;cases this
     ·rcases Df.mp hd with z | z
      ·exact CZ (ML d z) (by decide)
      ·exact KS d z
   | aR=>exact⟨_,rfl,v,"tuple",.aR,false,rfl,FR,rfl,_,rfl,bg (bg ⟨_,rfl,v,"tuple",.aR,false,rfl,FR,rfl,_,rfl,bg plain⟩)⟩
   | bl b=>exact⟨_,rfl,v,"tuple",.bl b,false,rfl,FR,rfl,_,rfl,bg (bg ⟨_,rfl,v,"tuple",.bl b,false,rfl,FR,rfl,_,rfl,bg plain⟩)⟩
   | int i=>exact⟨_,rfl,v,"tuple",.int i,false,rfl,FR,rfl,_,rfl,bg (bg ⟨_,rfl,v,"tuple",.int i,false,rfl,FR,rfl,_,rfl,bg plain⟩)⟩
   | str z=>exact⟨_,rfl,v,"tuple",.str z,false,rfl,FR,rfl,_,rfl,bg (bg ⟨_,rfl,v,"tuple",.str z,false,rfl,FR,rfl,_,rfl,bg plain⟩)⟩
end
end GS
namespace GS
open PySem PyProof.Rows L2
def nU (d:D):Prop:=(∃i,d=.tup [.str "number",.int i])∨(∃z,d=.tup [.str "name",.str z])∨d=.tup [.str "none"]∨(∃b,d=.tup [.str "truth",.bl b])∨∃z,d=.tup [.str "text",.str z]
def e9:Nat→D→Prop
 | 0,d=>nU d
 | n+1,d=>nU d∨(∃t ts,d=.tup [.str "call",t,.tup ts]∧e9 n t∧ts.length≤2∧∀s∈ts,e9 n s)∨(∃t z,d=.tup [.str "field",t,.str z]∧e9 n t)∨(∃k t,d=.tup [.str k,t]∧(k="not"∨k="minus")∧e9 n t)∨
  ∃k z t u,d=.tup [.str k,.str z,t,u]∧(k="two"∨k="both")∧e9 n t∧e9 n u
theorem e9.leaf{d:D}(h:nU d):∀n,e9 n d
 | 0=>h
 | _+1=>.inl h
theorem e9.up:∀{n:Nat}{d:D},e9 n d→e9 (n+1) d
 | 0,_,h=>.inl h
 | n+1,_,h=>by
  rcases h with h | ⟨t,ts,e,h1,h2,h3⟩ | ⟨t,z,e,h1⟩ | ⟨k,t,e,hk,h1⟩ | ⟨k,z,t,u,e,hk,h1,h2⟩
  ·exact .inl h
  ·exact .inr (.inl ⟨t,ts,e,h1.up,h2,fun s hs=>(h3 s hs).up⟩)
  ·exact .inr (.inr (.inl ⟨t,z,e,h1.up⟩))
  ·exact .inr (.inr (.inr (.inl ⟨k,t,e,hk,h1.up⟩)))
  ·exact .inr (.inr (.inr (.inr ⟨k,z,t,u,e,hk,h1.up,h2.up⟩)))
def tz:Nat→Nat
 | 0=>3
 | n+1=>3*tz n+5
theorem zz (n:Nat):3≤tz n:=by
 induction n with
 | zero=>exact CN _
 | succ n ih=>unfold tz;omega
theorem gQ:hZ []=true:=by rw[hZ]
theorem jx (z:Str):uV (.str z)=true:=by rw[uV];nofun
theorem Az:uV .aR=true:=by rw[uV];nofun
theorem iB (z:Str):lj (.str z)=1:=by rw[lj];nofun
theorem zF:lj .aR=1:=by rw[lj];nofun
structure Tm (n k:Nat) (d:D):Prop where
 nm:uV d=true
 sz:lj d≤n
 dp:dep d≤k
theorem Tm.le{n k n' k':Nat}{d:D}(h:Tm n k d) (hn:n≤n') (hk:k≤k'):Tm n' k' d:=⟨h.nm,CZ h.sz hn,CZ h.dp hk⟩
theorem Tm.aR:Tm 1 0 .aR:=⟨Az,by rw[zF];exact CN _,by rw[j8];exact CN _⟩
theorem tF{d:D}(h:nU d):Tm 3 1 d:=by
 rcases h with ⟨i,rfl⟩ | ⟨z,rfl⟩ | rfl | ⟨b,rfl⟩ | ⟨z,rfl⟩ <;>
 exact⟨by simp[uV,hZ,zl]<;>decide +kernel,by simp[lj,eN],by simp[dep,eW]⟩
theorem jK{n k:Nat}:∀{ts:List D},(∀s∈ts,Tm n k s)→hZ ts=true∧eN ts≤ts.length*n∧eW ts≤k
 | [],_=>⟨gQ,by rw[cE];omega,by rw[eW];omega⟩
 | t::ts,h=>by
  obtain⟨a,b,c⟩:=jK fun s hs=>h s (C0 _ hs)
  obtain⟨x,y,z⟩:=h t C1
  refine⟨by rw[bV,x,a];rfl,?_,by rw[eW];omega⟩
  rw[aX,CY,Nat.add_mul];omega
theorem jb (a b:D) (r:List D):zl (a::b::r)=true:=by unfold zl;split<;>simp_all
theorem mz:∀{ts:List D},(∀s∈ts,∃x,s=D.tup x)→zl ts=true
 | [],_=>rfl
 | [t],h=>by obtain⟨x,rfl⟩:=h t C1;rfl
 | a::b::r,_=>jb a b r
theorem e9.isTup:∀{n:Nat}{d:D},e9 n d→∃x,d=.tup x:=by
 have lf:∀{d:D},nU d→∃x,d=.tup x:=fun h=>by
  rcases h with ⟨i,rfl⟩ | ⟨z,rfl⟩ | rfl | ⟨b,rfl⟩ | ⟨z,rfl⟩<;>exact⟨_,rfl⟩
 intro n d h
 cases n with
 | zero=>exact lf h
 | succ n=>
  rcases h with h | ⟨t,ts,rfl,_⟩ | ⟨t,z,rfl,_⟩ | ⟨k,t,rfl,_⟩ | ⟨k,z,t,u,rfl,_⟩
  ·exact lf h
  all_goals exact⟨_,rfl⟩
theorem e9.tm:∀{n:Nat}{d:D},e9 n d→Tm (tz n) (2*n+1) d
 | 0,_,h=>tF h
 | n+1,d,h=>by
  have tp:=zz n
  rcases h with h | ⟨t,ts,rfl,h1,h2,h3⟩ | ⟨t,z,rfl,h1⟩ | ⟨k,t,rfl,hk,h1⟩ | ⟨k,z,t,u,rfl,hk,h1,h2⟩
  ·exact(tF h).le (by unfold tz;omega) (by omega)
  ·obtain⟨a,b,c⟩:=e9.tm h1
   obtain⟨x,y,z⟩:=jK fun s hs=>e9.tm (h3 s hs)
   have:ts.length*tz n≤2*tz n:=Nat.mul_le_mul_right _ h2
   refine⟨?_,?_,?_⟩
   ·rw[gf,jb,bV,jx,bV,a,bV,gf,mz fun s hs=>(h3 s hs).isTup,x,gQ];rfl
   ·rw[dH,aX,aX,aX,cE,dH,iB];unfold tz;omega
   ·simp only[dep,eW];omega
  ·obtain⟨a,b,c⟩:=e9.tm h1
   refine⟨?_,?_,?_⟩
   ·rw[gf,jb,bV,jx,bV,a,bV,jx,gQ];rfl
   ·rw[dH,aX,aX,aX,cE,iB,iB];unfold tz;omega
   ·simp only[dep,eW];omega
  ·obtain⟨a,b,c⟩:=e9.tm h1
   refine⟨?_,?_,?_⟩
   ·rw[gf,jb,bV,jx,bV,a,gQ];rfl
   ·rw[dH,aX,aX,cE,iB];unfold tz;omega
   ·simp only[dep,eW];omega
  ·obtain⟨a,b,c⟩:=e9.tm h1
   obtain⟨a',b',c'⟩:=e9.tm h2
   refine⟨?_,?_,?_⟩
   ·rw[gf,jb,bV,jx,bV,jx,bV,a,bV,a',gQ];rfl
   ·rw[dH,aX,aX,aX,aX,cE,iB,iB];unfold tz;omega
   ·simp only[dep,eW];omega
def fH (d:D):Prop:=d=.aR∨e9 2 d
theorem fH.tm{d:D}(h:fH d):Tm 50 5 d:=by
 rcases h with rfl | h
 ·exact Tm.aR.le (by decide) (by decide)
 ·exact h.tm.le (by decide) (by decide)
def fZ (d:D):Prop:=
 (∃(k:Str) (xs:List Str),d=.tup [.str k,.tup (xs.map D.str)]∧(k="global"∨k="nonlocal")∧xs.length≤2)∨(∃k,d=.tup [.str k]∧(k="pass"∨k="break"∨k="continue"))∨(∃z t,d=.tup [.str "set",.str z,t]∧e9 2 t)∨
 (∃z o t,d=.tup [.str "more",.str z,.str o,t]∧e9 2 t)∨(∃t z u,d=.tup [.str "put",t,.str z,u]∧e9 2 t∧e9 2 u)∨(∃t,d=.tup [.str "return",t]∧fH t)∨
 (∃t u,d=.tup [.str "raise",t,u]∧fH t∧fH u)∨(∃a t,d=.tup [.str "yield",a,t]∧jv a∧e9 2 t)∨∃t,d=.tup [.str "do",t]∧e9 2 t
def nN (p:D):Prop:=∃z e,p=.tup [.str z,e]∧fH e
def gu (S:D→Prop) (ds:List D):Prop:=ds.length≤4∧∀d∈ds,S d
def rX (S:D→Prop) (c:D):Prop:=∃e x b,c=.tup [e,x,.tup b]∧fH e∧jv x∧gu S b
def fY:Nat→D→Prop
 | 0,d=>fZ d
 | n+1,d=>fZ d∨(∃z ps b,d=.tup [.str "def",.str z,.tup ps,.tup b]∧ps.length≤4∧(∀p∈ps,nN p)∧gu (fY n) b)∨(∃z es b,d=.tup [.str "class",.str z,.tup es,.tup b]∧es.length≤2∧(∀e∈es,e9 2 e)∧gu (fY n) b)∨
  (∃b cs o l,d=.tup [.str "try",.tup b,.tup cs,.tup o,l]∧gu (fY n) b∧cs.length≤2∧(∀c∈cs,rX (fY n) c)∧gu (fY n) o∧(l=.aR∨∃b',l=.tup b'∧gu (fY n) b'))∨
  (∃k t b o,d=.tup [.str k,t,.tup b,.tup o]∧(k="if"∨k="while")∧e9 2 t∧gu (fY n) b∧gu (fY n) o)∨∃z t b o,d=.tup [.str "for",.str z,t,.tup b,.tup o]∧e9 2 t∧gu (fY n) b∧gu (fY n) o
theorem fY.sim{d:D}(h:fZ d):∀n,fY n d
 | 0=>h
 | _+1=>.inl h
theorem fZ.kind{d:D}(h:fZ d):∃k r,d=.tup (.str k::r)∧¬(k="def"∨k="class")∧¬(k="if"∨k="while")∧k≠"for"∧k≠"try"∧k≠"except":=by
 rcases h with ⟨k,xs,rfl,hk,_⟩ | ⟨k,rfl,hk⟩ | ⟨z,t,rfl,_⟩ | ⟨z,o,t,rfl,_⟩ | ⟨t,z,u,rfl,_⟩ | ⟨t,rfl,_⟩ | ⟨t,u,rfl,_⟩ | ⟨a,t,rfl,_⟩ | ⟨t,rfl,_⟩
 ·refine⟨k,_,rfl,?_⟩
  rcases hk with rfl | rfl<;>decide +kernel
 ·refine⟨k,_,rfl,?_⟩
  rcases hk with rfl | rfl | rfl<;>decide +kernel
 all_goals exact⟨_,_,rfl,by decide +kernel⟩
theorem gp{k:Str}{r:List D}(h1:¬(k="def"∨k="class")) (h2:¬(k="if"∨k="while")) (h3:k≠"for") (h4:k≠"try"):aO (.tup (.str k::r))=[]:=by
 unfold aO
 rw[show D.k (.tup (.str k::r))=k from rfl,CO h1,CO h2,CO h3,CO h4]
theorem gU{k:Str}{r:List D}(h1:¬(k="def"∨k="class")) (h2:¬(k="if"∨k="while")) (h3:k≠"for") (h4:k≠"try"):aY (.tup (.str k::r))=[]:=by
 unfold aY
 rw[show D.k (.tup (.str k::r))=k from rfl,CO h2,CO h3,CO h1,CO h4]
theorem q0{k:Str}{r:List D}(h1:¬(k="def"∨k="class")) (h2:¬(k="if"∨k="while")) (h3:k≠"for") (h4:k≠"try"):Shape k r:=⟨fun z=>absurd z h1,fun z=>absurd z h2,fun z=>absurd z h3,fun z=>absurd z h4⟩
theorem tw{k:Str}{r:List D}(n:Nat) (h1:¬(k="def"∨k="class")) (h2:¬(k="if"∨k="while")) (h3:k≠"for") (h4:k≠"try"):jX (n+1) (.tup (.str k::r)):=⟨⟨k,r,rfl,q0 h1 h2 h3 h4⟩,fun s hs=>by rw[gp h1 h2 h3 h4] at hs;cases hs⟩
theorem yC (n:Nat) (c:D):jX (n+1) (headD c):=tw n (by decide +kernel) (by decide +kernel) (by decide +kernel) (by decide +kernel)
theorem eI{k:Str}{a b:D}{c:List D}(h:k="def"∨k="class"):aO (.tup [.str k,a,b,.tup c])=c:=by
 unfold aO
 rw[show D.k (.tup [.str k,a,b,.tup c])=k from rfl,CQ h]
 rfl
theorem j4{k:Str}{a:D}{b c:List D}(h:k="if"∨k="while"):aO (.tup [.str k,a,.tup b,.tup c])=b++c:=by
 unfold aO
 rw[show D.k (.tup [.str k,a,.tup b,.tup c])=k from rfl,CO (by rcases h with rfl | rfl<;>decide +kernel),CQ h]
 rfl
theorem jh{a e:D}{b c:List D}:aO (.tup [.str "for",a,e,.tup b,.tup c])=b++c:=by
 unfold aO
 rw[show D.k (.tup [.str "for",a,e,.tup b,.tup c])="for" from rfl,CO (by decide +kernel),CO (by decide +kernel),CQ rfl]
 rfl
theorem jg{b cs o:List D}{l:D}:aO (.tup [.str "try",.tup b,.tup cs,.tup o,l])=b++(cs.flatMap dQ++(o++l.items)):=by
 unfold aO
 rw[show D.k (.tup [.str "try",.tup b,.tup cs,.tup o,l])="try" from rfl,CO (by decide +kernel),CO (by decide +kernel),CO (by decide +kernel),CQ rfl]
 rfl
theorem gF{k:Str}{a b c:D}(h:k="def"∨k="class"):aY (.tup [.str k,a,b,c])=[c]:=by
 unfold aY
 rw[show D.k (.tup [.str k,a,b,c])=k from rfl,CO (by rcases h with rfl | rfl<;>decide +kernel),CO (by rcases h with rfl | rfl<;>decide +kernel),CQ h]
 rfl
theorem lD{k:Str}{a b c:D}(h:k="if"∨k="while"):aY (.tup [.str k,a,b,c])=[b,c]:=by
 unfold aY
 rw[show D.k (.tup [.str k,a,b,c])=k from rfl,CQ h]
 rfl
theorem j3{a e b c:D}:aY (.tup [.str "for",a,e,b,c])=[b,c]:=by
 unfold aY
 rw[show D.k (.tup [.str "for",a,e,b,c])="for" from rfl,CO (by decide +kernel),CQ rfl]
 rfl
theorem eV{b o l:D}{cs:List D}:aY (.tup [.str "try",b,.tup cs,o,l])=(([b]++cs.map fun c=>c.cK 2)++[o])++bW l:=by
 unfold aY
 rw[show D.k (.tup [.str "try",b,.tup cs,o,l])="try" from rfl,CO (by decide +kernel),CO (by decide +kernel),CO (by decide +kernel),CQ rfl]
 rfl
theorem gK{S:D→Prop}{n:Nat}{ds:List D}(h:gu S ds) (hS:∀d,S d→uU n d):(D.tup ds).items.length≤6∧∀s∈(D.tup ds).items,uU n s:=⟨CZ h.1 (by decide),fun s hs=>hS s (h.2 s hs)⟩
theorem fY.ok:∀{n:Nat}{d:D},fY n d→jX (n+1) d∧uU (n+1) d:=by
 have sim:∀{n:Nat}{d:D},fZ d→jX (n+1) d∧uU (n+1) d:=fun {n d} h=>by
  obtain⟨k,r,rfl,h1,h2,h3,h4,_⟩:=h.kind
  exact⟨tw n h1 h2 h3 h4,by rw[uU,gU h1 h2 h3 h4];exact⟨by simp,fun b hb=>by cases hb⟩⟩
 intro n
 induction n with
 | zero=>exact fun h=>sim h
 | succ n ih=>
  intro d h
  rcases h with h | ⟨z,ps,b,rfl,hp,EL,hb⟩ | ⟨z,es,b,rfl,he,Gj,hb⟩ | ⟨b,cs,o,l,rfl,hb,hc,EM,ho,hl⟩ | ⟨k,t,b,o,rfl,hk,ht,hb,ho⟩ | ⟨z,t,b,o,rfl,ht,hb,ho⟩
  ·exact sim h
  ·refine⟨⟨⟨"def",_,rfl,⟨fun _=>⟨_,_,_,rfl⟩,fun z=>absurd z (by decide +kernel),fun z=>absurd z (by decide +kernel),fun z=>absurd z (by decide +kernel)⟩⟩,fun s hs=>?_⟩,?_⟩
   ·rw[eI (.inl rfl)] at hs;exact(ih (hb.2 s hs)).1
   ·rw[uU,gF (.inl rfl)]
    exact⟨by simp,fun c hc=>by rw[Dg.mp hc];exact gK hb fun d hd=>(ih hd).2⟩
  ·refine⟨⟨⟨"class",_,rfl,⟨fun _=>⟨_,_,_,rfl⟩,fun z=>absurd z (by decide +kernel),fun z=>absurd z (by decide +kernel),fun z=>absurd z (by decide +kernel)⟩⟩,fun s hs=>?_⟩,?_⟩
   ·rw[eI (.inr rfl)] at hs;exact(ih (hb.2 s hs)).1
   ·rw[uU,gF (.inr rfl)]
    exact⟨by simp,fun c hc=>by rw[Dg.mp hc];exact gK hb fun d hd=>(ih hd).2⟩
  ·have hcs':∀c∈cs,∃e x b',c=.tup [e,x,.tup b']:=fun c hc=>by obtain⟨e,x,b',e1,_⟩:=EM c hc;exact⟨e,x,b',e1⟩
   have Mx:l=.aR∨∃b',l=.tup b':=hl.imp id fun⟨b',e,_⟩=>⟨b',e⟩
   refine⟨⟨⟨"try",_,rfl,⟨fun z=>absurd z (by decide +kernel),fun z=>absurd z (by decide +kernel),fun z=>absurd z (by decide +kernel),fun _=>⟨b,cs,o,l,rfl,by omega,hcs',Mx⟩⟩⟩,fun s hs=>?_⟩,?_⟩
   ·rw[jg,Df,Df,Df,List.mem_flatMap] at hs
    rcases hs with hs | ⟨c,EH,hs⟩ | hs | hs
    ·exact(ih (hb.2 s hs)).1
    ·obtain⟨e,x,b',rfl,_,_,ET⟩:=EM c EH
     rcases List.mem_cons.mp hs with rfl | hs
     ·exact yC n _
     ·exact(ih (ET.2 s hs)).1
    ·exact(ih (ho.2 s hs)).1
    ·rcases hl with rfl | ⟨b',rfl,ET⟩
     ·cases hs
     ·exact(ih (ET.2 s hs)).1
   ·rw[uU,eV]
    refine⟨?_,fun c EH=>?_⟩
    ·have:(bW l).length≤1:=by cases l<;>simp[bW]
     simp only[List.length_append,List.length_map,List.length_singleton]
     omega
    ·simp only[List.mem_append,List.mem_singleton,List.mem_map] at EH
     rcases EH with ((rfl | ⟨c',EH,rfl⟩) | rfl) | EH
     ·exact gK hb fun d hd=>(ih hd).2
     ·obtain⟨e,x,b',rfl,_,_,ET⟩:=EM c' EH
      exact gK ET fun d hd=>(ih hd).2
     ·exact gK ho fun d hd=>(ih hd).2
     ·rcases hl with rfl | ⟨b',rfl,ET⟩
      ·cases EH
      ·have:c=.tup b':=by simpa[bW] using EH
       rw[this]
       exact gK ET fun d hd=>(ih hd).2
  ·have n1:¬(k="def"∨k="class"):=by rcases hk with rfl | rfl<;>decide +kernel
   have n2:k≠"for":=by rcases hk with rfl | rfl<;>decide +kernel
   have n3:k≠"try":=by rcases hk with rfl | rfl<;>decide +kernel
   refine⟨⟨⟨k,_,rfl,⟨fun z=>absurd z n1,fun _=>⟨_,_,_,rfl⟩,fun z=>absurd z n2,fun z=>absurd z n3⟩⟩,fun s hs=>?_⟩,?_⟩
   ·rw[j4 hk,Df] at hs
    rcases hs with hs | hs
    ·exact(ih (hb.2 s hs)).1
    ·exact(ih (ho.2 s hs)).1
   ·rw[uU,lD hk]
    refine⟨by simp,fun c hc=>?_⟩
    simp only[List.mem_cons,List.not_mem_nil,or_false] at hc
    rcases hc with rfl | rfl
    ·exact gK hb fun d hd=>(ih hd).2
    ·exact gK ho fun d hd=>(ih hd).2
  ·refine⟨⟨⟨"for",_,rfl,⟨fun z=>absurd z (by decide +kernel),fun z=>absurd z (by decide +kernel),fun _=>⟨_,_,_,_,rfl⟩,fun z=>absurd z (by decide +kernel)⟩⟩,fun s hs=>?_⟩,?_⟩
   ·rw[jh,Df] at hs
    rcases hs with hs | hs
    ·exact(ih (hb.2 s hs)).1
    ·exact(ih (ho.2 s hs)).1
   ·rw[uU,j3]
    refine⟨by simp,fun c hc=>?_⟩
    simp only[List.mem_cons,List.not_mem_nil,or_false] at hc
    rcases hc with rfl | rfl
    ·exact gK hb fun d hd=>(ih hd).2
    ·exact gK ho fun d hd=>(ih hd).2
def cW (d:D):Prop:=(∃n,fY n d)∨∃e x,d=.tup [.str "except",e,x]∧fH e∧jv x
theorem nT{S:D→Prop}:∀{cs:List D},(∀c∈cs,rX S c)→(cs.flatMap dQ).length≤cs.length*5
 | [],_=>by simp
 | c::cs,h=>by
  obtain⟨e,x,b,rfl,_,_,hb⟩:=h c C1
  have:=nT fun c hc=>h c (C0 _ hc)
  rw[List.flatMap_cons,CK,CY,Nat.add_mul]
  have e1:(dQ (.tup [e,x,.tup b])).length=b.length+1:=rfl
  have:=hb.1
  omega
theorem cW.inner{d:D}(h:cW d):(∀s∈aO d,cW s)∧(aO d).length≤22:=by
 rcases h with ⟨n,h⟩ | ⟨e,x,rfl,_⟩
 ·have sim:fZ d→(∀s∈aO d,cW s)∧(aO d).length≤22:=fun h=>by
   obtain⟨k,r,rfl,h1,h2,h3,h4,_⟩:=h.kind
   rw[gp h1 h2 h3 h4]
   exact⟨fun s hs=>(by cases hs),by decide⟩
  cases n with
  | zero=>exact sim h
  | succ n=>
   rcases h with h | ⟨z,ps,b,rfl,hp,EL,hb⟩ | ⟨z,es,b,rfl,he,Gj,hb⟩ | ⟨b,cs,o,l,rfl,hb,hc,EM,ho,hl⟩ | ⟨k,t,b,o,rfl,hk,ht,hb,ho⟩ | ⟨z,t,b,o,rfl,ht,hb,ho⟩
   ·exact sim h
   ·rw[eI (.inl rfl)];exact⟨fun s hs=>.inl ⟨n,hb.2 s hs⟩,CZ hb.1 (by decide)⟩
   ·rw[eI (.inr rfl)];exact⟨fun s hs=>.inl ⟨n,hb.2 s hs⟩,CZ hb.1 (by decide)⟩
   ·rw[jg]
    refine⟨fun s hs=>?_,?_⟩
    ·rw[Df,Df,Df,List.mem_flatMap] at hs
     rcases hs with hs | ⟨c,EH,hs⟩ | hs | hs
     ·exact .inl ⟨n,hb.2 s hs⟩
     ·obtain⟨e,x,b',rfl,h1,h2,ET⟩:=EM c EH
      rcases List.mem_cons.mp hs with rfl | hs
      ·exact .inr ⟨e,x,rfl,h1,h2⟩
      ·exact .inl ⟨n,ET.2 s hs⟩
     ·exact .inl ⟨n,ho.2 s hs⟩
     ·rcases hl with rfl | ⟨b',rfl,ET⟩
      ·cases hs
      ·exact .inl ⟨n,ET.2 s hs⟩
    ·have h1:=nT EM
     have h2:l.items.length≤4:=by
      rcases hl with rfl | ⟨b',rfl,ET⟩
      ·exact Nat.zero_le _
      ·exact ET.1
     have h3:=hb.1
     have h4:=ho.1
     simp only[List.length_append]
     omega
   ·rw[j4 hk]
    have h3:=hb.1
    have h4:=ho.1
    refine⟨fun s hs=>?_,by rw[CK];omega⟩
    rcases Df.mp hs with hs | hs
    ·exact .inl ⟨n,hb.2 s hs⟩
    ·exact .inl ⟨n,ho.2 s hs⟩
   ·rw[jh]
    have h3:=hb.1
    have h4:=ho.1
    refine⟨fun s hs=>?_,by rw[CK];omega⟩
    rcases Df.mp hs with hs | hs
    ·exact .inl ⟨n,hb.2 s hs⟩
    ·exact .inl ⟨n,ho.2 s hs⟩
 ·rw[gp (by decide +kernel) (by decide +kernel) (by decide +kernel) (by decide +kernel)]
  exact⟨fun s hs=>(by cases hs),by decide⟩
theorem cW.mem:∀{m:Nat}{ds:List D},(∀d∈ds,cW d)→∀r∈aM m ds,cW r
 | 0,_,_,r,hr=>by cases hr
 | m+1,ds,h,r,hr=>by
  obtain⟨s,hs,hr⟩:=List.mem_flatMap.mp hr
  rcases List.mem_cons.mp hr with rfl | hr
  ·exact h _ hs
  ·split at hr
   ·cases hr
   ·exact cW.mem (h s hs).inner.1 r hr
def cR:Nat→Nat
 | 0=>0
 | n+1=>1+22*cR n
theorem cW.len:∀{m:Nat}{ds:List D},(∀d∈ds,cW d)→(aM m ds).length≤ds.length*cR m
 | 0,_,_=>Nat.zero_le _
 | m+1,ds,h=>by
  induction ds with
  | nil=>exact Nat.zero_le _
  | cons s ds ih=>
   have h1:=ih fun d hd=>h d (C0 _ hd)
   have h2:=(h s C1).inner
   have h3:(if fU s=true then [] else aM m (aO s)).length≤22*cR m:=by
    split
    ·exact Nat.zero_le _
    ·exact CZ (cW.len h2.1) (Nat.mul_le_mul_right _ h2.2)
   rw[fb,CK,CY,CY,Nat.add_mul]
   have ec:cR (m+1)=1+22*cR m:=rfl
   omega
theorem cW.ok{d:D}(h:cW d):jU d:=by
 have opt:∀z:Str,jv (.str z):=fun z=>.inr ⟨z,rfl⟩
 rcases h with ⟨n,h⟩ | ⟨e,x,rfl,_,hx⟩
 ·have sim:fZ d→jU d:=fun h=>by
   rcases h with ⟨k,xs,rfl,hk,_⟩ | ⟨k,rfl,hk⟩ | ⟨z,t,rfl,_⟩ | ⟨z,o,t,rfl,_⟩ | ⟨t,z,u,rfl,_⟩ | ⟨t,rfl,_⟩ | ⟨t,u,rfl,_⟩ | ⟨a,t,rfl,ha,_⟩ | ⟨t,rfl,_⟩
   ·exact⟨k,_,rfl,⟨fun z=>absurd z (by rcases hk with rfl | rfl<;>decide +kernel),fun z=>absurd z (by rcases hk with rfl | rfl<;>decide +kernel),fun _=>⟨xs,rfl⟩⟩⟩
   ·exact⟨k,_,rfl,⟨fun z=>absurd z (by rcases hk with rfl | rfl | rfl<;>decide +kernel),fun z=>absurd z (by rcases hk with rfl | rfl | rfl<;>decide +kernel),fun z=>absurd z (by rcases hk with rfl | rfl | rfl<;>decide +kernel)⟩⟩
   ·exact⟨_,_,rfl,⟨fun _=>⟨_,_,rfl,opt z⟩,fun z=>absurd z (by decide +kernel),fun z=>absurd z (by decide +kernel)⟩⟩
   ·exact⟨_,_,rfl,⟨fun _=>⟨_,_,rfl,opt z⟩,fun z=>absurd z (by decide +kernel),fun z=>absurd z (by decide +kernel)⟩⟩
   ·exact⟨_,_,rfl,⟨fun z=>absurd z (by decide +kernel),fun z=>absurd z (by decide +kernel),fun z=>absurd z (by decide +kernel)⟩⟩
   ·exact⟨_,_,rfl,⟨fun z=>absurd z (by decide +kernel),fun z=>absurd z (by decide +kernel),fun z=>absurd z (by decide +kernel)⟩⟩
   ·exact⟨_,_,rfl,⟨fun z=>absurd z (by decide +kernel),fun z=>absurd z (by decide +kernel),fun z=>absurd z (by decide +kernel)⟩⟩
   ·exact⟨_,_,rfl,⟨fun _=>⟨_,_,rfl,ha⟩,fun z=>absurd z (by decide +kernel),fun z=>absurd z (by decide +kernel)⟩⟩
   ·exact⟨_,_,rfl,⟨fun z=>absurd z (by decide +kernel),fun z=>absurd z (by decide +kernel),fun z=>absurd z (by decide +kernel)⟩⟩
  cases n with
  | zero=>exact sim h
  | succ n=>
   rcases h with h | ⟨z,ps,b,rfl,hp,EL,hb⟩ | ⟨z,es,b,rfl,he,Gj,hb⟩ | ⟨b,cs,o,l,rfl,hb,hc,EM,ho,hl⟩ | ⟨k,t,b,o,rfl,hk,ht,hb,ho⟩ | ⟨z,t,b,o,rfl,ht,hb,ho⟩
   ·exact sim h
   ·exact⟨_,_,rfl,⟨fun _=>⟨_,_,rfl,opt z⟩,fun z=>absurd z (by decide +kernel),fun z=>absurd z (by decide +kernel)⟩⟩
   ·exact⟨_,_,rfl,⟨fun _=>⟨_,_,rfl,opt z⟩,fun z=>absurd z (by decide +kernel),fun z=>absurd z (by decide +kernel)⟩⟩
   ·exact⟨_,_,rfl,⟨fun z=>absurd z (by decide +kernel),fun z=>absurd z (by decide +kernel),fun z=>absurd z (by decide +kernel)⟩⟩
   ·exact⟨k,_,rfl,⟨fun z=>absurd z (by rcases hk with rfl | rfl<;>decide +kernel),fun z=>absurd z (by rcases hk with rfl | rfl<;>decide +kernel),fun z=>absurd z (by rcases hk with rfl | rfl<;>decide +kernel)⟩⟩
   ·exact⟨_,_,rfl,⟨fun _=>⟨_,_,rfl,opt z⟩,fun z=>absurd z (by decide +kernel),fun z=>absurd z (by decide +kernel)⟩⟩
 ·exact⟨_,_,rfl,⟨fun z=>absurd z (by decide +kernel),fun _=>⟨e,x,rfl,hx⟩,fun z=>absurd z (by decide +kernel)⟩⟩
theorem cW.told{d:D}(h:cW d):(g0 d).length≤2:=by
 obtain⟨k,r,rfl,sh⟩:=h.ok
 unfold g0
 rw[show D.k (.tup (.str k::r))=k from rfl]
 split
 ·rename_i hk
  have sim:∀d,fZ d→d=.tup (.str k::r)→(ff ((D.tup (.str k::r)).cK 1)).length≤2:=fun d h e=>by
   rcases h with ⟨k',xs,rfl,Fe,hl⟩ | ⟨k',rfl,Fe⟩ | ⟨z,t,rfl,_⟩ | ⟨z,o,t,rfl,_⟩ | ⟨t,z,u,rfl,_⟩ | ⟨t,rfl,_⟩ | ⟨t,u,rfl,_⟩ | ⟨a,t,rfl,ha,_⟩ | ⟨t,rfl,_⟩
   ·rw[←e]
    show((D.items (.tup (xs.map D.str))).filterMap D.txt).length≤2
    exact CZ (List.length_filterMap_le ..) (by show(xs.map D.str).length≤2;rw[CS];exact hl)
   ·cases e;rcases hk with rfl | rfl<;>(rcases Fe with z | z | z<;>exact absurd z (by decide +kernel))
   all_goals (cases e;exact absurd hk (by decide +kernel))
  rcases h with ⟨n,h⟩ | ⟨e,x,e1,_,hx⟩
  ·cases n with
   | zero=>exact sim _ h rfl
   | succ n=>
    rcases h with h | ⟨z,ps,b,e,hp,EL,hb⟩ | ⟨z,es,b,e,he,Gj,hb⟩ | ⟨b,cs,o,l,e,hb,hc,EM,ho,hl⟩ | ⟨k',t,b,o,e,Fe,ht,hb,ho⟩ | ⟨z,t,b,o,e,ht,hb,ho⟩
    ·exact sim _ h rfl
    ·cases e;exact absurd hk (by decide +kernel)
    ·cases e;exact absurd hk (by decide +kernel)
    ·cases e;exact absurd hk (by decide +kernel)
    ·cases e;rcases hk with rfl | rfl<;>(rcases Fe with z | z<;>exact absurd z (by decide +kernel))
    ·cases e;exact absurd hk (by decide +kernel)
  ·cases e1;exact absurd hk (by decide +kernel)
 ·exact Nat.zero_le _
end GS
namespace GS
open PySem PyProof.Rows
open L2 hiding ak cn bj aq pv cZ ay fQ bZ dw dY fR b9 bC cI cH cm ae aa aI aw bG aV cj eF ar cB dk bQ cX bX dZ aL bU aU cw bF dm bz cU aG ba aA eD aN cu bR aB ah aj
open L3
abbrev sR:Stmt:=dz 41
theorem AV:bootBuiltins "list"=some (.type "list"):=by decide +kernel
def gZ (r:D):Prop:=∃k t,r=.tup (.str k::t)∧(k="bound"→∃z,t=[.str z])∧(k="told"→∃(wy:D) (kw:Str) (xs:List Str),t=[wy,.tup [.str kw,.tup (xs.map .str)]])
section
variable{P:Program}{w:World}{K:Fg06}{mg:Str→Option Value}{base:Heap}{f:Addr}{fd:FuncData}
theorem mi:∀ps:List D,(∀p∈ps,∃z e,p=.tup [.str z,e])→(ps.map fun d=>d.cK 0)=(cv ps).map D.str
 | [],_=>rfl
 | p::ps,h=>by
  obtain⟨z,e,rfl⟩:=h p C1
  have:=mi ps fun p hp=>h p (C0 _ hp)
  rw[show cv (.tup [.str z,e]::ps)=z::cv ps from rfl,List.map_cons,List.map_cons,←this]
  rfl
theorem jq (k:Str) (t:List D):gv (.tup (.str k::t))=if k="told" then ff ((D.cK (.tup (.str k::t)) 2).cK 1) else []:=rfl
theorem jH (k:Str) (t:List D):gr (.tup (.str k::t))=if k="bound" then(D.cK (.tup (.str k::t)) 1).txt else none:=rfl
def stX (n:Nat) (d:D):Prop:=∃m,n=m+1∧fY m d
def textOk (K:Fg06) (H:Hp) (Q:VK) (n:Nat) (ds:List D):Prop:=∀p H' rows,H p=none→az H H'→cG K H' p rows→(∀r∈rows,gZ r)→fu rows (aM n ds)→rows.length≤15000000→Q (.ref p) H'
def qX (K:Fg06) (n:Nat):Sp:=fun vs H Q _=>∃(x:V) (nm:D) (ps Sf:List D),vs=[x]∧At K H (.tup [.str "def",nm,.tup ps,.tup Sf]) x∧(∀p∈ps,∃z e,p=.tup [.str z,e])∧ps.length≤1000∧(∀d∈Sf,stX n d)∧Sf.length≤4∧n≤4∧(∀d∈aM n Sf,jU d)∧((aM n Sf).flatMap g0).length≤1000000∧
 ∀r H',az H H'→At K H' (.tup ((yy (cv ps) ((aM n Sf).filterMap bM) ((aM n Sf).flatMap g0)).map D.str)) r→Q r H'
theorem jt:aW ["_law_host","_law_rows","_law_told","_law_row_here","_law_found"] ["_law_host"] (aE sR):=fsX rfl rfl rfl rfl (by decide +kernel)
theorem yH{n lv:Nat}{spT:Sp}(g:fh mg) (F:eX K "_law_own" "_law_own" sR f fd) (dT:Def P w K mg base "_law_text" ["_law_block_here","_law_at"] lv spT)
  (hT:∀(x xa:V) (Sf way:List D) (H:Hp) (Q:VK) (E:XK),At K H (.tup Sf) x→At K H (.tup way) xa→way=[]→(∀d∈Sf,stX n d)→Sf.length≤4→n≤4→(∀d∈aM n Sf,jU d)→textOk K H Q n Sf→spT [x,xa] H Q E):bO P w K mg base fw (lv+1) f fd ["_law_host"] (qX K n):=by
 refine F.hV jt (fun vs H Q E h=>?_) (fun Si A outer s H vs Q E hr h=>?_)
 ·obtain⟨_,_,_,_,rfl,_⟩:=h;rfl
 obtain⟨x,nm,ps,Sf,rfl,hx,EL,Ez,bH,KN,Jq,Hk,Rz,q⟩:=h
 refine⟨_,ah (aA (i:=1) jt.nd rfl (Or.inl rfl) (L3.aK dT hr (CN _) rfl (aa (aC (pv 0)) (aa (aw ae) ae))))
  (ah (aA (i:=2) jt.nd rfl (Or.inl rfl) (aI ae))
  (ah (bR C9 rfl (bF (pv 1)) (aL (i:=3) jt.nd rfl (Or.inl rfl))
   (aj (aN (ar bw (aC (pv 3)) aq (aH _)) (aj (aA (i:=2) jt.nd rfl (Or.inl rfl) (ay fM (pv 2) (aV fq rfl g.nList AV (aa (aC (aC (pv 3))) ae))))) aB)))
  (ah (.mk (L2.iJ (iy:=4) (cl:=[]) (Xs:=["_law_param"]) (Nf:=[]) (js:=[]) ?k rfl (LI.out (dm (aC (pv 0)))) (fun C s0 H0 fp=>LG.out (aL (i:=0) (show(["_law_param"]:List Str).Nodup by decide +kernel) rfl (Or.inl rfl))) (fun C s0 H0 fp=>gb) (fun C s0 H0 fp=>LE.out (bC (r:=iI K) wN (pv 0) ak (fun _ _=>rfl))) jt.nd rfl (Or.inl rfl)))
  (ah (bR C9 rfl (bF (pv 1)) (aL (i:=3) jt.nd rfl (Or.inl rfl))
   (aj (aN (LW.pt (bX (ar bw (aC (pv 3)) aq (aH _)) (bX (ar dJ (aC (pv 3)) (pv 4) rfl) (bQ (ar dJ (aC (pv 3)) (pv 2) rfl)))))
    (aj (ba (cj CW C3 C4 bA (pv 4) (aa (aC (pv 3)) ae)))) aB)))
  (aj (aG (aV b4 rfl g.fm eg (aa (pv 4) ae)))))))),?main⟩
 case k=>
  refine⟨rfl,by decide +kernel,rfl,by decide +kernel,fun y c h=>(by cases h),fun y hy=>?_,rfl,fun j y h=>(by simp at h)⟩
  have EI:([(".0",.local),("_law_param",.local)]:List (Str×NameKind)).lookup y=some .cell∨([(".0",.local),("_law_param",.local)]:List (Str×NameKind)).lookup y=some .free:=hy
  rcases EI with z | z<;>(have m:=CV z;simp at m)
 case main=>
  refine⟨_,rfl,3,_,_,rfl,hx,rfl,fun yb HH=>⟨by decide,fun pe HU=>?_⟩⟩
  have s0:=af HU (.tup [])
  have Gy:At K (upd H pe (.tup [])) (.tup []) (.ref pe):=At.new HU (aD.mpr rfl)
  revert s0 Gy
  generalize upd H pe (.tup [])=H0
  intro s0 Gy
  refine hT yb (.ref pe) Sf [] H0 _ _ (At.same s0 _ _ HH) Gy rfl bH KN Jq Hk fun rp H2 rows Ri s2 hL Lx Jf E8=>?_
  obtain⟨vr,Gb,He⟩:=hL
  have lr:=He.len
  have JI:=s0.trans s2
  refine⟨by decide,fun t0 ht0=>?_⟩
  have s3:=af ht0 (.lst [])
  have c3:upd H2 t0 (.lst []) t0=some (.lst []):=ag
  revert s3 c3
  generalize upd H2 t0 (.lst [])=H3
  intro s3 c3
  have Ff:=JI.trans s3
  have Ha:=s3 _ _ Gb
  have Nc:=ai.same s3 _ _ He
  have tot:(rows.flatMap gv).length≤1000000:=by rw[Jf.t];exact Rz
  refine⟨_,rfl,rp,rfl,⟨vr,br.of Ha⟩,fo (K:=K) (a:=rp) (xs:=vr) (fun i σ H'=>∃tl o3,σ=[some x,some (.ref rp),some (.ref tl),o3,none]∧az H3 H'∧H' tl=some (.lst (((rows.take i).flatMap gv).map V.str))) ⟨t0,none,rfl,az.refl _,c3⟩ (fun i σ H' _ h=>by obtain⟨_,_,_,sS,_⟩:=h;exact br.of (sS _ _ Ha)) ?_ ?_⟩
  ·rintro i v σ H' hv ⟨tl,o3,rfl,sS,GX⟩
   have hi:i < rows.length:=by rw[←lr];exact(CM.mp hv).1
   obtain⟨v',ED,ER⟩:=ai.get (i:=i) Nc (d:=rows[i]) (by simp[hi])
   have ev:v'=v:=by rw[hv] at ED;cases ED;rfl
   subst ev
   obtain⟨k,t,er,RG,Ks⟩:=Lx rows[i] (C2 hi)
   have Ey:At K H' (.tup (.str k::t)) v':=by rw[←er];exact At.same sS _ _ ER
   have tk:(rows.take (i+1)).flatMap gv=(rows.take i).flatMap gv++gv (.tup (.str k::t)):=by
    rw[C8,List.flatMap_append,C5 hi,er,Option.toList_some,List.flatMap_cons,List.flatMap_nil,List.append_nil]
   have bound:((rows.take (i+1)).flatMap gv).length≤1000000:=by
    refine CZ ?_ tot
    have:rows.flatMap gv=(rows.take (i+1)).flatMap gv++(rows.drop (i+1)).flatMap gv:=by rw[←List.flatMap_append,List.take_append_drop]
    rw[this,CK]
    omega
   refine⟨_,rfl,0,_,_,rfl,Ey,rfl,fun yk EB=>?_⟩
   rw[av.mp EB]
   refine⟨rfl,_,rfl,?_⟩
   rw[dF]
   by_cases c:k="told"
   ·rw[CJ c]
    obtain⟨wy,kw,xs,rfl⟩:=Ks c
    have et:gv (.tup [.str k,wy,.tup [.str kw,.tup (xs.map .str)]])=xs:=by
     rw[jq,CQ c]
     exact ia xs
    rw[et] at tk
    rw[tk,CK] at bound
    refine bJ ⟨_,rfl,_,rfl,2,_,_,rfl,Ey,rfl,fun y2 Fl=>⟨1,_,_,rfl,Fl,rfl,fun y1 E5=>?_⟩⟩
    obtain⟨pn,vn,rfl,sqn,GJ⟩:=aP.mp E5
    have evn:=(ai.strs xs vn).mp GJ
    subst evn
    refine⟨pn,_,rfl,.inr sqn,fun l hl=>?_⟩
    have s5:=af hl (.lst (xs.map V.str))
    refine⟨tl,l,_,_,rfl,rfl,s5 _ _ GX,ag,by rw[CS,CS];exact ny (by omega),fun p6 Hb=>⟨p6,_,rfl,(sS.trans s5).trans (af Hb _),?_⟩⟩
    rw[ag,tk,List.map_append]
   ·rw[CI c]
    refine bg ⟨tl,_,rfl,sS,?_⟩
    have et:gv (.tup (.str k::t))=[]:=by
     rw[jq,CO c]
    rw[tk,et,List.append_nil];exact GX
  ·rintro σ H' ⟨tl,o3,rfl,sS,GX⟩
   rw[lr,List.take_length] at GX
   generalize hTold:rows.flatMap gv=told at GX tot
   have sH':=Ff.trans sS
   refine⟨_,rfl,2,_,_,rfl,At.same sH' _ _ hx,rfl,fun yp hyp=>?_⟩
   obtain⟨ap,Sh,rfl,sqp,FJ⟩:=aP.mp hyp
   have epr:=mi ps EL
   refine⟨ap,rfl,⟨Sh,sqp⟩,j9 (K:=K) (a:=ap) (i0:=0) (ds:=ps) sqp FJ (fun d hd=>by obtain⟨z,e,rfl⟩:=EL d hd;exact⟨_,_,rfl,rfl⟩) (by omega) fun np H5 EF s5 ⟨vn,Gh,Ng⟩=>?_⟩
   rw[epr] at Ng
   have evn:=(ai.strs _ _).mp Ng
   subst evn
   have Hn:H np=none:=none_of sH' EF
   have sA:az H H5:=sH'.trans s5
   have Gq:=s5 _ _ (sS _ _ Ha)
   have O3:=s5 _ _ GX
   have FE:=ai.same (sS.trans s5) _ _ Nc
   have nrn:rp≠np:=fun z=>by
    have:=sS _ _ Ha
    rw[z,EF] at this;cases this
   have ntn:tl≠np:=fun z=>by rw[z,EF] at GX;cases GX
   have l0:(cv ps).length≤1000:=by
    have:(cv ps).length≤ps.length:=List.length_filterMap_le ..
    omega
   have lf:∀i,((rows.take i).filterMap gr).length≤15000000:=fun i=>by
    have a1:((rows.take i).filterMap gr).length≤(rows.take i).length:=List.length_filterMap_le ..
    rw[De] at a1
    omega
   have lfold:∀(bs found:List Str),(bs.foldl (bp told) found).length≤found.length+bs.length:=fun bs=>by
    induction bs with
    | nil=>intro found;exact CN _
    | cons b bs ih=>
     intro found
     rw[List.foldl_cons,CY]
     have h1:=ih (bp told found b)
     have h2:(bp told found b).length≤found.length+1:=by
      unfold bp
      split
      ·omega
      ·rw[CK,List.length_singleton];exact CN _
     omega
   have flat:∀l:List Str,(l.map V.str).all ik=true:=fun l=>by rw[List.all_map,List.all_eq_true];exact fun _ _=>rfl
   refine⟨_,rfl,rp,rfl,⟨vr,br.of Gq⟩,fo (K:=K) (a:=rp) (xs:=vr) (fun i σ H'=>(∃o3,σ=[some x,some (.ref rp),some (.ref tl),o3,some (.ref np)])∧az H H'∧bN H5 H'∧H' rp=some (.lst vr)∧H' tl=some (.lst (told.map V.str))∧H' np=some (.lst ((((rows.take i).filterMap gr).foldl (bp told) (cv ps)).map V.str))) ⟨⟨_,rfl⟩,sA,fun _ _ e=>e,Gq,O3,Gh⟩ (fun i σ H' _ h=>by obtain⟨_,_,_,hb,_⟩:=h;exact br.of hb) ?_ ?_⟩
   ·rintro i v σ H6 hv ⟨⟨o6,rfl⟩,sB,sT,IA,E6,FW⟩
    have KP:i < rows.length:=by rw[←lr];exact(CM.mp hv).1
    obtain⟨v',ED,ER⟩:=ai.get (i:=i) FE (d:=rows[i]) (by simp[KP])
    have ev:v'=v:=by rw[hv] at ED;cases ED;rfl
    subst ev
    obtain⟨k,t,er,RG,Ks⟩:=Lx rows[i] (C2 KP)
    have Ey:At K H6 (.tup (.str k::t)) v':=by rw[←er];exact At.ax sT _ _ ER
    have tk:(rows.take (i+1)).filterMap gr=(rows.take i).filterMap gr++(gr (.tup (.str k::t))).toList:=by
     rw[C8,List.filterMap_append,C5 KP,er]
     congr 1
    refine⟨_,rfl,0,_,_,rfl,Ey,rfl,fun yk EB=>?_⟩
    rw[av.mp EB]
    refine⟨rfl,_,rfl,?_⟩
    rw[dF]
    by_cases c:k="bound"
    ·rw[CJ c]
     obtain⟨z,rfl⟩:=RG c
     have eb:gr (.tup [.str k,.str z])=some z:=by rw[jH,CQ c];rfl
     have Om:((rows.take (i+1)).filterMap gr).foldl (bp told) (cv ps)=bp told (((rows.take i).filterMap gr).foldl (bp told) (cv ps)) z:=by
      rw[tk,eb,Option.toList_some,List.foldl_append];rfl
     have bnd:(((rows.take i).filterMap gr).foldl (bp told) (cv ps)).length≤15001000:=by
      have a1:=lfold ((rows.take i).filterMap gr) (cv ps)
      have a2:=lf i
      omega
     rw[Om]
     revert bnd FW
     generalize ((rows.take i).filterMap gr).foldl (bp told) (cv ps)=found
     intro FW bnd
     refine bJ ⟨_,rfl,1,_,_,rfl,Ey,rfl,fun y1 E5=>?_⟩
     rw[av.mp E5]
     refine⟨_,rfl,np,_,rfl,.inl (br.of FW),rfl,flat found,_,rfl,?_⟩
     rw[hX]
     unfold bp
     by_cases c1:z∈found
     ·rw[CJ c1]
      refine bg (bg ⟨⟨_,rfl⟩,sB,sT,IA,E6,?_⟩)
      rw[CQ (.inl c1)];exact FW
     ·rw[CI c1]
      refine bJ ⟨_,rfl,1,_,_,rfl,Ey,rfl,fun y2 Fl=>?_⟩
      rw[av.mp Fl]
      refine⟨_,rfl,tl,_,rfl,.inl (br.of E6),rfl,flat told,_,rfl,?_⟩
      rw[hX]
      by_cases c2:z∈told
      ·rw[CJ c2]
       refine bg ⟨⟨_,rfl⟩,sB,sT,IA,E6,?_⟩
       rw[CQ (.inr c2)];exact FW
      ·rw[CI c2]
       refine bJ ⟨_,rfl,.inl ⟨rfl,_,br.of FW⟩,_,rfl,1,_,_,rfl,Ey,rfl,fun y3 OV=>?_⟩
       rw[av.mp OV]
       refine⟨np,_,_,rfl,rfl,FW,by rw[CS];exact ny (by omega),⟨_,rfl⟩,bh Hn sB,sT.trans (aS FW),?_,?_,?_⟩
       ·rw[aF nrn];exact IA
       ·rw[aF ntn];exact E6
       ·rw[ag,CO fun e=>e.elim c1 c2,List.map_append];rfl
    ·rw[CI c]
     have eb:gr (.tup (.str k::t))=none:=by rw[jH,CO c]
     refine bg (bg ⟨⟨_,rfl⟩,sB,sT,IA,E6,?_⟩)
     rw[tk,eb,Option.toList_none,List.append_nil];exact FW
   ·rintro σ H6 ⟨⟨o6,rfl⟩,sB,sT,IA,E6,FW⟩
    rw[lr,List.take_length] at FW
    refine⟨_,rfl,np,_,rfl,.inl ⟨br.of FW,fun l hl=>?_⟩⟩
    refine q _ _ (sB.trans (af hl _)) ?_
    unfold yy
    rw[←Jf.b,←Jf.t,hTold]
    exact At.new hl ((ai.strs _ _).mpr rfl)
end
end GS
namespace L2
open PySem PySem.Spec PyProof.Rows
section
variable{κ:Type} [DecidableEq κ]
def dj (Sd:List (κ×V)) (k:κ):Option V:=(Sd.find? fun kv=>decide (kv.1=k)).map (·.2)
def putK (Sd:List (κ×V)) (k:κ) (v:V):List (κ×V):=
 if(Sd.any fun kv=>decide (kv.1=k))=true then Sd.map (fun kv=>if kv.1=k then(kv.1,v) else kv) else Sd++[(k,v)]
theorem bK{p:κ×V}{r:List (κ×V)}{k:κ}(e:p.1=k):dj (p::r) k=some p.2:=by simp[dj,List.find?_cons,e]
theorem au{p:κ×V}{r:List (κ×V)}{k:κ}(e:¬p.1=k):dj (p::r) k=dj r k:=by simp[dj,List.find?_cons,e]
theorem iu (k:κ):∀Sd:List (κ×V),(Sd.any fun kv=>decide (kv.1=k))=(dj Sd k).isSome
 | []=>rfl
 | p::r=>by
  rw[List.any_cons]
  by_cases e:p.1=k
  ·simp only[bK e,decide_eq_true e,Bool.true_or,Option.isSome_some]
  ·rw[au e,CI e,Bool.false_or];exact iu k r
theorem pM (k j:κ) (y:V):∀Sd:List (κ×V),dj (Sd.map fun kv=>if kv.1=k then(kv.1,y) else kv) j=(dj Sd j).map fun x=>if j=k then y else x
 | []=>rfl
 | p::r=>by
  have ih:=pM k j y r
  rw[List.map_cons]
  by_cases h:p.1=k
  ·rw[CQ h]
   by_cases e:p.1=j
   ·rw[bK (p:=(p.1,y)) e,bK e,Option.map_some,CQ (e.symm.trans h)]
   ·rw[au (p:=(p.1,y)) e,au e,ih]
  ·rw[CO h]
   by_cases e:p.1=j
   ·rw[bK (p:=p) e,bK e,Option.map_some,CO (fun z=>h (e.trans z))]
   ·rw[au (p:=p) e,au e,ih]
theorem nF (k j:κ) (y:V):∀Sd:List (κ×V),dj Sd k=none→dj (Sd++[(k,y)]) j=if j=k then some y else dj Sd j
 | [],_=>by
  by_cases e:k=j
  ·rw[CQ e.symm];exact bK (p:=(k,y)) e
  ·rw[CO (fun z=>e z.symm)];exact au (p:=(k,y)) e
 | p::r,hn=>by
  rw[List.cons_append]
  have hk:¬p.1=k:=fun z=>by rw[bK z] at hn;cases hn
  rw[au hk] at hn
  have ih:=nF k j y r hn
  by_cases e:p.1=j
  ·rw[bK e,bK e,CO (fun z=>hk (e.trans z))]
  ·rw[au e,au e,ih]
theorem pL (Sd:List (κ×V)) (k j:κ) (y:V):dj (putK Sd k y) j=if j=k then some y else dj Sd j:=by
 unfold putK
 by_cases a:(Sd.any fun kv=>decide (kv.1=k))=true
 ·rw[CQ a,pM]
  rw[iu] at a
  by_cases e:j=k
  ·obtain⟨x,hx⟩:=Option.isSome_iff_exists.mp a
   rw[CQ e,e,hx,Option.map_some,CQ rfl]
  ·rw[CO e]
   cases dj Sd j with
   | none=>rfl
   | some x=>rw[Option.map_some,CO e]
 ·rw[CO a]
  refine nF k j y Sd ?_
  rw[iu] at a
  cases q:dj Sd k with
  | none=>rfl
  | some x=>rw[q] at a;exact(a rfl).elim
theorem gD (Sd:List (κ×V)) (k:κ) (v:V):(putK Sd k v).length≤Sd.length+1:=by
 unfold putK
 split
 ·rw[CS];omega
 ·rw[CK,CY,List.length_nil];omega
theorem vT{Sd:List (κ×V)}{k:κ}(v:V) (h:dj Sd k=none):putK Sd k v=Sd++[(k,v)]:=by
 unfold putK
 rw[iu,h]
 exact CO (by decide)
theorem gw.kD{o:Option V}{u:Option Value}(r:gw o u):o.isSome=u.isSome:=by
 cases o with
 | none=>cases u with
  | none=>rfl
  | some _=>exact(show False from r).elim
 | some _=>cases u with
  | none=>exact(show False from r).elim
  | some _=>rfl
theorem gw.getD{o:Option V}{u:Option Value}{d:V}{d':Value}(r:gw o u) (rd:RelV d d'):RelV (o.getD d) (u.getD d'):=by
 cases o with
 | none=>cases u with
  | none=>exact rd
  | some _=>exact(show False from r).elim
 | some _=>cases u with
  | none=>exact(show False from r).elim
  | some _=>exact r
theorem KV.val{Sd:List (κ×V)}{vs:List (κ×Value)}(r:KV Sd vs) (k:κ):gw (dj Sd k) (valueAt vs k):=by
 unfold KV at r
 induction r with
 | nil=>exact True.intro
 | @cons p q ps qs h t ih=>
  obtain⟨h1,h2⟩:=h
  by_cases e:p.1=k
  ·have e':q.1=k:=h1.symm.trans e
   have b:valueAt (q::qs) k=some q.2:=by simp[valueAt,List.find?_cons,e']
   rw[bK e,b];exact h2
  ·have e':¬q.1=k:=fun z=>e (h1.trans z)
   have b:valueAt (q::qs) k=valueAt qs k:=by simp[valueAt,List.find?_cons,e']
   rw[au e,b];exact ih
theorem KV.any{Sd:List (κ×V)}{vs:List (κ×Value)}(r:KV Sd vs) (k:κ):(Sd.any fun kv=>decide (kv.1=k))=vs.any fun kv=>decide (kv.1=k):=by
 unfold KV at r
 induction r with
 | nil=>rfl
 | cons h t ih=>rw[List.any_cons,List.any_cons,ih,h.1]
theorem KV.z9{Sd:List (κ×V)}{vs:List (κ×Value)}(r:KV Sd vs) (k:κ){y:V}{u:Value}(ry:RelV y u):
  KV (Sd.map fun kv=>if kv.1=k then(kv.1,y) else kv) (vs.map fun kv=>if kv.1=k then(kv.1,u) else kv):=by
 unfold KV at r ⊢
 induction r with
 | nil=>exact .nil
 | @cons p q ps qs h t ih=>
  rw[List.map_cons,List.map_cons]
  refine .cons ?_ ih
  obtain⟨h1,h2⟩:=h
  by_cases e:p.1=k
  ·rw[CQ e,CQ (h1.symm.trans e)];exact⟨h1,ry⟩
  ·rw[CO e,CO (fun z=>e (h1.trans z))];exact⟨h1,h2⟩
theorem KV.put{Sd:List (κ×V)}{vs:List (κ×Value)}(r:KV Sd vs) (k:κ){y:V}{u:Value}(ry:RelV y u):KV (putK Sd k y) (stored vs k u):=by
 unfold putK stored
 rw[r.any k]
 by_cases e:(vs.any fun kv=>decide (kv.1=k))=true
 ·rw[CQ e,CQ e];exact r.z9 k ry
 ·rw[CO e,CO e];exact Paired.snoc r ⟨rfl,ry⟩
theorem KV.length{Sd:List (κ×V)}{vs:List (κ×Value)}(r:KV Sd vs):Sd.length=vs.length:=Paired.length r
end
theorem mH{P:Program}{w:World}{k:Key}{u:Value}(r:RelV (kV k) u):(b7 P w).is k u=true:=by
 cases k with
 | inl i=>obtain⟨t,e⟩:=(show ∃t,u=Value.int i t from r);subst e;exact qk P w i t
 | inr x=>obtain⟨t,e⟩:=(show ∃t,u=Value.str x t from r);subst e;exact qj P w x t
theorem nW{P:Program}{w:World}:∀{ks:List Key}{us:List Value},Vals (ks.map kV) us→ItemsAre (b7 P w) ks us
 | [],_,r=>by rw[List.map_nil] at r;cases r;exact .nil
 | k::ks,_,r=>by
  rw[List.map_cons] at r
  cases r with
  | cons h t=>exact .cons (mH h) (nW t)
abbrev KT (H:Hp):List (List Key×V)→List (List Key×Addr×Value)→Prop:=Paired fun p q=>p.1=q.1∧H q.2.1=some (.tup (p.1.map kV))∧RelV p.2 q.2.2
theorem KT.val{H:Hp}{Sd:List (List Key×V)}{xs:List (List Key×Addr×Value)}(r:KT H Sd xs) (k:List Key):gw (dj Sd k) ((atKey xs k).map (·.2)):=by
 induction r with
 | nil=>exact True.intro
 | @cons p q ps qs h t ih=>
  obtain⟨h1,_,h2⟩:=h
  by_cases e:p.1=k
  ·have e':q.1=k:=h1.symm.trans e
   have b:atKey (q::qs) k=some q.2:=by simp[atKey,List.find?_cons,e']
   rw[bK e,b];exact h2
  ·have e':¬q.1=k:=fun z=>e (h1.trans z)
   have b:atKey (q::qs) k=atKey qs k:=by simp[atKey,List.find?_cons,e']
   rw[au e,b];exact ih
theorem KT.z9{H:Hp}{Sd:List (List Key×V)}{xs:List (List Key×Addr×Value)}(r:KT H Sd xs) (k:List Key){y:V}{u:Value}(ry:RelV y u):
  KT H (Sd.map fun kv=>if kv.1=k then(kv.1,y) else kv) (xs.map (putAt k u)):=by
 induction r with
 | nil=>exact .nil
 | @cons p q ps qs h t ih=>
  rw[List.map_cons,List.map_cons]
  refine .cons ?_ ih
  obtain⟨h1,h2,h3⟩:=h
  unfold putAt
  by_cases e:p.1=k
  ·rw[CQ e,CQ (h1.symm.trans e)];exact⟨h1,h2,ry⟩
  ·rw[CO e,CO (fun z=>e (h1.trans z))];exact⟨h1,h2,h3⟩
theorem KT.put{H:Hp}{Sd:List (List Key×V)}{xs:List (List Key×Addr×Value)}(r:KT H Sd xs) (k:List Key){b:Addr}{y:V}{u:Value}(hb:H b=some (.tup (k.map kV))) (ry:RelV y u):
  KT H (putK Sd k y) (storedH xs k b u):=by
 have e:(Sd.any fun kv=>decide (kv.1=k))=(atKey xs k).isSome:=by
  rw[iu,(r.val k).kD,Option.isSome_map]
 unfold putK storedH
 rw[e]
 by_cases q:(atKey xs k).isSome=true
 ·rw[CQ q,CQ q];exact r.z9 k ry
 ·rw[CO q,CO q];exact Paired.snoc r ⟨rfl,hb,ry⟩
theorem KT.keeps{H H':Hp}{Sd:List (List Key×V)}{xs:List (List Key×Addr×Value)}(r:KT H Sd xs) (ht:∀b ys,H b=some (.tup ys)→H' b=some (.tup ys)):KT H' Sd xs:=
 Paired.AB r fun _ _ z=>⟨z.1,ht _ _ z.2.1,z.2.2⟩
section
variable{P:Program}{w:World}{H:Hp}{h:Heap}{a:Addr}
theorem sZ{u:HO}(ok:ji P w H h) (e:Rd H a u):dG P w H h a u:=e.ok ok
theorem oh{Sd:List (Key×V)}(ok:ji P w H h) (e:Rd H a (.dK Sd)):Sd.length≤sizeLine∧(a == sysModules)=false∧∃vs,KV Sd vs∧h.DictOf (b7 P w) a vs:=
 show dG P w H h a (.dK Sd) from sZ ok e
theorem tJ{Sd:List (Key×V)}(ok:ji P w H h) (e:H a=some (.dK Sd)):Sd.length≤sizeLine∧(a == sysModules)=false∧∃vs,KV Sd vs∧h.DictOf (b7 P w) a vs:=oh ok (.inl e)
theorem mG{ks:List Key}(ok:ji P w H h) (e:H a=some (.tup (ks.map kV))):(tupleKind (b7 P w)).is h ks a:=by
 obtain⟨_,Se,r,o,h1,h2,n,h3⟩:=(show dG P w H h a (.tup (ks.map kV)) from ok a _ e)
 exact⟨o,Se.toArray,n,h1,h2,h3,by simpa using nW r⟩
theorem og{Sd:List (List Key×V)}(ok:ji P w H h) (e:Rd H a (.dT Sd)):Sd.length≤sizeLine∧(a == sysModules)=false∧
  ∃xs,KT H Sd xs∧h.DictOfH (tupleKind (b7 P w)) a xs:=by
 obtain⟨z,y,xs,r,o,es,ep,h1,h2,h3,h4,h5⟩:=(show dG P w H h a (.dT Sd) from sZ ok e)
 refine⟨z,y,xs,r,o,es,ep,h1,h2,h3,h4,fun x hx=>?_,h5⟩
 have all:∀{l:List (List Key×V)}{m:List (List Key×Addr×Value)},KT H l m→∀x∈m,(tupleKind (b7 P w)).is h x.1 x.2.1:=by
  intro l m q
  induction q with
  | nil=>intro x hx;exact nomatch hx
  | @cons p q ps qs hq t ih=>
   intro x hx
   rcases List.mem_cons.mp hx with e | hx
   ·subst e
    exact mG ok (by rw[←hq.1];exact hq.2.1)
   ·exact ih x hx
 exact all r x hx
theorem Cq{Sd:List (List Key×V)}(ok:ji P w H h) (e:H a=some (.dT Sd)):Sd.length≤sizeLine∧(a == sysModules)=false∧
  ∃xs,KT H Sd xs∧h.DictOfH (tupleKind (b7 P w)) a xs:=og ok (.inl e)
end
def kf (H:Hp) (a:Addr) (y:V) (r:Option V):Prop:=
 (∃Sd k,Rd H a (.dK Sd)∧y=kV k∧r=dj Sd k)∨∃Sd k b,Rd H a (.dT Sd)∧y=.ref b∧H b=some (.tup (k.map kV))∧r=dj Sd k
def xr (H:Hp) (a:Addr) (y v:V) (H':Hp):Prop:=
 (∃Sd k,H a=some (.dK Sd)∧y=kV k∧Sd.length < sizeLine∧H'=upd H a (.dK (putK Sd k v)))∨
 ∃Sd k b,H a=some (.dT Sd)∧y=.ref b∧H b=some (.tup (k.map kV))∧Sd.length < sizeLine∧H'=upd H a (.dT (putK Sd k v))
theorem kf.k{H:Hp}{a:Addr}{Sd:List (Key×V)}{k:Key}(e:H a=some (.dK Sd)):kf H a (kV k) (dj Sd k):=.inl ⟨Sd,k,.inl e,rfl,rfl⟩
theorem xr.k{H:Hp}{a:Addr}{Sd:List (Key×V)}{k:Key}{v:V}(e:H a=some (.dK Sd)) (hl:Sd.length < sizeLine):xr H a (kV k) v (upd H a (.dK (putK Sd k v))):=.inl ⟨Sd,k,e,rfl,hl,rfl⟩
section
variable{X:Cx}{Sb:List (Addr×Obj)}{σ:St}{H:Hp}{s:Shared}{a:Addr}{y v:V}{u r:Value}{o:Option V}{A:Around}{E:Value→Shared→Prop}
theorem uK{Q:Value→Shared→Prop}(hu:A.units+1 < cLine) (I:Inv X Sb σ H s) (g:kf H a y (some v)) (ry:RelV y u) (h:∀w' s',Inv X Sb σ H s'→RelV v w'→Q w' s'):
  wpAny (model X.prog X.w) A (getItem (.ref a) u) Q E s:=by
 rcases g with ⟨Sd,k,e,ey,l⟩ | ⟨Sd,k,b,e,ey,eb,l⟩
 ·subst ey
  obtain⟨z,hd,vs,rel,dd⟩:=oh I.bH e
  obtain⟨w',hw,E4⟩:=gw.some_of (v:=v) (o:=valueAt vs k) (by rw[l];exact rel.val k)
  exact wpAny_getItem_of (mH ry) dd.mapOf hw (h w' _ (I.tok _) E4)
 ·subst ey
  cases (show u=Value.ref b from ry)
  obtain⟨z,hd,xs,rel,dd⟩:=og I.bH e
  obtain⟨w',hw,E4⟩:=gw.some_of (v:=v) (o:=(atKey xs k).map (·.2)) (by rw[l];exact rel.val k)
  obtain⟨p,hp,EC⟩:=Option.map_eq_some_iff.mp hw
  refine wpAny_getItem_heap (tupleKind_room_in1 hu) (mG I.bH eb) dd hp ?_
  rw[EC]
  exact h w' _ (I.tok _) E4
theorem d_in{Q:Value→Shared→Prop}(hu:A.units+1 < cLine) (I:Inv X Sb σ H s) (g:kf H a y o) (ry:RelV y u) (h:∀s',Inv X Sb σ H s'→Q (.bool o.isSome) s'):
  wpAny (model X.prog X.w) A (compareOp .In u (.ref a)) Q E s:=by
 rcases g with ⟨Sd,k,e,ey,l⟩ | ⟨Sd,k,b,e,ey,eb,l⟩
 ·subst ey
  obtain⟨z,hd,vs,rel,dd⟩:=oh I.bH e
  refine wpAny_in_of (mH ry) hd dd.mapOf ?_
  rw[←(rel.val k).kD,←l]
  exact h _ (I.tok _)
 ·subst ey
  cases (show u=Value.ref b from ry)
  obtain⟨z,hd,xs,rel,dd⟩:=og I.bH e
  refine wpAny_in_heap (tupleKind_room_in1 hu) (mG I.bH eb) hd dd ?_
  have q:=(rel.val k).kD
  rw[Option.isSome_map] at q
  rw[←q,←l]
  exact h _ (I.tok _)
theorem lH{h':Heap}{t':Nat}{ob:HO}(I:Inv X Sb σ H s) (mu:CC (H a)) (hs:Heap.SameBut a s.heap h') (he:∃q,h'.get? a=some q) (new:dG X.prog X.w (upd H a ob) h' a ob):
  Inv X Sb σ (upd H a ob) { s with heap:=h',toks:=t' }:=
 I.write (x:=a) (e:=a) mu (.inl rfl) (fun b q hb z=>(hs.2 b hb).trans z) he new
theorem pC{P:Program}{w:World}{H':Hp}{h':Heap}{Sd:List (Key×V)}{vs:List (Key×Value)}(z:Sd.length≤sizeLine) (hd:(a == sysModules)=false) (rel:KV Sd vs) (dd:h'.DictOf (b7 P w) a vs):
  dG P w H' h' a (.dK Sd):=⟨z,hd,vs,rel,dd⟩
theorem uJ{H':Hp}{Q:Unit→Shared→Prop}(hu:A.units+1 < cLine) (I:Inv X Sb σ H s) (g:xr H a y v H') (ry:RelV y u) (rv:RelV v r) (h:∀s',Inv X Sb σ H' s'→Q () s'):
  wpAny (model X.prog X.w) A (setItem (.ref a) u r) Q E s:=by
 rcases g with ⟨Sd,k,e,ey,l,eH⟩ | ⟨Sd,k,b,e,ey,eb,l,eH⟩
 ·subst ey eH
  obtain⟨z,hd,vs,rel,dd⟩:=tJ I.bH e
  have hz:vs.length≤sizeLine:=by rw[←rel.length];exact z
  have hl:(putK Sd k v).length≤sizeLine:=by have:=gD Sd k v;omega
  refine wpAny_setItem_pairs (hsz:=hz) (mH ry) dd fun h' IL hs=>h _ ?_
  have he:∃q,h'.get? a=some q:=let ⟨q,_,_,hq,_⟩:=IL;⟨q,hq⟩
  exact lH I (by rw[e];exact True.intro) hs he (pC hl hd (rel.put k rv) IL)
 ·subst ey eH
  cases (show u=Value.ref b from ry)
  obtain⟨z,hd,xs,rel,dd⟩:=Cq I.bH e
  have hz:xs.length≤sizeLine:=by rw[←Paired.length rel];exact z
  have hl:(putK Sd k v).length≤sizeLine:=by have:=gD Sd k v;omega
  refine wpAny_setItem_heap (hsz:=hz) (tupleKind_room_in1 hu) (mG I.bH eb) dd fun h' IL hs=>h _ ?_
  obtain⟨q,es,ep,hq,h2,h3,h4,_,h5⟩:=IL
  refine lH I (by rw[e];exact True.intro) hs ⟨q,hq⟩ ⟨hl,hd,_,(rel.put k eb rv).keeps fun c ys ec=>?_,q,es,ep,hq,h2,h3,h4,h5⟩
  rw[aF (Cj ec e (fun z=>nomatch z))]
  exact ec
end
section
variable{X:Cx}{Sb:List (Addr×Obj)}{σ:St}{H:Hp}{s:Shared}{a:Addr}{Sd:List (Key×V)}{k:Key}{u:Value}{A:Around}{E:Value→Shared→Prop}
end
def A1 (i:Expr):Prop:=∀ov iv,subscripted i false ov iv=operate [ov,iv] (getItem ov iv)
theorem xM{prog:Program}{w:World}{A:Around}{E:Value→Shared→Prop}{s:Shared}{env:Env}{value slice:Expr}{pos:Pos}{T id:String}{Q:Value→Shared→Prop}
  (hl:typeLookup (.type T) "__getitem__"=pure (some (.builtin id))) (hs:A1 slice)
  (h:wpAny (model prog w) A (eval value env) (fun o s₁=>wpAny (model prog w) A (eval slice env) (fun i s₂=>s₂.TypeIs o T∧wpAny (model prog w) A (getItem o i) Q E s₂) E s₁) E s):
  wpAny (model prog w) A (eval (.Subscript value slice pos) env) Q E s:=by
 refine Subscript_ (wpAny_mono h (fun o s₁ h₁=>wpAny_mono h₁ (fun i s₂ h₂=>?_) fun _ _ x=>x) fun _ _ x=>x)
 obtain⟨hT,h₂⟩:=h₂
 unfold subscriptTail
 refine CG ?_
 rw[getitemInPython_of_ne hT.not_modules]
 refine CG (wpAny_specialOf hT hl ?_)
 have fin:wpAny (model prog w) A (subscripted slice false o i) (fun r s₃=>wpAny (model prog w) A (letTemporaryGo value o r >>= fun _=>pure r) Q E s₃) E s₂:=by
  rw[hs o i]
  exact wpAny_operating (wpAny_mono h₂ (fun r s₃ h₃=>CG (wpAny_letTemporaryGo (CH h₃))) fun _ _ x=>x)
 first
  | exact CH (CG fin)
  | exact CG (CH (CG fin))
  | exact CG fin
theorem qx{X:Cx}{Sb:List (Addr×Obj)}{σ:St}{H:Hp}{s:Shared}{a:Addr}{y:V}{o:Option V}(I:Inv X Sb σ H s) (g:kf H a y o):s.TypeIs (.ref a) "dict":=by
 rcases g with ⟨Sd,k,e,_,_⟩ | ⟨Sd,k,b,e,_,_,_⟩
 ·obtain⟨_,_,vs,_,dd⟩:=oh I.bH e
  exact dd.typeIs
 ·obtain⟨_,_,xs,_,dd⟩:=og I.bH e
  exact dd.typeIs
def zd (td ty:TE):TE:=fun σ H Q=>td σ H fun x H1=>ty σ H1 fun y H2=>∃a v,x=.ref a∧kf H2 a y (some v)∧Q v H2
def BB (ty td:TE):TE:=fun σ H Q=>ty σ H fun y H1=>td σ H1 fun x H2=>∃a o,x=.ref a∧kf H2 a y o∧Q (.bl o.isSome) H2
def BO (td ty tv:TE):TS:=fun D σ H=>tv σ H fun v H1=>td σ H1 fun x H2=>ty σ H2 fun y H3=>∃a H4,x=.ref a∧xr H3 a y v H4∧D.nx σ H4
section
variable{X:Cx}{o i e value:Expr}{pos pos' tpos:Pos}{td ty tv:TE}
theorem oX (hu:X.A.units+1 < cLine) (ho:PE X o td) (hi:PE X i ty) (hs:A1 i):PE X (.Subscript o i pos) (zd td ty):=by
 intro Sb s σ H Q I h
 refine xM PySem.F.slot_dict_getitem.lookup hs (cx (ho Sb s σ H _ I h) fun u s1 ⟨x,H1,I1,rx,q1⟩=>cx (hi Sb s1 σ H1 _ I1 q1) fun iv s2 zq=>?_)
 obtain⟨y,H2,I2,ry,a,v,ex,g,q2⟩:=zq
 subst ex
 obtain rfl:u=Value.ref a:=rx
 exact⟨qx I2 g,uK hu I2 g ry fun w' s3 I3 E4=>⟨v,H2,I3,E4,q2⟩⟩
theorem Ag (hu:X.A.units+1 < cLine) (hi:PE X i ty) (ho:PE X o td):PC X .In i o (BB ty td):=by
 intro Sb s σ H Q I h
 refine cx (hi Sb s σ H _ I h) fun iv s1 ⟨y,H1,I1,ry,q1⟩=>cx (ho Sb s1 σ H1 _ I1 q1) fun u s2 zq=>?_
 obtain⟨x,H2,I2,rx,a,ov,ex,g,q2⟩:=zq
 subst ex
 obtain rfl:u=Value.ref a:=rx
 exact d_in hu I2 g ry fun s3 I3=>⟨.bl ov.isSome,H2,I3,rfl,q2⟩
theorem yi (hu:X.A.units+1 < cLine) (ho:PE X o td) (hi:PE X i ty) (hv:PE X value tv) (hs:swapsWith value (some (.Subscript o i pos')) pos.line X.env=pure false):
  PS X (.Assign [.Subscript o i pos'] value pos) (BO td ty tv):=by
 intro Sb s σ H D I h
 refine wpAny_Assign_Subscript (cx (hv Sb s σ H _ I h) fun r s1 ⟨v,H1,I1,rv,q1⟩=>cx (ho Sb s1 σ H1 _ I1 q1) fun u s2 ⟨x,H2,I2,rx,q2⟩=>cx (hi Sb s2 σ H2 _ I2 q2) fun iv s3 zq=>?_) hs
 obtain⟨y,H3,I3,ry,a,H4,ex,g,q3⟩:=zq
 subst ex
 obtain rfl:u=Value.ref a:=rx
 exact uJ hu I3 g ry rv fun s4 I4=>⟨σ,H4,I4,q3⟩
end
section
variable{X:Cx}{pos:Pos}
end
def qT:List (TE×TE)→St→Hp→(List (V×V)→Hp→Prop)→Prop
 | [],_,H,Q=>Q [] H
 | (tk,tv)::r,σ,H,Q=>tk σ H fun x H1=>tv σ H1 fun y H2=>qT r σ H2 fun ps H3=>Q ((x,y)::ps) H3
abbrev VV:List (V×V)→List (Value×Value)→Prop:=Paired fun p q=>RelV p.1 q.1∧RelV p.2 q.2
def AY (X:Cx) (pos:Pos) (keys:List (Option Expr)) (values:List Expr) (trs:List (TE×TE)):Prop:=
 ∀(Sb:List (Addr×Obj)) (s:Shared) (σ:St) (H:Hp) (Q:List (V×V)→Hp→Prop),Inv X Sb σ H s→qT trs σ H Q→
  wpAny (model X.prog X.w) X.A (evalPairs (pairTrees keys values X.env pos)) (fun vs s'=>∃ps H',Inv X Sb σ H' s'∧VV ps vs∧Q ps H') X.xe s
theorem lz{X:Cx}{pos:Pos}:AY X pos [] [] []:=fun Sb s σ H Q I h=>pairTrees_nil_walk ⟨[],H,I,.nil,h⟩
theorem cY{X:Cx}{pos:Pos}{k v:Expr}{ks:List (Option Expr)}{vs:List Expr}{tk tv:TE}{trs:List (TE×TE)}(hk:PE X k tk) (hv:PE X v tv) (hr:AY X pos ks vs trs):
  AY X pos (some k::ks) (v::vs) ((tk,tv)::trs):=fun Sb s σ H Q I h=>
 pairTrees_cons_walk (cx (hk Sb s σ H _ I h) fun u s1 ⟨x,H1,I1,rx,q1⟩=>cx (hv Sb s1 σ H1 _ I1 q1) fun w2 s2 ⟨y,H2,I2,ry,q2⟩=>
  cx (hr Sb s2 σ H2 _ I2 q2) fun ws s3 ⟨ps,H3,I3,rel,q3⟩=>⟨(x,y)::ps,H3,I3,.cons ⟨rx,ry⟩ rel,q3⟩)
def cA (Sd more:List (Key×V)):List (Key×V):=more.foldl (fun acc kv=>putK acc kv.1 kv.2) Sd
theorem KV.merge:∀{more:List (Key×V)}{rs:List (Key×Value)}{Sd:List (Key×V)}{vs:List (Key×Value)},KV more rs→KV Sd vs→KV (cA Sd more) (merged vs rs):=by
 intro more rs Sd vs r
 unfold KV at r
 induction r generalizing Sd vs with
 | nil=>intro q;exact q
 | @cons p q ps qs h t ih=>
  intro r0
  have e:KV (putK Sd p.1 p.2) (stored vs q.1 q.2):=by
   have:=r0.put p.1 h.2
   rw[←h.1];exact this
  exact ih e
theorem eU:∀(more Sd:List (Key×V)),(cA Sd more).length≤Sd.length+more.length
 | [],Sd=>by show Sd.length≤Sd.length+0;omega
 | p::r,Sd=>by
  have h1:=eU r (putK Sd p.1 p.2)
  have h2:=gD Sd p.1 p.2
  show(cA (putK Sd p.1 p.2) r).length≤_
  rw[CY];omega
theorem mQ{P:Program}{w:World}:∀{Sd:List (Key×V)}{ws:List (Value×Value)},VV (Sd.map fun kv=>(kV kv.1,kv.2)) ws→∃rs,Carries (b7 P w) ws rs∧KV Sd rs
 | [],_,r=>by rw[List.map_nil] at r;cases r;exact⟨[],True.intro,.nil⟩
 | p::Sd,_,r=>by
  rw[List.map_cons] at r
  cases r with
  | @cons a b as bs h t=>
   obtain⟨rs,c,q⟩:=mQ (P:=P) (w:=w) t
   obtain⟨b1,b2⟩:=b
   exact⟨(p.1,b2)::rs,⟨mH h.1,rfl,c⟩,.cons ⟨rfl,h.2⟩ q⟩
def zb (trs:List (TE×TE)):TE:=fun σ H Q=>∀p,H p=none→qT trs σ (upd H p (.dK [])) fun ps H2=>H2 p=some (.dK [])∧∃Sd:List (Key×V),ps=Sd.map (fun kv=>(kV kv.1,kv.2))∧Sd.length≤15∧Q (.ref p) (upd H2 p (.dK (cA [] Sd)))
theorem lB{X:Cx}{pos:Pos}{keys:List (Option Expr)}{values:List Expr}{trs:List (TE×TE)}(h:AY X pos keys values trs) (GD:keys.all (·.isSome)=true) (hl:keys.length=values.length) (h0:keys≠[])
  (PY:keys.length≤15):PE X (.Dict keys values pos) (zb trs):=by
 intro Sb s σ H Q I q
 have hn:=I.bH.fresh (CN s.heap.objs.size)
 have I1:=I.laid (a:=s.heap.objs.size) (o:=.dK []) (h':=s.heap.push { cls:=.type "dict",data:=.dict #[] }) (t':=s.toks) (fun _ _ q=>CL _ q) (CN _) (wZ s.heap I.big)
 refine wpAny_Dict_walk (knd:=b7 X.prog X.w) GD hl h0 PY (cx (h Sb _ σ _ _ I1 (q _ hn)) fun ws s2 zq=>?_)
 obtain⟨ps,H2,I2,rel,e,Sd,ep,lk,q2⟩:=zq
 subst ep
 obtain⟨rs,c,rk⟩:=mQ (P:=X.prog) (w:=X.w) rel
 obtain⟨z,hd,vs0,r0,dd⟩:=tJ I2.bH e
 cases r0
 refine⟨rs,c,dd,fun h' IL hs=>⟨.ref s.heap.objs.size,_,?_,rfl,q2⟩⟩
 have hz:(cA [] Sd).length≤sizeLine:=by
  have h1:=eU Sd []
  rw[List.length_nil] at h1
  rw[sizeLine_eq];omega
 have he:∃q,h'.get? s.heap.objs.size=some q:=let ⟨q,_,_,hq,_⟩:=IL;⟨q,hq⟩
 exact lH I2 (by rw[e];exact True.intro) hs he (pC hz hd (rk.merge .nil) IL)
structure M1 (X:Cx) (o:Expr) (m:Str) (apos:Pos) (e:Expr) (cpos:Pos):Prop where
 base:attributeBase o m X.env (eval o X.env)=eval o X.env
 few:((backTo cpos (starEach [e] X.env)).all (fun x=>!x.1)&&(backToKw cpos (keywordEach [] X.env)).all (fun x=>x.1.isSome)
  &&decide (([e]:List Expr).length+([]:List Keyword).length+(if([]:List Keyword).isEmpty then 0 else 1) < 30))=true
 line:(apos.endLine == cpos.line)=true
 trees:backTo cpos (starEach [e] X.env)=[(false,eval e X.env)]
structure M2 (X:Cx) (o:Expr) (m:Str) (apos:Pos) (e f:Expr) (cpos:Pos):Prop where
 base:attributeBase o m X.env (eval o X.env)=eval o X.env
 few:((backTo cpos (starEach [e,f] X.env)).all (fun x=>!x.1)&&(backToKw cpos (keywordEach [] X.env)).all (fun x=>x.1.isSome)
  &&decide (([e,f]:List Expr).length+([]:List Keyword).length+(if([]:List Keyword).isEmpty then 0 else 1) < 30))=true
 line:(apos.endLine == cpos.line)=true
 trees:backTo cpos (starEach [e,f] X.env)=[(false,eval e X.env),(false,eval f X.env)]
def IsD (H:Hp) (a:Addr):Prop:=(∃Sd,Rd H a (.dK Sd))∨∃Sd,Rd H a (.dT Sd)
theorem wO{X:Cx}{Sb:List (Addr×Obj)}{σ:St}{H:Hp}{s:Shared}{a:Addr}(I:Inv X Sb σ H s) (d:IsD H a):
  s.TypeIs (.ref a) "dict"∧(∀b,Value.ref a=.ref b→∃ob,s.heap.get? b=some ob∧ob.dict=none)∧(a == sysModules)=false:=by
 rcases d with ⟨Sd,e⟩ | ⟨Sd,e⟩
 ·obtain⟨_,hd,vs,_,dd⟩:=oh I.bH e
  refine⟨dd.typeIs,fun b q=>?_,hd⟩
  cases q
  obtain⟨ob,_,_,h1,h2,_⟩:=dd
  exact⟨ob,h1,h2.2.1⟩
 ·obtain⟨_,hd,xs,_,dd⟩:=og I.bH e
  refine⟨dd.typeIs,fun b q=>?_,hd⟩
  cases q
  obtain⟨ob,_,_,h1,h2,_⟩:=dd
  exact⟨ob,h1,h2.2.1⟩
section
variable{X:Cx}{Sb:List (Addr×Obj)}{σ:St}{H:Hp}{s:Shared}{a:Addr}{y d:V}{u r:Value}{o:Option V}{A:Around}{E:Value→Shared→Prop}
theorem AO{Q:Value→Shared→Prop}(hu:A.units+1 < cLine) (I:Inv X Sb σ H s) (g:kf H a y o) (ry:RelV y u) (rd:RelV d r) (h:∀w' s',Inv X Sb σ H s'→RelV (o.getD d) w'→Q w' s'):
  wpAny (model X.prog X.w) A (call (.builtin "dict.get") [.ref a,u,r]) Q E s:=by
 rcases g with ⟨Sd,k,e,ey,l⟩ | ⟨Sd,k,b,e,ey,eb,l⟩
 ·subst ey
  obtain⟨z,hd,vs,rel,dd⟩:=oh I.bH e
  refine call_meetsIn PySem.F.slot_dict_get dd.typeIs PySem.F.entry_dict_get (PySem.F.args_dict_get_3 _ _ _) (meets_dict_get_default (b7 X.prog X.w) a (mH ry) hd r) ⟨_,dd.mapOf,h _ _ (I.tok _) ?_⟩
  rw[l]
  exact(rel.val k).getD rd
 ·subst ey
  cases (show u=Value.ref b from ry)
  obtain⟨z,hd,xs,rel,dd⟩:=og I.bH e
  refine call_meetsIn PySem.F.slot_dict_get dd.typeIs PySem.F.entry_dict_get (PySem.F.args_dict_get_3 _ _ _) (meetsH_dict_get_default (tupleKind (b7 X.prog X.w)) a b hd r) ⟨tupleKind_room_in1 hu,k,xs,mG I.bH eb,dd,h _ _ (I.tok _) ?_⟩
  rw[l]
  exact(rel.val k).getD rd
end
def vk (td ty tx:TE):TE:=fun σ H Q=>td σ H fun x H1=>∃a,x=.ref a∧IsD H1 a∧ty σ H1 fun y H2=>tx σ H2 fun z H3=>∃o,kf H3 a y o∧Q (o.getD z) H3
section
variable{X:Cx}{o e f:Expr}{apos cpos:Pos}{td ty tx:TE}
theorem mj (hu:X.A.units+1 < cLine) (ho:PE X o td) (he:PE X e ty) (hf:PE X f tx) (m:M2 X o "get" apos e f cpos):PE X (.Call (.Attribute o "get" apos) [e,f] [] cpos) (vk td ty tx):=by
 intro Sb s σ H Q I h
 refine wpAny_Call_method m.base m.few m.line PySem.F.plainAttrs_dict PySem.F.slot_dict_get PySem.F.type_dict_get (cx (ho Sb s σ H _ I h) fun u s1 zq=>?_)
 obtain⟨x,H1,I1,rx,a,ex,d,q1⟩:=zq
 subst ex
 obtain rfl:u=Value.ref a:=rx
 obtain⟨t1,t2,_⟩:=wO I1 d
 refine⟨t1,t2,?_⟩
 rw[m.trees]
 refine Calls.callWith_builtin rfl (Calls.evalArgs_plain (Calls.spliced_cons (cx (he Sb s1 σ H1 _ I1 q1) fun iv s2 ⟨y,H2,I2,ry,q2⟩=>
  Calls.spliced_cons (cx (hf Sb s2 σ H2 _ I2 q2) fun fv s3 ⟨z,H3,I3,rz,ov,g,q3⟩=>Calls.spliced_nil ?_))))
 exact AO hu I3 g ry rz fun w' s4 I4 E4=>⟨_,H3,I4,E4,q3⟩
end
section
variable{X:Cx}{Sb:List (Addr×Obj)}{σ:St}{H:Hp}{s:Shared}{a:Addr}{Sd:List (Key×V)}{A:Around}{E:Value→Shared→Prop}
end
section
variable{X:Cx}{Sb:List (Addr×Obj)}{σ:St}{H:Hp}{s:Shared}{a:Addr}{y:V}{u:Value}{A:Around}{E:Value→Shared→Prop}
end
section
variable{X:Cx}{o e:Expr}{td ty:TE}{apos cpos:Pos}
def zc (td ty:TE):TE:=fun σ H Q=>td σ H fun x H1=>∃a,x=.ref a∧IsD H1 a∧ty σ H1 fun y H2=>∃b Sd more,y=.ref b∧a≠b∧H2 a=some (.dK Sd)∧H2 b=some (.dK more)∧Sd.length+more.length≤sizeLine∧Q .aR (upd H2 a (.dK (cA Sd more)))
theorem oW (ho:PE X o td) (he:PE X e ty) (m:M1 X o "update" apos e cpos):PE X (.Call (.Attribute o "update" apos) [e] [] cpos) (zc td ty):=by
 intro Sb s σ H Q I h
 refine wpAny_Call_method m.base m.few m.line PySem.F.plainAttrs_dict PySem.F.slot_dict_update PySem.F.type_dict_update (cx (ho Sb s σ H _ I h) fun u s1 zq=>?_)
 obtain⟨x,H1,I1,rx,a,ex,d,q1⟩:=zq
 subst ex
 obtain rfl:u=Value.ref a:=rx
 obtain⟨t1,t2,_⟩:=wO I1 d
 refine⟨t1,t2,?_⟩
 rw[m.trees]
 refine Calls.callWith_builtin rfl (Calls.evalArgs_plain (Calls.spliced_cons (cx (he Sb s1 σ H1 _ I1 q1) fun iv s2 zq=>Calls.spliced_nil ?_)))
 obtain⟨y,H2,I2,ry,b,Sd,more,ey,PB,ha,hb,hl,q2⟩:=zq
 subst ey
 obtain rfl:iv=Value.ref b:=ry
 obtain⟨z,hd,vs,rel,dd⟩:=tJ I2.bH ha
 obtain⟨z2,hd2,vs2,LX,LL⟩:=tJ I2.bH hb
 refine call_meetsIn PySem.F.slot_dict_update dd.typeIs PySem.F.entry_dict_update (PySem.F.args_dict_update_2 _ _) (meets_dict_update (b7 X.prog X.w) a b PB hd2) ⟨vs,vs2,dd,LL,by rw[←rel.length,←LX.length];exact hl,fun h' IL _ hs=>⟨.aR,_,?_,rfl,q2⟩⟩
 have he:∃q,h'.get? a=some q:=let ⟨q,_,_,hq,_⟩:=IL;⟨q,hq⟩
 exact lH (t':=s2.toks) I2 (by rw[ha];exact True.intro) hs he (pC (CZ (eU more Sd) hl) hd (LX.merge rel) IL)
end
end L2
namespace GS
open PySem PyProof.Rows L2
def kE (d:D) (j:Nat):List D:=if d.k="try"∧0 < j∧j≤(d.cK 2).items.length then [headD ((d.cK 2).items.getD (j - 1) .aR)] else []
def gB (d:D) (j:Nat):List D:=kE d j++((aY d).getD j .aR).items
theorem qt{d:D}(h:d.k≠"try") (j:Nat):kE d j=[]:=by unfold kE;rw[CO fun z=>h z.1]
theorem ui{α:Type}(xs:List α) (g:α→List D) (a:α):(List.range xs.length).flatMap (fun j=>g (xs.getD j a))=xs.flatMap g:=by
 induction xs with
 | nil=>rfl
 | cons x xs ih=>
  rw[CY,List.range_succ_eq_map,List.flatMap_cons,List.flatMap_cons,List.flatMap_map]
  congr 1
theorem gA{d:D}(h:d.k≠"try"):(List.range (aY d).length).flatMap (gB d)=(aY d).flatMap D.items:=by
 rw[←ui (aY d) D.items .aR]
 congr 1
 funext j
 unfold gB
 rw[qt h,List.nil_append]
theorem qd{n:Nat}{d:D}(h:fY n d):(List.range (aY d).length).flatMap (gB d)=aO d:=by
 have sim:fZ d→(List.range (aY d).length).flatMap (gB d)=aO d:=fun h=>by
  obtain⟨k,r,rfl,h1,h2,h3,h4,_⟩:=h.kind
  rw[gp h1 h2 h3 h4,gU h1 h2 h3 h4];rfl
 cases n with
 | zero=>exact sim h
 | succ n=>
  rcases h with h | ⟨z,ps,b,rfl,hp,EL,hb⟩ | ⟨z,es,b,rfl,he,Gj,hb⟩ | ⟨b,cs,o,l,rfl,hb,hc,EM,ho,hl⟩ | ⟨k,t,b,o,rfl,hk,ht,hb,ho⟩ | ⟨z,t,b,o,rfl,ht,hb,ho⟩
  ·exact sim h
  ·rw[gA (by show("def":Str)≠"try";decide +kernel),eI (.inl rfl),gF (.inl rfl)];simp[D.items]
  ·rw[gA (by show("class":Str)≠"try";decide +kernel),eI (.inr rfl),gF (.inr rfl)];simp[D.items]
  ·rw[eV,jg]
   have e1:∀j,kE (.tup [.str "try",.tup b,.tup cs,.tup o,l]) j=if 0 < j∧j≤cs.length then [headD (cs.getD (j - 1) .aR)] else []:=fun j=>by
    unfold kE
    rw[show D.k (.tup [.str "try",.tup b,.tup cs,.tup o,l])="try" from rfl,show((D.tup [.str "try",.tup b,.tup cs,.tup o,l]).cK 2).items=cs from rfl]
    by_cases hj:0 < j∧j≤cs.length
    ·rw[CQ ⟨rfl,hj⟩,CQ hj]
    ·rw[CO fun z=>hj z.2,CO hj]
   have hlen:cs.length=0∨cs.length=1∨cs.length=2:=by omega
   have hcf:∀c∈cs,dQ c=headD c::(c.cK 2).items:=fun _ _=>rfl
   have nonI:(D.aR).items=[]:=rfl
   rcases hl with rfl | ⟨b',rfl,ET⟩
   ·match cs,hlen with
    | [],_=>simp[gB,e1,eV,bW,List.range_succ,D.items]
    | [c1],_=>simp[gB,e1,eV,bW,List.range_succ,D.items,dQ]
    | [c1,c2],_=>simp[gB,e1,eV,bW,List.range_succ,D.items,dQ]
    | _::_::_::_,h=>simp at h
   ·match cs,hlen with
    | [],_=>simp[gB,e1,eV,bW,List.range_succ,D.items]
    | [c1],_=>simp[gB,e1,eV,bW,List.range_succ,D.items,dQ]
    | [c1,c2],_=>simp[gB,e1,eV,bW,List.range_succ,D.items,dQ]
    | _::_::_::_,h=>simp at h
  ·rw[gA (by show k≠"try";rcases hk with rfl | rfl<;>decide +kernel),j4 hk,lD hk];simp[D.items]
  ·rw[gA (by show("for":Str)≠"try";decide +kernel),jh,j3];simp[D.items]
theorem rD{n:Nat}{d:D}(h:fY n d):(aY d).length≤5:=by
 have sim:fZ d→(aY d).length≤5:=fun h=>by
  obtain⟨k,r,rfl,h1,h2,h3,h4,_⟩:=h.kind
  rw[gU h1 h2 h3 h4];exact Nat.zero_le _
 cases n with
 | zero=>exact sim h
 | succ n=>
  rcases h with h | ⟨z,ps,b,rfl,hp,EL,hb⟩ | ⟨z,es,b,rfl,he,Gj,hb⟩ | ⟨b,cs,o,l,rfl,hb,hc,EM,ho,hl⟩ | ⟨k,t,b,o,rfl,hk,ht,hb,ho⟩ | ⟨z,t,b,o,rfl,ht,hb,ho⟩
  ·exact sim h
  ·rw[gF (.inl rfl)];simp
  ·rw[gF (.inr rfl)];simp
  ·rw[eV]
   have:(bW l).length≤1:=by cases l<;>simp[bW]
   simp only[List.length_append,List.length_map,List.length_singleton]
   omega
  ·rw[lD hk];simp
  ·rw[j3];simp
end GS
namespace GS
open PySem PyProof.Rows
open L2 hiding ak cn bj aq pv cZ ay fQ bZ dw dY fR b9 bC cI cH cm ae aa aI aw bG aV cj eF ar cB dk bQ cX bX dZ aL bU aU cw bF dm bz cU aG ba aA eD aN cu bR aB ah aj
open L3
abbrev rn:Stmt:=dz 28
abbrev rm:Stmt:=dz 29
abbrev rh:Stmt:=dz 30
abbrev vI:Stmt:=dz 31
abbrev sW:Stmt:=dz 32
abbrev sQ:Stmt:=dz 33
abbrev oO:Stmt:=dz 34
abbrev ly:Stmt:=dz 35
abbrev rj:Stmt:=dz 36
theorem cF{α:Type}{xs:List α}{k:Int}(h0:0≤k) (h1:k < (xs.length:Nat)):∃v,v∈xs∧xi xs k=some v:=by
 obtain⟨n,rfl⟩:∃n:Nat,k=(n:Int):=⟨k.toNat,by omega⟩
 have hn:n < xs.length:=by omega
 exact⟨xs[n],C2 hn,fG (by simp[hn])⟩
def di (b:Addr) (H H':Hp):Prop:=∀p o,p≠b→H p=some o→H' p=some o
theorem di.refl (b:Addr) (H:Hp):di b H H:=fun _ _ _ e=>e
theorem di.trans{b:Addr}{A B C:Hp}(h:di b A B) (h':di b B C):di b A C:=fun p o hp e=>h' p o hp (h p o hp e)
theorem di.of{b:Addr}{H H':Hp}(h:az H H'):di b H H':=fun p o _ e=>h p o e
theorem di.gL (b:Addr) (H:Hp) (o:HO):di b H (upd H b o):=fun p _ hp e=>by rw[aF hp];exact e
theorem di.ax{b:Addr}{H H':Hp}{xs:List V}(h:di b H H') (hb:H b=some (.lst xs)):bN H H':=fun p vs e=>by
 have ne:∀o,H p=some o→(∀ys,o≠.lst ys)→p≠b:=fun o e h2 z=>by rw[z,hb] at e;cases e;exact h2 _ rfl
 rcases e with e | ⟨o,e⟩
 ·exact .inl (h p _ (ne _ e (fun _ z=>by cases z)) e)
 ·exact .inr ⟨o,h p _ (ne _ e (fun _ z=>by cases z)) e⟩
theorem di.sqL{K:Fg06}{a b:Addr}{H H':Hp}{xs:List V}(h:di b H H') (ne:a≠b) (hs:br K H a xs):br K H' a xs:=by
 rcases hs with (e | ⟨o',e⟩) | e
 ·exact .inl (.inl (h _ _ ne e))
 ·exact .inl (.inr ⟨o',h _ _ ne e⟩)
 ·exact .inr e
theorem di.my{b p:Addr}{H H':Hp}(h:di b H H') (hp:p≠b) (e:H' p=none):H p=none:=by
 cases e2:H p with
 | none=>rfl
 | some o=>rw[h p o hp e2] at e;cases e
section
variable{P:Program}{w:World}{K:Fg06}{mg:Str→Option Value}{base:Heap}{f:Addr}{fd:FuncData}
structure fz (K:Fg06) (H:Hp) (a b:Addr) (n:Nat) (j:Int):Prop where
 cells:∃ns:List Int,br K H a (ns.map V.int)∧ns.length≤63
 ne:a≠b
 jk:H b=some (.lst [.int (n:Nat),.int j])
theorem fz.go{H H':Hp}{a b:Addr}{n n':Nat}{j j':Int}(h:fz K H a b n j) (hb:di b H H') (hs:H' b=some (.lst [.int (n':Nat),.int j'])):fz K H' a b n' j':=by
 obtain⟨⟨ns,h1,h2⟩,h3,_⟩:=h
 exact⟨⟨ns,hb.sqL h3 h1,h2⟩,h3,hs⟩
theorem fz.same{H H':Hp}{a b:Addr}{n:Nat}{j:Int}(h:fz K H a b n j) (hs:az H H'):fz K H' a b n j:=h.go (.of hs) (hs _ _ h.jk)
def kn (K:Fg06) (H:Hp) (b:Addr) (Q:VK) (n:Nat) (j:Int) (c:Nat) (T:D→Prop):Prop:=
 ∀r H' n' d,di b H H'→H' b=some (.lst [.int (n':Nat),.int j])→n≤n'→n'≤n+c→At K H' d r→T d→Q r H'
def gy (K:Fg06):Sp:=fun vs H Q _=>∃(a b:Addr) (n:Nat) (j:Int),vs=[.ref a,.ref b]∧fz K H a b n j∧n≤1000000000000∧
 ∀i H',0≤i→i < 306783380→di b H H'→H' b=some (.lst [.int ((n+1:Nat):Int),.int j])→Q (.int i) H'
theorem lu:aW ["_law_cells","_law_spot","_law_k","_law_base"] ["_law_cells","_law_spot"] (aE rn):=fsX rfl rfl rfl rfl (by decide +kernel)
theorem wu (g:fh mg) (F:eX K "_law_cell" "_law_cell" rn f fd):bO P w K mg base fw 1 f fd ["_law_cells","_law_spot"] (gy K):=by
 refine F.hV lu (fun vs H Q E h=>?_) (fun Si A outer s H vs Q E hr h=>?_)
 ·obtain⟨a,b,n,j,rfl,_⟩:=h;rfl
 obtain⟨a,b,n,j,rfl,⟨⟨ns,hS,PV⟩,PB,hb⟩,hn,q⟩:=h
 refine⟨_,ah (eD (ay eS (bC cy (pv 1) ak (fun _ _=>rfl)) ak) (.mk (L2.vX (L2.pv 1) L2.ak set_list)))
  (ah (aA (i:=2) lu.nd rfl (Or.inl rfl) (bC cy (pv 1) ak (fun _ _=>rfl)))
  (ah (aA (i:=3) lu.nd rfl (Or.inl rfl) (ay eS (ay jw (ay jw ak (pv 2)) (pv 2)) (ay jw ak (pv 2))))
  (ah (aN (ar qf (bG eM rfl g.uz oy (aa (pv 0) ae)) ak (aH _))
   (aj (aA (i:=3) lu.nd rfl (Or.inl rfl) (ay eS (pv 3) (ay jw (bC cy (pv 0) (ay bf (pv 2) (bG eM rfl g.uz oy (aa (pv 0) ae))) (fun _ _=>rfl)) (ay eS ak (ay bx (pv 2) (bG eM rfl g.uz oy (aa (pv 0) ae)))))))) aB)
  (aj (aG (ay bx (ay bf (ay jw (pv 3) ak) ak) ak)))))),?_⟩
 have LD:∀o,br K (upd H b o) a (ns.map V.int):=fun o=>(di.gL b H o).sqL PB hS
 have Pm:uX [V.int (n:Int),V.int j].length 0=some 0:=by
  unfold uX
  rw[CQ (by decide),CQ (by show(0:Int) < ((2:Nat):Int);decide)]
  rfl
 refine⟨_,rfl,b,_,_,_,rfl,rfl,br.of hb,fG (j:=0) rfl,_,_,rfl,rfl,_,rfl,b,_,_,0,rfl,rfl,hb,Pm,?_⟩
 have e1:((n:Int)+1)=((n+1:Nat):Int):=by omega
 refine⟨_,rfl,b,_,_,_,rfl,rfl,br.of ag,fG (j:=0) rfl,?_⟩
 dsimp only
 show zE _ _ _ _ (upd H b (.lst [V.int ((n:Int)+1),V.int j]))
 rw[e1]
 generalize hm:n+1=m at q
 have Rr:m≤1000000000001:=by omega
 have fin:∀B:Int,0≤B*48271 % 2147483647 / 7∧B*48271 % 2147483647 / 7 < 306783380:=fun B=>by
  have:=Int.emod_nonneg (B*48271) (b:=2147483647) (by decide)
  have:=Int.emod_lt_of_pos (B*48271) (b:=2147483647) (by decide)
  omega
 refine⟨_,rfl,_,_,rfl,rfl,.inl ⟨by decide,by decide⟩,_,rfl,_,_,rfl,rfl,.inr ⟨by omega,by omega⟩,_,rfl,_,_,rfl,rfl,.inl ⟨by decide,by decide⟩,_,_,rfl,rfl,?_⟩
 refine⟨_,rfl,a,_,rfl,.inl (LD _),_,_,rfl,rfl,_,rfl,?_⟩
 refine aQ (fun e=>?_) (fun e=>?_)
 ·have h0:(0:Int) < ((ns.map V.int).length:Nat):=of_decide_eq_true e
  have hlen:((ns.map V.int).length:Nat)≤63:=by rw[CS];exact PV
  have k0:=Int.emod_nonneg (m:Int) (b:=((ns.map V.int).length:Nat)) (by omega)
  have k1:=Int.emod_lt_of_pos (m:Int) (b:=((ns.map V.int).length:Nat)) h0
  obtain⟨v,hv,EX⟩:=cF k0 k1
  obtain⟨z,_,rfl⟩:=List.mem_map.mp hv
  have d0:0≤(m:Int) / ((ns.map V.int).length:Nat):=Int.ediv_nonneg (by omega) (by omega)
  have d1:(m:Int) / ((ns.map V.int).length:Nat)≤m:=Int.ediv_le_self _ (by omega)
  refine⟨_,rfl,_,rfl,_,rfl,_,rfl,a,_,rfl,.inl (LD _),_,_,rfl,rfl,h0,a,_,_,_,rfl,rfl,LD _,EX,_,rfl,_,rfl,a,_,rfl,.inl (LD _),_,_,rfl,rfl,⟨h0,by show _ < (1073741824:Int);omega⟩,_,_,rfl,rfl,_,_,rfl,rfl,.inr ⟨by show _ < 1+(m:Int) / _;omega,by show 1+(m:Int) / _ < _;omega⟩,_,_,rfl,rfl,?_⟩
  refine⟨_,rfl,_,_,rfl,rfl,.inr ⟨by decide,by decide⟩,_,_,rfl,rfl,(by show(0:Int) < 2147483647;decide),_,_,rfl,rfl,⟨by decide,by decide⟩,?_⟩
  exact q _ _ (fin _).1 (fin _).2 (di.gL b H _) ag
 ·refine⟨_,rfl,_,_,rfl,rfl,.inr ⟨by decide,by decide⟩,_,_,rfl,rfl,(by show(0:Int) < 2147483647;decide),_,_,rfl,rfl,⟨by decide,by decide⟩,?_⟩
  exact q _ _ (fin _).1 (fin _).2 (di.gL b H _) ag
def gx:Sp:=fun vs H Q _=>∃i:Int,vs=[.int i]∧∀z H',az H H'→Q (.str z) H'
theorem xW:aW ["_law_n"] ["_law_n"] (aE rm):=fsX rfl rfl rfl rfl (by decide +kernel)
theorem wq (F:eX K "_law_name" "_law_name" rm f fd):bO P w K mg base fw 1 f fd ["_law_n"] gx:=by
 refine F.hV xW (fun vs H Q E h=>?_) (fun Si A outer s H vs Q E hr h=>?_)
 ·obtain⟨i,rfl,_⟩:=h;rfl
 obtain⟨i,rfl,q⟩:=h
 refine⟨_,aj (aG (bC cy (aI (aa aq (aa aq (aa aq (aa aq (aa aq (aa aq ae))))))) (ay bf (pv 0) ak) (fun _ _=>rfl))),?_⟩
 refine⟨by show 6≤sizeLine;decide,fun p hp=>?_⟩
 have m0:=Int.emod_nonneg i (b:=6) (by decide)
 have m1:=Int.emod_lt_of_pos i (b:=6) (by decide)
 obtain⟨v,hv,EX⟩:=cF (xs:=[V.str "a",V.str "b",V.str "c",V.str "d",V.str "ab",V.str "say"]) m0 (by show _ < (6:Int);omega)
 refine⟨_,rfl,_,_,rfl,rfl,(by show(0:Int) < 6;decide),p,_,_,v,rfl,rfl,br.of ag,EX,?_⟩
 simp only[List.mem_cons,List.not_mem_nil,or_false] at hv
 rcases hv with rfl | rfl | rfl | rfl | rfl | rfl<;>exact q _ _ (af hp _)
theorem di.own{b l:Addr}{H H':Hp}{o:HO}(h0:H l=none) (h:di b H H'):di b H (upd H' l o):=fun p u hp e=>by
 by_cases hl:p=l
 ·rw[hl,h0] at e;cases e
 ·rw[aF hl];exact h p u hp e
theorem yP{a b d:Str}{x z u c:Addr}{y:Str}(h:([(a,x),(b,z),(d,u)]:List (Str×Addr)).lookup y=some c):(y=a∧c=x)∨(y=b∧c=z)∨(y=d∧c=u):=by
 simp only[List.lookup_cons,List.lookup_nil] at h
 split at h
 ·rename_i e;exact .inl ⟨eq_of_beq e,(Option.some.inj h).symm⟩
 ·split at h
  ·rename_i e;exact .inr (.inl ⟨eq_of_beq e,(Option.some.inj h).symm⟩)
  ·split at h
   ·rename_i e;exact .inr (.inr ⟨eq_of_beq e,(Option.some.inj h).symm⟩)
   ·cases h
theorem cV{K:Fg06}{H:Hp}{a b:D}{x y:V}(h:At K H a x) (h2:At K H b y):ai K H [a,b] [x,y]:=aJ.mpr ⟨x,_,rfl,h,ai.eA h2⟩
theorem gh{K:Fg06}{H:Hp}{a b c d:D}{x y z u:V}(h:At K H a x) (h2:At K H b y) (h3:At K H c z) (h4:At K H d u):ai K H [a,b,c,d] [x,y,z,u]:=aJ.mpr ⟨x,_,rfl,h,cD h2 h3 h4⟩
theorem gI{te:TE}{σ:L2.St}{H:Hp}{Q:VK}{js:List Nat}{vs:List V}{b:Addr}{n0:Nat}{j:Int}(n c:Nat) (T:D→Prop) (GU:vs.length=js.length) (Fv:∀(j i:Nat),js[j]?=some i→∃v,vs[j]?=some v∧σ[i]?=some (some v)) (hn:n≤1000000) (hb:H b=some (.lst [.int (n0:Nat),.int j]))
  (hte:∀i H' n1 Q',i < n→di b H H'→H' b=some (.lst [.int (n1:Nat),.int j])→n0≤n1→n1≤n0+i*c→(∀v H'' n2 d,di b H' H''→H'' b=some (.lst [.int (n2:Nat),.int j])→n1≤n2→n2≤n1+c→At K H'' d v→T d→Q' v H'')→te (some (.int (0+(i:Nat)))::vs.map some) H' Q')
  (q:∀D H' n1 ds,H D=none→di b H H'→H' b=some (.lst [.int (n1:Nat),.int j])→n0≤n1→n1≤n0+n*c→cG K H' D ds→ds.length=n→(∀d∈ds,T d)→Q (.ref D) H'):qC js te σ Q (A3 0 n) H:=by
 refine⟨vs,⟨GU,Fv⟩,fun D hD=>?_⟩
 have nDb:D≠b:=fun z=>by rw[z,hb] at hD;cases hD
 refine⟨fun i m ys H'=>m=n - i∧i≤n∧di b H H'∧H' D=some (.lst ys)∧∃n1 ds,H' b=some (.lst [.int (n1:Nat),.int j])∧n0≤n1∧n1≤n0+i*c∧ai K H' ds ys∧ds.length=i∧∀d∈ds,T d,⟨n,rfl,Nat.zero_le _,.of (af hD _),ag,n0,[],by rw[aF (Ne.symm nDb)];exact hb,CN _,by omega,aD.mpr rfl,rfl,by simp⟩,?_⟩
 rintro i m ys H1 ⟨rfl,hi,hB,IJ,n1,ds,ES,l1,l2,hA,hl,hT⟩
 by_cases Ex:i < n
 ·refine .inr ⟨Ex,fun x H' hy=>?_⟩
  obtain⟨e,hx⟩:=hy
  subst e hx
  refine hte i _ n1 _ Ex hB ES l1 l2 fun v H2 n2 d FY EW m1 m2 GI hTd=>?_
  have Hx:=FY D _ nDb IJ
  refine⟨Hx,?_,n - (i+1),by omega,rfl,Ex,(hB.trans FY).own hD,ag,n2,ds++[d],by rw[aF (Ne.symm nDb)];exact EW,by omega,by rw[Nat.add_mul,Nat.one_mul];omega,?_,by rw[CK,hl];rfl,fun d' GB=>?_⟩
  ·rw[hA.len,hl];exact CT Ex (small hn)
  ·exact ai.append (ai.ax (aS Hx) _ _ (ai.ax (FY.ax ES) _ _ hA)) (ai.eA (At.ax (aS Hx) _ _ GI))
  ·rcases Df.mp GB with z | z
   ·exact hT d' z
   ·rw[Dg.mp z];exact hTd
 ·have e:i=n:=by omega
  subst e
  exact .inl ⟨CN _,q D H1 n1 ds hD hB ES l1 l2 ⟨ys,IJ,hA⟩ hl hT⟩
def tc:Nat→Nat
 | 0=>1
 | n+1=>1+3*tc n
theorem zC (n:Nat):1≤tc n:=by cases n<;>unfold tc<;>omega
def jM (K:Fg06):Nat→Sp
 | 0=>fun _ _ _ _=>False
 | m+1=>fun vs H Q _=>∃(a b:Addr) (n:Nat) (j:Int),vs=[.ref a,.ref b,.int (m:Nat)]∧fz K H a b n j∧n+tc m≤1000000000000∧kn K H b Q n j (tc m) (e9 m)
theorem lq:aW ["_law_cells","_law_spot","_law_deep","_law_n","_law_more","_law_one"] ["_law_cells","_law_spot","_law_deep"] (aE rh):=fsX rfl rfl rfl rfl (by decide +kernel)
theorem jW (g:fh mg) (F:eX K "_law_term" "_law_term" rh f fd) (hm:mg "_law_term"=some (.ref f)) (RF:Binds K fd ["_law_cells","_law_spot","_law_deep"] []) (dC:Def P w K mg base "_law_cell" ["_law_cells","_law_spot"] 1 (gy K)) (dN:Def P w K mg base "_law_name" ["_law_n"] 1 gx):
  ∀m,bO P w K mg base fw (m+1) f fd ["_law_cells","_law_spot","_law_deep"] (jM K m)
 | 0=>⟨fun vs H Q E h=>h.elim,fun A outer s H args us vs Q E _ _ _ _ h=>h.elim⟩
 | m+1=>by
  have dT:Def P w K mg base "_law_term" ["_law_cells","_law_spot","_law_deep"] (m+1) (jM K m):=⟨f,fd,hm,F.kp,RF,jW g F hm RF dC dN m⟩
  refine F.hV lq (fun vs H Q E h=>?_) (fun Si A outer s H vs Q E hr h=>?_)
  ·obtain⟨_,_,_,_,rfl,_⟩:=h;rfl
  obtain⟨a,b,n,j,rfl,S,hn,q⟩:=h
  refine⟨_,ah (aA (i:=3) lq.nd rfl (Or.inl rfl) (ay bx (L3.aK dC hr (by omega) rfl (aa (pv 0) (aa (pv 1) ae))) ak))
   (ah (aA (i:=4) lq.nd rfl (Or.inl rfl) (ay bx (pv 3) ak))
   (ah (aN (LW.pt (dZ (ar nQ (pv 2) ak (aH _)) (cX (ar nQ (ay bf (pv 3) ak) ak (aH _)))))
    (aj (aG (bC cy (aI (aa (aw (aa aq (aa (ay bf (pv 4) ak) ae))) (aa (aw (aa aq (aa (L3.aK dN hr (by omega) rfl (aa (pv 4) ae)) ae)))
     (aa (aw (aa aq (aa (L3.aK dN hr (by omega) rfl (aa (ay bx (pv 4) ak) ae)) ae))) (aa (aw (aa aq ae)) ae))))) (ay bf (pv 3) ak) (fun _ _=>rfl)))) aB)
   (ah (aN (ar bw (ay bf (pv 3) ak) ak (aH _))
    (aj (aG (bC cy (aI (aa (aw (aa aq (aa (bZ bw (ay bf (pv 4) ak) ak (aH _)) ae))) (aa (aw (aa aq (aa aq ae))) ae))) (ay bf (pv 4) ak) (fun _ _=>rfl)))) aB)
   (ah (aA (i:=5) lq.nd rfl (Or.inl rfl) (L3.aK dT hr (CN _) rfl (aa (pv 0) (aa (pv 1) (aa (ay fe (pv 2) ak) ae)))))
   (ah (aN (ar bw (ay bf (pv 3) ak) ak (aH _))
    (aj (aG (aw (aa aq (aa (pv 5) (aa (aV b4 rfl g.fm eg (aa (cU (cl:=[("_law_spot",s.heap.objs.size+2),("_law_deep",s.heap.objs.size+3),("_law_cells",s.heap.objs.size+1)]) (Nf:=["_law_cells","_law_spot","_law_deep"]) (js:=[0,1,2]) ?k rfl (bz rfl g.jy (aa (ay bf (pv 4) ak) ae))
     (fun C s0 H0 fp=>L3.aK dT hr (CN _) rfl (aa (pv 1) (aa (pv 2) (aa (ay fe (pv 3) ak) ae))))) ae)) ae)))))) aB)
   (ah (aN (ar bw (ay bf (pv 3) ak) ak (aH _))
    (aj (aG (aw (aa aq (aa (pv 5) (aa (L3.aK dN hr (by omega) rfl (aa (pv 4) ae)) ae)))))) aB)
   (ah (aN (ar bw (ay bf (pv 3) ak) ak (aH _))
    (aj (aG (bC cy (aI (aa (aw (aa aq (aa (pv 5) ae))) (aa (aw (aa aq (aa (pv 5) ae))) ae))) (ay bf (pv 4) ak) (fun _ _=>rfl)))) aB)
   (aj (aG (aw (aa (bC cy (aI (aa aq (aa aq ae))) (ay bf (pv 4) ak) (fun _ _=>rfl)) (aa (bC cy (aI (aa aq (aa aq ae))) (ay bf (pv 4) ak) (fun _ _=>rfl)) (aa (pv 5)
    (aa (L3.aK dT hr (CN _) rfl (aa (pv 0) (aa (pv 1) (aa (ay fe (pv 2) ak) ae)))) ae)))))))))))))),?main⟩
  case k=>
   refine⟨rfl,by decide +kernel,rfl,by decide +kernel,rfl,fun y c h=>?_,fun y hy=>?_,by decide +kernel,rfl,fun j y h=>?_⟩
   ·rcases yP h with ⟨rfl,rfl⟩ | ⟨rfl,rfl⟩ | ⟨rfl,rfl⟩<;>rfl
   ·have EI:([(".0",.local),("_law_k",.local),("_law_term",.globalImplicit),("_law_cells",.cell),("_law_deep",.cell),("_law_spot",.cell)]:List (Str×NameKind)).lookup y=some .cell∨([(".0",.local),("_law_k",.local),("_law_term",.globalImplicit),("_law_cells",.cell),("_law_deep",.cell),("_law_spot",.cell)]:List (Str×NameKind)).lookup y=some .free:=hy
    rcases EI with z | z
    ·have m:=CV z
     simp at m
     rcases m with rfl | rfl | rfl<;>exact⟨_,rfl⟩
    ·have m:=CV z
     simp at m
   ·match j,h with
    | 0,h=>cases h;exact⟨0,rfl,rfl,rfl,.inl rfl⟩
    | 1,h=>cases h;exact⟨1,rfl,rfl,rfl,.inl rfl⟩
    | 2,h=>cases h;exact⟨2,rfl,rfl,rfl,.inl rfl⟩
    | j+3,h=>simp at h
  case main=>
   have tp:=zC m
   refine⟨_,rfl,_,rfl,a,b,n,j,rfl,S,by omega,fun i0 H1 i1 i2 FC ES=>⟨_,_,rfl,rfl,⟨by decide,by decide⟩,?_⟩⟩
   dsimp only
   generalize i0 / 5=nn
   refine⟨_,rfl,_,_,rfl,rfl,⟨by decide,by decide⟩,?_⟩
   dsimp only
   generalize nn / 9=mo
   have S1:=S.go FC ES
   have done:∀(r:V) (H2:Hp) (d:D),az H1 H2→At K H2 d r→e9 m d→Q r H2:=fun r H2 d s2 hA ht=>q r H2 (n+1) d (FC.trans (.of s2)) (s2 _ _ ES) (by omega) (by omega) hA ht
   refine⟨_,rfl,_,_,rfl,rfl,_,rfl,aQ (fun _=>bJ ?leaf1) (fun hd=>⟨_,rfl,_,_,rfl,rfl,(by show(0:Int) < 9;decide),_,_,rfl,rfl,_,rfl,aQ (fun _=>?leaf2) (fun _=>?rest)⟩)⟩
   case rest=>
    have Rr:1≤m:=by
     have:=of_decide_eq_false hd
     omega
    obtain⟨m,rfl⟩:∃m',m=m'+1:=⟨m - 1,by omega⟩
    have tcm:tc (m+1)=1+3*tc m:=rfl
    have em:(((m+1:Nat):Int) - 1)=((m:Nat):Int):=by omega
    refine⟨_,rfl,_,_,rfl,rfl,(by show(0:Int) < 9;decide),rfl,_,rfl,aQ (fun _=>?truth) (fun _=>?rest2)⟩
    case truth=>
     refine⟨_,rfl,_,_,rfl,rfl,(by show(0:Int) < 4;decide),rfl,by show 2≤sizeLine;decide,fun p1 EG=>⟨by show 2≤sizeLine;decide,fun p2 EC=>⟨by show 2≤sizeLine;decide,fun l hl=>?_⟩⟩⟩
     have a1:=af EG (.tup [.str "truth",.bl (decide (V.int (mo % 4)=V.int 0))])
     have a2:=af EC (.tup [.str "text",.str "t"])
     have a3:=af hl (.lst [.ref p1,.ref p2])
     obtain⟨v,hv,EX⟩:=cF (xs:=[V.ref p1,V.ref p2]) (k:=mo % 2) (Int.emod_nonneg _ (by decide)) (by have:=Int.emod_lt_of_pos mo (b:=2) (by decide);show _ < (2:Int);omega)
     refine⟨_,rfl,_,_,rfl,rfl,(by show(0:Int) < 2;decide),l,_,_,v,rfl,rfl,br.of ag,EX,?_⟩
     simp only[List.mem_cons,List.not_mem_nil,or_false] at hv
     rcases hv with rfl | rfl
     ·exact done _ _ _ ((a1.trans a2).trans a3) (At.same (a2.trans a3) _ _ (At.new EG (cV (av.mpr rfl) (bP.mpr rfl)))) (e9.leaf (.inr (.inr (.inr (.inl ⟨_,rfl⟩)))) _)
     ·exact done _ _ _ ((a1.trans a2).trans a3) (At.same a3 _ _ (At.new EC (cV (av.mpr rfl) (av.mpr rfl)))) (e9.leaf (.inr (.inr (.inr (.inr ⟨_,rfl⟩)))) _)
    case rest2=>
     refine⟨_,rfl,_,rfl,_,rfl,_,_,rfl,rfl,a,b,n+1,j,by rw[←em];rfl,S1,by omega,fun r1 H2 n2 d1 FY EW l1 l2 Nt Mf=>?_⟩
     have S2:=S1.go FY EW
     have K7:=FC.trans FY
     have done2:∀(r:V) (H3:Hp) (d:D),az H2 H3→At K H3 d r→e9 (m+1) d→Q r H3:=fun r H3 d s3 hA ht=>q r H3 n2 d (K7.trans (.of s3)) (s3 _ _ EW) (by omega) (by omega) hA ht
     refine⟨_,rfl,_,_,rfl,rfl,(by show(0:Int) < 9;decide),rfl,_,rfl,aQ (fun _=>?call) (fun _=>⟨_,rfl,_,_,rfl,rfl,(by show(0:Int) < 9;decide),rfl,_,rfl,aQ (fun _=>?field) (fun _=>⟨_,rfl,_,_,rfl,rfl,(by show(0:Int) < 9;decide),rfl,_,rfl,aQ (fun _=>?one) (fun _=>?two)⟩)⟩)⟩
     case call=>
      have r0:=Int.emod_nonneg mo (b:=3) (by decide)
      have r1':=Int.emod_lt_of_pos mo (b:=3) (by decide)
      refine⟨_,rfl,_,rfl,_,_,rfl,rfl,(by show(0:Int) < 3;decide),_,rfl,by omega,by omega,?_⟩
      refine gI (K:=K) (vs:=[.ref a,.ref b,.int ((m+1:Nat):Int)]) (n0:=n2) (j:=j) (b:=b) _ (tc m) (e9 m) rfl (fun j i h=>?_) (by omega) EW (fun i H' n3 Q' hi FA FI l3 l4 hq=>?_) fun D H3 n3 ds hD FA FI l3 l4 hL hlen hT=>?_
      ·match j,h with
       | 0,h=>cases h;exact⟨_,rfl,rfl⟩
       | 1,h=>cases h;exact⟨_,rfl,rfl⟩
       | 2,h=>cases h;exact⟨_,rfl,rfl⟩
       | j+3,h=>simp at h
      ·have:i*tc m≤1*tc m:=Nat.mul_le_mul_right _ (by omega)
       exact⟨_,rfl,_,rfl,_,rfl,_,_,rfl,rfl,a,b,n3,j,by rw[←em];rfl,S2.go FA FI,by omega,fun r3 H4 n4 d4 E3 Fd l5 l6 Hf FH=>hq r3 H4 n4 d4 E3 Fd l5 l6 Hf FH⟩
      ·obtain⟨vd,IJ,Jz⟩:=hL
       have GA:ds.length≤2:=by rw[hlen];omega
       have hc:ds.length*tc m≤2*tc m:=Nat.mul_le_mul_right _ GA
       rw[←hlen] at l4
       refine⟨_,_,rfl,.inl ⟨br.of IJ,fun t6 E6=>⟨by show 3≤sizeLine;decide,fun p7 Fx=>?_⟩⟩⟩
       have a6:=af E6 (.tup vd)
       have a7:=af Fx (.tup [.str "call",r1,.ref t6])
       have x1:=At.same (a6) _ _ (At.ax (FA.ax EW) _ _ Nt)
       have x2:At K _ (.tup ds) (.ref t6):=At.new E6 Jz
       exact q _ _ n3 (.tup [.str "call",d1,.tup ds]) ((K7.trans FA).trans (.of (a6.trans a7))) ((a6.trans a7) _ _ FI) (by omega) (by omega) (At.new Fx (cD (av.mpr rfl) x1 x2)) (.inr (.inl ⟨d1,ds,rfl,Mf,GA,hT⟩))
     case field=>
      refine⟨_,rfl,_,rfl,_,rfl,fun z H3 s3=>⟨by show 3≤sizeLine;decide,fun p hp=>?_⟩⟩
      exact done2 _ _ _ (s3.trans (af hp _)) (At.new hp (cD (av.mpr rfl) (At.same s3 _ _ Nt) (av.mpr rfl))) (.inr (.inr (.inl ⟨d1,z,rfl,Mf⟩)))
     case one=>
      refine⟨_,rfl,by show 2≤sizeLine;decide,fun p1 EG=>⟨_,rfl,by show 2≤sizeLine;decide,fun p2 EC=>⟨by show 2≤sizeLine;decide,fun l hl=>?_⟩⟩⟩
      have a1:=af EG (.tup [.str "not",r1])
      have a2:=af EC (.tup [.str "minus",r1])
      have a3:=af hl (.lst [.ref p1,.ref p2])
      obtain⟨v,hv,EX⟩:=cF (xs:=[V.ref p1,V.ref p2]) (k:=mo % 2) (Int.emod_nonneg _ (by decide)) (by have:=Int.emod_lt_of_pos mo (b:=2) (by decide);show _ < (2:Int);omega)
      refine⟨_,rfl,_,_,rfl,rfl,(by show(0:Int) < 2;decide),l,_,_,v,rfl,rfl,br.of ag,EX,?_⟩
      simp only[List.mem_cons,List.not_mem_nil,or_false] at hv
      rcases hv with rfl | rfl
      ·exact done2 _ _ _ ((a1.trans a2).trans a3) (At.same (a2.trans a3) _ _ (At.new EG (cV (av.mpr rfl) Nt))) (.inr (.inr (.inr (.inl ⟨_,d1,rfl,.inl rfl,Mf⟩))))
      ·exact done2 _ _ _ ((a1.trans a2).trans a3) (At.same a3 _ _ (At.new EC (cV (av.mpr rfl) (At.same a1 _ _ Nt)))) (.inr (.inr (.inr (.inl ⟨_,d1,rfl,.inr rfl,Mf⟩))))
     case two=>
      have m0:=Int.emod_nonneg mo (b:=2) (by decide)
      have m1:=Int.emod_lt_of_pos mo (b:=2) (by decide)
      refine⟨by show 2≤sizeLine;decide,fun l1 NX=>?_⟩
      obtain⟨v1,GV,hat1⟩:=cF (xs:=[V.str "two",V.str "both"]) (k:=mo % 2) m0 (by show _ < (2:Int);omega)
      refine⟨_,rfl,_,_,rfl,rfl,(by show(0:Int) < 2;decide),l1,_,_,v1,rfl,rfl,br.of ag,hat1,by show 2≤sizeLine;decide,fun l2 GA=>?_⟩
      obtain⟨v2,JN,hat2⟩:=cF (xs:=[V.str "+",V.str "and"]) (k:=mo % 2) m0 (by show _ < (2:Int);omega)
      have a1:=af NX (.lst [V.str "two",V.str "both"])
      have a2:=af GA (.lst [V.str "+",V.str "and"])
      obtain⟨k1,rfl,ID⟩:∃k1:Str,v1=.str k1∧(k1="two"∨k1="both"):=by
       simp only[List.mem_cons,List.not_mem_nil,or_false] at GV
       rcases GV with rfl | rfl
       ·exact⟨_,rfl,.inl rfl⟩
       ·exact⟨_,rfl,.inr rfl⟩
      obtain⟨k2,rfl⟩:∃k2:Str,v2=.str k2:=by
       simp only[List.mem_cons,List.not_mem_nil,or_false] at JN
       rcases JN with rfl | rfl<;>exact⟨_,rfl⟩
      have s3:=a1.trans a2
      refine⟨_,rfl,_,_,rfl,rfl,(by show(0:Int) < 2;decide),l2,_,_,_,rfl,rfl,br.of ag,hat2,_,rfl,_,rfl,_,rfl,_,rfl,_,_,rfl,rfl,a,b,n2,j,by rw[←em];rfl,S2.same s3,by omega,fun r4 H4 n4 d4 E3 Fd l5 l6 Hf FH=>⟨by show 4≤sizeLine;decide,fun p hp=>?_⟩⟩
      have b3:=s3 _ _ EW
      have x1:=At.ax (E3.ax b3) _ _ (At.same s3 _ _ Nt)
      have a5:=af hp (.tup [.str k1,.str k2,r1,r4])
      exact q _ _ n4 (.tup [.str k1,.str k2,d1,d4]) (((K7.trans (.of s3)).trans E3).trans (.of a5)) (a5 _ _ Fd) (by omega) (by omega) (At.new hp (gh (av.mpr rfl) (av.mpr rfl) x1 Hf)) (.inr (.inr (.inr (.inr ⟨k1,k2,d1,d4,rfl,ID,Mf,FH⟩))))
   all_goals
    refine⟨_,rfl,_,_,rfl,rfl,(by show(0:Int) < 50;decide),by show 2≤sizeLine;decide,fun p1 EG=>⟨_,rfl,_,rfl,fun z2 H2 s2=>⟨by show 2≤sizeLine;decide,fun p2 EC=>⟨_,rfl,_,_,rfl,rfl,⟨by decide,by decide⟩,_,rfl,fun z3 H3 s3=>⟨by show 2≤sizeLine;decide,fun p3 FV=>⟨by show 1≤sizeLine;decide,fun p4 Fy=>⟨by show 4≤sizeLine;decide,fun l hl=>?_⟩⟩⟩⟩⟩⟩⟩
    have a1:=af EG (.tup [.str "number",.int (mo % 50)])
    have a2:=af EC (.tup [.str "name",.str z2])
    have a3:=af FV (.tup [.str "name",.str z3])
    have a4:=af Fy (.tup [.str "none"])
    have a5:=af hl (.lst [.ref p1,.ref p2,.ref p3,.ref p4])
    have c4:=a4.trans a5
    have c3:=a3.trans c4
    have c2:=(a2.trans s3).trans c3
    have c1:=s2.trans c2
    obtain⟨v,hv,EX⟩:=cF (xs:=[V.ref p1,V.ref p2,V.ref p3,V.ref p4]) (k:=nn % 4) (Int.emod_nonneg _ (by decide)) (by have:=Int.emod_lt_of_pos nn (b:=4) (by decide);show _ < (4:Int);omega)
    refine⟨_,rfl,_,_,rfl,rfl,(by show(0:Int) < 4;decide),l,_,_,v,rfl,rfl,br.of ag,EX,?_⟩
    simp only[List.mem_cons,List.not_mem_nil,or_false] at hv
    rcases hv with rfl | rfl | rfl | rfl
    ·exact done _ _ _ (a1.trans c1) (At.same c1 _ _ (At.new EG (cV (av.mpr rfl) (bo.mpr rfl)))) (e9.leaf (.inl ⟨_,rfl⟩) _)
    ·exact done _ _ _ (a1.trans c1) (At.same (s3.trans c3) _ _ (At.new EC (cV (av.mpr rfl) (av.mpr rfl)))) (e9.leaf (.inr (.inl ⟨_,rfl⟩)) _)
    ·exact done _ _ _ (a1.trans c1) (At.same c4 _ _ (At.new FV (cV (av.mpr rfl) (av.mpr rfl)))) (e9.leaf (.inr (.inl ⟨_,rfl⟩)) _)
    ·exact done _ _ _ (a1.trans c1) (At.same a5 _ _ (At.new Fy (ai.eA (av.mpr rfl)))) (e9.leaf (.inr (.inr (.inl rfl))) _)
theorem Cy:bootBuiltins "int"=some (.type "int"):=by decide +kernel
theorem sE:∀{ds:List D},(∀d∈ds,∃z,d=.str z)→∃xs:List Str,ds=xs.map D.str∧xs.length=ds.length
 | [],_=>⟨[],rfl,rfl⟩
 | d::ds,h=>by
  obtain⟨z,rfl⟩:=h d C1
  obtain⟨xs,e,l⟩:=sE fun d hd=>h d (C0 _ hd)
  exact⟨z::xs,by rw[e];rfl,by rw[CY,CY,l]⟩
theorem wK{a:Str}{x c:Addr}{y:Str}(h:([(a,x)]:List (Str×Addr)).lookup y=some c):y=a∧c=x:=by
 simp only[List.lookup_cons,List.lookup_nil] at h
 split at h
 ·rename_i e;exact⟨eq_of_beq e,(Option.some.inj h).symm⟩
 ·cases h
def uT (x y z:Bool):D:=.tup [.bl x,.bl y,.bl z]
abbrev yf (a b:Addr) (xa:V) (nn mo:Int) (kd:Str) (od:Option V):L2.St:=[some (.ref a),some (.ref b),some xa,some (.int nn),some (.int mo),some (.str kd),od,none]
def BP (K:Fg06):TS:=fun D σ H=>∃a b xa x y z nn mo kd o,σ=yf a b xa nn mo kd o∧At K H (uT x y z) xa∧∀Gu H',az H H'→D.nx (yf a b xa nn mo Gu o) H'
def vN (K:Fg06):TS:=fun D σ H=>∃a b xa x y z nn mo kd o,σ=yf a b xa nn mo kd (some (.bl o))∧At K H (uT x y z) xa∧∀Gu H',az H H'→D.nx (yf a b xa nn mo Gu (some (.bl o))) H'
def oG (K:Fg06):Sp:=fun vs H Q _=>∃(a b:Addr) (n:Nat) (j:Int) (xa:V) (x y z:Bool),vs=[.ref a,.ref b,xa]∧fz K H a b n j∧At K H (uT x y z) xa∧n+18≤1000000000000∧kn K H b Q n j 18 fZ
theorem hJ:aW ["_law_cells","_law_spot","_law_at","_law_n","_law_more","_law_kind","_law_odd","_law_one"] ["_law_cells","_law_spot","_law_at"] (aE vI):=fsX rfl rfl rfl rfl (by decide +kernel)
theorem yG (g:fh mg) (F:eX K "_law_row" "_law_row" vI f fd) (dC:Def P w K mg base "_law_cell" ["_law_cells","_law_spot"] 1 (gy K)) (dN:Def P w K mg base "_law_name" ["_law_n"] 1 gx)
  (d1:Def P w K mg base "_law_term" ["_law_cells","_law_spot","_law_deep"] 3 (jM K 2)) (d2:Def P w K mg base "_law_term" ["_law_cells","_law_spot","_law_deep"] 4 (jM K 3)):bO P w K mg base fw 5 f fd ["_law_cells","_law_spot","_law_at"] (oG K):=by
 refine F.hV hJ (fun vs H Q E h=>?_) (fun Si A outer s H vs Q E hr h=>?_)
 ·obtain⟨_,_,_,_,_,_,_,_,rfl,_⟩:=h;rfl
 obtain⟨a,b,n,j,xa,x,y,z,rfl,S,Gp,hn,q⟩:=h
 refine⟨_,ah (aA (i:=3) hJ.nd rfl (Or.inl rfl) (ay bx (L3.aK dC hr (by omega) rfl (aa (pv 0) (aa (pv 1) ae))) ak))
  (ah (aA (i:=4) hJ.nd rfl (Or.inr rfl) (ay bx (pv 3) ak))
  (ah (aA (i:=5) hJ.nd rfl (Or.inl rfl) (bC cy (aI (aa aq (aa aq (aa aq (aa aq (aa aq (aa aq (aa aq (aa aq (aa aq (aa aq ae))))))))))) (ay bf (pv 3) ak) (fun _ _=>rfl)))
  (ah (dU (t':=BP K) (aN (ar bw (ay bf (ay bx (pv 3) ak) ak) ak (aH _)) (aj (aA (i:=5) hJ.nd rfl (Or.inl rfl) (bC cy (aI (aa aq (aa aq (aa aq (aa aq (aa aq (aa aq (aa aq (aa aq (aa aq (aa aq ae))))))))))) (ay bf (pv 3) ak) (fun _ _=>rfl)))) aB) ?i1)
  (ah (aA (i:=6) hJ.nd rfl (Or.inl rfl) (bZ bw (ay bf (ay bx (pv 4) ak) ak) ak (aH _)))
  (ah (dU (t':=vN K) (aN (LW.pt (bX (ar bq (pv 5) (aw (aa aq (aa aq (aa aq (aa aq ae))))) rfl) (bX (dk (cB (aC (pv 2)))) (bQ (dk (cB (pv 6))))))) (aj (aA (i:=5) hJ.nd rfl (Or.inl rfl) aq)) aB) ?i2)
  (ah (dU (t':=vN K) (aN (LW.pt (dZ (LW.pt (bX (ar bq (pv 5) (aw (aa aq (aa aq ae))) rfl) (bX (dk (cB (aC (pv 2)))) (bQ (dk (cB (pv 6))))))) (cX (LW.pt (bX (ar bw (pv 5) aq (aH _)) (bX (dk (cB (aC (pv 2)))) (bQ (dk (cB (pv 6)))))))))) (aj (aA (i:=5) hJ.nd rfl (Or.inl rfl) aq)) aB) ?i3)
  (ah (aN (ar bq (pv 5) (aw (aa aq (aa aq ae))) rfl) (aj (aG (aw (aa (pv 5) (aa (aV b4 rfl g.fm eg (aa (cU (cl:=[("_law_more",s.heap.objs.size+1)]) (Nf:=["_law_more"]) (js:=[4]) ?k rfl (bz rfl g.jy (aa (ay eS ak (ay bf (pv 4) ak)) ae))
    (fun C s0 H0 fp=>L3.aK dN hr (by omega) rfl (aa (ay eS (pv 1) (ay jw (pv 0) (ay eS ak (ay bf (ay bx (pv 1) ak) ak)))) ae))) ae)) ae))))) aB)
  (ah (aN (ar bq (pv 5) (aw (aa aq (aa aq (aa aq ae)))) rfl) (aj (aG (aw (aa (pv 5) ae)))) aB)
  (ah (aN (ar bw (pv 5) aq (aH _)) (aj (aG (aw (aa aq (aa bj (aa bj ae)))))) aB)
  (ah (aA (i:=7) hJ.nd rfl (Or.inl rfl) (L3.aK d2 hr (by omega) rfl (aa (pv 0) (aa (pv 1) (aa ak ae)))))
  (ah (aN (ar bw (pv 5) aq (aH _)) (aj (aG (aw (aa aq (aa (L3.aK dN hr (by omega) rfl (aa (pv 4) ae)) (aa (pv 7) ae)))))) aB)
  (ah (aN (ar bw (pv 5) aq (aH _)) (aj (aG (aw (aa aq (aa (L3.aK dN hr (by omega) rfl (aa (pv 4) ae)) (aa (bC AI aq (ay bf (ay bx (pv 4) ak) ak) (fun _ _=>rfl)) (aa (pv 7) ae))))))) aB)
  (ah (aN (ar bw (pv 5) aq (aH _)) (aj (aG (aw (aa aq (aa (pv 7) (aa (L3.aK dN hr (by omega) rfl (aa (pv 4) ae)) (aa (L3.aK d1 hr (by omega) rfl (aa (pv 0) (aa (pv 1) (aa ak ae)))) ae))))))) aB)
  (ah (aN (ar bw (pv 5) aq (aH _)) (aj (aG (aw (aa aq (aa (bC cy (aI (aa bj (aa (pv 7) ae))) (aV uO rfl g.nInt Cy (aa (bZ qf (ay bf (pv 4) ak) ak (aH _)) ae)) (fun _ _=>rfl)) ae))))) aB)
  (ah (aN (ar bw (pv 5) aq (aH _)) (aj (aG (aw (aa aq (aa (pv 7) (aa (bC cy (aI (aa bj (aa (L3.aK d1 hr (by omega) rfl (aa (pv 0) (aa (pv 1) (aa ak ae)))) ae))) (ay bf (pv 4) ak) (fun _ _=>rfl)) ae)))))) aB)
  (ah (aN (ar bw (pv 5) aq (aH _)) (aj (aG (aw (aa aq (aa (bC cy (aI (aa bj (aa (L3.aK dN hr (by omega) rfl (aa (ay bx (pv 4) ak) ae)) ae))) (ay bf (pv 4) ak) (fun _ _=>rfl)) (aa (pv 7) ae)))))) aB)
  (aj (aG (aw (aa aq (aa (pv 7) ae))))))))))))))))))))),?main⟩
 case k=>
  refine⟨rfl,by decide +kernel,rfl,by decide +kernel,rfl,fun y c h=>?_,fun y hy=>?_,by decide +kernel,rfl,fun j y h=>?_⟩
  ·obtain⟨rfl,rfl⟩:=wK h;rfl
  ·have EI:([(".0",.local),("_law_k",.local),("_law_name",.globalImplicit),("_law_more",.cell)]:List (Str×NameKind)).lookup y=some .cell∨([(".0",.local),("_law_k",.local),("_law_name",.globalImplicit),("_law_more",.cell)]:List (Str×NameKind)).lookup y=some .free:=hy
   rcases EI with z | z
   ·have m:=CV z
    simp at m
    subst m;exact⟨_,rfl⟩
   ·have m:=CV z
    simp at m
  ·match j,h with
   | 0,h=>cases h;exact⟨4,rfl,rfl,rfl,.inl rfl⟩
   | j+1,h=>simp at h
 case i1=>
  rintro D σ H0 ⟨a,b,xa,x,y,z,nn,mo,kd,o,rfl,hx,hq⟩
  refine⟨_,rfl,_,_,rfl,rfl,⟨by decide,by decide⟩,_,_,rfl,rfl,(by show(0:Int) < 2;decide),rfl,_,rfl,aQ (fun _=>⟨by show 10≤sizeLine;decide,fun l hl=>?_⟩) (fun _=>hq kd H0 (az.refl _))⟩
  obtain⟨v,hv,EX⟩:=cF (xs:=[V.str "break",V.str "continue",V.str "again",V.str "yield",V.str "yield",V.str "set",V.str "do",V.str "global",V.str "nonlocal",V.str "return"]) (k:=nn % 10) (Int.emod_nonneg _ (by decide)) (by have:=Int.emod_lt_of_pos nn (b:=10) (by decide);show _ < (10:Int);omega)
  refine⟨_,rfl,_,_,rfl,rfl,(by show(0:Int) < 10;decide),l,_,_,v,rfl,rfl,br.of ag,EX,?_⟩
  obtain⟨Gu,rfl⟩:∃Gu:Str,v=.str Gu:=by
   simp only[List.mem_cons,List.not_mem_nil,or_false] at hv
   rcases hv with rfl | rfl | rfl | rfl | rfl | rfl | rfl | rfl | rfl | rfl<;>exact⟨_,rfl⟩
  exact hq Gu _ (af hl _)
 case i2=>
  rintro D σ H0 ⟨a,b,xa,x,y,z,nn,mo,kd,o,rfl,hx,hq⟩
  refine⟨_,rfl,by show 4≤sizeLine;decide,fun p hp=>⟨p,_,rfl,.inr (cq.of ag),rfl,rfl,_,rfl,?_⟩⟩
  have s1:=af hp (.tup [.str "return",.str "yield",.str "global",.str "nonlocal"])
  refine aQ (fun _=>?_) (fun _=>bg (hq kd _ s1))
  refine⟨_,rfl,0,_,_,rfl,At.same s1 _ _ hx,rfl,fun y0 Gw=>?_⟩
  rw[bP.mp Gw]
  exact⟨_,rfl,aQ (fun _=>⟨_,rfl,_,rfl,aQ (fun _=>hq "set" _ s1) (fun _=>hq kd _ s1)⟩) (fun _=>bg (hq kd _ s1))⟩
 case i3=>
  rintro D σ H0 ⟨a,b,xa,x,y,z,nn,mo,kd,o,rfl,hx,hq⟩
  refine⟨_,rfl,by show 2≤sizeLine;decide,fun p hp=>⟨p,_,rfl,.inr (cq.of ag),rfl,rfl,_,rfl,?_⟩⟩
  have s1:=af hp (.tup [.str "break",.str "continue"])
  have Fq:=At.same s1 _ _ hx
  refine aQ (fun _=>⟨_,rfl,1,_,_,rfl,Fq,rfl,fun y0 Gw=>?_⟩) (fun _=>bg ?s1)
  case s1=>
   refine⟨_,rfl,rfl,_,rfl,aQ (fun _=>⟨_,rfl,2,_,_,rfl,Fq,rfl,fun y0 Gw=>?_⟩) (fun _=>bg (hq kd _ s1))⟩
   rw[bP.mp Gw]
   exact⟨_,rfl,aQ (fun _=>⟨_,rfl,_,rfl,aQ (fun _=>hq "do" _ s1) (fun _=>hq kd _ s1)⟩) (fun _=>bg (hq kd _ s1))⟩
  rw[bP.mp Gw]
  refine⟨_,rfl,aQ (fun _=>⟨_,rfl,_,rfl,aQ (fun _=>bJ (hq "do" _ s1)) (fun _=>?s2)⟩) (fun _=>bg ?s3)⟩
  all_goals
   refine⟨_,rfl,rfl,_,rfl,aQ (fun _=>⟨_,rfl,2,_,_,rfl,Fq,rfl,fun y0 Gw=>?_⟩) (fun _=>bg (hq kd _ s1))⟩
   rw[bP.mp Gw]
   exact⟨_,rfl,aQ (fun _=>⟨_,rfl,_,rfl,aQ (fun _=>hq "do" _ s1) (fun _=>hq kd _ s1)⟩) (fun _=>bg (hq kd _ s1))⟩
 case main=>
  have QU:tc 1=4:=rfl
  have tc2:tc 2=13:=rfl
  refine⟨_,rfl,_,rfl,a,b,n,j,rfl,S,by omega,fun i0 H1 i1 i2 FC ES=>⟨_,_,rfl,rfl,⟨by decide,by decide⟩,?_⟩⟩
  dsimp only
  generalize i0 / 3=nn
  refine⟨_,rfl,_,_,rfl,rfl,⟨by decide,by decide⟩,?_⟩
  dsimp only
  generalize nn / 20=mo
  have S1:=S.go FC ES
  have FQ:=At.ax (FC.ax S.jk) _ _ Gp
  refine⟨by show 10≤sizeLine;decide,fun l hl=>?_⟩
  obtain⟨v,hv,EX⟩:=cF (xs:=[V.str "set",V.str "set",V.str "set",V.str "more",V.str "do",V.str "do",V.str "put",V.str "pass",V.str "return",V.str "raise"]) (k:=nn % 10) (Int.emod_nonneg _ (by decide)) (by have:=Int.emod_lt_of_pos nn (b:=10) (by decide);show _ < (10:Int);omega)
  refine⟨_,rfl,_,_,rfl,rfl,(by show(0:Int) < 10;decide),l,_,_,v,rfl,rfl,br.of ag,EX,?_⟩
  obtain⟨kd0,rfl⟩:∃Gu:Str,v=.str Gu:=by
   simp only[List.mem_cons,List.not_mem_nil,or_false] at hv
   rcases hv with rfl | rfl | rfl | rfl | rfl | rfl | rfl | rfl | rfl | rfl<;>exact⟨_,rfl⟩
  clear hv EX
  have s2:=af hl (.lst [V.str "set",V.str "set",V.str "set",V.str "more",V.str "do",V.str "do",V.str "put",V.str "pass",V.str "return",V.str "raise"])
  revert s2
  generalize upd H1 l (.lst [V.str "set",V.str "set",V.str "set",V.str "more",V.str "do",V.str "do",V.str "put",V.str "pass",V.str "return",V.str "raise"])=H2
  intro s2
  refine⟨a,b,xa,x,y,z,nn,mo,kd0,none,rfl,At.same s2 _ _ FQ,fun kd1 H3 s3=>?_⟩
  have Gm:=s2.trans s3
  refine⟨_,rfl,_,_,rfl,rfl,⟨by decide,by decide⟩,_,_,rfl,rfl,(by show(0:Int) < 12;decide),rfl,?_⟩
  refine⟨a,b,xa,x,y,z,nn,mo,kd1,_,rfl,At.same Gm _ _ FQ,fun kd2 H4 s4=>⟨a,b,xa,x,y,z,nn,mo,kd2,_,rfl,At.same (Gm.trans s4) _ _ FQ,fun kd H5 s5=>?_⟩⟩
  have QZ:=(Gm.trans s4).trans s5
  refine⟨_,rfl,by show 2≤sizeLine;decide,fun p6 Hb=>⟨p6,_,rfl,.inr (cq.of ag),rfl,rfl,_,rfl,?_⟩⟩
  have s6:=QZ.trans (af Hb (.tup [.str "global",.str "nonlocal"]))
  revert s6
  generalize upd H5 p6 (.tup [.str "global",.str "nonlocal"])=H6
  intro s6
  clear QZ Gm s2 s3 s4 s5
  have Hd:=s6 _ _ ES
  have S6:=S1.same s6
  have done:∀(r:V) (H2:Hp) (d:D),az H6 H2→At K H2 d r→fZ d→Q r H2:=fun r H2 d s2 hA ht=>q r H2 (n+1) d (FC.trans (.of (s6.trans s2))) (s2 _ _ Hd) (by omega) (by omega) hA ht
  rw[show(if false=true then !gq (.str kd) [.str "global",.str "nonlocal"] else gq (.str kd) [.str "global",.str "nonlocal"])=decide (kd∈(["global","nonlocal"]:List Str)) from jl kd ["global","nonlocal"]]
  by_cases c1:kd="global"∨kd="nonlocal"
  ·rw[CJ (show kd∈(["global","nonlocal"]:List Str) by simpa using c1)]
   refine bJ ?_
   have r0:=Int.emod_nonneg mo (b:=2) (by decide)
   have r1':=Int.emod_lt_of_pos mo (b:=2) (by decide)
   refine⟨_,rfl,_,rfl,_,_,rfl,rfl,(by show(0:Int) < 2;decide),_,_,rfl,rfl,_,rfl,by omega,by omega,?_⟩
   refine gI (K:=K) (vs:=[.int mo]) (n0:=n+1) (j:=j) (b:=b) _ 0 (fun d=>∃z,d=.str z) rfl (fun j i h=>?_) (by omega) Hd (fun i H' n3 Q' hi FA FI l3 l4 hq=>?_) fun Dl H3 n3 ds hD FA FI l3 l4 hL hlen hT=>?_
   ·match j,h with
    | 0,h=>cases h;exact⟨_,rfl,rfl⟩
    | j+1,h=>simp at h
   ·have m0:=Int.emod_nonneg (mo / 6) (b:=5) (by decide)
    have m1:=Int.emod_lt_of_pos (mo / 6) (b:=5) (by decide)
    exact⟨_,rfl,_,rfl,_,rfl,_,_,rfl,rfl,⟨by decide,by decide⟩,_,_,rfl,rfl,(by show(0:Int) < 5;decide),_,_,rfl,rfl,_,_,rfl,rfl,.inr ⟨by omega,by omega⟩,_,_,rfl,rfl,_,rfl,fun z H4 s4=>hq _ H4 n3 (.str z) (.of s4) (s4 _ _ FI) (CN _) (Nat.le_add_right _ _) (av.mpr rfl) ⟨z,rfl⟩⟩
   ·obtain⟨vd,IJ,Jz⟩:=hL
    obtain⟨xs,rfl,Ra⟩:=sE hT
    refine⟨_,_,rfl,.inl ⟨br.of IJ,fun t6 E6=>⟨by show 2≤sizeLine;decide,fun p7 Fx=>?_⟩⟩⟩
    have a6:=af E6 (.tup vd)
    have a7:=af Fx (.tup [.str kd,.ref t6])
    exact q _ _ n3 (.tup [.str kd,.tup (xs.map D.str)]) (((FC.trans (.of s6)).trans FA).trans (.of (a6.trans a7))) ((a6.trans a7) _ _ FI) (by omega) (by omega) (At.new Fx (cV (av.mpr rfl) (At.new E6 Jz))) (.inl ⟨kd,xs,rfl,c1,by rw[Ra,hlen];omega⟩)
  rw[CI (show ¬kd∈(["global","nonlocal"]:List Str) from fun m=>c1 (by simpa using m))]
  refine bg ⟨_,rfl,by show 3≤sizeLine;decide,fun p7 Fx=>⟨p7,_,rfl,.inr (cq.of ag),rfl,rfl,_,rfl,?_⟩⟩
  have s7:=af Fx (.tup [.str "pass",.str "break",.str "continue"])
  revert s7
  generalize upd H6 p7 (.tup [.str "pass",.str "break",.str "continue"])=H7
  intro s7
  have N4:=s7 _ _ Hd
  have S7:=S6.same s7
  rw[show(if false=true then !gq (.str kd) [.str "pass",.str "break",.str "continue"] else gq (.str kd) [.str "pass",.str "break",.str "continue"])=decide (kd∈(["pass","break","continue"]:List Str)) from jl kd ["pass","break","continue"]]
  by_cases c2:kd="pass"∨kd="break"∨kd="continue"
  ·rw[CJ (show kd∈(["pass","break","continue"]:List Str) by simpa using c2)]
   exact bJ ⟨_,rfl,by show 1≤sizeLine;decide,fun p hp=>done _ _ _ (s7.trans (af hp _)) (At.new hp (ai.eA (av.mpr rfl))) (.inr (.inl ⟨kd,rfl,c2⟩))⟩
  rw[CI (show ¬kd∈(["pass","break","continue"]:List Str) from fun m=>c2 (by simpa using m))]
  refine bg ⟨_,rfl,rfl,_,rfl,aQ (fun _=>⟨by show 3≤sizeLine;decide,fun p hp=>?_⟩) (fun _=>?_)⟩
  ·exact done _ _ _ (s7.trans (af hp _)) (At.new hp (cD (av.mpr rfl) (aZ.mpr rfl) (aZ.mpr rfl))) (.inr (.inr (.inr (.inr (.inr (.inr (.inl ⟨_,_,rfl,.inl rfl,.inl rfl⟩)))))))
  refine⟨_,rfl,_,rfl,a,b,n+1,j,rfl,S7,by show n+1+13≤_;omega,fun r8 H8 n8 t8 Jy IH l1 l2 Ik GZ=>?_⟩
  replace l2:n8≤n+1+13:=l2
  have S8:=S7.go Jy IH
  have hB:=(FC.trans (.of (s6.trans s7))).trans Jy
  have done2:∀(r:V) (H9:Hp) (d:D),az H8 H9→At K H9 d r→fZ d→Q r H9:=fun r H9 d s9 hA ht=>q r H9 n8 d (hB.trans (.of s9)) (s9 _ _ IH) (by omega) (by omega) hA ht
  refine⟨_,rfl,rfl,_,rfl,aQ (fun _=>?set) (fun _=>⟨_,rfl,rfl,_,rfl,aQ (fun _=>?more) (fun _=>⟨_,rfl,rfl,_,rfl,aQ (fun _=>?put) (fun _=>⟨_,rfl,rfl,_,rfl,aQ (fun _=>?ret) (fun _=>⟨_,rfl,rfl,_,rfl,aQ (fun _=>?rai) (fun _=>⟨_,rfl,rfl,_,rfl,aQ (fun _=>?yie) (fun _=>?doo)⟩)⟩)⟩)⟩)⟩)⟩
  case set=>
   exact⟨_,rfl,_,rfl,fun z H9 s9=>⟨_,rfl,by show 3≤sizeLine;decide,fun p hp=>done2 _ _ _ (s9.trans (af hp _)) (At.new hp (cD (av.mpr rfl) (av.mpr rfl) (At.same s9 _ _ Ik))) (.inr (.inr (.inl ⟨z,t8,rfl,GZ⟩)))⟩⟩
  case more=>
   obtain⟨c,hc,EX⟩:=cF (xs:=("+-*":Str).cps.toList) (k:=mo / 6 % 3) (Int.emod_nonneg _ (by decide)) (by have:=Int.emod_lt_of_pos (mo / 6) (b:=3) (by decide);rw[show("+-*":Str).cps.toList.length=3 by decide +kernel];omega)
   exact⟨_,rfl,_,rfl,fun z H9 s9=>⟨_,rfl,_,_,rfl,rfl,⟨by decide,by decide⟩,_,_,rfl,rfl,(by show(0:Int) < 3;decide),_,_,c,rfl,rfl,(by decide +kernel),EX,_,rfl,by show 4≤sizeLine;decide,fun p hp=>done2 _ _ _ (s9.trans (af hp _)) (At.new hp (gh (av.mpr rfl) (av.mpr rfl) (av.mpr rfl) (At.same s9 _ _ Ik))) (.inr (.inr (.inr (.inl ⟨z,_,t8,rfl,GZ⟩))))⟩⟩
  case put=>
   refine⟨_,rfl,_,rfl,_,rfl,fun z H9 s9=>⟨_,rfl,_,rfl,a,b,n8,j,rfl,S8.same s9,by show n8+4≤_;omega,fun Lr FF Ls Oo Hq Jv l3 l4 Im Kt=>⟨by show 4≤sizeLine;decide,fun p hp=>?_⟩⟩⟩
   replace l4:Ls≤n8+4:=l4
   have a5:=af hp (.tup [.str "put",r8,.str z,Lr])
   exact q _ _ Ls (.tup [.str "put",t8,.str z,Oo]) (((hB.trans (.of s9)).trans Hq).trans (.of a5)) (a5 _ _ Jv) (by omega) (by omega) (At.new hp (gh (av.mpr rfl) (At.ax (Hq.ax (s9 _ _ IH)) _ _ (At.same s9 _ _ Ik)) (av.mpr rfl) Im)) (.inr (.inr (.inr (.inr (.inl ⟨t8,z,Oo,rfl,GZ,Kt.up⟩)))))
  case ret=>
   refine⟨_,rfl,by show 2≤sizeLine;decide,fun l hl=>⟨_,rfl,_,_,rfl,rfl,(by show(0:Int) < 3;decide),_,_,rfl,rfl,.inr ⟨_,rfl,?_⟩⟩⟩
   have s9:=af hl (.lst [V.aR,r8])
   obtain⟨v,hv,EX⟩:=cF (xs:=[V.aR,r8]) (k:=if decide (0 < mo % 3)=true then 1 else 0) (by split<;>decide) (by show _ < (2:Int);split<;>decide)
   refine⟨l,_,_,v,rfl,rfl,br.of ag,EX,by show 2≤sizeLine;decide,fun p hp=>?_⟩
   have a5:=af hp (.tup [.str "return",v])
   simp only[List.mem_cons,List.not_mem_nil,or_false] at hv
   rcases hv with rfl | rfl
   ·exact done2 _ _ _ (s9.trans a5) (At.new hp (cV (av.mpr rfl) (aZ.mpr rfl))) (.inr (.inr (.inr (.inr (.inr (.inl ⟨_,rfl,.inl rfl⟩))))))
   ·exact done2 _ _ _ (s9.trans a5) (At.new hp (cV (av.mpr rfl) (At.same s9 _ _ Ik))) (.inr (.inr (.inr (.inr (.inr (.inl ⟨_,rfl,.inr GZ⟩))))))
  case rai=>
   refine⟨_,rfl,_,rfl,_,rfl,a,b,n8,j,rfl,S8,by show n8+4≤_;omega,fun Lr FF Ls Oo Hq Jv l3 l4 Im Kt=>⟨by show 2≤sizeLine;decide,fun l hl=>?_⟩⟩
   replace l4:Ls≤n8+4:=l4
   have s9:=af hl (.lst [V.aR,Lr])
   obtain⟨v,hv,EX⟩:=cF (xs:=[V.aR,Lr]) (k:=mo % 2) (Int.emod_nonneg _ (by decide)) (by have:=Int.emod_lt_of_pos mo (b:=2) (by decide);show _ < (2:Int);omega)
   refine⟨_,rfl,_,_,rfl,rfl,(by show(0:Int) < 2;decide),l,_,_,v,rfl,rfl,br.of ag,EX,by show 3≤sizeLine;decide,fun p hp=>?_⟩
   have a5:=af hp (.tup [.str "raise",r8,v])
   have x8:=At.same s9 _ _ (At.ax (Hq.ax IH) _ _ Ik)
   simp only[List.mem_cons,List.not_mem_nil,or_false] at hv
   rcases hv with rfl | rfl
   ·exact q _ _ Ls _ ((hB.trans Hq).trans (.of (s9.trans a5))) ((s9.trans a5) _ _ Jv) (by omega) (by omega) (At.new hp (cD (av.mpr rfl) x8 (aZ.mpr rfl))) (.inr (.inr (.inr (.inr (.inr (.inr (.inl ⟨_,_,rfl,.inr GZ,.inl rfl⟩)))))))
   ·exact q _ _ Ls _ ((hB.trans Hq).trans (.of (s9.trans a5))) ((s9.trans a5) _ _ Jv) (by omega) (by omega) (At.new hp (cD (av.mpr rfl) x8 (At.same s9 _ _ Im))) (.inr (.inr (.inr (.inr (.inr (.inr (.inl ⟨_,_,rfl,.inr GZ,.inr Kt.up⟩)))))))
  case yie=>
   refine⟨_,rfl,_,_,rfl,rfl,⟨by decide,by decide⟩,_,rfl,fun z H9 s9=>⟨by show 2≤sizeLine;decide,fun l hl=>?_⟩⟩
   have EU:=s9.trans (af hl (.lst [V.aR,V.str z]))
   obtain⟨v,hv,EX⟩:=cF (xs:=[V.aR,V.str z]) (k:=mo % 2) (Int.emod_nonneg _ (by decide)) (by have:=Int.emod_lt_of_pos mo (b:=2) (by decide);show _ < (2:Int);omega)
   refine⟨_,rfl,_,_,rfl,rfl,(by show(0:Int) < 2;decide),l,_,_,v,rfl,rfl,br.of ag,EX,_,rfl,by show 3≤sizeLine;decide,fun p hp=>?_⟩
   have a5:=af hp (.tup [.str "yield",v,r8])
   have x8:=At.same EU _ _ Ik
   simp only[List.mem_cons,List.not_mem_nil,or_false] at hv
   rcases hv with rfl | rfl
   ·exact done2 _ _ _ (EU.trans a5) (At.new hp (cD (av.mpr rfl) (aZ.mpr rfl) x8)) (.inr (.inr (.inr (.inr (.inr (.inr (.inr (.inl ⟨_,_,rfl,.inl rfl,GZ⟩))))))))
   ·exact done2 _ _ _ (EU.trans a5) (At.new hp (cD (av.mpr rfl) (av.mpr rfl) x8)) (.inr (.inr (.inr (.inr (.inr (.inr (.inr (.inl ⟨_,_,rfl,.inr ⟨_,rfl⟩,GZ⟩))))))))
  case doo=>
   exact⟨_,rfl,by show 2≤sizeLine;decide,fun p hp=>done2 _ _ _ (af hp _) (At.new hp (cV (av.mpr rfl) Ik)) (.inr (.inr (.inr (.inr (.inr (.inr (.inr (.inr ⟨t8,rfl,GZ⟩))))))))⟩
theorem wJ{a b:Str}{x z c:Addr}{y:Str}(h:([(a,x),(b,z)]:List (Str×Addr)).lookup y=some c):(y=a∧c=x)∨(y=b∧c=z):=by
 simp only[List.lookup_cons,List.lookup_nil] at h
 split at h
 ·rename_i e;exact .inl ⟨eq_of_beq e,(Option.some.inj h).symm⟩
 ·split at h
  ·rename_i e;exact .inr ⟨eq_of_beq e,(Option.some.inj h).symm⟩
  ·cases h
theorem yO{a b d e:Str}{x z u v c:Addr}{y:Str}(h:([(a,x),(b,z),(d,u),(e,v)]:List (Str×Addr)).lookup y=some c):(y=a∧c=x)∨(y=b∧c=z)∨(y=d∧c=u)∨(y=e∧c=v):=by
 simp only[List.lookup_cons,List.lookup_nil] at h
 split at h
 ·rename_i e;exact .inl ⟨eq_of_beq e,(Option.some.inj h).symm⟩
 ·split at h
  ·rename_i e;exact .inr (.inl ⟨eq_of_beq e,(Option.some.inj h).symm⟩)
  ·split at h
   ·rename_i e;exact .inr (.inr (.inl ⟨eq_of_beq e,(Option.some.inj h).symm⟩))
   ·split at h
    ·rename_i e;exact .inr (.inr (.inr ⟨eq_of_beq e,(Option.some.inj h).symm⟩))
    ·cases h
def bc:Nat→Nat
 | 0=>0
 | n+1=>61+15*bc n
def nv (m:Nat) (d:D):Prop:=∃ds,d=.tup ds∧ds.length≤3∧∀s∈ds,fY m s
theorem nv.nil (m:Nat):nv m (.tup []):=⟨[],rfl,by decide,fun s hs=>by cases hs⟩
def lS (K:Fg06):Nat→Sp
 | 0=>fun _ _ _ _=>False
 | m+1=>fun vs H Q _=>∃(a b:Addr) (n:Nat) (j:Int) (xa:V) (x y z:Bool),vs=[.ref a,.ref b,xa,.int (m:Nat)]∧fz K H a b n j∧At K H (uT x y z) xa∧n+bc (m+1)≤1000000000000∧kn K H b Q n j (bc (m+1)) (nv m)
def xP (K:Fg06) (m:Nat):Sp:=fun vs H Q _=>∃(a b:Addr) (n:Nat) (j:Int) (xa:V) (x y z:Bool),vs=[.ref a,.ref b,xa,.int (m:Nat)]∧fz K H a b n j∧At K H (uT x y z) xa∧n+(20+5*bc m)≤1000000000000∧kn K H b Q n j (20+5*bc m) (fY m)
def xR (K:Fg06):Nat→Sp
 | 0=>fun _ _ _ _=>False
 | m+1=>fun vs H Q _=>∃(a b:Addr) (n:Nat) (j nn:Int),vs=[.ref a,.ref b,.int nn,.int ((m+1:Nat):Int)]∧fz K H a b n j∧n+(12+bc (m+1))≤1000000000000∧kn K H b Q n j (12+bc (m+1)) (fY (m+1))
def xO (K:Fg06):Nat→Sp
 | 0=>fun _ _ _ _=>False
 | m+1=>fun vs H Q _=>∃(a b:Addr) (n:Nat) (j nn:Int) (xa:V) (x y z:Bool),vs=[.ref a,.ref b,xa,.int nn,.int ((m+1:Nat):Int)]∧fz K H a b n j∧At K H (uT x y z) xa∧n+(8+5*bc (m+1))≤1000000000000∧kn K H b Q n j (8+5*bc (m+1)) (fY (m+1))
theorem vG:aW ["_law_cells","_law_spot","_law_at","_law_deep"] ["_law_cells","_law_spot","_law_at","_law_deep"] (aE ly):=fsX rfl rfl rfl rfl (by decide +kernel)
theorem ux{m lv:Nat}(g:fh mg) (F:eX K "_law_block" "_law_block" ly f fd) (h1:1≤lv) (dC:Def P w K mg base "_law_cell" ["_law_cells","_law_spot"] 1 (gy K)) (dS:Def P w K mg base "_law_statement" ["_law_cells","_law_spot","_law_at","_law_deep"] lv (xP K m)):
  bO P w K mg base fw (lv+1) f fd ["_law_cells","_law_spot","_law_at","_law_deep"] (lS K (m+1)):=by
 refine F.hV vG (fun vs H Q E h=>?_) (fun Si A outer s H vs Q E hr h=>?_)
 ·obtain⟨_,_,_,_,_,_,_,_,rfl,_⟩:=h;rfl
 obtain⟨a,b,n,j,xa,x,y,z,rfl,S,Gp,hn,q⟩:=h
 refine⟨_,aj (aG (aV b4 rfl g.fm eg (aa (cU (cl:=[("_law_spot",s.heap.objs.size+2),("_law_deep",s.heap.objs.size+4),("_law_cells",s.heap.objs.size+1),("_law_at",s.heap.objs.size+3)]) (Nf:=["_law_cells","_law_spot","_law_at","_law_deep"]) (js:=[0,1,2,3]) ?k rfl (bz rfl g.jy (aa (ay eS ak (ay bf (ay bx (L3.aK dC hr (by omega) rfl (aa (pv 0) (aa (pv 1) ae))) ak) ak)) ae))
  (fun C s0 H0 fp=>L3.aK dS hr (CN _) rfl (aa (pv 1) (aa (pv 2) (aa (pv 3) (aa (pv 4) ae)))))) ae))),?main⟩
 case k=>
  refine⟨rfl,by decide +kernel,rfl,by decide +kernel,rfl,fun y c h=>?_,fun y hy=>?_,by decide +kernel,rfl,fun j y h=>?_⟩
  ·rcases yO h with ⟨rfl,rfl⟩ | ⟨rfl,rfl⟩ | ⟨rfl,rfl⟩ | ⟨rfl,rfl⟩<;>rfl
  ·have EI:([(".0",.local),("_law_k",.local),("_law_statement",.globalImplicit),("_law_at",.cell),("_law_cells",.cell),("_law_deep",.cell),("_law_spot",.cell)]:List (Str×NameKind)).lookup y=some .cell∨([(".0",.local),("_law_k",.local),("_law_statement",.globalImplicit),("_law_at",.cell),("_law_cells",.cell),("_law_deep",.cell),("_law_spot",.cell)]:List (Str×NameKind)).lookup y=some .free:=hy
   rcases EI with z | z
   ·have m:=CV z
    simp at m
    rcases m with rfl | rfl | rfl | rfl<;>exact⟨_,rfl⟩
   ·have m:=CV z
    simp at m
  ·match j,h with
   | 0,h=>cases h;exact⟨0,rfl,rfl,rfl,.inl rfl⟩
   | 1,h=>cases h;exact⟨1,rfl,rfl,rfl,.inl rfl⟩
   | 2,h=>cases h;exact⟨2,rfl,rfl,rfl,.inl rfl⟩
   | 3,h=>cases h;exact⟨3,rfl,rfl,rfl,.inl rfl⟩
   | j+4,h=>simp at h
 case main=>
  have eb:bc (m+1)=61+15*bc m:=rfl
  refine⟨_,rfl,_,rfl,a,b,n,j,rfl,S,by omega,fun i0 H1 i1 i2 FC ES=>⟨_,_,rfl,rfl,⟨by decide,by decide⟩,_,_,rfl,rfl,(by show(0:Int) < 3;decide),_,_,rfl,rfl,?_⟩⟩
  have r0:=Int.emod_nonneg (i0 / 5) (b:=3) (by decide)
  have r1:=Int.emod_lt_of_pos (i0 / 5) (b:=3) (by decide)
  have S1:=S.go FC ES
  have FQ:=At.ax (FC.ax S.jk) _ _ Gp
  refine⟨_,rfl,by omega,by omega,?_⟩
  refine gI (K:=K) (vs:=[.ref a,.ref b,xa,.int (m:Nat)]) (n0:=n+1) (j:=j) (b:=b) _ (20+5*bc m) (fY m) rfl (fun j i h=>?_) (by omega) ES (fun i H' n3 Q' hi FA FI l3 l4 hq=>?_) fun Dl H3 n3 ds hD FA FI l3 l4 hL hlen hT=>?_
  ·match j,h with
   | 0,h=>cases h;exact⟨_,rfl,rfl⟩
   | 1,h=>cases h;exact⟨_,rfl,rfl⟩
   | 2,h=>cases h;exact⟨_,rfl,rfl⟩
   | 3,h=>cases h;exact⟨_,rfl,rfl⟩
   | j+4,h=>simp at h
  ·have:i*(20+5*bc m)≤2*(20+5*bc m):=Nat.mul_le_mul_right _ (by omega)
   exact⟨_,rfl,_,rfl,_,rfl,_,rfl,a,b,n3,j,xa,x,y,z,rfl,S1.go FA FI,At.ax (FA.ax ES) _ _ FQ,by omega,fun r4 H4 n4 d4 E3 Fd l5 l6 Hf FH=>hq r4 H4 n4 d4 E3 Fd l5 l6 Hf FH⟩
  ·obtain⟨vd,IJ,Jz⟩:=hL
   have Ph:ds.length≤3:=by rw[hlen];omega
   have hc:ds.length*(20+5*bc m)≤3*(20+5*bc m):=Nat.mul_le_mul_right _ Ph
   rw[←hlen] at l4
   refine⟨_,_,rfl,.inl ⟨br.of IJ,fun t6 E6=>?_⟩⟩
   have a6:=af E6 (.tup vd)
   exact q _ _ n3 (.tup ds) ((FC.trans FA).trans (.of a6)) (a6 _ _ FI) (by omega) (by omega) (At.new E6 Jz) ⟨ds,rfl,Ph,hT⟩
abbrev stS (a b:Addr) (xa:V) (m:Nat) (nn mo:Int) (v1 ot:V):L2.St:=[some (.ref a),some (.ref b),some xa,some (.int (m:Nat)),some (.int nn),some (.int mo),none,some v1,some ot,none]
def stIf (K:Fg06) (m:Nat):TS:=fun D σ H=>∃m' a b xa x y z nn mo v1 ot n j,m=m'+1∧σ=stS a b xa m nn mo v1 ot∧fz K H a b n j∧At K H (uT x y z) xa∧At K H (.tup []) ot∧n+bc m≤1000000000000∧
 ∀v H' n' d,di b H H'→H' b=some (.lst [.int (n':Nat),.int j])→n≤n'→n'≤n+bc m→At K H' d v→nv m' d→D.nx (stS a b xa m nn mo v1 v) H'
theorem gz:aW ["_law_cells","_law_spot","_law_at","_law_deep","_law_n","_law_more","_law_elders","_law_one","_law_other","_law_inner"] ["_law_cells","_law_spot","_law_at","_law_deep"] (aE oO):=fsX rfl rfl rfl rfl (by decide +kernel)
theorem nv.ok{m:Nat}{d:D}(h:nv m d):∃ds,d=.tup ds∧gu (fY m) ds:=let ⟨ds,e,h1,h2⟩:=h;⟨ds,e,by omega,h2⟩
theorem qg{m lv:Nat}(g:fh mg) (F:eX K "_law_statement" "_law_statement" oO f fd) (h1:5≤lv) (dC:Def P w K mg base "_law_cell" ["_law_cells","_law_spot"] 1 (gy K)) (dN:Def P w K mg base "_law_name" ["_law_n"] 1 gx)
  (d0:Def P w K mg base "_law_term" ["_law_cells","_law_spot","_law_deep"] 2 (jM K 1)) (d2:Def P w K mg base "_law_term" ["_law_cells","_law_spot","_law_deep"] 4 (jM K 3)) (dR:Def P w K mg base "_law_row" ["_law_cells","_law_spot","_law_at"] 5 (oG K))
  (dB:Def P w K mg base "_law_block" ["_law_cells","_law_spot","_law_at","_law_deep"] lv (lS K m)) (dD:Def P w K mg base "_law_def" ["_law_cells","_law_spot","_law_n","_law_deep"] (lv+1) (xR K m)) (dT:Def P w K mg base "_law_try" ["_law_cells","_law_spot","_law_at","_law_n","_law_deep"] (lv+1) (xO K m)):
  bO P w K mg base fw (lv+2) f fd ["_law_cells","_law_spot","_law_at","_law_deep"] (xP K m):=by
 refine F.hV gz (fun vs H Q E h=>?_) (fun Si A outer s H vs Q E hr h=>?_)
 ·obtain⟨_,_,_,_,_,_,_,_,rfl,_⟩:=h;rfl
 obtain⟨a,b,n,j,xa,x,y,z,rfl,S,Gp,hn,q⟩:=h
 refine⟨_,ah (aA (i:=4) gz.nd rfl (Or.inl rfl) (ay bx (L3.aK dC hr (by omega) rfl (aa (pv 0) (aa (pv 1) ae))) ak))
  (ah (aA (i:=5) gz.nd rfl (Or.inl rfl) (ay bx (pv 4) ak))
  (ah (aN (LW.pt (dZ (ar nQ (pv 3) ak (aH _)) (dZ (ar qf (bC cy (pv 1) ak (fun _ _=>rfl)) (bC cy (pv 1) ak (fun _ _=>rfl)) (aH _)) (cX (ar nQ (ay bf (pv 4) ak) ak (aH _))))))
   (aj (aG (L3.aK dR hr (by omega) rfl (aa (pv 0) (aa (pv 1) (aa (pv 2) ae)))))) aB)
  (ah (aN (ar nQ (ay bf (pv 4) ak) ak (aH _)) (aj (aG (L3.aK dD hr (by omega) rfl (aa (pv 0) (aa (pv 1) (aa (pv 5) (aa (pv 3) ae))))))) aB)
  (ah (aN (ar bw (ay bf (pv 4) ak) ak (aH _))
   (ah (aA (i:=6) gz.nd rfl (Or.inl rfl) (aV b4 rfl g.fm eg (aa (cU (cl:=[("_law_spot",s.heap.objs.size+2),("_law_cells",s.heap.objs.size+1)]) (Nf:=["_law_cells","_law_spot"]) (js:=[0,1]) ?k rfl (bz rfl g.jy (aa (ay bf (pv 5) ak) ae)) (fun C s0 H0 fp=>L3.aK d0 hr (by omega) rfl (aa (pv 1) (aa (pv 2) (aa ak ae))))) ae)))
   (aj (aG (aw (aa aq (aa (L3.aK dN hr (by omega) rfl (aa (pv 5) ae)) (aa (pv 6) (aa (L3.aK dB hr (by omega) rfl (aa (pv 0) (aa (pv 1) (aa (aw (aa cn (aa cn (aa cn ae)))) (aa (ay fe (pv 3) ak) ae))))) ae)))))))) aB)
  (ah (aN (ar bw (ay bf (pv 4) ak) ak (aH _)) (aj (aG (L3.aK dT hr (by omega) rfl (aa (pv 0) (aa (pv 1) (aa (pv 2) (aa (pv 5) (aa (pv 3) ae)))))))) aB)
  (ah (aA (i:=7) gz.nd rfl (Or.inl rfl) (L3.aK d2 hr (by omega) rfl (aa (pv 0) (aa (pv 1) (aa ak ae)))))
  (ah (aA (i:=8) gz.nd rfl (Or.inl rfl) (aw ae))
  (ah (dU (t':=stIf K m) (aN (ar bw (ay bf (pv 5) ak) ak (aH _)) (aj (aA (i:=8) gz.nd rfl (Or.inl rfl) (L3.aK dB hr (by omega) rfl (aa (pv 0) (aa (pv 1) (aa (pv 2) (aa (ay fe (pv 3) ak) ae))))))) aB) ?i1)
  (ah (aN (ar bw (ay bf (pv 4) ak) ak (aH _)) (aj (aG (aw (aa aq (aa (pv 7) (aa (L3.aK dB hr (by omega) rfl (aa (pv 0) (aa (pv 1) (aa (pv 2) (aa (ay fe (pv 3) ak) ae))))) (aa (pv 8) ae))))))) aB)
  (ah (aA (i:=9) gz.nd rfl (Or.inl rfl) (L3.aK dB hr (by omega) rfl (aa (pv 0) (aa (pv 1) (aa (aw (aa (aC (pv 2)) (aa cn (aa (aC (pv 2)) ae)))) (aa (ay fe (pv 3) ak) ae))))))
  (aj (aG (bC cy (aI (aa (aw (aa aq (aa (pv 7) (aa (pv 9) (aa (pv 8) ae))))) (aa (aw (aa aq (aa (L3.aK dN hr (by omega) rfl (aa (pv 5) ae)) (aa (pv 7) (aa (pv 9) (aa (pv 8) ae)))))) ae))) (ay bf (ay bx (pv 5) ak) ak) (fun _ _=>rfl)))))))))))))),?main⟩
 case k=>
  refine⟨rfl,by decide +kernel,rfl,by decide +kernel,rfl,fun y c h=>?_,fun y hy=>?_,by decide +kernel,rfl,fun j y h=>?_⟩
  ·rcases wJ h with ⟨rfl,rfl⟩ | ⟨rfl,rfl⟩<;>rfl
  ·have EI:([(".0",.local),("_law_k",.local),("_law_term",.globalImplicit),("_law_cells",.cell),("_law_spot",.cell)]:List (Str×NameKind)).lookup y=some .cell∨([(".0",.local),("_law_k",.local),("_law_term",.globalImplicit),("_law_cells",.cell),("_law_spot",.cell)]:List (Str×NameKind)).lookup y=some .free:=hy
   rcases EI with z | z
   ·have m:=CV z
    simp at m
    rcases m with rfl | rfl<;>exact⟨_,rfl⟩
   ·have m:=CV z
    simp at m
  ·match j,h with
   | 0,h=>cases h;exact⟨0,rfl,rfl,rfl,.inl rfl⟩
   | 1,h=>cases h;exact⟨1,rfl,rfl,rfl,.inl rfl⟩
   | j+2,h=>simp at h
 case i1=>
  rintro D σ H0 ⟨m',a,b,xa,x,y,z,nn,mo,v1,ot,n,j,rfl,rfl,S,hx,ho,hn,hq⟩
  refine⟨_,rfl,_,_,rfl,rfl,(by show(0:Int) < 3;decide),rfl,_,rfl,aQ (fun _=>?_) (fun _=>hq ot H0 n (.tup []) (di.refl _ _) S.jk (CN _) (by omega) ho (nv.nil m'))⟩
  exact⟨_,rfl,_,rfl,_,rfl,_,rfl,_,_,rfl,rfl,a,b,n,j,xa,x,y,z,by rw[←show(((m'+1:Nat):Int) - 1)=((m':Nat):Int) by omega];rfl,S,hx,hn,fun r H' n' d hB hb l1 l2 hA ht=>hq r H' n' d hB hb l1 l2 hA ht⟩
 case main=>
  refine⟨_,rfl,_,rfl,a,b,n,j,rfl,S,by omega,fun i0 H1 i1 i2 FC ES=>⟨_,_,rfl,rfl,⟨by decide,by decide⟩,?_⟩⟩
  dsimp only
  generalize i0 / 3=nn
  refine⟨_,rfl,_,_,rfl,rfl,⟨by decide,by decide⟩,?_⟩
  dsimp only
  generalize nn / 12=mo
  have S1:=S.go FC ES
  have FQ:=At.ax (FC.ax S.jk) _ _ Gp
  refine⟨_,rfl,_,_,rfl,rfl,_,rfl,aQ (fun _=>bJ ?row1) (fun hd=>⟨_,rfl,b,_,_,_,rfl,rfl,br.of ES,fG (j:=0) rfl,_,rfl,b,_,_,_,rfl,rfl,br.of ES,fG (j:=1) rfl,_,_,rfl,rfl,_,rfl,aQ (fun _=>bJ ?row2) (fun _=>⟨_,rfl,_,_,rfl,rfl,(by show(0:Int) < 12;decide),_,_,rfl,rfl,_,rfl,aQ (fun _=>?row3) (fun _=>?rest)⟩)⟩)⟩
  case rest=>
   have Rr:1≤m:=by
    have:=of_decide_eq_false hd
    omega
   obtain⟨m,rfl⟩:∃m',m=m'+1:=⟨m - 1,by omega⟩
   have em:(((m+1:Nat):Int) - 1)=((m:Nat):Int):=by omega
   have tc0:tc 0=1:=rfl
   have tc2:tc 2=13:=rfl
   refine⟨_,rfl,_,_,rfl,rfl,(by show(0:Int) < 12;decide),_,_,rfl,rfl,_,rfl,aQ (fun _=>?df) (fun _=>⟨_,rfl,_,_,rfl,rfl,(by show(0:Int) < 12;decide),rfl,_,rfl,aQ (fun _=>?cls) (fun _=>⟨_,rfl,_,_,rfl,rfl,(by show(0:Int) < 12;decide),rfl,_,rfl,aQ (fun _=>?tr) (fun _=>?rest2)⟩)⟩)⟩
   case df=>exact⟨_,rfl,_,rfl,_,rfl,_,rfl,a,b,n+1,j,mo,rfl,S1,by omega,fun r H2 n2 d FY EW l1 l2 hA ht=>q r H2 n2 d (FC.trans FY) EW (by omega) (by omega) hA ht⟩
   case tr=>exact⟨_,rfl,_,rfl,_,rfl,_,rfl,_,rfl,a,b,n+1,j,mo,xa,x,y,z,rfl,S1,FQ,by omega,fun r H2 n2 d FY EW l1 l2 hA ht=>q r H2 n2 d (FC.trans FY) EW (by omega) (by omega) hA ht⟩
   case cls=>
    have r0:=Int.emod_nonneg mo (b:=3) (by decide)
    have r1:=Int.emod_lt_of_pos mo (b:=3) (by decide)
    refine⟨_,rfl,_,_,rfl,rfl,(by show(0:Int) < 3;decide),_,rfl,by omega,by omega,?_⟩
    refine gI (K:=K) (vs:=[.ref a,.ref b]) (n0:=n+1) (j:=j) (b:=b) _ 1 (e9 0) rfl (fun j i h=>?_) (by omega) ES (fun i H' n3 Q' hi FA FI l3 l4 hq=>?_) fun Dl H3 n3 ds hD FA FI l3 l4 hL hlen hT=>?_
    ·match j,h with
     | 0,h=>cases h;exact⟨_,rfl,rfl⟩
     | 1,h=>cases h;exact⟨_,rfl,rfl⟩
     | j+2,h=>simp at h
    ·exact⟨_,rfl,_,rfl,a,b,n3,j,rfl,S1.go FA FI,by show n3+1≤_;omega,fun r3 H4 n4 d4 E3 Fd l5 l6 Hf FH=>hq r3 H4 n4 d4 E3 Fd l5 l6 Hf FH⟩
    ·obtain⟨vd,IJ,Jz⟩:=hL
     have GA:ds.length≤2:=by rw[hlen];omega
     rw[←hlen] at l4
     refine⟨_,_,rfl,.inl ⟨br.of IJ,fun t6 E6=>?_⟩⟩
     have a6:=af E6 (.tup vd)
     have x6:At K _ (.tup ds) (.ref t6):=At.new E6 Jz
     revert a6 x6
     generalize upd H3 t6 (.tup vd)=H4
     intro a6 x6
     refine⟨_,rfl,_,rfl,fun z7 H7 s7=>⟨_,rfl,_,rfl,_,rfl,by show 3≤sizeLine;decide,fun p8 Jj=>?_⟩⟩
     have a8:=af Jj (.tup [.bl false,.bl false,.bl false])
     have NS:=s7.trans a8
     have IH:=(a6.trans NS) _ _ FI
     refine⟨_,rfl,_,_,rfl,rfl,a,b,n3,j,.ref p8,false,false,false,by rw[←em];rfl,(S1.go FA FI).same (a6.trans NS),At.new Jj (cD (bP.mpr rfl) (bP.mpr rfl) (bP.mpr rfl)),by omega,fun r9 H9 n9 d9 Jx Pz l5 l6 Nm O2=>⟨by show 4≤sizeLine;decide,fun OM Jk=>?_⟩⟩
     obtain⟨bs,rfl,Hc⟩:=O2.ok
     have Ip:=af Jk (.tup [.str "class",.str z7,.ref t6,r9])
     exact q _ _ n9 (.tup [.str "class",.str z7,.tup ds,.tup bs]) ((((FC.trans FA).trans (.of (a6.trans NS))).trans Jx).trans (.of Ip)) (Ip _ _ Pz) (by omega) (by omega)
      (At.new Jk (gh (av.mpr rfl) (av.mpr rfl) (At.ax (Jx.ax IH) _ _ (At.same NS _ _ x6)) Nm)) (.inr (.inr (.inl ⟨z7,ds,bs,rfl,GA,fun e he=>(hT e he).up.up,Hc⟩)))
   case rest2=>
    refine⟨_,rfl,_,rfl,a,b,n+1,j,rfl,S1,by show n+1+13≤_;omega,fun r2 H2 n2 d2 FY EW l1 l2 PU Md=>⟨by decide,fun pe HU=>?_⟩⟩
    replace l2:n2≤n+1+13:=l2
    have a3:=af HU (.tup [])
    have x3:At K (upd H2 pe (.tup [])) (.tup []) (.ref pe):=At.new HU (aD.mpr rfl)
    revert a3 x3
    generalize upd H2 pe (.tup [])=H3
    intro a3 x3
    have S3:=(S1.go FY EW).same a3
    have hB13:=(FC.trans FY).trans (.of a3)
    have Hj:=At.same a3 _ _ (At.ax (FY.ax ES) _ _ FQ)
    have Hr:=At.same a3 _ _ PU
    refine⟨m,a,b,xa,x,y,z,nn,mo,r2,.ref pe,n2,j,rfl,rfl,S3,Hj,x3,by omega,fun v4 H4 n4 d4 E3 Fd l3 l4 Hf FH=>?_⟩
    have S4:=S3.go E3 Fd
    have Li:=E3.ax S3.jk
    have Kn:=At.ax Li _ _ Hj
    have IB:=At.ax Li _ _ Hr
    obtain⟨os,rfl,Hm⟩:=FH.ok
    have M9:=hB13.trans E3
    refine⟨_,rfl,_,_,rfl,rfl,(by show(0:Int) < 12;decide),rfl,_,rfl,aQ (fun _=>?ifs) (fun _=>?loop)⟩
    case ifs=>
     refine⟨_,rfl,_,rfl,_,rfl,_,rfl,_,rfl,_,_,rfl,rfl,a,b,n4,j,xa,x,y,z,by rw[←em];rfl,S4,Kn,by omega,fun r5 H5 n5 d5 M7 JU l5 l6 N9 O3=>⟨_,rfl,by show 4≤sizeLine;decide,fun p hp=>?_⟩⟩
     obtain⟨bs,rfl,Hc⟩:=O3.ok
     have R0:=M7.ax S4.jk
     have a6:=af hp (.tup [.str "if",r2,r5,v4])
     exact q _ _ n5 (.tup [.str "if",d2,.tup bs,.tup os]) ((M9.trans M7).trans (.of a6)) (a6 _ _ JU) (by omega) (by omega) (At.new hp (gh (av.mpr rfl) (At.ax R0 _ _ IB) N9 (At.ax R0 _ _ Hf))) (.inr (.inr (.inr (.inr (.inl ⟨_,d2,bs,os,rfl,.inl rfl,Md,Hc,Hm⟩)))))
    case loop=>
     refine⟨_,rfl,_,rfl,_,rfl,0,_,_,rfl,Kn,rfl,fun y0 Gw=>⟨_,rfl,2,_,_,rfl,Kn,rfl,fun y2 Fl=>⟨by show 3≤sizeLine;decide,fun p5 EV=>?_⟩⟩⟩
     have a5:=af EV (.tup [y0,.bl true,y2])
     have x5:At K (upd H4 p5 (.tup [y0,.bl true,y2])) (uT x true z) (.ref p5):=At.new EV (cD Gw (bP.mpr rfl) Fl)
     revert a5 x5
     generalize upd H4 p5 (.tup [y0,.bl true,y2])=H5
     intro a5 x5
     have JU:=a5 _ _ Fd
     refine⟨_,rfl,_,_,rfl,rfl,a,b,n4,j,.ref p5,x,true,z,by rw[←em];rfl,S4.same a5,x5,by omega,fun r6 H6 n6 d6 GG Hd l5 l6 J6 E6=>?_⟩
     obtain⟨bs,rfl,Hc⟩:=E6.ok
     have RZ:=(bN.of a5).trans (GG.ax JU)
     have QO:=At.ax RZ _ _ IB
     have yo:=At.ax RZ _ _ Hf
     have M8:=(M9.trans (.of a5)).trans GG
     refine⟨_,rfl,_,rfl,_,rfl,by show 4≤sizeLine;decide,fun p7 Fx=>⟨_,rfl,_,rfl,fun z8 H8 s8=>⟨_,rfl,_,rfl,_,rfl,by show 5≤sizeLine;decide,fun p9 Gz=>⟨by show 2≤sizeLine;decide,fun l hl=>?_⟩⟩⟩⟩
     have a7:=af Fx (.tup [.str "while",r2,r6,v4])
     have a9:=af Gz (.tup [.str "for",.str z8,r2,r6,v4])
     have al:=af hl (.lst [.ref p7,.ref p9])
     have c7:=s8.trans (a9.trans al)
     obtain⟨v,hv,EX⟩:=cF (xs:=[V.ref p7,V.ref p9]) (k:=mo / 3 % 2) (Int.emod_nonneg _ (by decide)) (by have:=Int.emod_lt_of_pos (mo / 3) (b:=2) (by decide);show _ < (2:Int);omega)
     refine⟨_,rfl,_,_,rfl,rfl,⟨by decide,by decide⟩,_,_,rfl,rfl,(by show(0:Int) < 2;decide),l,_,_,v,rfl,rfl,br.of ag,EX,?_⟩
     simp only[List.mem_cons,List.not_mem_nil,or_false] at hv
     rcases hv with rfl | rfl
     ·exact q _ _ n6 (.tup [.str "while",d2,.tup bs,.tup os]) (M8.trans (.of (a7.trans c7))) ((a7.trans c7) _ _ Hd) (by omega) (by omega) (At.same c7 _ _ (At.new Fx (gh (av.mpr rfl) QO J6 yo))) (.inr (.inr (.inr (.inr (.inl ⟨_,d2,bs,os,rfl,.inr rfl,Md,Hc,Hm⟩)))))
     ·have Ou:=a7.trans s8
      exact q _ _ n6 (.tup [.str "for",.str z8,d2,.tup bs,.tup os]) (M8.trans (.of (a7.trans c7))) ((a7.trans c7) _ _ Hd) (by omega) (by omega) (At.same al _ _ (At.new Gz (aJ.mpr ⟨_,_,rfl,av.mpr rfl,gh (av.mpr rfl) (At.same Ou _ _ QO) (At.same Ou _ _ J6) (At.same Ou _ _ yo)⟩))) (.inr (.inr (.inr (.inr (.inr ⟨z8,d2,bs,os,rfl,Md,Hc,Hm⟩)))))
  all_goals exact⟨_,rfl,_,rfl,_,rfl,a,b,n+1,j,xa,x,y,z,rfl,S1,FQ,by omega,fun r H2 n2 d FY EW l1 l2 hA ht=>q r H2 n2 d (FC.trans FY) EW (by omega) (by omega) hA (fY.sim ht m)⟩
theorem yQ{α:Type}{xs:List α}(h:xs≠[]):∃v,xi xs (-1)=some v∧xs[xs.length - 1]?=some v:=by
 have hl:0 < xs.length:=List.length_pos_iff.mpr h
 refine⟨xs[xs.length - 1],?_,by simp[hl]⟩
 unfold xi uX
 rw[CO (by decide),CQ (by omega)]
 have:((-1:Int)+(xs.length:Nat)).toNat=xs.length - 1:=by omega
 rw[Option.bind_some,this]
 simp[hl]
theorem AQ{xs:List V}(h:(!(i6 xs (some (-1)) none).isEmpty)=true):xs≠[]:=fun e=>by
 subst e
 simp[i6] at h
abbrev dfS (a b:Addr) (nn dp:Int) (pl:Addr) (k:Int) (v:V):L2.St:=[some (.ref a),some (.ref b),some (.int nn),some (.int dp),some (.ref pl),some (.int k),some v,none,none]
def dfIf (K:Fg06):TS:=fun D σ H=>∃a b nn dp pl k n j vp pds,σ=dfS a b nn dp pl k .aR∧fz K H a b n j∧n+4≤1000000000000∧H pl=some (.lst vp)∧ai K H pds vp∧(∀p∈pds,nN p)∧
 ∀v H' n' e,di b H H'→H' b=some (.lst [.int (n':Nat),.int j])→n≤n'→n'≤n+4→At K H' e v→fH e→D.nx (dfS a b nn dp pl k v) H'
abbrev Cr (a b:Addr) (nn dp:Int) (pl:Addr) (o5 o6:Option V) (tl:Addr):L2.St:=[some (.ref a),some (.ref b),some (.int nn),some (.int dp),some (.ref pl),o5,o6,some (.ref tl),none]
def Cs (K:Fg06):TS:=fun D σ H=>∃a b nn dp pl o5 o6 tl,σ=Cr a b nn dp pl o5 o6 tl∧H tl=some (.lst [])∧
 ∀JC H' ts,az H H'→cG K H' JC ts→ts.length≤1→(∀d∈ts,fZ d)→D.nx (Cr a b nn dp pl o5 o6 JC) H'
theorem iH:aW ["_law_cells","_law_spot","_law_n","_law_deep","_law_params","_law_k","_law_value","_law_tells","_law_block_here"] ["_law_cells","_law_spot","_law_n","_law_deep"] (aE sW):=fsX rfl rfl rfl rfl (by decide +kernel)
theorem yL{m lv:Nat}(g:fh mg) (F:eX K "_law_def" "_law_def" sW f fd) (h1:5≤lv) (dN:Def P w K mg base "_law_name" ["_law_n"] 1 gx) (d1:Def P w K mg base "_law_term" ["_law_cells","_law_spot","_law_deep"] 3 (jM K 2))
  (dB:Def P w K mg base "_law_block" ["_law_cells","_law_spot","_law_at","_law_deep"] lv (lS K (m+1))):bO P w K mg base fw (lv+1) f fd ["_law_cells","_law_spot","_law_n","_law_deep"] (xR K (m+1)):=by
 refine F.hV iH (fun vs H Q E h=>?_) (fun Si A outer s H vs Q E hr h=>?_)
 ·obtain⟨_,_,_,_,_,rfl,_⟩:=h;rfl
 obtain⟨a,b,n,j,nn,rfl,S,hn,q⟩:=h
 refine⟨_,ah (aA (i:=4) iH.nd rfl (Or.inl rfl) (aI ae))
  (ah (bR C9 rfl (bz rfl g.jy (aa (ay bf (pv 2) ak) ae)) (aL (i:=5) iH.nd rfl (Or.inl rfl))
   (ah (aA (i:=6) iH.nd rfl (Or.inl rfl) bj)
   (ah (dU (t':=dfIf K) (aN (LW.pt (dZ (LW.pt (bX (ar bw (ay bf (ay bx (pv 2) ak) ak) ak (aH _)) (bQ (ar qf (pv 5) ak (aH _)))))
     (cX (LW.pt (bX (ar bw (ay bf (ay bx (pv 2) ak) ak) ak (aH _)) (bX (ar (gP hr) (cm xS (pv 4) (cH (fQ u5 ak)) cI) (aI ae) (aH _)) (bQ (ar gc (aC (bC cy (pv 4) (fQ u5 ak) (fun _ _=>rfl))) bj (aH _)))))))))
    (aj (aA (i:=6) iH.nd rfl (Or.inl rfl) (L3.aK d1 hr (by omega) rfl (aa (pv 0) (aa (pv 1) (aa ak ae)))))) aB) ?i1)
   (aj (ba (cj CW C3 C4 bA (pv 4) (aa (aw (aa (L3.aK dN hr (by omega) rfl (aa (ay eS (ay bx (pv 2) ak) (ay jw (pv 5) (ay eS ak (ay bf (ay bx (pv 2) ak) ak)))) ae)) (aa (pv 6) ae))) ae)))))))
  (ah (aA (i:=7) iH.nd rfl (Or.inl rfl) (aI ae))
  (ah (dU (t':=Cs K) (aN (ar bw (ay bf (ay bx (pv 2) ak) ak) ak (aH _)) (aj (aA (i:=7) iH.nd rfl (Or.inl rfl) (aI (aa (aw (aa (bC cy (aI (aa aq (aa aq ae))) (ay bf (ay bx (pv 2) ak) ak) (fun _ _=>rfl)) (aa (aw (aa (L3.aK dN hr (by omega) rfl (aa (ay bx (pv 2) ak) ae)) ae)) ae))) ae)))) aB) ?i2)
  (ah (aA (i:=8) iH.nd rfl (Or.inl rfl) (ay gC (aV b4 rfl g.fm eg (aa (pv 7) ae)) (L3.aK dB hr (by omega) rfl (aa (pv 0) (aa (pv 1) (aa (aw (aa cn (aa cn (aa cn ae)))) (aa (ay fe (pv 3) ak) ae)))))))
  (aj (aG (aw (aa aq (aa (L3.aK dN hr (by omega) rfl (aa (ay bx (pv 2) ak) ae)) (aa (aV b4 rfl g.fm eg (aa (pv 4) ae)) (aa (pv 8) ae))))))))))),?main⟩
 case i1=>
  rintro D σ H0 ⟨a,b,nn,dp,pl,k,n,j,vp,pds,rfl,S,hn,Ez,FJ,Hl,hq⟩
  have no:∀H',az H0 H'→D.nx (dfS a b nn dp pl k .aR) H':=fun H' s=>hq .aR H' n .aR (.of s) (s _ _ S.jk) (CN _) (by omega) (aZ.mpr rfl) (.inl rfl)
  have QU:tc 1=4:=rfl
  refine⟨_,rfl,_,_,rfl,rfl,⟨by decide,by decide⟩,_,_,rfl,rfl,(by show(0:Int) < 3;decide),rfl,_,rfl,aQ (fun _=>⟨_,rfl,_,_,rfl,rfl,_,rfl,aQ (fun _=>bJ ?t1) (fun _=>?s1)⟩) (fun _=>bg ?s2)⟩
  case t1=>exact⟨_,rfl,_,rfl,a,b,n,j,rfl,S,by show n+4≤_;omega,fun r H' n' d hB hb l1 l2 hA ht=>hq r H' n' d hB hb l1 l2 hA (.inr ht.up)⟩
  all_goals
   refine⟨_,rfl,_,_,rfl,rfl,⟨by decide,by decide⟩,_,_,rfl,rfl,(by show(0:Int) < 3;decide),rfl,_,rfl,aQ (fun _=>?_) (fun _=>bg (no H0 (az.refl _)))⟩
   refine⟨_,rfl,_,rfl,_,rfl,pl,vp,rfl,br.of Ez,fun p1 EG=>⟨by decide,fun p2 EC=>?_⟩⟩
   have s1:=af EG (.lst (i6 vp (some (-1)) none))
   have c1:upd H0 p1 (.lst (i6 vp (some (-1)) none)) p1=some (.lst (i6 vp (some (-1)) none)):=ag
   have s2:=s1.trans (af EC (.lst []))
   refine⟨p1,p2,i6 vp (some (-1)) none,rfl,rfl,br.of ((af EC (.lst [])) _ _ c1),br.of ag,_,rfl,aQ (fun E2=>?_) (fun _=>bg (no _ s2))⟩
   have Rf:=AQ E2
   obtain⟨v,EX,HZ⟩:=yQ Rf
   have hAp2:=ai.same s2 _ _ FJ
   have Pj:vp.length - 1 < pds.length:=by
    rw[←FJ.len]
    have:=List.length_pos_iff.mpr Rf
    omega
   obtain⟨v',ED,GI⟩:=ai.get (i:=vp.length - 1) hAp2 (d:=pds[vp.length - 1]) (by simp[Pj])
   have ev:v'=v:=by rw[HZ] at ED;cases ED;rfl
   subst ev
   obtain⟨z,e,epd,he⟩:=Hl _ (C2 Pj)
   rw[epd] at GI
   refine⟨_,rfl,_,rfl,pl,_,_,v',rfl,rfl,br.of (s2 _ _ Ez),EX,1,_,_,rfl,GI,rfl,fun y1 E5=>⟨rfl,_,rfl,aQ (fun _=>?_) (fun _=>no _ s2)⟩⟩
   exact⟨_,rfl,_,rfl,a,b,n,j,rfl,S.same s2,by show n+4≤_;omega,fun r H' n' d hB hb l1 l2 hA ht=>hq r H' n' d ((di.of s2).trans hB) hb l1 l2 hA (.inr ht.up)⟩
 case i2=>
  rintro D σ H0 ⟨a,b,nn,dp,pl,o5,o6,tl,rfl,GX,hq⟩
  refine⟨_,rfl,_,_,rfl,rfl,⟨by decide,by decide⟩,_,_,rfl,rfl,(by show(0:Int) < 3;decide),rfl,_,rfl,aQ (fun _=>⟨by show 2≤sizeLine;decide,fun l hl=>?_⟩) (fun _=>hq tl H0 [] (az.refl _) ⟨[],GX,aD.mpr rfl⟩ (by decide) (fun d hd=>by cases hd))⟩
  obtain⟨v,hv,EX⟩:=cF (xs:=[V.str "global",V.str "nonlocal"]) (k:=nn / 2160 % 2) (Int.emod_nonneg _ (by decide)) (by have:=Int.emod_lt_of_pos (nn / 2160) (b:=2) (by decide);show _ < (2:Int);omega)
  obtain⟨kd,rfl,hk⟩:∃kd:Str,v=.str kd∧(kd="global"∨kd="nonlocal"):=by
   simp only[List.mem_cons,List.not_mem_nil,or_false] at hv
   rcases hv with rfl | rfl
   ·exact⟨_,rfl,.inl rfl⟩
   ·exact⟨_,rfl,.inr rfl⟩
  have s1:=af hl (.lst [V.str "global",V.str "nonlocal"])
  refine⟨_,rfl,_,_,rfl,rfl,⟨by decide,by decide⟩,_,_,rfl,rfl,(by show(0:Int) < 2;decide),l,_,_,_,rfl,rfl,br.of ag,EX,_,rfl,_,_,rfl,rfl,⟨by decide,by decide⟩,_,rfl,fun z H2 s2=>⟨by show 1≤sizeLine;decide,fun p3 FV=>⟨by show 2≤sizeLine;decide,fun p4 Fy=>⟨by show 1≤sizeLine;decide,fun p5 EV=>?_⟩⟩⟩⟩
  have a3:=af FV (.tup [.str z])
  have a4:=af Fy (.tup [.str kd,.ref p3])
  have a5:=af EV (.lst [.ref p4])
  have x3:At K (upd H2 p3 (.tup [.str z])) (.tup [.str z]) (.ref p3):=At.new FV (ai.eA (av.mpr rfl))
  have x4:=At.new Fy (cV (av.mpr (rfl:V.str kd=V.str kd)) x3)
  exact hq p5 _ [.tup [.str kd,.tup [.str z]]] (((s1.trans s2).trans a3).trans (a4.trans a5)) ⟨_,ag,ai.eA (At.same a5 _ _ x4)⟩ (CN 1) (fun d hd=>by rw[Dg.mp hd];exact .inl ⟨kd,[z],rfl,hk,Nat.le_succ 1⟩)
 case main=>
  have em:(((m+1:Nat):Int) - 1)=((m:Nat):Int):=by omega
  refine⟨by decide,fun pl Ez=>?_⟩
  have s1:=af Ez (.lst [])
  have c1:upd H pl (.lst []) pl=some (.lst []):=ag
  have npb:pl≠b:=fun z=>by rw[z,S.jk] at Ez;cases Ez
  revert s1 c1
  generalize upd H pl (.lst [])=H1
  intro s1 c1
  have r0:=Int.emod_nonneg nn (b:=4) (by decide)
  have r1:=Int.emod_lt_of_pos nn (b:=4) (by decide)
  refine⟨_,rfl,_,_,rfl,rfl,(by show(0:Int) < 4;decide),_,rfl,by omega,by omega,?_⟩
  refine kF (fun i σ H'=>∃o5 o6 n' pds vp,σ=[some (.ref a),some (.ref b),some (.int nn),some (.int ((m+1:Nat):Int)),some (.ref pl),o5,o6,none,none]∧di b H H'∧H' b=some (.lst [.int (n':Nat),.int j])∧n≤n'∧n'≤n+4*i∧H' pl=some (.lst vp)∧ai K H' pds vp∧pds.length=i∧∀p∈pds,nN p)
   ⟨none,none,n,[],[],rfl,.of s1,s1 _ _ S.jk,CN _,by omega,c1,aD.mpr rfl,rfl,fun p hp=>by cases hp⟩ ?_ ?_
  ·rintro i σ H2 hi ⟨o5,o6,n',pds,vp,rfl,hB,hb,l1,l2,HR,FJ,hlen,Hl⟩
   have Rx:i < 4:=by omega
   refine⟨a,b,nn,_,pl,_,n',j,vp,pds,rfl,S.go hB hb,by omega,HR,FJ,Hl,fun v H3 n3 e FA FI l3 l4 hA hopt=>?_⟩
   have Mo:=FA pl _ npb HR
   have m0:=Int.emod_nonneg (nn / 144) (b:=5) (by decide)
   have m1:=Int.emod_lt_of_pos (nn / 144) (b:=5) (by decide)
   refine⟨_,rfl,.inl ⟨rfl,_,br.of Mo⟩,_,rfl,_,_,rfl,rfl,⟨by decide,by decide⟩,_,rfl,_,rfl,_,_,rfl,rfl,⟨by decide,by decide⟩,_,_,rfl,rfl,(by show(0:Int) < 5;decide),_,_,rfl,rfl,_,_,rfl,rfl,.inr ⟨by omega,by omega⟩,_,_,rfl,rfl,_,rfl,fun z H4 s4=>⟨_,rfl,by show 2≤sizeLine;decide,fun p5 EV=>?_⟩⟩
   have a5:=s4.trans (af EV (.tup [.str z,v]))
   have x5:At K (upd H4 p5 (.tup [.str z,v])) (.tup [.str z,e]) (.ref p5):=At.new EV (cV (av.mpr rfl) (At.same s4 _ _ hA))
   revert a5 x5
   generalize upd H4 p5 (.tup [.str z,v])=H5
   intro a5 x5
   have Mn:=a5 _ _ Mo
   have Nd:=ai.same a5 _ _ (ai.ax (FA.ax hb) _ _ FJ)
   have lp:=Nd.len
   refine⟨pl,vp,.ref p5,rfl,rfl,Mn,by rw[lp,hlen];exact small (by omega),?_⟩
   obtain⟨ws,k1,k2⟩:=cG.push Mn Nd x5
   refine⟨_,_,n3,pds++[.tup [.str z,e]],ws,rfl,((hB.trans FA).trans (.of a5)).own Ez,by rw[aF (Ne.symm npb)];exact a5 _ _ FI,by omega,by omega,k1,k2,by rw[CK,hlen];rfl,fun p hp=>?_⟩
   rcases Df.mp hp with y | y
   ·exact Hl p y
   ·rw[Dg.mp y];exact⟨z,e,rfl,hopt⟩
  ·rintro σ H2 ⟨o5,o6,n',pds,vp,rfl,hB,hb,l1,l2,HR,FJ,hlen,Hl⟩
   have Ph:pds.length≤3:=by rw[hlen];omega
   rw[←hlen] at l2
   refine⟨by decide,fun tl GX=>?_⟩
   have a3:=af GX (.lst [])
   have c3:upd H2 tl (.lst []) tl=some (.lst []):=ag
   revert a3 c3
   generalize upd H2 tl (.lst [])=H3
   intro a3 c3
   refine⟨a,b,nn,_,pl,o5,o6,tl,rfl,c3,fun JC H4 ts s4 hL NX hsim=>?_⟩
   obtain⟨vt,FH,FZ⟩:=hL
   refine⟨_,rfl,JC,_,rfl,.inl ⟨br.of FH,fun t6 E6=>?_⟩⟩
   have a6:=af E6 (.tup vt)
   have x6:At K (upd H4 t6 (.tup vt)) (.tup ts) (.ref t6):=At.new E6 FZ
   revert a6 x6
   generalize upd H4 t6 (.tup vt)=H6
   intro a6 x6
   refine⟨_,rfl,_,rfl,by show 3≤sizeLine;decide,fun p8 Jj=>?_⟩
   have a8:=af Jj (.tup [.bl true,.bl false,.bl false])
   have x8:At K (upd H6 p8 (.tup [.bl true,.bl false,.bl false])) (uT true false false) (.ref p8):=At.new Jj (cD (bP.mpr rfl) (bP.mpr rfl) (bP.mpr rfl))
   revert a8 x8
   generalize upd H6 p8 (.tup [.bl true,.bl false,.bl false])=H8
   intro a8 x8
   have HF:=((a3.trans s4).trans a6).trans a8
   have IH:=HF _ _ hb
   refine⟨_,rfl,_,_,rfl,rfl,a,b,n',j,.ref p8,true,false,false,by rw[←em];rfl,(S.go hB hb).same HF,x8,by omega,fun r9 H9 n9 d9 Jx Pz l5 l6 Nm O2=>?_⟩
   obtain⟨bs,rfl,hbs3,Hc⟩:=O2
   have RW:=Jx.ax IH
   refine⟨ts,bs,At.ax RW _ _ (At.same a8 _ _ x6),Nm,small (by omega),fun Lr FF EU Im=>?_⟩
   have HS:=EU _ _ (Jx pl _ npb (HF _ _ HR))
   have hAp10:=ai.same EU _ _ (ai.ax RW _ _ (ai.same HF _ _ FJ))
   refine⟨_,rfl,_,_,rfl,rfl,⟨by decide,by decide⟩,_,rfl,fun Og Ka Hh=>⟨_,rfl,pl,_,rfl,.inl ⟨br.of (Hh _ _ HS),fun LR Me=>⟨_,rfl,by show 4≤sizeLine;decide,fun Q0 Kx=>?_⟩⟩⟩⟩
   have Qp:=af Me (.tup vp)
   have RV:=af Kx (.tup [.str "def",.str Og,.ref LR,Lr])
   have LV:=(EU.trans Hh).trans (Qp.trans RV)
   exact q _ _ n9 (.tup [.str "def",.str Og,.tup pds,.tup (ts++bs)]) (((hB.trans (.of HF)).trans Jx).trans (.of LV)) (LV _ _ Pz) (by omega) (by omega)
    (At.new Kx (gh (av.mpr rfl) (av.mpr rfl) (At.new Me (ai.same Hh _ _ hAp10)) (At.same (Hh.trans Qp) _ _ Im)))
    (.inr (.inl ⟨Og,pds,ts++bs,rfl,by omega,Hl,by rw[CK];omega,fun d hd=>(Df.mp hd).elim (fun y=>fY.sim (hsim d y) m) (Hc d)⟩))
abbrev zA (a b:Addr) (xa:V) (nn dp:Int) (xc:V) (cl:Addr) (k v1 v2 v3 v4:Option V):L2.St:=[some (.ref a),some (.ref b),some xa,some (.int nn),some (.int dp),some xc,some (.ref cl),k,v1,v2,v3,v4]
def trIf (K:Fg06):TS:=fun D σ H=>∃a b xa nn dp xc cl k v1 v2 e x,σ=zA a b xa nn dp xc cl (some (.int k)) (some v1) (some v2) none none∧At K H e v1∧fH e∧At K H x v2∧jv x∧
 ∀QS QP H' e' x',az H H'→At K H' e' QS→fH e'→At K H' x' QP→jv x'→D.nx (zA a b xa nn dp xc cl (some (.int k)) (some QS) (some QP) none none) H'
def Bl (K:Fg06) (m:Nat):TS:=fun D σ H=>∃a b xa x y z nn xc cl o7 o8 o9 n j vc,σ=zA a b xa nn ((m+1:Nat):Int) xc cl o7 o8 o9 (some .aR) none∧fz K H a b n j∧At K H (uT x y z) xa∧H cl=some (.lst vc)∧n+bc (m+1)≤1000000000000∧
 ∀v H' n' d,di b H H'→H' b=some (.lst [.int (n':Nat),.int j])→n≤n'→n'≤n+bc (m+1)→At K H' d v→(d=.aR∨nv m d)→D.nx (zA a b xa nn ((m+1:Nat):Int) xc cl o7 o8 o9 (some v) none) H'
def Bk (K:Fg06) (m:Nat):TS:=fun D σ H=>∃a b xa x y z nn xc cl o7 o8 o9 OO ot n j vc,σ=zA a b xa nn ((m+1:Nat):Int) xc cl o7 o8 o9 OO (some ot)∧fz K H a b n j∧At K H (uT x y z) xa∧H cl=some (.lst vc)∧At K H (.tup []) ot∧n+bc (m+1)≤1000000000000∧
 ∀v H' n' d,di b H H'→H' b=some (.lst [.int (n':Nat),.int j])→n≤n'→n'≤n+bc (m+1)→At K H' d v→nv m d→D.nx (zA a b xa nn ((m+1:Nat):Int) xc cl o7 o8 o9 OO (some v)) H'
theorem fK:aW ["_law_cells","_law_spot","_law_at","_law_n","_law_deep","_law_caught","_law_catches","_law_k","_law_one","_law_name_here","_law_last","_law_other"] ["_law_cells","_law_spot","_law_at","_law_n","_law_deep"] (aE sQ):=fsX rfl rfl rfl rfl (by decide +kernel)
theorem yD{m lv:Nat}(g:fh mg) (F:eX K "_law_try" "_law_try" sQ f fd) (h1:5≤lv) (dN:Def P w K mg base "_law_name" ["_law_n"] 1 gx) (d1:Def P w K mg base "_law_term" ["_law_cells","_law_spot","_law_deep"] 3 (jM K 2))
  (dB:Def P w K mg base "_law_block" ["_law_cells","_law_spot","_law_at","_law_deep"] lv (lS K (m+1))):bO P w K mg base fw (lv+1) f fd ["_law_cells","_law_spot","_law_at","_law_n","_law_deep"] (xO K (m+1)):=by
 refine F.hV fK (fun vs H Q E h=>?_) (fun Si A outer s H vs Q E hr h=>?_)
 ·obtain⟨_,_,_,_,_,_,_,_,_,rfl,_⟩:=h;rfl
 obtain⟨a,b,n,j,nn,xa,x,y,z,rfl,S,Gp,hn,q⟩:=h
 have em:(((m+1:Nat):Int) - 1)=((m:Nat):Int):=by omega
 refine⟨_,ah (aA (i:=5) fK.nd rfl (Or.inl rfl) (aw (aa (aC (pv 2)) (aa (aC (pv 2)) (aa cn ae)))))
  (ah (aA (i:=6) fK.nd rfl (Or.inl rfl) (aI ae))
  (ah (bR C9 rfl (bz rfl g.jy (aa (ay bf (pv 3) ak) ae)) (aL (i:=7) fK.nd rfl (Or.inl rfl))
   (ah (aA (i:=8) fK.nd rfl (Or.inl rfl) (L3.aK d1 hr (by omega) rfl (aa (pv 0) (aa (pv 1) (aa ak ae)))))
   (ah (aA (i:=9) fK.nd rfl (Or.inl rfl) (bC cy (aI (aa bj (aa (L3.aK dN hr (by omega) rfl (aa (ay eS (ay bx (pv 3) ak) (pv 7)) ae)) ae))) (ay bf (ay bx (pv 3) ak) ak) (fun _ _=>rfl)))
   (ah (dU (t':=trIf K) (aN (LW.pt (bX (ar bw (pv 7) (ay fe (ay bf (pv 3) ak) ak) (aH _)) (bQ (ar bw (ay bf (ay bx (pv 3) ak) ak) ak (aH _)))))
    (aj (eD (aw (aa bj (aa bj ae))) (cw rfl (aU (aL (i:=8) fK.nd rfl (Or.inl rfl)) (aU (aL (i:=9) fK.nd rfl (Or.inl rfl)) bU))))) aB) ?i1)
   (aj (ba (cj CW C3 C4 bA (pv 6) (aa (aw (aa (pv 8) (aa (pv 9) (aa (L3.aK dB hr (by omega) rfl (aa (pv 0) (aa (pv 1) (aa (pv 5) (aa (ay fe (pv 4) ak) ae))))) ae)))) ae))))))))
  (ah (aA (i:=10) fK.nd rfl (Or.inl rfl) bj)
  (ah (dU (t':=Bl K m) (aN (LW.pt (dZ (ar (wm hr) (pv 6) (aI ae) (aH _)) (cX (ar bw (ay bf (ay bx (pv 3) ak) ak) ak (aH _)))))
   (aj (aA (i:=10) fK.nd rfl (Or.inl rfl) (L3.aK dB hr (by omega) rfl (aa (pv 0) (aa (pv 1) (aa (aw (aa (aC (pv 2)) (aa (dY (aC (pv 2)) (dw (bZ bw (ay bf (ay bx (pv 3) ak) ak) ak (aH _)))) (aa (aC (pv 2)) ae)))) (aa (ay fe (pv 4) ak) ae))))))) aB) ?i2)
  (ah (aA (i:=11) fK.nd rfl (Or.inl rfl) (aw ae))
  (ah (dU (t':=Bk K m) (aN (LW.pt (bX (ar (gP hr) (pv 6) (aI ae) (aH _)) (bQ (ar bw (ay bf (ay bx (pv 3) ak) ak) ak (aH _)))))
   (aj (aA (i:=11) fK.nd rfl (Or.inl rfl) (L3.aK dB hr (by omega) rfl (aa (pv 0) (aa (pv 1) (aa (pv 2) (aa (ay fe (pv 4) ak) ae))))))) aB) ?i3)
  (aj (aG (aw (aa aq (aa (L3.aK dB hr (by omega) rfl (aa (pv 0) (aa (pv 1) (aa (pv 2) (aa (ay fe (pv 4) ak) ae))))) (aa (aV b4 rfl g.fm eg (aa (pv 6) ae)) (aa (pv 11) (aa (pv 10) ae)))))))))))))),?main⟩
 case i1=>
  rintro D σ H0 ⟨a,b,xa,nn,dp,xc,cl,k,v1,v2,e,x,rfl,h1,h2,h3,h4,hq⟩
  refine⟨_,rfl,_,rfl,_,_,rfl,rfl,(by show(0:Int) < 3;decide),_,_,rfl,rfl,rfl,_,rfl,aQ (fun _=>⟨_,rfl,_,_,rfl,rfl,⟨by decide,by decide⟩,_,_,rfl,rfl,(by show(0:Int) < 3;decide),rfl,_,rfl,aQ (fun _=>⟨by show 2≤sizeLine;decide,fun p hp=>?_⟩) (fun _=>hq v1 v2 H0 e x (az.refl _) h1 h2 h3 h4)⟩) (fun _=>bg (hq v1 v2 H0 e x (az.refl _) h1 h2 h3 h4))⟩
  have a1:=af hp (.tup [.aR,.aR])
  exact⟨p,_,rfl,cq.of ag,rfl,_,_,rfl,_,_,rfl,rfl,hq .aR .aR _ .aR .aR a1 (aZ.mpr rfl) (.inl rfl) (aZ.mpr rfl) (.inl rfl)⟩
 case i2=>
  rintro D σ H0 ⟨a,b,xa,x,y,z,nn,xc,cl,o7,o8,o9,n,j,vc,rfl,S,hx,IG,hn,hq⟩
  refine⟨_,rfl,by decide,fun p0 Fi=>⟨cl,p0,vc,rfl,rfl,br.of ((af Fi _) _ _ IG),br.of ag,_,rfl,?_⟩⟩
  have a0:=af Fi (.lst [])
  revert a0
  generalize upd H0 p0 (.lst [])=H1
  intro a0
  have Fq:=At.same a0 _ _ hx
  have S1:=S.same a0
  refine aQ (fun _=>bJ ?t1) (fun _=>⟨_,rfl,_,_,rfl,rfl,⟨by decide,by decide⟩,_,_,rfl,rfl,(by show(0:Int) < 2;decide),rfl,_,rfl,aQ (fun _=>?t2) (fun _=>hq .aR H1 n .aR (.of a0) S1.jk (CN _) (by omega) (aZ.mpr rfl) (.inl rfl))⟩)
  all_goals
   refine⟨_,rfl,_,rfl,_,rfl,0,_,_,rfl,Fq,rfl,fun y0 Gw=>⟨_,rfl,1,_,_,rfl,Fq,rfl,fun y1 E5=>?_⟩⟩
   rw[bP.mp E5]
   refine⟨_,rfl,aQ (fun _=>⟨_,rfl,_,_,rfl,rfl,⟨by decide,by decide⟩,_,_,rfl,rfl,(by show(0:Int) < 3;decide),rfl,?_⟩) (fun _=>?_)⟩
   all_goals
    refine⟨_,rfl,2,_,_,rfl,Fq,rfl,fun y2 Fl=>⟨by show 3≤sizeLine;decide,fun pt Fw=>?_⟩⟩
    refine⟨_,rfl,_,_,rfl,rfl,a,b,n,j,.ref pt,x,_,z,by rw[←em];rfl,S1.same (af Fw _),At.new Fw (cD Gw (bP.mpr rfl) Fl),hn,fun r H' n' d hB hb l1 l2 hA ht=>hq r H' n' d ((di.of (a0.trans (af Fw _))).trans hB) hb l1 l2 hA (.inr ht)⟩
 case i3=>
  rintro D σ H0 ⟨a,b,xa,x,y,z,nn,xc,cl,o7,o8,o9,OO,ot,n,j,vc,rfl,S,hx,IG,ho,hn,hq⟩
  refine⟨_,rfl,by decide,fun p0 Fi=>⟨cl,p0,vc,rfl,rfl,br.of ((af Fi _) _ _ IG),br.of ag,_,rfl,?_⟩⟩
  have a0:=af Fi (.lst [])
  revert a0
  generalize upd H0 p0 (.lst [])=H1
  intro a0
  have S1:=S.same a0
  have no:=hq ot H1 n (.tup []) (.of a0) S1.jk (CN _) (by omega) (At.same a0 _ _ ho) (nv.nil m)
  refine aQ (fun _=>⟨_,rfl,_,_,rfl,rfl,⟨by decide,by decide⟩,_,_,rfl,rfl,(by show(0:Int) < 3;decide),rfl,_,rfl,aQ (fun _=>?_) (fun _=>no)⟩) (fun _=>bg no)
  exact⟨_,rfl,_,rfl,_,rfl,_,rfl,_,_,rfl,rfl,a,b,n,j,xa,x,y,z,by rw[←em];rfl,S1,At.same a0 _ _ hx,hn,fun r H' n' d hB hb l1 l2 hA ht=>hq r H' n' d ((di.of a0).trans hB) hb l1 l2 hA ht⟩
 case main=>
  have QU:tc 1=4:=rfl
  refine⟨_,rfl,0,_,_,rfl,Gp,rfl,fun y0 Gw=>⟨_,rfl,1,_,_,rfl,Gp,rfl,fun y1 E5=>⟨by show 3≤sizeLine;decide,fun pc Rn=>?_⟩⟩⟩
  have a1:=af Rn (.tup [y0,y1,.bl true])
  have x1:At K (upd H pc (.tup [y0,y1,.bl true])) (uT x y true) (.ref pc):=At.new Rn (cD Gw E5 (bP.mpr rfl))
  revert a1 x1
  generalize upd H pc (.tup [y0,y1,.bl true])=H1
  intro a1 x1
  refine⟨by decide,fun cl IG=>?_⟩
  have ncb:cl≠b:=fun e=>by
   have:=a1 _ _ S.jk
   rw[←e,IG] at this;cases this
  have hcl0:H cl=none:=none_of a1 IG
  have a2:=af IG (.lst [])
  have c2:upd H1 cl (.lst []) cl=some (.lst []):=ag
  revert a2 c2
  generalize upd H1 cl (.lst [])=H2
  intro a2 c2
  have x2:=At.same a2 _ _ x1
  have s2:=a1.trans a2
  have hxa2:=At.same s2 _ _ Gp
  have r0:=Int.emod_nonneg nn (b:=3) (by decide)
  have r1:=Int.emod_lt_of_pos nn (b:=3) (by decide)
  refine⟨_,rfl,_,_,rfl,rfl,(by show(0:Int) < 3;decide),_,rfl,by omega,by omega,?_⟩
  generalize JW:bc (m+1)=B at *
  refine kF (fun i σ H'=>∃o7 o8 o9 n' cds vc,σ=zA a b xa nn ((m+1:Nat):Int) (.ref pc) cl o7 o8 o9 none none∧di b H H'∧bN H2 H'∧H' b=some (.lst [.int (n':Nat),.int j])∧n≤n'∧n'≤n+i*(4+B)∧H' cl=some (.lst vc)∧ai K H' cds vc∧cds.length=i∧∀c∈cds,rX (fY m) c)
   ⟨none,none,none,n,[],[],rfl,.of s2,fun _ _ e=>e,s2 _ _ S.jk,CN _,by omega,c2,aD.mpr rfl,rfl,fun c hc=>by cases hc⟩ ?_ ?_
  ·rintro i σ H3 hi ⟨o7,o8,o9,n',cds,vc,rfl,hB,sT,hb,l1,l2,Ju,JY,hlen,N2⟩
   have Rx:i≤1:=by omega
   have hmul:i*(4+B)≤1*(4+B):=Nat.mul_le_mul_right _ Rx
   refine⟨_,rfl,_,rfl,a,b,n',j,rfl,S.go hB hb,by show n'+4≤_;omega,fun r4 H4 n4 d4 E3 Fd l3 l4 Hf FH=>?_⟩
   replace l4:n4≤n'+4:=l4
   have hcl4:=E3 cl _ ncb Ju
   have Li:=E3.ax hb
   refine⟨_,rfl,_,_,rfl,rfl,⟨by decide,by decide⟩,_,rfl,_,_,rfl,rfl,_,rfl,fun z5 H5 s5=>⟨by show 2≤sizeLine;decide,fun l hl=>?_⟩⟩
   have s6:=s5.trans (af hl (.lst [V.aR,V.str z5]))
   obtain⟨v,hv,EX⟩:=cF (xs:=[V.aR,V.str z5]) (k:=nn / 3 % 2) (Int.emod_nonneg _ (by decide)) (by have:=Int.emod_lt_of_pos (nn / 3) (b:=2) (by decide);show _ < (2:Int);omega)
   refine⟨_,rfl,_,_,rfl,rfl,⟨by decide,by decide⟩,_,_,rfl,rfl,(by show(0:Int) < 2;decide),l,_,_,v,rfl,rfl,br.of ag,EX,?_⟩
   revert s6
   generalize upd H5 l (.lst [V.aR,V.str z5])=H6
   intro s6
   obtain⟨xd,hxd,hoxd⟩:∃xd,At K H6 xd v∧jv xd:=by
    simp only[List.mem_cons,List.not_mem_nil,or_false] at hv
    rcases hv with rfl | rfl
    ·exact⟨.aR,aZ.mpr rfl,.inl rfl⟩
    ·exact⟨.str z5,av.mpr rfl,.inr ⟨_,rfl⟩⟩
   refine⟨a,b,xa,nn,_,_,cl,_,r4,v,d4,xd,rfl,At.same s6 _ _ Hf,.inr FH.up,hxd,hoxd,fun v1 v2 H7 e7 x7 s7 Il KD hX7 hoX7=>?_⟩
   have Iu:=s6.trans s7
   have MQ:=Iu _ _ hcl4
   have N4:=Iu _ _ Fd
   refine⟨_,rfl,.inl ⟨rfl,_,br.of MQ⟩,_,rfl,_,rfl,_,rfl,_,rfl,_,rfl,_,rfl,_,_,rfl,rfl,a,b,n4,j,.ref pc,x,y,true,by rw[←em];rfl,((S.go hB hb).go E3 Fd).same Iu,At.same Iu _ _ (At.ax Li _ _ (At.ax sT _ _ x2)),by rw[JW];omega,fun r8 H8 n8 d8 Jy IH l5 l6 Ik GZ=>⟨by show 3≤sizeLine;decide,fun p9 Gz=>?_⟩⟩
   rw[JW] at l6
   obtain⟨bs,rfl,Hc⟩:=GZ.ok
   have Qq:=Jy.ax N4
   have a9:=af Gz (.tup [v1,v2,r8])
   have x9:At K (upd H8 p9 (.tup [v1,v2,r8])) (.tup [e7,x7,.tup bs]) (.ref p9):=At.new Gz (cD (At.ax Qq _ _ Il) (At.ax Qq _ _ hX7) Ik)
   revert a9 x9
   generalize upd H8 p9 (.tup [v1,v2,r8])=H9
   intro a9 x9
   have R1:=(Li.trans (bN.of Iu)).trans (Qq.trans (bN.of a9))
   have KW:=a9 _ _ (Jy cl _ ncb MQ)
   have Nl:=ai.ax R1 _ _ JY
   have lc:=Nl.len
   refine⟨cl,vc,.ref p9,rfl,rfl,KW,by rw[lc,hlen];exact small (by omega),?_⟩
   obtain⟨ws,k1,k2⟩:=cG.push KW Nl x9
   refine⟨_,_,_,n8,cds++[.tup [e7,x7,.tup bs]],ws,rfl,((((hB.trans E3).trans (.of Iu)).trans Jy).trans (.of a9)).own hcl0,(sT.trans R1).trans (aS KW),by rw[aF (Ne.symm ncb)];exact a9 _ _ IH,by omega,by rw[Nat.add_mul,Nat.one_mul];omega,k1,k2,by rw[CK,hlen];rfl,fun c hc=>?_⟩
   rcases Df.mp hc with u | u
   ·exact N2 c u
   ·rw[Dg.mp u];exact⟨e7,x7,bs,rfl,KD,hoX7,Hc⟩
  ·rintro σ H3 ⟨o7,o8,o9,n',cds,vc,rfl,hB,sT,hb,l1,l2,Ju,JY,hlen,N2⟩
   have GA:cds.length≤2:=by rw[hlen];omega
   rw[←hlen] at l2
   have hmul:cds.length*(4+B)≤2*(4+B):=Nat.mul_le_mul_right _ GA
   have S3:=S.go hB hb
   have Hj:=At.ax sT _ _ hxa2
   refine⟨a,b,xa,x,y,z,nn,.ref pc,cl,o7,o8,o9,n',j,vc,rfl,S3,Hj,Ju,by rw[JW];omega,fun v4 H4 n4 d4 E3 Fd l3 l4 Hf FH=>⟨by decide,fun pe HU=>?_⟩⟩
   rw[JW] at l4
   have a5:=af HU (.tup [])
   have x5:At K (upd H4 pe (.tup [])) (.tup []) (.ref pe):=At.new HU (aD.mpr rfl)
   revert a5 x5
   generalize upd H4 pe (.tup [])=H5
   intro a5 x5
   have R4:=(E3.ax hb).trans (bN.of a5)
   have S5:=(S3.go E3 Fd).same a5
   have MR:=a5 _ _ (E3 cl _ ncb Ju)
   refine⟨a,b,xa,x,y,z,nn,.ref pc,cl,o7,o8,o9,some v4,.ref pe,n4,j,vc,rfl,S5,At.ax R4 _ _ Hj,MR,x5,by rw[JW];omega,fun v6 H6 n6 d6 GG Hd l5 l6 J6 E6=>?_⟩
   rw[JW] at l6
   have Od:=GG.ax S5.jk
   have R3:=R4.trans Od
   have hcl6:=GG cl _ ncb MR
   refine⟨_,rfl,_,rfl,_,rfl,_,rfl,_,_,rfl,rfl,a,b,n6,j,xa,x,y,z,by rw[←em];rfl,S5.go GG Hd,At.ax R3 _ _ Hj,by rw[JW];omega,fun r7 H7 n7 d7 LH N4 l7 l8 Il Mc=>⟨_,rfl,cl,_,rfl,.inl ⟨br.of (LH cl _ ncb hcl6),fun t8 GZ=>⟨_,rfl,_,rfl,by show 5≤sizeLine;decide,fun p9 Gz=>?_⟩⟩⟩⟩
   rw[JW] at l8
   obtain⟨bs,rfl,Hc⟩:=Mc.ok
   obtain⟨os,rfl,Hm⟩:=E6.ok
   have Lh:=LH.ax Hd
   have a8:=af GZ (.tup vc)
   have a9:=af Gz (.tup [.str "try",r7,.ref t8,v6,v4])
   have s9:=a8.trans a9
   have x4:=At.same a8 _ _ (At.ax Lh _ _ (At.ax Od _ _ (At.same a5 _ _ Hf)))
   exact q _ _ n7 (.tup [.str "try",.tup bs,.tup cds,.tup os,d4]) ((((hB.trans E3).trans (.of a5)).trans (GG.trans LH)).trans (.of s9)) (s9 _ _ N4) (by omega) (by omega)
    (At.new Gz (aJ.mpr ⟨_,_,rfl,av.mpr rfl,gh (At.same a8 _ _ Il) (At.new GZ (ai.ax (R3.trans Lh) _ _ JY)) (At.same a8 _ _ (At.ax Lh _ _ J6)) x4⟩))
    (.inr (.inr (.inr (.inl ⟨bs,cds,os,d4,rfl,Hc,GA,N2,Hm,FH.imp id fun h=>h.ok⟩))))
def uA:Nat→Nat
 | 0=>6
 | m+1=>uA m+2+1
theorem rR:∀m,6≤uA m
 | 0=>CN _
 | m+1=>by have:=rR m;show 6≤uA m+2+1;omega
theorem mw{k:Nat}{ps:List Str}{sp:Sp}(h:∀vs H Q E,sp vs H Q E→False):bO P w K mg base fw k f fd ps sp:=⟨fun vs H Q E z=>(h vs H Q E z).elim,fun A outer s H args us vs Q E _ _ _ _ z=>(h _ _ _ _ z).elim⟩
variable{fB fD fT fS:Addr}{dB dD dT dS:FuncData}
theorem rS{α:Type}{us:List α}{n:Nat}(h:us.length=n+1):∃a t,us=a::t∧t.length=n:=by
 cases us with
 | nil=>cases h
 | cons a t=>exact⟨a,t,rfl,Nat.succ.inj h⟩
theorem qN{x qual:Str}{st:Stmt}{f:Addr}{fd:FuncData}{ps:List Str}(F:eX K x qual st f fd) (h:∀(kV doc pm:Value) (an:Option Addr) (Si ct a0:Value),bindArgs (PySem.W.fnOf x qual (ef st) (dg st) (aE st) .none kV doc pm an Si ct) ⟨[a0],[]⟩=pure (ps.zip [a0])) (hl:ps.length=1):Binds K fd ps []:=F.binds fun _ _ _ _ _ _ us e=>by obtain⟨_,u0,rfl,c0⟩:=rS (e.trans hl);obtain rfl:=List.eq_nil_of_length_eq_zero c0;exact h ..
theorem uS{x qual:Str}{st:Stmt}{f:Addr}{fd:FuncData}{ps:List Str}(F:eX K x qual st f fd) (h:∀(kV doc pm:Value) (an:Option Addr) (Si ct a0 a1:Value),bindArgs (PySem.W.fnOf x qual (ef st) (dg st) (aE st) .none kV doc pm an Si ct) ⟨[a0,a1],[]⟩=pure (ps.zip [a0,a1])) (hl:ps.length=2):Binds K fd ps []:=F.binds fun _ _ _ _ _ _ us e=>by obtain⟨_,u0,rfl,c0⟩:=rS (e.trans hl);obtain⟨_,u1,rfl,c1⟩:=rS c0;obtain rfl:=List.eq_nil_of_length_eq_zero c1;exact h ..
theorem bd3{x qual:Str}{st:Stmt}{f:Addr}{fd:FuncData}{ps:List Str}(F:eX K x qual st f fd) (h:∀(kV doc pm:Value) (an:Option Addr) (Si ct a0 a1 a2:Value),bindArgs (PySem.W.fnOf x qual (ef st) (dg st) (aE st) .none kV doc pm an Si ct) ⟨[a0,a1,a2],[]⟩=pure (ps.zip [a0,a1,a2])) (hl:ps.length=3):Binds K fd ps []:=F.binds fun _ _ _ _ _ _ us e=>by obtain⟨_,u0,rfl,c0⟩:=rS (e.trans hl);obtain⟨_,u1,rfl,c1⟩:=rS c0;obtain⟨_,u2,rfl,c2⟩:=rS c1;obtain rfl:=List.eq_nil_of_length_eq_zero c2;exact h ..
theorem Bc{x qual:Str}{st:Stmt}{f:Addr}{fd:FuncData}{ps:List Str}(F:eX K x qual st f fd) (h:∀(kV doc pm:Value) (an:Option Addr) (Si ct a0 a1 a2 a3:Value),bindArgs (PySem.W.fnOf x qual (ef st) (dg st) (aE st) .none kV doc pm an Si ct) ⟨[a0,a1,a2,a3],[]⟩=pure (ps.zip [a0,a1,a2,a3])) (hl:ps.length=4):Binds K fd ps []:=F.binds fun _ _ _ _ _ _ us e=>by obtain⟨_,u0,rfl,c0⟩:=rS (e.trans hl);obtain⟨_,u1,rfl,c1⟩:=rS c0;obtain⟨_,u2,rfl,c2⟩:=rS c1;obtain⟨_,u3,rfl,c3⟩:=rS c2;obtain rfl:=List.eq_nil_of_length_eq_zero c3;exact h ..
theorem bd5{x qual:Str}{st:Stmt}{f:Addr}{fd:FuncData}{ps:List Str}(F:eX K x qual st f fd) (h:∀(kV doc pm:Value) (an:Option Addr) (Si ct a0 a1 a2 a3 a4:Value),bindArgs (PySem.W.fnOf x qual (ef st) (dg st) (aE st) .none kV doc pm an Si ct) ⟨[a0,a1,a2,a3,a4],[]⟩=pure (ps.zip [a0,a1,a2,a3,a4])) (hl:ps.length=5):Binds K fd ps []:=F.binds fun _ _ _ _ _ _ us e=>by obtain⟨_,u0,rfl,c0⟩:=rS (e.trans hl);obtain⟨_,u1,rfl,c1⟩:=rS c0;obtain⟨_,u2,rfl,c2⟩:=rS c1;obtain⟨_,u3,rfl,c3⟩:=rS c2;obtain⟨_,u4,rfl,c4⟩:=rS c3;obtain rfl:=List.eq_nil_of_length_eq_zero c4;exact h ..
theorem tR (g:fh mg) (FB:eX K "_law_block" "_law_block" ly fB dB) (FD:eX K "_law_def" "_law_def" sW fD dD) (FT:eX K "_law_try" "_law_try" sQ fT dT) (FS:eX K "_law_statement" "_law_statement" oO fS dS)
  (mB:mg "_law_block"=some (.ref fB)) (mD:mg "_law_def"=some (.ref fD)) (mT:mg "_law_try"=some (.ref fT)) (mS:mg "_law_statement"=some (.ref fS))
  (dC:Def P w K mg base "_law_cell" ["_law_cells","_law_spot"] 1 (gy K)) (dN:Def P w K mg base "_law_name" ["_law_n"] 1 gx)
  (d0:Def P w K mg base "_law_term" ["_law_cells","_law_spot","_law_deep"] 2 (jM K 1)) (d1:Def P w K mg base "_law_term" ["_law_cells","_law_spot","_law_deep"] 3 (jM K 2)) (d2:Def P w K mg base "_law_term" ["_law_cells","_law_spot","_law_deep"] 4 (jM K 3)) (dR:Def P w K mg base "_law_row" ["_law_cells","_law_spot","_law_at"] 5 (oG K)):
  ∀m,Def P w K mg base "_law_block" ["_law_cells","_law_spot","_law_at","_law_deep"] (uA m) (lS K m)∧Def P w K mg base "_law_statement" ["_law_cells","_law_spot","_law_at","_law_deep"] (uA m+2) (xP K m)
 | 0=>by
  have bB:Def P w K mg base "_law_block" ["_law_cells","_law_spot","_law_at","_law_deep"] (uA 0) (lS K 0):=bu FB mB (Bc FB (fun _ _ _ _ _ _ _ _ _ _=>rfl) rfl) (mw fun _ _ _ _ z=>z)
  have bD:Def P w K mg base "_law_def" ["_law_cells","_law_spot","_law_n","_law_deep"] (uA 0+1) (xR K 0):=bu FD mD (Bc FD (fun _ _ _ _ _ _ _ _ _ _=>rfl) rfl) (mw fun _ _ _ _ z=>z)
  have bT:Def P w K mg base "_law_try" ["_law_cells","_law_spot","_law_at","_law_n","_law_deep"] (uA 0+1) (xO K 0):=bu FT mT (bd5 FT (fun _ _ _ _ _ _ _ _ _ _ _=>rfl) rfl) (mw fun _ _ _ _ z=>z)
  exact⟨bB,bu FS mS (Bc FS (fun _ _ _ _ _ _ _ _ _ _=>rfl) rfl) (qg g FS (by decide) dC dN d0 d2 dR bB bD bT)⟩
 | m+1=>by
  obtain⟨_,bS⟩:=tR g FB FD FT FS mB mD mT mS dC dN d0 d1 d2 dR m
  have hl:=rR (m+1)
  have Pj:=rR m
  have bB:Def P w K mg base "_law_block" ["_law_cells","_law_spot","_law_at","_law_deep"] (uA (m+1)) (lS K (m+1)):=bu FB mB (Bc FB (fun _ _ _ _ _ _ _ _ _ _=>rfl) rfl) (ux g FB (by omega) dC bS)
  have bD:Def P w K mg base "_law_def" ["_law_cells","_law_spot","_law_n","_law_deep"] (uA (m+1)+1) (xR K (m+1)):=bu FD mD (Bc FD (fun _ _ _ _ _ _ _ _ _ _=>rfl) rfl) (yL g FD (by omega) dN d1 bB)
  have bT:Def P w K mg base "_law_try" ["_law_cells","_law_spot","_law_at","_law_n","_law_deep"] (uA (m+1)+1) (xO K (m+1)):=bu FT mT (bd5 FT (fun _ _ _ _ _ _ _ _ _ _ _=>rfl) rfl) (yD g FT (by omega) dN d1 bB)
  exact⟨bB,bu FS mS (Bc FS (fun _ _ _ _ _ _ _ _ _ _=>rfl) rfl) (qg g FS (by omega) dC dN d0 d2 dR bB bD bT)⟩
def zN (K:Fg06):Sp:=fun vs H Q _=>∃(a b:Addr) (n:Nat) (j:Int),vs=[.ref a,.ref b]∧fz K H a b n j∧n≤1000∧∀r H' ds,di b H H'→At K H' (.tup ds) r→ds.length≤5→(∀d∈ds,fY 4 d)→Q r H'
theorem vC:aW ["_law_cells","_law_spot","_law_found","_law_k"] ["_law_cells","_law_spot"] (aE rj):=fsX rfl rfl rfl rfl (by decide +kernel)
theorem Aq (g:fh mg) (F:eX K "_law_program" "_law_program" rj f fd) (dC:Def P w K mg base "_law_cell" ["_law_cells","_law_spot"] 1 (gy K)) (bS:Def P w K mg base "_law_statement" ["_law_cells","_law_spot","_law_at","_law_deep"] (uA 4+2) (xP K 4)):
  bO P w K mg base fw (uA 4+3) f fd ["_law_cells","_law_spot"] (zN K):=by
 refine F.hV vC (fun vs H Q E h=>?_) (fun Si A outer s H vs Q E hr h=>?_)
 ·obtain⟨_,_,_,_,rfl,_⟩:=h;rfl
 obtain⟨a,b,n,j,rfl,S,hn,q⟩:=h
 refine⟨_,ah (aA (i:=2) vC.nd rfl (Or.inl rfl) (aI ae))
  (ah (bR C9 rfl (bz rfl g.jy (aa (ay eS ak (ay bf (ay bx (L3.aK dC hr (by decide) rfl (aa (pv 0) (aa (pv 1) ae))) ak) ak)) ae)) (aL (i:=3) vC.nd rfl (Or.inl rfl))
   (ah (eD (ay eS (bC cy (pv 1) ak (fun _ _=>rfl)) ak) (.mk (L2.vX (L2.pv 1) L2.ak set_list)))
   (aj (ba (cj CW C3 C4 bA (pv 2) (aa (L3.aK bS hr (CN _) rfl (aa (pv 0) (aa (pv 1) (aa (aw (aa cn (aa cn (aa cn ae)))) (aa ak ae))))) ae))))))
  (aj (aG (aV b4 rfl g.fm eg (aa (pv 2) ae))))),?main⟩
 case main=>
  have cst:20+5*bc 4=1102900:=by decide
  refine⟨by decide,fun fl EO=>?_⟩
  have nfb:fl≠b:=fun z=>by rw[z,S.jk] at EO;cases EO
  have s1:=af EO (.lst [])
  have c1:upd H fl (.lst []) fl=some (.lst []):=ag
  revert s1 c1
  generalize upd H fl (.lst [])=H1
  intro s1 c1
  have S1:=S.same s1
  refine⟨_,rfl,_,rfl,a,b,n,j,rfl,S1,by omega,fun i0 H2 i1 i2 FY EW=>⟨_,_,rfl,rfl,⟨by decide,by decide⟩,_,_,rfl,rfl,(by show(0:Int) < 5;decide),_,_,rfl,rfl,?_⟩⟩
  have r0:=Int.emod_nonneg (i0 / 5) (b:=5) (by decide)
  have r1:=Int.emod_lt_of_pos (i0 / 5) (b:=5) (by decide)
  have hfl2:=FY fl _ nfb c1
  refine⟨_,rfl,by omega,by omega,?_⟩
  refine kF (fun i σ H'=>∃o3 n' j' ds vf,σ=[some (.ref a),some (.ref b),some (.ref fl),o3]∧di b H H'∧H' b=some (.lst [.int (n':Nat),.int j'])∧n'≤n+1+i*1102900∧H' fl=some (.lst vf)∧ai K H' ds vf∧ds.length=i∧∀d∈ds,fY 4 d)
   ⟨none,n+1,j,[],[],rfl,(di.of s1).trans FY,EW,by omega,hfl2,aD.mpr rfl,rfl,fun p hp=>by cases hp⟩ ?_ ?_
  ·rintro i σ H3 hi ⟨o3,n',j',ds,vf,rfl,hB,hb,l2,MD,E1,hlen,EE⟩
   have hi5:i≤4:=by omega
   have Pm:uX [V.int (n':Nat),V.int j'].length 1=some 1:=by
    unfold uX
    rw[CQ (by decide),CQ (by show(1:Int) < ((2:Nat):Int);decide)]
    rfl
   refine⟨_,rfl,b,_,_,_,rfl,rfl,br.of hb,fG (j:=0) rfl,_,_,rfl,rfl,_,rfl,b,_,_,1,rfl,rfl,hb,Pm,?_⟩
   have E3:=di.gL b H3 (.lst [.int (n':Nat),.int ((n':Int)+24)])
   have Fd:upd H3 b (.lst [.int (n':Nat),.int ((n':Int)+24)]) b=some (.lst [.int (n':Nat),.int ((n':Int)+24)]):=ag
   dsimp only
   show vj _ _ _ (upd H3 b (.lst [.int (n':Nat),.int ((n':Int)+24)]))
   revert E3 Fd
   generalize upd H3 b (.lst [.int (n':Nat),.int ((n':Int)+24)])=H4
   intro E3 Fd
   have Li:=E3.ax hb
   have MC:=E3 fl _ nfb MD
   refine⟨_,rfl,.inl ⟨rfl,_,br.of MC⟩,_,rfl,_,rfl,by show 3≤sizeLine;decide,fun p5 EV=>?_⟩
   have a5:=af EV (.tup [.bl false,.bl false,.bl false])
   have x5:At K (upd H4 p5 (.tup [.bl false,.bl false,.bl false])) (uT false false false) (.ref p5):=At.new EV (cD (bP.mpr rfl) (bP.mpr rfl) (bP.mpr rfl))
   revert a5 x5
   generalize upd H4 p5 (.tup [.bl false,.bl false,.bl false])=H5
   intro a5 x5
   have M7:=(hB.trans E3).trans (.of a5)
   have JU:=a5 _ _ Fd
   have l3:i*1102900≤4*1102900:=Nat.mul_le_mul_right _ hi5
   refine⟨a,b,n',(n':Int)+24,.ref p5,false,false,false,rfl,S.go M7 JU,x5,by rw[cst];omega,fun r6 H6 n6 d6 GG Hd l5 l6 J6 E6=>?_⟩
   rw[cst] at l6
   have Od:=GG.ax JU
   have MB:=GG fl _ nfb (a5 _ _ MC)
   have Nn:=ai.ax ((Li.trans (bN.of a5)).trans Od) _ _ E1
   have lf:=Nn.len
   refine⟨fl,vf,r6,rfl,rfl,MB,by rw[lf,hlen];exact small (by omega),?_⟩
   obtain⟨ws,k1,k2⟩:=cG.push MB Nn J6
   refine⟨_,n6,_,ds++[d6],ws,rfl,(M7.trans GG).own EO,by rw[aF (Ne.symm nfb)];exact Hd,by omega,k1,k2,by rw[CK,hlen];rfl,fun d hd=>?_⟩
   rcases Df.mp hd with y | y
   ·exact EE d y
   ·rw[Dg.mp y];exact E6
  ·rintro σ H3 ⟨o3,n',j',ds,vf,rfl,hB,hb,l2,MD,E1,hlen,EE⟩
   refine⟨_,rfl,fl,_,rfl,.inl ⟨br.of MD,fun t4 FH=>?_⟩⟩
   exact q _ _ ds (hB.trans (.of (af FH _))) (At.new FH E1) (by omega) EE
end
def ie (r:D):Prop:=∃e,r=.tup [.str "read",e]
def gs (d:D):List D:=(bM d).toList.map fun z=>.tup [.str "bound",.str z]
def iq (here d:D):List D:=if d.k="global"∨d.k="nonlocal" then [.tup [.str "told",here,d]] else []
def jj (d:D):List D:=if d.k="yield" then [.tup [.str "yields",.str ""]] else []
theorem vP{rs:List D}(h:∀r∈rs,ie r):rs.filterMap gr=[]:=by
 rw[List.filterMap_eq_nil_iff]
 intro r hr
 obtain⟨e,rfl⟩:=h r hr
 rw[jH,CO (by decide +kernel)]
theorem vO{rs:List D}(h:∀r∈rs,ie r):rs.flatMap gv=[]:=by
 rw[List.flatMap_eq_nil_iff]
 intro r hr
 obtain⟨e,rfl⟩:=h r hr
 rw[jq,CO (by decide +kernel)]
theorem Cw (d:D):(gs d).filterMap gr=(bM d).toList:=by
 unfold gs
 cases bM d with
 | none=>rfl
 | some z=>
  show(match gr (.tup [.str "bound",.str z]) with | none=>[] | some b=>[b])=[z]
  rw[jH,CQ rfl];rfl
theorem Cv (d:D):(gs d).flatMap gv=[]:=by
 unfold gs
 cases bM d with
 | none=>rfl
 | some z=>
  show gv (.tup [.str "bound",.str z])++[]=[]
  rw[jq,CO (by decide +kernel)];rfl
theorem Bo (here d:D):(iq here d).filterMap gr=[]:=by
 unfold iq
 split
 ·show(match gr (.tup [.str "told",here,d]) with | none=>[] | some b=>[b])=[]
  rw[jH,CO (by decide +kernel)]
 ·rfl
theorem Bm (here d:D):(iq here d).flatMap gv=g0 d:=by
 unfold iq g0
 split
 ·show gv (.tup [.str "told",here,d])++[]=_
  rw[jq,CQ rfl,List.append_nil];rfl
 ·rfl
theorem Bi (d:D):(jj d).filterMap gr=[]:=by
 unfold jj
 split
 ·show(match gr (.tup [.str "yields",.str ""]) with | none=>[] | some b=>[b])=[]
  rw[jH,CO (by decide +kernel)]
 ·rfl
theorem Bh (d:D):(jj d).flatMap gv=[]:=by
 unfold jj
 split
 ·show gv (.tup [.str "yields",.str ""])++[]=_
  rw[jq,CO (by decide +kernel)];rfl
 ·rfl
theorem u7{rs:List D}{here d:D}(h:∀r∈rs,ie r):fu (rs++gs d++iq here d++jj d) [d]:=by
 refine⟨?_,?_⟩
 ·rw[List.filterMap_append,List.filterMap_append,List.filterMap_append,vP h,Cw,Bo,Bi]
  cases e:bM d<;>simp[e]
 ·rw[List.flatMap_append,List.flatMap_append,List.flatMap_append,vO h,Cv,Bm,Bh]
  simp
theorem Ak{rs:List D}{here d:D}(h:∀r∈rs,ie r) (bH:jU d) (he:d.k≠"except"):∀r∈rs++gs d++iq here d++jj d,gZ r:=by
 intro r hr
 rcases Df.mp hr with hr | hr
 ·rcases Df.mp hr with hr | hr
  ·rcases Df.mp hr with hr | hr
   ·obtain⟨e,rfl⟩:=h r hr
    exact⟨_,_,rfl,fun z=>absurd z (by decide +kernel),fun z=>absurd z (by decide +kernel)⟩
   ·unfold gs at hr
    cases e:bM d with
    | none=>rw[e] at hr;cases hr
    | some z=>
     rw[e] at hr
     have:r=.tup [.str "bound",.str z]:=by simpa using hr
     subst this
     exact⟨_,_,rfl,fun _=>⟨z,rfl⟩,fun z=>absurd z (by decide +kernel)⟩
  ·unfold iq at hr
   split at hr
   ·rename_i hk
    rw[Dg.mp hr]
    obtain⟨k,r',rfl,sh⟩:=bH
    obtain⟨xs,rfl⟩:=sh.tl hk
    exact⟨_,_,rfl,fun z=>absurd z (by decide +kernel),fun _=>⟨here,k,xs,rfl⟩⟩
   ·cases hr
 ·unfold jj at hr
  split at hr
  ·rw[Dg.mp hr]
   exact⟨_,_,rfl,fun z=>absurd z (by decide +kernel),fun z=>absurd z (by decide +kernel)⟩
  ·cases hr
theorem yw{rs:List D}(here d:D):(rs++gs d++iq here d++jj d).length≤rs.length+3:=by
 have h1:(gs d).length≤1:=by unfold gs;cases bM d<;>simp
 have h2:(iq here d).length≤1:=by unfold iq;split<;>simp
 have h3:(jj d).length≤1:=by unfold jj;split<;>simp
 simp only[List.length_append]
 omega
theorem oj{m:Nat}{k:Str}{r:List D}(h:fY m (.tup (.str k::r))):(k∈(["set","more","for","class","def"]:List Str)∧∃z t,r=.str z::t)∨(k="yield"∧∃a t,r=[a,t]∧jv a)∨(k∉(["set","more","for","class","def"]:List Str)∧k≠"yield"∧k≠"except"):=by
 have sim:∀d,fZ d→d=.tup (.str k::r)→(k∈(["set","more","for","class","def"]:List Str)∧∃z t,r=.str z::t)∨(k="yield"∧∃a t,r=[a,t]∧jv a)∨(k∉(["set","more","for","class","def"]:List Str)∧k≠"yield"∧k≠"except"):=fun d h e=>by
  rcases h with ⟨k',xs,rfl,Fe,_⟩ | ⟨k',rfl,Fe⟩ | ⟨z,t,rfl,_⟩ | ⟨z,o,t,rfl,_⟩ | ⟨t,z,u,rfl,_⟩ | ⟨t,rfl,_⟩ | ⟨t,u,rfl,_⟩ | ⟨a,t,rfl,ha,_⟩ | ⟨t,rfl,_⟩
  ·cases e;refine .inr (.inr ?_);rcases Fe with rfl | rfl<;>decide +kernel
  ·cases e;refine .inr (.inr ?_);rcases Fe with rfl | rfl | rfl<;>decide +kernel
  ·cases e;exact .inl ⟨by decide +kernel,z,_,rfl⟩
  ·cases e;exact .inl ⟨by decide +kernel,z,_,rfl⟩
  ·cases e;exact .inr (.inr (by decide +kernel))
  ·cases e;exact .inr (.inr (by decide +kernel))
  ·cases e;exact .inr (.inr (by decide +kernel))
  ·cases e;exact .inr (.inl ⟨rfl,a,t,rfl,ha⟩)
  ·cases e;exact .inr (.inr (by decide +kernel))
 cases m with
 | zero=>exact sim _ h rfl
 | succ m=>
  rcases h with h | ⟨z,ps,b,e,_⟩ | ⟨z,es,b,e,_⟩ | ⟨b,cs,o,l,e,_⟩ | ⟨k',t,b,o,e,Fe,_⟩ | ⟨z,t,b,o,e,_⟩
  ·exact sim _ h rfl
  ·cases e;exact .inl ⟨by decide +kernel,z,_,rfl⟩
  ·cases e;exact .inl ⟨by decide +kernel,z,_,rfl⟩
  ·cases e;exact .inr (.inr (by decide +kernel))
  ·cases e;refine .inr (.inr ?_);rcases Fe with rfl | rfl<;>decide +kernel
  ·cases e;exact .inl ⟨by decide +kernel,z,_,rfl⟩
def kg (k:Str):List Int:=if k="set" then [2] else if k="put" then [3,1] else if k="more" then [3] else if k="return" then [1] else if k="raise" then [1,2] else if k="yield" then [2] else if k="do" then [1] else if k="if" then [1] else if k="while" then [1] else if k="for" then [2] else if k="class" then [2] else if k="def" then [2] else []
def uh (M:Nat) (k:Str) (r:List D):Prop:=(kg k).length*M≤200∧M≤200∧∀i∈kg k,∃(j:Nat) (e:D),i=(j:Int)∧(D.str k::r)[j]?=some e∧Tm M 50 e
theorem hU{k:Str}{r:List D}{e:D}{j:Nat}{M:Nat}(hM:M≤200) (hi:kg k=[(j:Int)]) (he:(D.str k::r)[j]?=some e) (ht:Tm M 50 e):uh M k r:=by
 refine⟨by rw[hi];simpa using hM,hM,fun i h=>?_⟩
 rw[hi] at h
 exact⟨j,e,Dg.mp h,he,ht⟩
theorem vQ{k:Str}{r:List D}{e e':D}{j j':Nat}{M:Nat}(hM:M≤100) (hi:kg k=[(j:Int),(j':Int)]) (he:(D.str k::r)[j]?=some e) (MG:(D.str k::r)[j']?=some e') (ht:Tm M 50 e) (ht':Tm M 50 e'):uh M k r:=by
 refine⟨by rw[hi];show 2*M≤200;omega,by omega,fun i h=>?_⟩
 rw[hi] at h
 rcases List.mem_cons.mp h with rfl | h
 ·exact⟨j,e,rfl,he,ht⟩
 ·exact⟨j',e',Dg.mp h,MG,ht'⟩
theorem oV{k:Str}{r:List D}(hi:kg k=[]):uh 0 k r:=⟨by rw[hi];simp,by decide,fun i h=>by rw[hi] at h;cases h⟩
theorem fH.xF{d:D}(h:fH d):Tm 47 50 d:=by
 rcases h with rfl | h
 ·exact Tm.aR.le (by decide) (by decide)
 ·exact h.tm.le (by decide) (by decide)
theorem sZ{m:Nat}{k:Str}{r:List D}(h:fY m (.tup (.str k::r))):∃M,uh M k r:=by
 have JD:∀{d:D},e9 2 d→Tm 47 50 d:=fun h=>h.tm.le (by decide) (by decide)
 have sim:∀d,fZ d→d=.tup (.str k::r)→∃M,uh M k r:=fun d h e=>by
  rcases h with ⟨k',xs,rfl,Fe,_⟩ | ⟨k',rfl,Fe⟩ | ⟨z,t,rfl,h1⟩ | ⟨z,o,t,rfl,h1⟩ | ⟨t,z,u,rfl,h1,h2⟩ | ⟨t,rfl,h1⟩ | ⟨t,u,rfl,h1,h2⟩ | ⟨a,t,rfl,ha,h1⟩ | ⟨t,rfl,h1⟩
  ·cases e;exact⟨0,oV (by rcases Fe with rfl | rfl<;>decide +kernel)⟩
  ·cases e;exact⟨0,oV (by rcases Fe with rfl | rfl | rfl<;>decide +kernel)⟩
  ·cases e;exact⟨47,hU (j:=2) (by decide) (by decide +kernel) rfl (JD h1)⟩
  ·cases e;exact⟨47,hU (j:=3) (by decide) (by decide +kernel) rfl (JD h1)⟩
  ·cases e;exact⟨47,vQ (j:=3) (j':=1) (by decide) (by decide +kernel) rfl rfl (JD h2) (JD h1)⟩
  ·cases e;exact⟨47,hU (j:=1) (by decide) (by decide +kernel) rfl h1.xF⟩
  ·cases e;exact⟨47,vQ (j:=1) (j':=2) (by decide) (by decide +kernel) rfl rfl h1.xF h2.xF⟩
  ·cases e;exact⟨47,hU (j:=2) (by decide) (by decide +kernel) rfl (JD h1)⟩
  ·cases e;exact⟨47,hU (j:=1) (by decide) (by decide +kernel) rfl (JD h1)⟩
 cases m with
 | zero=>exact sim _ h rfl
 | succ m=>
  rcases h with h | ⟨z,ps,b,e,hp,EL,hb⟩ | ⟨z,es,b,e,he,Gj,hb⟩ | ⟨b,cs,o,l,e,hb,hc,EM,ho,hl⟩ | ⟨k',t,b,o,e,Fe,ht,hb,ho⟩ | ⟨z,t,b,o,e,ht,hb,ho⟩
  ·exact sim _ h rfl
  ·cases e
   refine⟨197,hU (j:=2) (by decide) (by decide +kernel) rfl ?_⟩
   have tp:∀p∈ps,Tm 49 48 p:=fun p hp=>by
    obtain⟨z,e,rfl,he⟩:=EL p hp
    have:=he.tm
    rcases he with rfl | he
    ·exact⟨by simp[uV,hZ,zl],by simp[lj,eN],by simp[dep,eW]⟩
    ·obtain⟨a,b,c⟩:=he.tm
     have b':lj e≤47:=b
     have c':dep e≤5:=c
     refine⟨?_,?_,?_⟩
     ·rw[gf,jb,bV,jx,bV,a,gQ];rfl
     ·rw[dH,aX,aX,cE,iB];omega
     ·simp only[dep,eW];omega
   obtain⟨x,y,z⟩:=jK tp
   have:ps.length*49≤4*49:=Nat.mul_le_mul_right _ hp
   refine⟨?_,by rw[dH];omega,by rw[dep];omega⟩
   rw[gf,mz fun s hs=>(by obtain⟨z,e,rfl,_⟩:=EL s hs;exact⟨_,rfl⟩),x];rfl
  ·cases e
   refine⟨97,hU (j:=2) (by decide) (by decide +kernel) rfl ?_⟩
   obtain⟨x,y,z⟩:=jK fun s hs=>(Gj s hs).tm
   have:es.length*tz 2≤2*tz 2:=Nat.mul_le_mul_right _ he
   have tz2:tz 2=47:=rfl
   refine⟨?_,by rw[dH];omega,by rw[dep];omega⟩
   rw[gf,mz fun s hs=>(Gj s hs).isTup,x];rfl
  ·cases e;exact⟨0,oV (by decide +kernel)⟩
  ·cases e;exact⟨47,hU (j:=1) (by decide) (by rcases Fe with rfl | rfl<;>decide +kernel) rfl (JD ht)⟩
  ·cases e;exact⟨47,hU (j:=2) (by decide) (by decide +kernel) rfl (JD ht)⟩
def eK (p1 p2 p3 p4 p5 p6 p7:Addr):List (Key×V):=[(.inr "set",.ref p1),(.inr "put",.ref p2),(.inr "more",.ref p3),(.inr "return",.ref p4),(.inr "raise",.ref p5),(.inr "yield",.ref p6),(.inr "do",.ref p7)]
def eT (p1 p2 p3 p4 p5:Addr):List (Key×V):=[(.inr "if",.ref p1),(.inr "while",.ref p2),(.inr "for",.ref p3),(.inr "class",.ref p4),(.inr "def",.ref p5)]
theorem xE{Sd:List (Key×V)}{k:Key}(h:k∉Sd.map (·.1)):dj Sd k=none:=by
 unfold dj
 rw[Option.map_eq_none_iff,List.find?_eq_none]
 intro x hx e
 exact h (List.mem_map.mpr ⟨x,hx,of_decide_eq_true e⟩)
theorem jf:∀(more Sd:List (Key×V)),((Sd++more).map (·.1)).Nodup→cA Sd more=Sd++more
 | [],Sd,_=>by rw[List.append_nil];rfl
 | p::r,Sd,h=>by
  have hn:p.1∉Sd.map (·.1):=fun m=>by
   rw[List.map_append,List.nodup_append] at h
   exact h.2.2 _ m _ (by simp) rfl
  show cA (putK Sd p.1 p.2) r=_
  rw[vT p.2 (xE hn),jf r (Sd++[(p.1,p.2)]) (by simpa using h)]
  simp
theorem qS:((["set","put","more","return","raise","yield","do","if","while","for","class","def"]:List Str).map (Sum.inr:Str→Key)).Nodup:=by decide +kernel
theorem Br (p1 p2 p3 p4 p5 p6 p7:Addr):cA [] (eK p1 p2 p3 p4 p5 p6 p7)=eK p1 p2 p3 p4 p5 p6 p7:=jf _ [] (List.Sublist.nodup (List.sublist_append_left _ _) qS)
theorem xI (p1 p2 p3 p4 p5 p6 p7 q1 q2 q3 q4 q5:Addr):cA (eK p1 p2 p3 p4 p5 p6 p7) (eT q1 q2 q3 q4 q5)=eK p1 p2 p3 p4 p5 p6 p7++eT q1 q2 q3 q4 q5:=jf _ _ qS
theorem Bq (q1 q2 q3 q4 q5:Addr):cA [] (eT q1 q2 q3 q4 q5)=eT q1 q2 q3 q4 q5:=jf _ [] (List.Sublist.nodup (List.sublist_append_right ((["set","put","more","return","raise","yield","do"]:List Str).map (Sum.inr:Str→Key)) _) qS)
theorem xH{H:Hp}{p1 p2 p3 p4 p5 p6 p7 q1 q2 q3 q4 q5:Addr}(c0:H p1=some (.lst [.int 2])) (c1:H p2=some (.lst [.int 3,.int 1])) (c2:H p3=some (.lst [.int 3])) (c3:H p4=some (.lst [.int 1])) (c4:H p5=some (.lst [.int 1,.int 2])) (c5:H p6=some (.lst [.int 2])) (c6:H p7=some (.lst [.int 1])) (c7:H q1=some (.lst [.int 1])) (c8:H q2=some (.lst [.int 1])) (c9:H q3=some (.lst [.int 2])) (c10:H q4=some (.lst [.int 2])) (Lg:H q5=some (.lst [.int 2])) (kk:Str):
  (dj (eK p1 p2 p3 p4 p5 p6 p7++eT q1 q2 q3 q4 q5) (.inr kk)=none∧kg kk=[])∨∃p,dj (eK p1 p2 p3 p4 p5 p6 p7++eT q1 q2 q3 q4 q5) (.inr kk)=some (.ref p)∧H p=some (.lst ((kg kk).map V.int)):=by
 have ne:∀{a b:Str},a≠b→¬(Sum.inr a:Key)=Sum.inr b:=fun h z=>h (Sum.inr.inj z)
 by_cases h0:kk="set"
 ·subst h0
  refine .inr ⟨p1,(bK rfl),?_⟩
  rw[show kg "set"=[2] by decide +kernel];exact c0
 by_cases h1:kk="put"
 ·subst h1
  refine .inr ⟨p2,(au (ne (by decide +kernel))).trans<|(bK rfl),?_⟩
  rw[show kg "put"=[3,1] by decide +kernel];exact c1
 by_cases h2:kk="more"
 ·subst h2
  refine .inr ⟨p3,(au (ne (by decide +kernel))).trans<|(au (ne (by decide +kernel))).trans<|(bK rfl),?_⟩
  rw[show kg "more"=[3] by decide +kernel];exact c2
 by_cases h3:kk="return"
 ·subst h3
  refine .inr ⟨p4,(au (ne (by decide +kernel))).trans<|(au (ne (by decide +kernel))).trans<|(au (ne (by decide +kernel))).trans<|(bK rfl),?_⟩
  rw[show kg "return"=[1] by decide +kernel];exact c3
 by_cases h4:kk="raise"
 ·subst h4
  refine .inr ⟨p5,(au (ne (by decide +kernel))).trans<|(au (ne (by decide +kernel))).trans<|(au (ne (by decide +kernel))).trans<|(au (ne (by decide +kernel))).trans<|(bK rfl),?_⟩
  rw[show kg "raise"=[1,2] by decide +kernel];exact c4
 by_cases h5:kk="yield"
 ·subst h5
  refine .inr ⟨p6,(au (ne (by decide +kernel))).trans<|(au (ne (by decide +kernel))).trans<|(au (ne (by decide +kernel))).trans<|(au (ne (by decide +kernel))).trans<|(au (ne (by decide +kernel))).trans<|(bK rfl),?_⟩
  rw[show kg "yield"=[2] by decide +kernel];exact c5
 by_cases h6:kk="do"
 ·subst h6
  refine .inr ⟨p7,(au (ne (by decide +kernel))).trans<|(au (ne (by decide +kernel))).trans<|(au (ne (by decide +kernel))).trans<|(au (ne (by decide +kernel))).trans<|(au (ne (by decide +kernel))).trans<|(au (ne (by decide +kernel))).trans<|(bK rfl),?_⟩
  rw[show kg "do"=[1] by decide +kernel];exact c6
 by_cases h7:kk="if"
 ·subst h7
  refine .inr ⟨q1,(au (ne (by decide +kernel))).trans<|(au (ne (by decide +kernel))).trans<|(au (ne (by decide +kernel))).trans<|(au (ne (by decide +kernel))).trans<|(au (ne (by decide +kernel))).trans<|(au (ne (by decide +kernel))).trans<|(au (ne (by decide +kernel))).trans<|(bK rfl),?_⟩
  rw[show kg "if"=[1] by decide +kernel];exact c7
 by_cases h8:kk="while"
 ·subst h8
  refine .inr ⟨q2,(au (ne (by decide +kernel))).trans<|(au (ne (by decide +kernel))).trans<|(au (ne (by decide +kernel))).trans<|(au (ne (by decide +kernel))).trans<|(au (ne (by decide +kernel))).trans<|(au (ne (by decide +kernel))).trans<|(au (ne (by decide +kernel))).trans<|(au (ne (by decide +kernel))).trans<|(bK rfl),?_⟩
  rw[show kg "while"=[1] by decide +kernel];exact c8
 by_cases h9:kk="for"
 ·subst h9
  refine .inr ⟨q3,(au (ne (by decide +kernel))).trans<|(au (ne (by decide +kernel))).trans<|(au (ne (by decide +kernel))).trans<|(au (ne (by decide +kernel))).trans<|(au (ne (by decide +kernel))).trans<|(au (ne (by decide +kernel))).trans<|(au (ne (by decide +kernel))).trans<|(au (ne (by decide +kernel))).trans<|(au (ne (by decide +kernel))).trans<|(bK rfl),?_⟩
  rw[show kg "for"=[2] by decide +kernel];exact c9
 by_cases PZ:kk="class"
 ·subst PZ
  refine .inr ⟨q4,(au (ne (by decide +kernel))).trans<|(au (ne (by decide +kernel))).trans<|(au (ne (by decide +kernel))).trans<|(au (ne (by decide +kernel))).trans<|(au (ne (by decide +kernel))).trans<|(au (ne (by decide +kernel))).trans<|(au (ne (by decide +kernel))).trans<|(au (ne (by decide +kernel))).trans<|(au (ne (by decide +kernel))).trans<|(au (ne (by decide +kernel))).trans<|(bK rfl),?_⟩
  rw[show kg "class"=[2] by decide +kernel];exact c10
 by_cases Nu:kk="def"
 ·subst Nu
  refine .inr ⟨q5,(au (ne (by decide +kernel))).trans<|(au (ne (by decide +kernel))).trans<|(au (ne (by decide +kernel))).trans<|(au (ne (by decide +kernel))).trans<|(au (ne (by decide +kernel))).trans<|(au (ne (by decide +kernel))).trans<|(au (ne (by decide +kernel))).trans<|(au (ne (by decide +kernel))).trans<|(au (ne (by decide +kernel))).trans<|(au (ne (by decide +kernel))).trans<|(au (ne (by decide +kernel))).trans<|(bK rfl),?_⟩
  rw[show kg "def"=[2] by decide +kernel];exact Lg
 refine .inl ⟨?_,?_⟩
 ·exact(au (ne (Ne.symm h0))).trans<|(au (ne (Ne.symm h1))).trans<|(au (ne (Ne.symm h2))).trans<|(au (ne (Ne.symm h3))).trans<|(au (ne (Ne.symm h4))).trans<|(au (ne (Ne.symm h5))).trans<|(au (ne (Ne.symm h6))).trans<|(au (ne (Ne.symm h7))).trans<|(au (ne (Ne.symm h8))).trans<|(au (ne (Ne.symm h9))).trans<|(au (ne (Ne.symm PZ))).trans<|(au (ne (Ne.symm Nu))).trans<|rfl
 ·unfold kg
  rw[CO h0,CO h1,CO h2,CO h3,CO h4,CO h5,CO h6,CO h7,CO h8,CO h9,CO PZ,CO Nu]
section
variable{P:Program}{w:World}{K:Fg06}{mg:Str→Option Value}{base:Heap}{f:Addr}{fd:FuncData}
theorem qA{H1:Hp}{a:Addr}{Sh:List V}{ds:List D}{tag:Str}{σ:L2.St}{Q:Addr→Hp→Prop}(sq:br K H1 a Sh) (hA:ai K H1 ds Sh) (hl:ds.length≤1000000) (q:∀p H',H1 p=none→az H1 H'→cG K H' p (ds.map fun d=>.tup [.str tag,d])→Q p H'):
  ∃vs:List V,(vs.length=([]:List Nat).length∧∀(j i:Nat),([]:List Nat)[j]?=some i→∃v,vs[j]?=some v∧σ[i]?=some (some v))∧∀D,H1 D=none→∃W:Nat→Nat→List V→Hp→Prop,(∃m,W 0 m [] (upd H1 D (.lst [])))∧∀i m ys H,W i m ys H→
   ((oA K a).stop i H∧Q D H)∨((oA K a).go i H∧∀x H' (ox:List (Option V)),ox.length=1→(oA K a).pK i H x H'→fX 0 x (ox++vs.map some) H' fun σ2 H2=>∃EN,EN.length=1∧σ2=EN++vs.map some∧iA σ2 H2 fun b H3=>
    if b=true then lN (cL (tC (.str tag)) (cL (fi 0) gJ)) σ2 H3 fun v H4=>H4 D=some (.lst ys)∧ys.length < sizeLine∧∃m',m' < m∧W (i+1) m' (ys++[v]) (upd H4 D (.lst (ys++[v]))) else ∃m',m' < m∧W (i+1) m' ys H3):=by
 have lp:=hA.len
 refine⟨[],⟨rfl,fun j i h=>by simp at h⟩,fun np EF=>⟨fun i m ys H'=>m=Sh.length - i∧i≤Sh.length∧az H1 H'∧H' np=some (.lst ys)∧ai K H' ((ds.take i).map fun d=>D.tup [.str tag,d]) ys,⟨_,rfl,Nat.zero_le _,af EF _,ag,aD.mpr rfl⟩,?_⟩⟩
 rintro i m ys H' ⟨rfl,hi,sH,hD,hY⟩
 by_cases Ex:i < Sh.length
 ·refine .inr ⟨⟨Sh,Sh[i],az.seq sH sq,by simp[Ex]⟩,fun x H'' ox Fn hy=>?_⟩
  obtain⟨rfl,hy⟩:=hy
  have ex:=hy Sh (az.seq sH sq)
  have Fs:i < ds.length:=by rw[←lp];exact Ex
  obtain⟨v',ED,ER⟩:=ai.get (i:=i) hA (d:=ds[i]) (by simp[Fs])
  have ev:v'=x:=by rw[ex] at ED;cases ED;rfl
  subst ev
  have Ey:=At.same sH _ _ ER
  obtain⟨o,rfl⟩:∃o,ox=[o]:=by
   match ox,Fn with
   | [o],_=>exact⟨o,rfl⟩
  refine⟨[some v'],rfl,rfl,?_⟩
  unfold iA
  dsimp only
  rw[CQ rfl]
  refine⟨_,rfl,by show 2≤sizeLine;decide,fun p hp=>?_⟩
  have a1:=af hp (.tup [.str tag,v'])
  have x1:At K (upd H'' p (.tup [.str tag,v'])) (.tup [.str tag,ds[i]]) (.ref p):=At.new hp (cV (av.mpr rfl) Ey)
  have LF:=a1 _ _ hD
  have hY1:=ai.same a1 _ _ hY
  have sH1:=sH.trans a1
  refine⟨LF,?_,Sh.length - (i+1),by omega,rfl,Ex,bh EF sH1,ag,?_⟩
  ·rw[hY.len,CS,De];exact CT (Nat.lt_succ_of_le (CZ (Nat.min_le_right _ _) hl)) (by rw[sizeLine_eq];omega)
  ·have tl:(ds.take (i+1)).map (fun d=>D.tup [.str tag,d])=(ds.take i).map (fun d=>D.tup [.str tag,d])++[D.tup [.str tag,ds[i]]]:=by
    rw[C8,List.map_append,C5 Fs]
    rfl
   rw[tl]
   exact ai.append (ai.ax (aS LF) _ _ hY1) (ai.eA (At.ax (aS LF) _ _ x1))
 ·have ei:i=Sh.length:=by omega
  subst ei
  refine .inl ⟨⟨Sh,az.seq sH sq,CN _⟩,q np H' EF sH ⟨ys,hD,?_⟩⟩
  rw[lp,List.take_length] at hY
  exact hY
theorem uL{H1:Hp}{a:Addr}{y:V}{d:D}{tag:Str}{σ:L2.St}{Q:Addr→Hp→Prop}(ha:H1 a=some (.lst [y])) (hy:At K H1 d y) (hd:jv d) (q:∀p H',H1 p=none→az H1 H'→cG K H' p (d.txt.toList.map fun z=>.tup [.str tag,.str z])→Q p H'):
  ∃vs:List V,(vs.length=([]:List Nat).length∧∀(j i:Nat),([]:List Nat)[j]?=some i→∃v,vs[j]?=some v∧σ[i]?=some (some v))∧∀D,H1 D=none→∃W:Nat→Nat→List V→Hp→Prop,(∃m,W 0 m [] (upd H1 D (.lst [])))∧∀i m ys H,W i m ys H→
   ((oA K a).stop i H∧Q D H)∨((oA K a).go i H∧∀x H' (ox:List (Option V)),ox.length=1→(oA K a).pK i H x H'→fX 0 x (ox++vs.map some) H' fun σ2 H2=>∃EN,EN.length=1∧σ2=EN++vs.map some∧lO (nc (fun x y H Q=>y=.aR∧Q (.bl (!decide (x=.aR))) H) (fi 0) (tC .aR)) σ2 H2 fun b H3=>
    if b=true then lN (cL (tC (.str tag)) (cL (fi 0) gJ)) σ2 H3 fun v H4=>H4 D=some (.lst ys)∧ys.length < sizeLine∧∃m',m' < m∧W (i+1) m' (ys++[v]) (upd H4 D (.lst (ys++[v]))) else ∃m',m' < m∧W (i+1) m' ys H3):=by
 refine⟨[],⟨rfl,fun j i h=>by simp at h⟩,fun np EF=>⟨fun i m ys H'=>m=1 - i∧i≤1∧az H1 H'∧H' np=some (.lst ys)∧ai K H' (if i=0 then [] else d.txt.toList.map fun z=>D.tup [.str tag,.str z]) ys,⟨_,rfl,by omega,af EF _,ag,aD.mpr rfl⟩,?_⟩⟩
 rintro i m ys H' ⟨rfl,hi,sH,hD,hY⟩
 have HK:br K H' a [y]:=br.of (sH _ _ ha)
 by_cases h0:i=0
 ·subst h0
  refine .inr ⟨⟨[y],y,HK,rfl⟩,fun x H'' ox Fn Gn=>?_⟩
  obtain⟨rfl,Gn⟩:=Gn
  have ex:=Gn [y] HK
  have ev:y=x:=by simpa using ex
  subst ev
  rw[CQ rfl] at hY
  have ey:ys=[]:=aD.mp hY
  subst ey
  obtain⟨o,rfl⟩:∃o,ox=[o]:=by
   match ox,Fn with
   | [o],_=>exact⟨o,rfl⟩
  refine⟨[some y],rfl,rfl,_,rfl,rfl,_,rfl,?_⟩
  rcases hd with rfl | ⟨z,rfl⟩
  ·rw[aZ.mp hy,show(!decide (V.aR=V.aR))=false from rfl]
   refine bg ⟨0,by omega,rfl,by omega,sH,hD,aD.mpr rfl⟩
  ·rw[av.mp hy,show(!decide (V.str z=V.aR))=true from rfl]
   refine bJ ⟨_,rfl,by show 2≤sizeLine;decide,fun p hp=>?_⟩
   have a1:=af hp (.tup [.str tag,.str z])
   have LF:=a1 _ _ hD
   refine⟨LF,by decide,0,by omega,rfl,by omega,bh EF (sH.trans a1),ag,?_⟩
   exact ai.eA (At.ax (aS LF) _ _ (At.new hp (cV (av.mpr rfl) (av.mpr rfl))))
 ·have e1:i=1:=by omega
  subst e1
  rw[CO (by decide)] at hY
  exact .inl ⟨⟨[y],HK,CN _⟩,q np H' EF sH ⟨ys,hD,hY⟩⟩
end
end GS
namespace L3
open PySem PyProof.Rows L2
section
variable{X:Cx}{pos apos cpos:Pos}{k v o e f a b c:Expr}{ks:List (Option Expr)}{vs:List Expr}{tk tv td ty tx ta tb tc:TE}{trs:List (TE×TE)}
@[irreducible] def xy (X:Cx) (pos:Pos) (ks:List (Option Expr)) (vs:List Expr) (trs:List (TE×TE)):Prop:=AY X pos ks vs trs
theorem xy.mk (h:AY X pos ks vs trs):xy X pos ks vs trs:=by unfold xy;exact h
theorem xy.out (h:xy X pos ks vs trs):AY X pos ks vs trs:=by unfold xy at h;exact h
theorem lz:xy X pos [] [] []:=.mk L2.lz
theorem cY (hk:LE X k tk) (hv:LE X v tv) (hr:xy X pos ks vs trs):xy X pos (some k::ks) (v::vs) ((tk,tv)::trs):=.mk (L2.cY hk.out hv.out hr.out)
theorem lB (h:xy X pos ks vs trs) (GD:ks.all (·.isSome)=true:=by rfl) (hl:ks.length=vs.length:=by rfl) (h0:ks≠[]:=by simp) (PY:ks.length≤15:=by decide):LE X (.Dict ks vs pos) (zb trs):=.mk (L2.lB h.out GD hl h0 PY)
theorem mj (hu:X.A.units+1 < cLine) (ho:LE X o td) (he:LE X e ty) (hf:LE X f tx) (m:M2 X o "get" apos e f cpos:=by exact⟨rfl,rfl,rfl,rfl⟩):LE X (.Call (.Attribute o "get" apos) [e,f] [] cpos) (vk td ty tx):=.mk (L2.mj hu ho.out he.out hf.out m)
theorem oW (ho:LE X o td) (he:LE X e ty) (m:M1 X o "update" apos e cpos:=by exact⟨rfl,rfl,rfl,rfl⟩):LE X (.Call (.Attribute o "update" apos) [e] [] cpos) (zc td ty):=.mk (L2.oW ho.out he.out m)
theorem ma{op Kg:CmpOp}{r r':R2}(ho:i7 X (compareOp op) r) (Fz:i7 X (compareOp Kg) r') (ha:LE X a ta) (hb:LE X b tb) (hc:LE X c tc)
  (hm:lastMarks [op,Kg] [b,c]=false:=by with_unfolding_all rfl):LT X (.Compare a [op,Kg] [b,c] pos) (lO (vq r r' ta tb tc)):=.mk (L2.ma ho Fz ha.out hb.out hc.out hm)
end
end L3
namespace GS
open PySem PyProof.Rows
open L2 hiding ak cn bj aq pv cZ ay fQ bZ dw dY fR b9 bC cI cH cm ae aa aI aw bG aV cj eF ar cB dk bQ cX bX dZ aL bU aU cw bF dm bz cU aG ba aA eD aN cu bR aB ah aj
open L3
abbrev rg:Stmt:=dz 40
def cT:Nat→Nat
 | 0=>0
 | n+1=>443+20*cT n
theorem zu:∀n,n≤4→cT n≤3730503:=fun n h=>by
 match n,h with
 | 0,_=>decide
 | 1,_=>decide
 | 2,_=>decide
 | 3,_=>decide
 | 4,_=>decide
theorem ua{rs:List D}{e x:D}(h:∀r∈rs,ie r):fu (rs++x.txt.toList.map fun z=>D.tup [.str "bound",.str z]) [.tup [.str "except",e,x]]:=by
 have hb:bM (.tup [.str "except",e,x])=x.txt:=by
  unfold bM
  rw[show D.k (.tup [.str "except",e,x])="except" from rfl,CO (by decide +kernel),CQ rfl]
  rfl
 have ht:g0 (.tup [.str "except",e,x])=[]:=by
  unfold g0
  rw[CO (by show ¬(("except":Str)="global"∨("except":Str)="nonlocal");decide +kernel)]
 refine⟨?_,?_⟩
 ·rw[List.filterMap_append,vP h]
  cases e1:x.txt with
  | none=>simp[hb,e1]
  | some z=>
   show []++(match gr (.tup [.str "bound",.str z]) with | none=>[] | some b=>[b])=_
   rw[jH,CQ rfl]
   rw[List.filterMap_cons,hb,e1];rfl
 ·rw[List.flatMap_append,vO h]
  cases e1:x.txt with
  | none=>simp[ht]
  | some z=>
   show []++(gv (.tup [.str "bound",.str z])++[])=_
   rw[jq,CO (by decide +kernel)]
   simp[ht]
theorem yR{rs:List D}{x:D}(h:∀r∈rs,ie r):∀r∈rs++x.txt.toList.map (fun z=>D.tup [.str "bound",.str z]),gZ r:=fun r hr=>by
 rcases Df.mp hr with hr | hr
 ·obtain⟨e,rfl⟩:=h r hr
  exact⟨_,_,rfl,fun z=>absurd z (by decide +kernel),fun z=>absurd z (by decide +kernel)⟩
 ·obtain⟨z,_,rfl⟩:=List.mem_map.mp hr
  exact⟨_,_,rfl,fun _=>⟨z,rfl⟩,fun z=>absurd z (by decide +kernel)⟩
theorem zH{m:Nat}{b cs o:List D}{l:D}(h:fY m (.tup [.str "try",.tup b,.tup cs,.tup o,l])):∀c∈cs,∃e x b',c=.tup [e,x,.tup b']∧fH e∧jv x:=by
 have sim:fZ (.tup [.str "try",.tup b,.tup cs,.tup o,l])→False:=fun h=>by
  obtain⟨k,r,e,_,_,_,h4,_⟩:=h.kind
  cases e;exact h4 rfl
 cases m with
 | zero=>exact(sim h).elim
 | succ m=>
  rcases h with h | ⟨z,ps,b',e,_⟩ | ⟨z,es,b',e,_⟩ | ⟨b',cs',o',l',e,hb,hc,EM,ho,hl⟩ | ⟨k',t,b',o',e,Fe,_⟩ | ⟨z,t,b',o',e,_⟩
  ·exact(sim h).elim
  ·injection e with e;injection e with e1 _;injection e1 with e1;exact absurd e1 (by decide +kernel)
  ·injection e with e;injection e with e1 _;injection e1 with e1;exact absurd e1 (by decide +kernel)
  ·cases e
   intro c EH
   obtain⟨e,x,b',e1,h1,h2,_⟩:=EM c EH
   exact⟨e,x,b',e1,h1,h2⟩
  ·cases e
  ·cases e
theorem AS{n:Nat}{d:D}(h:fY (n+1) d):∀b∈aY d,∃Sf,b=.tup Sf∧gu (fY n) Sf:=by
 intro c EH
 rcases h with h | ⟨z,ps,b,rfl,hp,EL,hb⟩ | ⟨z,es,b,rfl,he,Gj,hb⟩ | ⟨b,cs,o,l,rfl,hb,hc,EM,ho,hl⟩ | ⟨k,t,b,o,rfl,hk,ht,hb,ho⟩ | ⟨z,t,b,o,rfl,ht,hb,ho⟩
 ·obtain⟨k,r,rfl,h1,h2,h3,h4,_⟩:=h.kind
  rw[gU h1 h2 h3 h4] at EH;cases EH
 ·rw[gF (.inl rfl)] at EH;exact⟨b,Dg.mp EH,hb⟩
 ·rw[gF (.inr rfl)] at EH;exact⟨b,Dg.mp EH,hb⟩
 ·rw[eV] at EH
  simp only[List.mem_append,List.mem_singleton,List.mem_map] at EH
  rcases EH with ((rfl | ⟨c',EH,rfl⟩) | rfl) | EH
  ·exact⟨b,rfl,hb⟩
  ·obtain⟨e,x,b',rfl,_,_,ET⟩:=EM c' EH
   exact⟨b',rfl,ET⟩
  ·exact⟨o,rfl,ho⟩
  ·rcases hl with rfl | ⟨b',rfl,ET⟩
   ·cases EH
   ·exact⟨b',by simpa[bW] using EH,ET⟩
 ·rw[lD hk] at EH
  simp only[List.mem_cons,List.not_mem_nil,or_false] at EH
  rcases EH with rfl | rfl
  ·exact⟨b,rfl,hb⟩
  ·exact⟨o,rfl,ho⟩
 ·rw[j3] at EH
  simp only[List.mem_cons,List.not_mem_nil,or_false] at EH
  rcases EH with rfl | rfl
  ·exact⟨b,rfl,hb⟩
  ·exact⟨o,rfl,ho⟩
theorem vM (n:Nat) (d:D) (j:Nat):aM (n+1) (kE d j)=kE d j:=by
 unfold kE
 split
 ·rw[fb,kR,fE,fE]
  split<;>rfl
 ·rfl
theorem ug{n i:Nat}{ds:List D}(hi:i < ds.length):aM (n+1) (ds.take (i+1))=aM (n+1) (ds.take i)++(ds[i]::(if fU ds[i]=true then [] else aM n (aO ds[i]))):=by
 rw[C8,fj,C5 hi,Option.toList_some,fb,fE,List.append_nil]
theorem di.jQ{l:Addr}{H H' H2:Hp}(h0:H l=Option.none) (s:az H H') (h:di l H' H2):az H H2:=fun p o e=>h p o (fun z=>by rw[z,h0] at e;cases e) (s p o e)
section
variable{P:Program}{w:World}{K:Fg06}{mg:Str→Option Value}{base:Heap}{f:Addr}{fd:FuncData}
abbrev sv (x xa:V) (fl:Addr) (pl v hr:V) (ow:Addr) (o7 o8 o9:Option V):L2.St:=[some x,some xa,some (.ref fl),some pl,some v,some hr,some (.ref ow),o7,o8,o9]
def txRd (K:Fg06):TS:=fun E σ H=>∃x xa fl pl v hr ow o7 o8 o9 kk r Sd Sg M,σ=sv x xa fl pl v hr ow o7 o8 o9∧At K H (.tup (.str kk::r)) v∧H ow=some (.dK Sd)∧((dj Sd (.inr kk)=none∧kg kk=[])∨∃p,dj Sd (.inr kk)=some (.ref p)∧H p=some (.lst ((kg kk).map V.int)))∧uh M kk r∧cG K H fl Sg∧Sg.length≤15000000∧
 ∀Gd H' rs GQ,az H H'→(Gd=fl∨H Gd=none)→cG K H' Gd (Sg++rs)→(∀r∈rs,ie r)→rs.length≤200→E.nx (sv x xa Gd pl v hr ow GQ o8 o9) H'
def txBd (K:Fg06):TS:=fun E σ H=>∃x xa fl pl v hr ow o7 o8 o9 m kk r Sg,σ=sv x xa fl pl v hr ow o7 o8 o9∧At K H (.tup (.str kk::r)) v∧fY m (.tup (.str kk::r))∧cG K H fl Sg∧Sg.length≤15500000∧
 ∀H',di fl H H'→cG K H' fl (Sg++gs (.tup (.str kk::r)))→E.nx (sv x xa fl pl v hr ow o7 o8 o9) H'
def txTd (K:Fg06):TS:=fun E σ H=>∃x xa fl pl v hr ow o7 o8 o9 kk r wy Sg,σ=sv x xa fl pl v hr ow o7 o8 o9∧At K H (.tup (.str kk::r)) v∧At K H wy hr∧cG K H fl Sg∧Sg.length≤15500000∧
 ∀H',di fl H H'→cG K H' fl (Sg++iq wy (.tup (.str kk::r)))→E.nx (sv x xa fl pl v hr ow o7 o8 o9) H'
def txYd (K:Fg06):TS:=fun E σ H=>∃x xa fl pl v hr ow o7 o8 o9 kk r Sg,σ=sv x xa fl pl v hr ow o7 o8 o9∧At K H (.tup (.str kk::r)) v∧cG K H fl Sg∧Sg.length≤15500000∧
 ∀H',di fl H H'→cG K H' fl (Sg++jj (.tup (.str kk::r)))→E.nx (sv x xa fl pl v hr ow o7 o8 o9) H'
def txHd (K:Fg06):TS:=fun E σ H=>∃x xa fl pl v hr ow o7 j w9 m d Sg,σ=sv x xa fl pl v hr ow o7 (some (.int ((j:Nat):Int))) (some w9)∧At K H d v∧fY m d∧cG K H fl Sg∧Sg.length≤15000000∧
 ∀Gd H' rs,az H H'→(Gd=fl∨H Gd=none)→cG K H' Gd (Sg++rs)→rs.length≤48→(∀r∈rs,gZ r)→fu rs (kE d j)→E.nx (sv x xa Gd pl v hr ow o7 (some (.int ((j:Nat):Int))) (some w9)) H'
def xN (K:Fg06):Nat→Sp
 | 0=>fun _ _ _ _=>False
 | n+1=>fun vs H Q _=>∃(x xa:V) (ds way:List D),vs=[x,xa]∧At K H (.tup ds) x∧At K H (.tup way) xa∧(∀d∈ds,fY n d)∧ds.length≤4∧n≤3∧way.length+2*n≤100∧
  ∀p H' rows,H p=none→az H H'→cG K H' p rows→(∀r∈rows,gZ r)→fu rows (aM (n+1) ds)→rows.length≤ds.length*cT (n+1)→Q (.ref p) H'
theorem kq:aW ["_law_block_here","_law_at","_law_found","_law_place","_law_one","_law_here","_law_own_here","_law_k","_law_number","_law_inner"] ["_law_block_here","_law_at"] (aE rg):=fsX rfl rfl rfl rfl (by decide +kernel)
abbrev txI (K:Fg06) (H H1:Hp) (a:Addr) (xa:V) (ds:List D) (n:Nat):Nat→L2.St→Hp→Prop:=fun i σ H'=>∃fl o3 o4 o5 o6 o7 o8 o9 Sg,σ=[some (.ref a),some xa,some (.ref fl),o3,o4,o5,o6,o7,o8,o9]∧H fl=none∧az H H'∧bN H1 H'∧cG K H' fl Sg∧(∀r∈Sg,gZ r)∧fu Sg (aM (n+1) (ds.take i))∧Sg.length≤i*cT (n+1)
abbrev txJ (K:Fg06) (H Ka:Hp) (a:Addr) (xa:V) (ds:List D) (n i:Nat) (v' wy:V) (ow:Addr) (GQ:Option V) (k:Str) (r:List D):Nat→L2.St→Hp→Prop:=fun j σ H'=>∃fl o8 o9 Ja,σ=sv (.ref a) xa fl (.int (0+(i:Nat))) v' wy ow GQ o8 o9∧H fl=none∧az H H'∧az Ka H'∧cG K H' fl Ja∧(∀r∈Ja,gZ r)∧fu Ja (aM (n+1) (ds.take i)++(.tup (.str k::r)::aM n ((List.range j).flatMap (gB (.tup (.str k::r))))))∧Ja.length≤i*cT (n+1)+203+j*(48+4*cT n)
theorem zk (g:fh mg) (F:eX K "_law_text" "_law_text" rg f fd) (hm:mg "_law_text"=some (.ref f)) (hb:Binds K fd ["_law_block_here","_law_at"] []) (dB:Def P w K mg base "_law_blocks" ["_law_one"] 1 (xQ K)) (dI:Def P w K mg base "_law_names_in" ["_law_thing"] 1 (zP K)):∀n,bO P w K mg base fw (n+1) f fd ["_law_block_here","_law_at"] (xN K n)
 | 0=>⟨fun vs H Q E h=>h.elim,fun A outer s H args us vs Q E _ _ _ _ h=>h.elim⟩
 | n+1=>by
  have dX:Def P w K mg base "_law_text" ["_law_block_here","_law_at"] (n+1) (xN K n):=⟨f,fd,hm,F.kp,hb,zk g F hm hb dB dI n⟩
  refine F.hV kq (fun vs H Q E h=>?_) (fun Si A outer s H vs Q E hr h=>?_)
  ·obtain⟨_,_,_,_,rfl,_⟩:=h;rfl
  obtain⟨x,xa,ds,way,rfl,hx,Gp,EE,hl4,Mt,hw,q⟩:=h
  refine⟨_,(ah (aA (i:=2) kq.nd rfl (Or.inl rfl) (aI ae))
   (ah (bR C9 rfl (.mk (L2.gO rfl g.jY (LA.out (aa (pv 0) ae)))) (cw rfl (aU (aL (i:=3) kq.nd rfl (Or.inl rfl)) (aU (aL (i:=4) kq.nd rfl (Or.inl rfl)) bU))) (ah (aA (i:=5) kq.nd rfl (Or.inl rfl) (ay gC (pv 1) (aw (aa (pv 3) ae))))
   (ah (aA (i:=6) kq.nd rfl (Or.inl rfl) (L3.lB (L3.cY aq (aI (aa ak ae)) (L3.cY aq (aI (aa ak (aa ak ae))) (L3.cY aq (aI (aa ak ae)) (L3.cY aq (aI (aa ak ae)) (L3.cY aq (aI (aa ak (aa ak ae))) (L3.cY aq (aI (aa ak ae)) (L3.cY aq (aI (aa ak ae)) L3.lz)))))))))
   (ah (ba (L3.oW (pv 6) (L3.lB (L3.cY aq (aI (aa ak ae)) (L3.cY aq (aI (aa ak ae)) (L3.cY aq (aI (aa ak ae)) (L3.cY aq (aI (aa ak ae)) (L3.cY aq (aI (aa ak ae)) L3.lz))))))))
   (ah (dU (t':=txRd K) (bR C9 rfl (bF (L3.mj (mI hr) (pv 6) (aC (pv 4)) (aI ae))) (aL (i:=7) kq.nd rfl (Or.inl rfl)) (aj (aA (i:=2) kq.nd rfl (Or.inl rfl) (ay fM (pv 2) (.mk (L2.eE (cl:=[]) (Xs:=["_law_name_here"]) (Nf:=[]) (js:=[]) ?k1 rfl (LI.out (bF (L3.aK dI hr (by omega) rfl (aa (bC wN (pv 4) (pv 7) (fun _ _=>rfl)) ae)))) (fun C s0 H0 fp=>LG.out (aL (i:=0) (show(["_law_name_here"]:List Str).Nodup by decide +kernel) rfl (Or.inl rfl))) (fun C s0 H0 fp=>gb) (fun C s0 H0 fp=>LE.out (aw (aa aq (aa (pv 0) ae)))))))))) ?i1)
   (ah (dU (t':=txBd K) (aN (LW.pt (dZ (ar bq (aC (pv 4)) (aw (aa aq (aa aq (aa aq (aa aq (aa aq ae)))))) rfl) (cX (LW.pt (bX (ar bw (aC (pv 4)) aq (aH _)) (bQ (ar gc (aC (pv 4)) bj (aH _)))))))) (aj (ba (cj CW C3 C4 bA (pv 2) (aa (aw (aa aq (aa (aC (pv 4)) ae))) ae)))) aB) ?i2)
   (ah (dU (t':=txTd K) (aN (ar bq (aC (pv 4)) (aw (aa aq (aa aq ae))) rfl) (aj (ba (cj CW C3 C4 bA (pv 2) (aa (aw (aa aq (aa (pv 5) (aa (pv 4) ae)))) ae)))) aB) ?i3)
   (ah (dU (t':=txYd K) (aN (ar bw (aC (pv 4)) aq (aH _)) (aj (ba (cj CW C3 C4 bA (pv 2) (aa (aw (aa aq (aa aq ae))) ae)))) aB) ?i4)
   (aj (aN (ar dJ (aC (pv 4)) (aw (aa aq (aa aq ae))) rfl) (aj (bR C9 rfl (.mk (L2.tq rfl g.jY (LA.out (aa (L3.aK dB hr (by omega) rfl (aa (pv 4) ae)) ae)))) (cw rfl (aU (aL (i:=8) kq.nd rfl (Or.inl rfl)) (aU (aL (i:=9) kq.nd rfl (Or.inl rfl)) bU))) (ah (dU (t':=txHd K) (aN (LW.pt (bX (ar bw (aC (pv 4)) aq (aH _)) (bQ (L3.ma nQ zj ak (pv 8) (bG eM rfl g.uz oy (aa (aC (pv 4)) ae)))))) (ah (aA (i:=2) kq.nd rfl (Or.inl rfl) (ay fM (pv 2) (.mk (L2.eE (cl:=[]) (Xs:=["_law_name_here"]) (Nf:=[]) (js:=[]) ?k2 rfl (LI.out (bF (L3.aK dI hr (by omega) rfl (aa (aC (bC wN (aC (pv 4)) (ay fe (pv 8) ak) (fun _ _=>rfl))) ae)))) (fun C s0 H0 fp=>LG.out (aL (i:=0) (show(["_law_name_here"]:List Str).Nodup by decide +kernel) rfl (Or.inl rfl))) (fun C s0 H0 fp=>gb) (fun C s0 H0 fp=>LE.out (aw (aa aq (aa (pv 0) ae))))))))
   (aj (aA (i:=2) kq.nd rfl (Or.inl rfl) (ay fM (pv 2) (.mk (L2.eE (cl:=[]) (Xs:=["_law_name_here"]) (Nf:=[]) (js:=[]) ?k3 rfl (LI.out (bF (aI (aa (aC (bC wN (aC (pv 4)) (ay fe (pv 8) ak) (fun _ _=>rfl))) ae)))) (fun C s0 H0 fp=>LG.out (aL (i:=0) (show(["_law_name_here"]:List Str).Nodup by decide +kernel) rfl (Or.inl rfl))) (fun C s0 H0 fp=>jV (LT.out (ar gc (pv 0) bj (aH _)))) (fun C s0 H0 fp=>LE.out (aw (aa aq (aa (pv 0) ae)))))))))) aB) ?i5)
   (aj (aA (i:=2) kq.nd rfl (Or.inl rfl) (ay fM (pv 2) (L3.aK dX hr (CN _) rfl (aa (pv 9) (aa (ay gC (pv 5) (aw (aa (pv 8) ae))) ae))))))))) aB))))))))))
   (aj (aG (pv 2))))),?main⟩
  case k1=>
   refine⟨rfl,by decide +kernel,rfl,by decide +kernel,fun y c h=>(by cases h),fun y hy=>?_,rfl,fun j y h=>(by simp at h)⟩
   have EI:([(".0",.local),("_law_name_here",.local)]:List (Str×NameKind)).lookup y=some .cell∨([(".0",.local),("_law_name_here",.local)]:List (Str×NameKind)).lookup y=some .free:=hy
   rcases EI with z | z<;>(have m:=CV z;simp at m)
  case k2=>
   refine⟨rfl,by decide +kernel,rfl,by decide +kernel,fun y c h=>(by cases h),fun y hy=>?_,rfl,fun j y h=>(by simp at h)⟩
   have EI:([(".0",.local),("_law_name_here",.local)]:List (Str×NameKind)).lookup y=some .cell∨([(".0",.local),("_law_name_here",.local)]:List (Str×NameKind)).lookup y=some .free:=hy
   rcases EI with z | z<;>(have m:=CV z;simp at m)
  case k3=>
   refine⟨rfl,by decide +kernel,rfl,by decide +kernel,fun y c h=>(by cases h),fun y hy=>?_,rfl,fun j y h=>(by simp at h)⟩
   have EI:([(".0",.local),("_law_name_here",.local)]:List (Str×NameKind)).lookup y=some .cell∨([(".0",.local),("_law_name_here",.local)]:List (Str×NameKind)).lookup y=some .free:=hy
   rcases EI with z | z<;>(have m:=CV z;simp at m)
  case i1=>
   rintro E0 σ H0 ⟨x,xa,fl,pl,v,JO,ow,o7,o8,o9,kk,r,Sd,Sg,M,rfl,hv,how,htab,⟨hM,hM2,Rj⟩,⟨vf0,Ie,hAf0⟩,hlen,hq⟩
   refine⟨_,rfl,ow,rfl,.inl ⟨Sd,.inl how⟩,_,rfl,0,_,_,rfl,hv,rfl,fun yk EB=>?_⟩
   rw[av.mp EB]
   refine⟨by decide,fun p0 Fi=>?_⟩
   have s1:=af Fi (.lst [])
   have c1:upd H0 p0 (.lst []) p0=some (.lst []):=ag
   revert s1 c1
   generalize upd H0 p0 (.lst [])=H1
   intro s1 c1
   obtain⟨o,p,hDG,ho,hp⟩:∃o p,kf H1 ow (.str kk) o∧o.getD (.ref p0)=.ref p∧H1 p=some (.lst ((kg kk).map V.int)):=by
    have hd:=kf.k (k:=.inr kk) (s1 _ _ how)
    rcases htab with ⟨h1,h2⟩ | ⟨p,h1,h2⟩
    ·rw[h1] at hd
     exact⟨none,p0,hd,rfl,by rw[h2];exact c1⟩
    ·rw[h1] at hd
     exact⟨_,p,hd,rfl,s1 _ _ h2⟩
   have GV:=At.same s1 _ _ hv
   refine⟨o,hDG,p,ho,⟨_,br.of hp⟩,fo (K:=K) (a:=p) (xs:=(kg kk).map V.int) (fun i σ H'=>∃Gd GQ rs,σ=sv x xa Gd pl v JO ow GQ o8 o9∧az H1 H'∧(Gd=fl∨H0 Gd=none)∧cG K H' Gd (Sg++rs)∧(∀r∈rs,ie r)∧rs.length≤i*M)
    ⟨fl,o7,[],rfl,az.refl _,.inl rfl,⟨vf0,s1 _ _ Ie,by rw[List.append_nil];exact ai.same s1 _ _ hAf0⟩,fun r hr=>(by cases hr),Nat.zero_le _⟩ (fun i σ H' _ h=>by obtain⟨_,_,_,_,s,_⟩:=h;exact br.of (s _ _ hp)) ?_ ?_⟩
   ·rintro i u σ H2 hu ⟨Gd,GQ,rs,rfl,s2,EO,⟨vf,hf2,E1⟩,Jh,IC⟩
    rw[List.getElem?_map] at hu
    have hi:i < (kg kk).length:=by
     cases e:(kg kk)[i]? with
     | none=>rw[e] at hu;cases hu
     | some z=>exact(CM.mp e).1
    rw[C5 hi] at hu
    have eu:V.int (kg kk)[i]=u:=by simpa using hu
    subst eu
    obtain⟨j,e,ej,he,ht⟩:=Rj _ (C2 hi)
    have ES:(i+1)*M≤(kg kk).length*M:=Nat.mul_le_mul_right _ hi
    rw[Nat.add_mul,Nat.one_mul] at ES
    refine⟨_,rfl,_,rfl,_,rfl,j,_,e,by rw[ej],At.same s2 _ _ GV,he,fun ye OU=>⟨ye,e,rfl,OU,ht.nm,CZ ht.sz (by omega),ht.dp,fun pn H3 fs Rl s3 PJ hlf=>?_⟩⟩
    obtain⟨vn,Mt,GJ⟩:=PJ
    have hsz:=ht.sz
    refine⟨pn,rfl,⟨vn,br.of Mt⟩,qA (K:=K) (a:=pn) (br.of Mt) GJ (by omega) fun pt H4 Fw s4 M3=>?_⟩
    obtain⟨vt,FH,FZ⟩:=M3
    have IZ:=s3.trans s4
    have l1:=E1.len
    have l2:=FZ.len
    rw[CS] at l2
    rw[CK] at l1
    refine⟨Gd,pt,vf,vt,rfl,rfl,IZ _ _ hf2,FH,by rw[l1,l2];exact ny (by omega),fun p5 EV=>?_⟩
    have a5:=af EV (.lst (vf++vt))
    refine⟨p5,_,rs++fs.map (fun d=>D.tup [.str "read",d]),rfl,(s2.trans IZ).trans a5,.inr (none_of (s1.trans (s2.trans IZ)) EV),⟨_,ag,?_⟩,fun r hr=>?_,?_⟩
    ·rw[←List.append_assoc]
     exact ai.same a5 _ _ (ai.append (ai.same IZ _ _ E1) FZ)
    ·rcases Df.mp hr with hr | hr
     ·exact Jh r hr
     ·obtain⟨d,_,rfl⟩:=List.mem_map.mp hr
      exact⟨d,rfl⟩
    ·rw[CK,CS,Nat.add_mul,Nat.one_mul];omega
   ·rintro σ H2 ⟨Gd,GQ,rs,rfl,s2,EO,hLf,Jh,IC⟩
    rw[CS] at IC
    exact hq Gd H2 rs GQ (s1.trans s2) EO hLf Jh (by omega)
  case i2=>
   rintro E0 σ H0 ⟨x,xa,fl,pl,v,JO,ow,o7,o8,o9,m,kk,r,Sg,rfl,hv,EE,⟨vf,EO,E1⟩,hlen,hq⟩
   have lf:=E1.len
   have fin:∀(H1:Hp) (z:Str) (p2:Addr),az H0 H1→H1 p2=none→gs (.tup (.str kk::r))=[.tup [.str "bound",.str z]]→E0.nx (sv x xa fl pl v JO ow o7 o8 o9) (upd (upd H1 p2 (.tup [.str "bound",.str z])) fl (.lst (vf++[.ref p2]))):=fun H1 z p2 s1 EC eb=>by
    have a2:=s1.trans (af EC (.tup [.str "bound",.str z]))
    obtain⟨ws,k1,k2⟩:=cG.push (K:=K) (a2 _ _ EO) (ai.same a2 _ _ E1) (At.new EC (cV (av.mpr rfl) (av.mpr rfl)))
    refine hq _ ((di.of a2).trans (di.gL fl _ _)) ?_
    rw[eb]
    exact⟨ws,k1,k2⟩
   refine⟨_,rfl,0,_,_,rfl,hv,rfl,fun yk EB=>⟨by show 5≤sizeLine;decide,fun p1 EG=>?_⟩⟩
   rw[av.mp EB]
   refine⟨p1,_,rfl,.inr (cq.of ag),rfl,rfl,_,rfl,?_⟩
   have s1:=af EG (.tup [.str "set",.str "more",.str "for",.str "class",.str "def"])
   revert s1
   generalize upd H0 p1 (.tup [.str "set",.str "more",.str "for",.str "class",.str "def"])=H1
   intro s1
   have GV:=At.same s1 _ _ hv
   have IE:=s1 _ _ EO
   rw[show(if false=true then !gq (.str kk) [.str "set",.str "more",.str "for",.str "class",.str "def"] else gq (.str kk) [.str "set",.str "more",.str "for",.str "class",.str "def"])=decide (kk∈(["set","more","for","class","def"]:List Str)) from jl kk ["set","more","for","class","def"]]
   have bk:∀(k':Str) (t:List D) ,k'∈dn→bM (.tup (.str k'::t))=((D.tup (.str k'::t)).cK 1).txt:=fun k' t h=>by
    unfold bM
    rw[show D.k (.tup (.str k'::t))=k' from rfl,CQ h]
   rcases oj EE with ⟨hk,z,t,rfl⟩ | ⟨rfl,a,t,rfl,ha⟩ | ⟨hk,hy,he⟩
   ·rw[CJ hk]
    have My:kk∈dn:=by
     simp only[List.mem_cons,List.not_mem_nil,or_false] at hk
     rcases hk with rfl | rfl | rfl | rfl | rfl<;>decide +kernel
    have eb:gs (.tup (.str kk::.str z::t))=[.tup [.str "bound",.str z]]:=by
     unfold gs
     rw[bk kk _ My];rfl
    refine bJ (bJ ⟨_,rfl,.inl ⟨rfl,_,br.of IE⟩,_,rfl,1,_,_,rfl,GV,rfl,fun y1 E5=>⟨by show 2≤sizeLine;decide,fun p2 EC=>?_⟩⟩)
    rw[av.mp E5]
    exact⟨fl,vf,.ref p2,rfl,rfl,(af EC _) _ _ IE,by rw[lf];exact Nat.lt_of_le_of_lt hlen (by rw[sizeLine_eq];decide),fin H1 z p2 s1 EC eb⟩
   ·rw[show decide (("yield":Str)∈(["set","more","for","class","def"]:List Str))=false by decide +kernel]
    refine bg ⟨_,rfl,0,_,_,rfl,GV,rfl,fun yk EB=>?_⟩
    rw[av.mp EB]
    refine⟨rfl,_,rfl,?_⟩
    rw[dF,CJ rfl]
    refine bJ ⟨_,rfl,1,_,_,rfl,GV,rfl,fun y1 E5=>⟨rfl,_,rfl,?_⟩⟩
    have Ob:bM (.tup [.str "yield",a,t])=a.txt:=bk "yield" [a,t] (by decide +kernel)
    rcases ha with rfl | ⟨z,rfl⟩
    ·rw[aZ.mp E5,show(!decide (V.aR=V.aR))=false from rfl]
     refine bg (hq H1 (.of s1) ?_)
     rw[show gs (.tup [.str "yield",.aR,t])=[] by unfold gs;rw[Ob];rfl,List.append_nil]
     exact⟨vf,IE,ai.same s1 _ _ E1⟩
    ·rw[av.mp E5,show(!decide (V.str z=V.aR))=true from rfl]
     refine bJ ⟨_,rfl,.inl ⟨rfl,_,br.of IE⟩,_,rfl,1,_,_,rfl,GV,rfl,fun y2 Fl=>⟨by show 2≤sizeLine;decide,fun p2 EC=>?_⟩⟩
     rw[av.mp Fl]
     exact⟨fl,vf,.ref p2,rfl,rfl,(af EC _) _ _ IE,by rw[lf];exact Nat.lt_of_le_of_lt hlen (by rw[sizeLine_eq];decide),fin H1 z p2 s1 EC (by unfold gs;rw[Ob];rfl)⟩
   ·rw[CI hk]
    refine bg ⟨_,rfl,0,_,_,rfl,GV,rfl,fun yk EB=>?_⟩
    rw[av.mp EB]
    refine⟨rfl,_,rfl,?_⟩
    rw[dF,CI hy]
    refine bg (bg (hq H1 (.of s1) ?_))
    have Ob:bM (.tup (.str kk::r))=none:=by
     unfold bM
     rw[show D.k (.tup (.str kk::r))=kk from rfl,CO (fun h=>?_),CO he]
     simp only[dn,List.mem_cons,List.not_mem_nil,or_false] at h hk
     rcases h with h | h | h | h | h | h
     ·exact hk (.inl h)
     ·exact hk (.inr (.inl h))
     ·exact hk (.inr (.inr (.inr (.inr h))))
     ·exact hk (.inr (.inr (.inr (.inl h))))
     ·exact hk (.inr (.inr (.inl h)))
     ·exact hy h
    rw[show gs (.tup (.str kk::r))=[] by unfold gs;rw[Ob];rfl,List.append_nil]
    exact⟨vf,IE,ai.same s1 _ _ E1⟩
  case i3=>
   rintro E0 σ H0 ⟨x,xa,fl,pl,v,JO,ow,o7,o8,o9,kk,r,wy,Sg,rfl,hv,Gf,⟨vf,EO,E1⟩,hlen,hq⟩
   have lf:=E1.len
   refine⟨_,rfl,0,_,_,rfl,hv,rfl,fun yk EB=>⟨by show 2≤sizeLine;decide,fun p1 EG=>?_⟩⟩
   rw[av.mp EB]
   refine⟨p1,_,rfl,.inr (cq.of ag),rfl,rfl,_,rfl,?_⟩
   have s1:=af EG (.tup [.str "global",.str "nonlocal"])
   revert s1
   generalize upd H0 p1 (.tup [.str "global",.str "nonlocal"])=H1
   intro s1
   have IE:=s1 _ _ EO
   rw[show(if false=true then !gq (.str kk) [.str "global",.str "nonlocal"] else gq (.str kk) [.str "global",.str "nonlocal"])=decide (kk∈(["global","nonlocal"]:List Str)) from jl kk ["global","nonlocal"]]
   by_cases c:kk="global"∨kk="nonlocal"
   ·rw[CJ (show kk∈(["global","nonlocal"]:List Str) by simpa using c)]
    refine bJ ⟨_,rfl,.inl ⟨rfl,_,br.of IE⟩,_,rfl,_,rfl,by show 3≤sizeLine;decide,fun p2 EC=>?_⟩
    have a2:=s1.trans (af EC (.tup [.str "told",JO,v]))
    obtain⟨ws,k1,k2⟩:=cG.push (K:=K) (a2 _ _ EO) (ai.same a2 _ _ E1) (At.new EC (cD (av.mpr rfl) (At.same s1 _ _ Gf) (At.same s1 _ _ hv)))
    refine⟨fl,vf,.ref p2,rfl,rfl,(af EC _) _ _ IE,by rw[lf];exact Nat.lt_of_le_of_lt hlen (by rw[sizeLine_eq];decide),hq _ ((di.of a2).trans (di.gL fl _ _)) ?_⟩
    rw[show iq wy (.tup (.str kk::r))=[.tup [.str "told",wy,.tup (.str kk::r)]] by unfold iq;exact CQ c]
    exact⟨ws,k1,k2⟩
   ·rw[CI (show ¬kk∈(["global","nonlocal"]:List Str) from fun m=>c (by simpa using m))]
    refine bg (hq H1 (.of s1) ?_)
    rw[show iq wy (.tup (.str kk::r))=[] by unfold iq;exact CO c,List.append_nil]
    exact⟨vf,IE,ai.same s1 _ _ E1⟩
  case i4=>
   rintro E0 σ H0 ⟨x,xa,fl,pl,v,JO,ow,o7,o8,o9,kk,r,Sg,rfl,hv,⟨vf,EO,E1⟩,hlen,hq⟩
   have lf:=E1.len
   refine⟨_,rfl,0,_,_,rfl,hv,rfl,fun yk EB=>?_⟩
   rw[av.mp EB]
   refine⟨rfl,_,rfl,?_⟩
   rw[dF]
   by_cases c:kk="yield"
   ·rw[CJ c]
    refine bJ ⟨_,rfl,.inl ⟨rfl,_,br.of EO⟩,by show 2≤sizeLine;decide,fun p2 EC=>?_⟩
    have a2:=af EC (.tup [.str "yields",.str ""])
    obtain⟨ws,k1,k2⟩:=cG.push (K:=K) (a2 _ _ EO) (ai.same a2 _ _ E1) (At.new EC (cV (av.mpr rfl) (av.mpr rfl)))
    refine⟨fl,vf,.ref p2,rfl,rfl,a2 _ _ EO,by rw[lf];exact Nat.lt_of_le_of_lt hlen (by rw[sizeLine_eq];decide),hq _ ((di.of a2).trans (di.gL fl _ _)) ?_⟩
    rw[show jj (.tup (.str kk::r))=[.tup [.str "yields",.str ""]] by unfold jj;exact CQ c]
    exact⟨ws,k1,k2⟩
   ·rw[CI c]
    refine bg (hq H0 (di.refl _ _) ?_)
    rw[show jj (.tup (.str kk::r))=[] by unfold jj;exact CO c,List.append_nil]
    exact⟨vf,EO,E1⟩
  case i5=>
   rintro E0 σ H0 ⟨x,xa,fl,pl,v,JO,ow,o7,j,w9,m,d,Sg,rfl,hv,Gx,⟨vf,EO,E1⟩,hlen,hq⟩
   have lf:=E1.len
   obtain⟨k,r,rfl,sh⟩:=Gx.ok.1.shape
   have none0:kE (.tup (.str k::r)) j=[]→E0.nx (sv x xa fl pl v JO ow o7 (some (.int ((j:Nat):Int))) (some w9)) H0:=fun e=>hq fl H0 [] (az.refl _) (.inl rfl) ⟨vf,EO,by rw[List.append_nil];exact E1⟩ (by decide) (fun r hr=>by cases hr) (by rw[e];exact .nil)
   refine⟨_,rfl,0,_,_,rfl,hv,rfl,fun yk EB=>?_⟩
   rw[av.mp EB]
   refine⟨rfl,_,rfl,?_⟩
   rw[dF]
   by_cases c:k="try"
   ·rw[CJ c]
    obtain⟨b,cs,o,l,rfl,_,_,_⟩:=sh.tr c
    subst c
    have EM:=zH Gx
    have eh:kE (.tup [.str "try",.tup b,.tup cs,.tup o,l]) j=if 0 < j∧j≤cs.length then [headD (cs.getD (j - 1) .aR)] else []:=by
     unfold kE
     rw[show D.k (.tup [.str "try",.tup b,.tup cs,.tup o,l])="try" from rfl,show((D.tup [.str "try",.tup b,.tup cs,.tup o,l]).cK 2).items=cs from rfl]
     by_cases hj:0 < j∧j≤cs.length
     ·rw[CQ ⟨rfl,hj⟩,CQ hj]
     ·rw[CO fun z=>hj z.2,CO hj]
    refine bJ ⟨_,rfl,_,_,rfl,rfl,_,rfl,aQ (fun h1=>⟨_,rfl,2,_,_,rfl,hv,rfl,fun yc Jc=>?_⟩) (fun h1=>⟨_,rfl,bg (none0 ?_)⟩)⟩
    ·obtain⟨pc,vc,rfl,sqc,JY⟩:=aP.mp Jc
     have lc:=JY.len
     have j1:=of_decide_eq_true h1
     refine⟨pc,vc,rfl,.inr sqc,_,_,rfl,rfl,_,rfl,aQ (fun h2=>?_) (fun h2=>none0 ?_)⟩
     ·have j2:=of_decide_eq_true h2
      have hj:0 < j∧j≤cs.length:=by rw[←lc];omega
      have Ru:j - 1 < cs.length:=by omega
      obtain⟨e,xn,b',ec,he,Fh⟩:=EM _ (C2 Ru)
      have HZ:cs[j - 1]?=some (.tup [e,xn,.tup b']):=by rw[C5 Ru,ec]
      have tm:=he.xF
      have ei:(((j:Nat):Int) - 1)=((j - 1:Nat):Int):=by omega
      refine⟨_,rfl,_,rfl,2,_,_,rfl,hv,rfl,fun yc Jc=>⟨_,rfl,_,_,rfl,rfl,j - 1,cs,_,by rw[←ei],Jc,HZ,fun yk EB=>⟨0,_,_,rfl,EB,rfl,fun ye OU=>⟨ye,e,rfl,OU,tm.nm,CZ tm.sz (by decide),tm.dp,fun pn H1 fs Rl s1 PJ hlf=>?_⟩⟩⟩⟩
      obtain⟨vn,Jr,GJ⟩:=PJ
      have hsz:=tm.sz
      refine⟨pn,rfl,⟨vn,br.of Jr⟩,qA (K:=K) (a:=pn) (br.of Jr) GJ (by omega) fun pt H2 Fw s2 M3=>?_⟩
      obtain⟨vt,Md,FZ⟩:=M3
      have Ox:=s1.trans s2
      have l2:=FZ.len
      rw[CS] at l2
      refine⟨fl,pt,vf,vt,rfl,rfl,Ox _ _ EO,Md,by rw[lf,l2];exact ny (by omega),fun p3 FV=>?_⟩
      have a3:=af FV (.lst (vf++vt))
      have c3:upd H2 p3 (.lst (vf++vt)) p3=some (.lst (vf++vt)):=ag
      have Hr:ai K (upd H2 p3 (.lst (vf++vt))) (Sg++fs.map fun d=>D.tup [.str "read",d]) (vf++vt):=ai.same a3 _ _ (ai.append (ai.same Ox _ _ E1) FZ)
      revert a3 c3 Hr
      generalize upd H2 p3 (.lst (vf++vt))=H3
      intro a3 c3 Hr
      have Ow:=Ox.trans a3
      refine⟨_,rfl,_,rfl,2,_,_,rfl,At.same Ow _ _ hv,rfl,fun yc2 hyc2=>⟨_,rfl,_,_,rfl,rfl,j - 1,cs,_,by rw[←ei],hyc2,HZ,fun yk2 hyk2=>⟨1,_,_,rfl,hyk2,rfl,fun yx hyx=>⟨by show 1≤sizeLine;decide,fun p4 Fy=>?_⟩⟩⟩⟩
      have a4:=af Fy (.lst [yx])
      have c4:upd H3 p4 (.lst [yx]) p4=some (.lst [yx]):=ag
      revert a4 c4
      generalize upd H3 p4 (.lst [yx])=H4
      intro a4 c4
      refine⟨p4,rfl,⟨_,br.of c4⟩,uL (K:=K) (a:=p4) c4 (At.same a4 _ _ hyx) Fh fun p5 H5 EV s5 hL5=>?_⟩
      obtain⟨v5,h5,N9⟩:=hL5
      have NT:=a4.trans s5
      have l3:=Hr.len
      have l5:=N9.len
      have lx:(xn.txt.toList.map fun z=>D.tup [.str "bound",.str z]).length≤1:=by cases xn.txt<;>simp
      refine⟨p3,p5,_,v5,rfl,rfl,NT _ _ c3,h5,by rw[CK,lf,l2,l5];exact ny (by omega),fun p6 Hb=>?_⟩
      have a6:=af Hb (.lst ((vf++vt)++v5))
      have Jh:∀r∈fs.map (fun d=>D.tup [.str "read",d]),ie r:=fun r hr=>by
       obtain⟨d,_,rfl⟩:=List.mem_map.mp hr
       exact⟨d,rfl⟩
      refine hq p6 _ (fs.map (fun d=>D.tup [.str "read",d])++xn.txt.toList.map fun z=>D.tup [.str "bound",.str z]) ((Ow.trans NT).trans a6) (.inr (none_of (Ow.trans NT) Hb)) ⟨_,ag,?_⟩ (by rw[CK,CS];omega) (yR Jh) ?_
      ·rw[←List.append_assoc]
       exact ai.same a6 _ _ (ai.append (ai.same NT _ _ Hr) N9)
      ·rw[eh,CQ hj,show cs.getD (j - 1) .aR=.tup [e,xn,.tup b'] by simp[List.getD,HZ]]
       exact ua Jh
     ·have j2:=of_decide_eq_false h2
      rw[eh,CO (by rw[←lc];omega)]
    ·have j1:=of_decide_eq_false h1
     rw[eh,CO (by omega)]
   ·rw[CI c]
    exact bg (bg (none0 (qt (d:=.tup (.str k::r)) c j)))
  case main=>
   have cTs:cT (n+1)=443+20*cT n:=rfl
   have cb:=zu (n+1) (by omega)
   refine⟨by decide,fun f0 Ie=>?_⟩
   have s1:az H (upd H f0 (.lst [])):=af Ie _
   have c1:upd H f0 (.lst []) f0=some (.lst []):=ag
   revert s1 c1
   generalize upd H f0 (.lst [])=H1
   intro s1 c1
   obtain⟨a,vx,rfl,sqx,Hy⟩:=aP.mp (At.same s1 _ _ hx)
   have lx:=Hy.len
   refine⟨_,rfl,a,rfl,⟨vx,sqx⟩,gi (K:=K) (a:=a) (m:=0) (xs:=vx) (txI K H H1 a xa ds n)
    ⟨f0,none,none,none,none,none,none,none,[],rfl,Ie,s1,fun _ _ e=>e,⟨[],c1,aD.mpr rfl⟩,fun r hr=>(by cases hr),by rw[List.take_zero,fE];exact .nil,Nat.zero_le _⟩ (fun i σ H' _ h=>by obtain⟨_,_,_,_,_,_,_,_,_,_,_,_,st,_⟩:=h;exact cq.ax st sqx) ?_ ?_⟩
   ·rintro i v σ H2 T hv ⟨fl,o3,o4,o5,o6,o7,o8,o9,Sg,rfl,EO,sH,sT,⟨vr,E8,He⟩,Lx,Jf,IC⟩ hT
    have hi:i < ds.length:=by rw[←lx];exact(CM.mp hv).1
    obtain⟨v',ED,ER⟩:=ai.get (i:=i) Hy (d:=ds[i]) (by simp[hi])
    have ev:v'=v:=by rw[hv] at ED;cases ED;rfl
    subst ev
    have hd:=EE ds[i] (C2 hi)
    have Jg:=ug (n:=n) hi
    obtain⟨k,r,ed,sh⟩:=hd.ok.1.shape
    rw[ed] at hd Jg
    have Ey:At K H2 (.tup (.str k::r)) v':=by rw[←ed];exact At.ax sT _ _ ER
    have hmul:i*cT (n+1)+cT (n+1)≤4*3730503:=by
     have:(i+1)*cT (n+1)≤4*cT (n+1):=Nat.mul_le_mul_right _ (by omega)
     rw[Nat.add_mul,Nat.one_mul] at this
     omega
    have t1:az H2 (upd H2 T (.tup [.int (0+(i:Nat)),v'])):=af hT _
    have Gk:cq K (upd H2 T (.tup [.int (0+(i:Nat)),v'])) T [.int (0+(i:Nat)),v']:=cq.of ag
    revert t1 Gk
    generalize upd H2 T (.tup [.int (0+(i:Nat)),v'])=H3
    intro t1 Gk
    refine⟨T,_,rfl,Gk,rfl,_,_,rfl,_,_,rfl,rfl,?_⟩
    refine⟨_,rfl,_,rfl,by show 1≤sizeLine;decide,fun pw HQ=>?_⟩
    have t2:=af HQ (.tup [.int (0+(i:Nat))])
    refine⟨way,[.int (0+(i:Nat))],At.same ((sH.trans t1).trans t2) _ _ Gp,At.new HQ (ai.eA (bo.mpr rfl)),by show _+1≤_;exact small (by omega),fun wy H4 s4 Gf=>?_⟩
    have IZ:az H2 H4:=(t1.trans t2).trans s4
    clear t1 t2 s4
    intro ow how
    have b0:=af how (.dK [])
    have d0:upd H4 ow (.dK []) ow=some (.dK []):=ag
    revert b0 d0
    generalize upd H4 ow (.dK [])=G0
    intro b0 d0
    refine⟨by show 1≤sizeLine;decide,fun p1 EG=>?_⟩
    have IX:=af EG (.lst [.int 2])
    have Ql:upd G0 p1 (.lst [.int 2]) p1=some (.lst [.int 2]):=ag
    revert IX Ql
    generalize upd G0 p1 (.lst [.int 2])=G1
    intro IX Ql
    refine⟨by show 2≤sizeLine;decide,fun p2 EC=>?_⟩
    have IW:=af EC (.lst [.int 3,.int 1])
    have Qk:upd G1 p2 (.lst [.int 3,.int 1]) p2=some (.lst [.int 3,.int 1]):=ag
    revert IW Qk
    generalize upd G1 p2 (.lst [.int 3,.int 1])=G2
    intro IW Qk
    refine⟨by show 1≤sizeLine;decide,fun p3 FV=>?_⟩
    have IV:=af FV (.lst [.int 3])
    have Qj:upd G2 p3 (.lst [.int 3]) p3=some (.lst [.int 3]):=ag
    revert IV Qj
    generalize upd G2 p3 (.lst [.int 3])=G3
    intro IV Qj
    refine⟨by show 1≤sizeLine;decide,fun p4 Fy=>?_⟩
    have IU:=af Fy (.lst [.int 1])
    have Qi:upd G3 p4 (.lst [.int 1]) p4=some (.lst [.int 1]):=ag
    revert IU Qi
    generalize upd G3 p4 (.lst [.int 1])=G4
    intro IU Qi
    refine⟨by show 2≤sizeLine;decide,fun p5 EV=>?_⟩
    have IT:=af EV (.lst [.int 1,.int 2])
    have Qh:upd G4 p5 (.lst [.int 1,.int 2]) p5=some (.lst [.int 1,.int 2]):=ag
    revert IT Qh
    generalize upd G4 p5 (.lst [.int 1,.int 2])=G5
    intro IT Qh
    refine⟨by show 1≤sizeLine;decide,fun p6 Hb=>?_⟩
    have IQ:=af Hb (.lst [.int 2])
    have Qg:upd G5 p6 (.lst [.int 2]) p6=some (.lst [.int 2]):=ag
    revert IQ Qg
    generalize upd G5 p6 (.lst [.int 2])=G6
    intro IQ Qg
    refine⟨by show 1≤sizeLine;decide,fun p7 Fx=>?_⟩
    have IP:=af Fx (.lst [.int 1])
    have Qf:upd G6 p7 (.lst [.int 1]) p7=some (.lst [.int 1]):=ag
    revert IP Qf
    generalize upd G6 p7 (.lst [.int 1])=G7
    intro IP Qf
    have d7:=(IP _ _ (IQ _ _ (IT _ _ (IU _ _ (IV _ _ (IW _ _ (IX _ _ d0)))))))
    have fp1:=(IP _ _ (IQ _ _ (IT _ _ (IU _ _ (IV _ _ (IW _ _ Ql))))))
    have fp2:=(IP _ _ (IQ _ _ (IT _ _ (IU _ _ (IV _ _ Qk)))))
    have fp3:=(IP _ _ (IQ _ _ (IT _ _ (IU _ _ Qj))))
    have fp4:=(IP _ _ (IQ _ _ (IT _ _ Qi)))
    have fp5:=(IP _ _ (IQ _ _ Qh))
    have fp6:=(IP _ _ Qg)
    have fp7:=Qf
    have Q7:p1≠ow:=fun z=>by have u:=d0;rw[←z,EG] at u;cases u
    have Q6:p2≠ow:=fun z=>by have u:=(IX _ _ d0);rw[←z,EC] at u;cases u
    have Q5:p3≠ow:=fun z=>by have u:=(IW _ _ (IX _ _ d0));rw[←z,FV] at u;cases u
    have Q4:p4≠ow:=fun z=>by have u:=(IV _ _ (IW _ _ (IX _ _ d0)));rw[←z,Fy] at u;cases u
    have Q3:p5≠ow:=fun z=>by have u:=(IU _ _ (IV _ _ (IW _ _ (IX _ _ d0))));rw[←z,EV] at u;cases u
    have Q2:p6≠ow:=fun z=>by have u:=(IT _ _ (IU _ _ (IV _ _ (IW _ _ (IX _ _ d0)))));rw[←z,Hb] at u;cases u
    have Q1:p7≠ow:=fun z=>by have u:=(IQ _ _ (IT _ _ (IU _ _ (IV _ _ (IW _ _ (IX _ _ d0))))));rw[←z,Fx] at u;cases u
    have sG:az H4 G7:=(((((((b0.trans IX).trans IW).trans IV).trans IU).trans IT).trans IQ).trans IP)
    refine⟨d7,eK p1 p2 p3 p4 p5 p6 p7,rfl,by show 7≤15;decide,?_⟩
    rw[Br]
    have Iu:az H4 (upd G7 ow (.dK (eK p1 p2 p3 p4 p5 p6 p7))):=bh how sG
    have d8:upd G7 ow (.dK (eK p1 p2 p3 p4 p5 p6 p7)) ow=some (.dK (eK p1 p2 p3 p4 p5 p6 p7)):=ag
    have Qd:=(aF (o:=.dK (eK p1 p2 p3 p4 p5 p6 p7)) (H:=G7) Q7).trans fp1
    have Qc:=(aF (o:=.dK (eK p1 p2 p3 p4 p5 p6 p7)) (H:=G7) Q6).trans fp2
    have Qb:=(aF (o:=.dK (eK p1 p2 p3 p4 p5 p6 p7)) (H:=G7) Q5).trans fp3
    have Qa:=(aF (o:=.dK (eK p1 p2 p3 p4 p5 p6 p7)) (H:=G7) Q4).trans fp4
    have P9:=(aF (o:=.dK (eK p1 p2 p3 p4 p5 p6 p7)) (H:=G7) Q3).trans fp5
    have P8:=(aF (o:=.dK (eK p1 p2 p3 p4 p5 p6 p7)) (H:=G7) Q2).trans fp6
    have P7:=(aF (o:=.dK (eK p1 p2 p3 p4 p5 p6 p7)) (H:=G7) Q1).trans fp7
    revert Iu d8 Qd Qc Qb Qa P9 P8 P7
    generalize upd G7 ow (.dK (eK p1 p2 p3 p4 p5 p6 p7))=K0
    intro Iu d8 Qd Qc Qb Qa P9 P8 P7
    clear d7 sG b0 d0
    refine⟨_,rfl,ow,rfl,.inl ⟨_,.inl d8⟩,fun GP Jl=>?_⟩
    have u0:=af Jl (.dK [])
    have w0:upd K0 GP (.dK []) GP=some (.dK []):=ag
    revert u0 w0
    generalize upd K0 GP (.dK [])=J0
    intro u0 w0
    refine⟨by show 1≤sizeLine;decide,fun q1 O8=>?_⟩
    have Hz:=af O8 (.lst [.int 1])
    have eq1:upd J0 q1 (.lst [.int 1]) q1=some (.lst [.int 1]):=ag
    revert Hz eq1
    generalize upd J0 q1 (.lst [.int 1])=J1
    intro Hz eq1
    refine⟨by show 1≤sizeLine;decide,fun q2 Mj=>?_⟩
    have Io:=af Mj (.lst [.int 1])
    have eq2:upd J1 q2 (.lst [.int 1]) q2=some (.lst [.int 1]):=ag
    revert Io eq2
    generalize upd J1 q2 (.lst [.int 1])=J2
    intro Io eq2
    refine⟨by show 1≤sizeLine;decide,fun q3 O7=>?_⟩
    have IM:=af O7 (.lst [.int 2])
    have eq3:upd J2 q3 (.lst [.int 2]) q3=some (.lst [.int 2]):=ag
    revert IM eq3
    generalize upd J2 q3 (.lst [.int 2])=J3
    intro IM eq3
    refine⟨by show 1≤sizeLine;decide,fun q4 O6=>?_⟩
    have JA:=af O6 (.lst [.int 2])
    have eq4:upd J3 q4 (.lst [.int 2]) q4=some (.lst [.int 2]):=ag
    revert JA eq4
    generalize upd J3 q4 (.lst [.int 2])=J4
    intro JA eq4
    refine⟨by show 1≤sizeLine;decide,fun q5 O5=>?_⟩
    have J8:=af O5 (.lst [.int 2])
    have eq5:upd J4 q5 (.lst [.int 2]) q5=some (.lst [.int 2]):=ag
    revert J8 eq5
    generalize upd J4 q5 (.lst [.int 2])=J5
    intro J8 eq5
    have w5:=(J8 _ _ (JA _ _ (IM _ _ (Io _ _ (Hz _ _ w0)))))
    have fq1:=(J8 _ _ (JA _ _ (IM _ _ (Io _ _ eq1))))
    have fq2:=(J8 _ _ (JA _ _ (IM _ _ eq2)))
    have fq3:=(J8 _ _ (JA _ _ eq3))
    have fq4:=(J8 _ _ eq4)
    have fq5:=eq5
    have nq1:q1≠GP:=fun z=>by have u:=w0;rw[←z,O8] at u;cases u
    have nq2:q2≠GP:=fun z=>by have u:=(Hz _ _ w0);rw[←z,Mj] at u;cases u
    have nq3:q3≠GP:=fun z=>by have u:=(Io _ _ (Hz _ _ w0));rw[←z,O7] at u;cases u
    have nq4:q4≠GP:=fun z=>by have u:=(IM _ _ (Io _ _ (Hz _ _ w0)));rw[←z,O6] at u;cases u
    have nq5:q5≠GP:=fun z=>by have u:=(JA _ _ (IM _ _ (Io _ _ (Hz _ _ w0))));rw[←z,O5] at u;cases u
    have no2:ow≠GP:=fun z=>by rw[←z,d8] at Jl;cases Jl
    have sJ:az K0 J5:=(((((u0.trans Hz).trans Io).trans IM).trans JA).trans J8)
    refine⟨w5,eT q1 q2 q3 q4 q5,rfl,by show 5≤15;decide,?_⟩
    rw[Bq]
    have FK:az K0 (upd J5 GP (.dK (eT q1 q2 q3 q4 q5))):=bh Jl sJ
    have w6:upd J5 GP (.dK (eT q1 q2 q3 q4 q5)) GP=some (.dK (eT q1 q2 q3 q4 q5)):=ag
    have P6:=(aF (o:=.dK (eT q1 q2 q3 q4 q5)) (H:=J5) nq1).trans fq1
    have P5:=(aF (o:=.dK (eT q1 q2 q3 q4 q5)) (H:=J5) nq2).trans fq2
    have P4:=(aF (o:=.dK (eT q1 q2 q3 q4 q5)) (H:=J5) nq3).trans fq3
    have P2:=(aF (o:=.dK (eT q1 q2 q3 q4 q5)) (H:=J5) nq4).trans fq4
    have P1:=(aF (o:=.dK (eT q1 q2 q3 q4 q5)) (H:=J5) nq5).trans fq5
    revert FK w6 P6 P5 P4 P2 P1
    generalize upd J5 GP (.dK (eT q1 q2 q3 q4 q5))=K1
    intro FK w6 P6 P5 P4 P2 P1
    refine⟨GP,_,_,rfl,no2,FK _ _ d8,w6,by show 7+5≤sizeLine;decide,?_⟩
    rw[xI]
    have L1:=FK _ _ Qd
    have kp2:=FK _ _ Qc
    have kp3:=FK _ _ Qb
    have kp4:=FK _ _ Qa
    have kp5:=FK _ _ P9
    have kp6:=FK _ _ P8
    have kp7:=FK _ _ P7
    have mq1:q1≠ow:=fun z=>by have u:=(u0 _ _ d8);rw[←z,O8] at u;cases u
    have mq2:q2≠ow:=fun z=>by have u:=(Hz _ _ (u0 _ _ d8));rw[←z,Mj] at u;cases u
    have mq3:q3≠ow:=fun z=>by have u:=(Io _ _ (Hz _ _ (u0 _ _ d8)));rw[←z,O7] at u;cases u
    have mq4:q4≠ow:=fun z=>by have u:=(IM _ _ (Io _ _ (Hz _ _ (u0 _ _ d8))));rw[←z,O6] at u;cases u
    have mq5:q5≠ow:=fun z=>by have u:=(JA _ _ (IM _ _ (Io _ _ (Hz _ _ (u0 _ _ d8)))));rw[←z,O5] at u;cases u
    have IY:az H4 (upd K1 ow (.dK (eK p1 p2 p3 p4 p5 p6 p7++eT q1 q2 q3 q4 q5))):=bh how (Iu.trans FK)
    have d9:upd K1 ow (.dK (eK p1 p2 p3 p4 p5 p6 p7++eT q1 q2 q3 q4 q5)) ow=some (.dK (eK p1 p2 p3 p4 p5 p6 p7++eT q1 q2 q3 q4 q5)):=ag
    have OL:=(aF (o:=(.dK (eK p1 p2 p3 p4 p5 p6 p7++eT q1 q2 q3 q4 q5))) (H:=K1) Q7).trans L1
    have OK:=(aF (o:=(.dK (eK p1 p2 p3 p4 p5 p6 p7++eT q1 q2 q3 q4 q5))) (H:=K1) Q6).trans kp2
    have OJ:=(aF (o:=(.dK (eK p1 p2 p3 p4 p5 p6 p7++eT q1 q2 q3 q4 q5))) (H:=K1) Q5).trans kp3
    have OI:=(aF (o:=(.dK (eK p1 p2 p3 p4 p5 p6 p7++eT q1 q2 q3 q4 q5))) (H:=K1) Q4).trans kp4
    have OH:=(aF (o:=(.dK (eK p1 p2 p3 p4 p5 p6 p7++eT q1 q2 q3 q4 q5))) (H:=K1) Q3).trans kp5
    have OG:=(aF (o:=(.dK (eK p1 p2 p3 p4 p5 p6 p7++eT q1 q2 q3 q4 q5))) (H:=K1) Q2).trans kp6
    have OE:=(aF (o:=(.dK (eK p1 p2 p3 p4 p5 p6 p7++eT q1 q2 q3 q4 q5))) (H:=K1) Q1).trans kp7
    have OD:=(aF (o:=(.dK (eK p1 p2 p3 p4 p5 p6 p7++eT q1 q2 q3 q4 q5))) (H:=K1) mq1).trans P6
    have OC:=(aF (o:=(.dK (eK p1 p2 p3 p4 p5 p6 p7++eT q1 q2 q3 q4 q5))) (H:=K1) mq2).trans P5
    have OB:=(aF (o:=(.dK (eK p1 p2 p3 p4 p5 p6 p7++eT q1 q2 q3 q4 q5))) (H:=K1) mq3).trans P4
    have OA:=(aF (o:=(.dK (eK p1 p2 p3 p4 p5 p6 p7++eT q1 q2 q3 q4 q5))) (H:=K1) mq4).trans P2
    have Oz:=(aF (o:=(.dK (eK p1 p2 p3 p4 p5 p6 p7++eT q1 q2 q3 q4 q5))) (H:=K1) mq5).trans P1
    revert IY d9 OL OK OJ OI OH OG OE OD OC OB OA Oz
    generalize upd K1 ow (.dK (eK p1 p2 p3 p4 p5 p6 p7++eT q1 q2 q3 q4 q5))=H5
    intro IY d9 OL OK OJ OI OH OG OE OD OC OB OA Oz
    have tab:=xH OL OK OJ OI OH OG OE OD OC OB OA Oz k
    have JJ:=IZ.trans IY
    obtain⟨M,hM⟩:=sZ hd
    have Ly:=JJ _ _ E8
    have FR:=At.same JJ _ _ Ey
    have L8:=At.same IY _ _ Gf
    have lr0:Sg.length≤15000000:=by omega
    have Gs:=sH.trans JJ
    refine⟨.ref a,xa,fl,.int (0+(i:Nat)),v',wy,ow,o7,o8,o9,k,r,_,Sg,M,rfl,FR,d9,tab,hM,⟨vr,Ly,ai.same JJ _ _ He⟩,lr0,fun Lc H6 rs GQ s6 hfl6 hL6 Jh hlrs=>?_⟩
    have Ia:H Lc=none:=by
     rcases hfl6 with rfl | h6
     ·exact EO
     ·exact none_of Gs h6
    have NQ:=Gs.trans s6
    obtain⟨v6,MB,J6⟩:=hL6
    refine⟨.ref a,xa,Lc,.int (0+(i:Nat)),v',wy,ow,GQ,o8,o9,n,k,r,Sg++rs,rfl,At.same s6 _ _ FR,hd,⟨v6,MB,J6⟩,by rw[CK];omega,fun H7 LH PM=>?_⟩
    obtain⟨v7,Jt,Il⟩:=PM
    have Lh:=LH.ax MB
    have l7:(gs (.tup (.str k::r))).length≤1:=by unfold gs;cases bM (.tup (.str k::r))<;>simp
    refine⟨.ref a,xa,Lc,.int (0+(i:Nat)),v',wy,ow,GQ,o8,o9,k,r,_,Sg++rs++gs (.tup (.str k::r)),rfl,At.ax Lh _ _ (At.same s6 _ _ FR),At.ax Lh _ _ (At.same s6 _ _ L8),⟨v7,Jt,Il⟩,by simp only[List.length_append];omega,fun H8 Jy hL8=>?_⟩
    obtain⟨v8,RB,Ik⟩:=hL8
    have RX:=Lh.trans (Jy.ax Jt)
    have l8:∀w,(iq w (.tup (.str k::r))).length≤1:=fun w=>by unfold iq;split<;>simp
    refine⟨.ref a,xa,Lc,.int (0+(i:Nat)),v',wy,ow,GQ,o8,o9,k,r,_,rfl,At.ax RX _ _ (At.same s6 _ _ FR),⟨v8,RB,Ik⟩,by have:=l8 (.tup (way++[.int (0+(i:Nat))]));simp only[List.length_append];omega,fun H9 Jx PL=>?_⟩
    have Qr:=RX.trans (Jx.ax RB)
    have QX:az H H9:=(LH.trans (Jy.trans Jx)).jQ Ia NQ
    have OY:=At.ax Qr _ _ (At.same s6 _ _ FR)
    have hwy9:=At.ax Qr _ _ (At.same s6 _ _ L8)
    have R5:bN H1 H9:=(sT.trans (bN.of (JJ.trans s6))).trans Qr
    have A9:=cW.ok (.inl ⟨n,hd⟩)
    have E2:D.k (.tup (.str k::r))≠"except":=by
     rcases oj hd with ⟨hk,_⟩ | ⟨rfl,_⟩ | ⟨_,_,he⟩
     ·simp only[List.mem_cons,List.not_mem_nil,or_false] at hk
      show k≠"except"
      rcases hk with rfl | rfl | rfl | rfl | rfl<;>decide +kernel
     ·show("yield":Str)≠"except";decide +kernel
     ·exact he
    generalize EY:rs++gs (.tup (.str k::r))++iq (.tup (way++[.int (0+(i:Nat))])) (.tup (.str k::r))++jj (.tup (.str k::r))=own
    have LY:fu own [.tup (.str k::r)]:=by rw[←EY];exact u7 Jh
    have own2:∀r∈own,gZ r:=by rw[←EY];exact Ak Jh A9 E2
    have own3:own.length≤203:=by rw[←EY];exact CZ (yw _ _) (by omega)
    have M4:cG K H9 Lc (Sg++own):=by
     rw[←EY]
     simp only[List.append_assoc] at PL ⊢
     exact PL
    clear PL EY
    have QT:∀r∈Sg++own,gZ r:=fun r hr=>(Df.mp hr).elim (Lx r) (own2 r)
    refine⟨_,rfl,0,_,_,rfl,OY,rfl,fun yk EB=>⟨by show 2≤sizeLine;decide,fun OM Jk=>?_⟩⟩
    rw[av.mp EB]
    refine⟨OM,_,rfl,.inr (cq.of ag),rfl,rfl,_,rfl,?_⟩
    have Ip:=af Jk (.tup [.str "def",.str "class"])
    revert Ip
    generalize upd H9 OM (.tup [.str "def",.str "class"])=FF
    intro Ip
    rw[show(if true=true then !gq (.str k) [.str "def",.str "class"] else gq (.str k) [.str "def",.str "class"])=!decide (k∈(["def","class"]:List Str)) from hX k ["def","class"]]
    by_cases ch:k="def"∨k="class"
    ·have eh:fU (.tup (.str k::r))=true:=by
      unfold fU
      rw[show D.k (.tup (.str k::r))=k from rfl]
      rcases ch with rfl | rfl<;>decide +kernel
     rw[eh,CQ rfl] at Jg
     rw[CJ (show k∈(["def","class"]:List Str) by simpa using ch)]
     refine bg ⟨Lc,_,_,_,_,_,_,_,Sg++own,rfl,Ia,QX.trans Ip,R5.trans (bN.of Ip),M4.same Ip,QT,?_,?_⟩
     ·rw[Jg];exact Jf.append LY
     ·rw[CK,Nat.add_mul,Nat.one_mul];omega
    ·have eh:fU (.tup (.str k::r))=false:=by
      unfold fU
      rw[show D.k (.tup (.str k::r))=k from rfl,Bool.or_eq_false_iff,beq_eq_false_iff_ne,beq_eq_false_iff_ne]
      exact⟨fun z=>ch (.inl z),fun z=>ch (.inr z)⟩
     rw[eh,CO CU] at Jg
     rw[CI (show ¬k∈(["def","class"]:List Str) from fun m=>ch (by simpa using m))]
     refine bJ ⟨_,rfl,v',k,r,rfl,At.same Ip _ _ OY,sh,fun bl Ka Ih Hh hLb=>?_⟩
     obtain⟨vbs,MW,Fb⟩:=hLb
     have lb:=Fb.len
     have lb5:vbs.length≤5:=by rw[lb];exact rD hd
     have Fu:=Ip.trans Hh
     refine⟨bl,rfl,⟨vbs,br.of MW⟩,qu (K:=K) (a:=bl) (xs:=vbs) (txJ K H Ka a xa ds n i v' wy ow GQ k r)
      ⟨Lc,o8,o9,Sg++own,rfl,Ia,QX.trans Fu,az.refl _,M4.same Fu,QT,by rw[List.range_zero,List.flatMap_nil,fE];exact Jf.append LY,by rw[CK];omega⟩ (fun j σ H' _ h=>by obtain⟨_,_,_,_,_,_,_,s,_⟩:=h;exact br.of (s _ _ MW)) ?_ ?_⟩
     ·rintro j b σ JB T2 MV ⟨Ld,o812,o912,GO,rfl,Ib,HE,s1112,K5,HJ,GW,Mw⟩ K4
      have hj:j < (aY (.tup (.str k::r))).length:=by rw[←lb];exact(CM.mp MV).1
      obtain⟨b',ET,PR⟩:=ai.get (i:=j) Fb (d:=(aY (.tup (.str k::r)))[j]) (by simp[hj])
      have eb:b'=b:=by rw[MV] at ET;cases ET;rfl
      subst eb
      cases n with
      | zero=>
       obtain⟨k2,r2,e2,g1,g2,g3,g4,_⟩:=(show fZ (.tup (.str k::r)) from hd).kind
       rw[e2,gU g1 g2 g3 g4] at hj
       exact absurd hj (by simp)
      | succ n=>
       obtain⟨Sf,ebd,MU,hbst⟩:=AS hd _ (C2 hj)
       have hAj12:At K JB (.tup Sf) b':=by rw[←ebd];exact At.same s1112 _ _ PR
       have hj5:j≤4:=by omega
       have hmul2:j*(48+4*cT (n+1))≤4*(48+4*cT (n+1)):=Nat.mul_le_mul_right _ hj5
       have Ln:az JB (upd JB T2 (.tup [.int (j:Nat),b'])):=af K4 _
       have Kd:cq K (upd JB T2 (.tup [.int (j:Nat),b'])) T2 [.int (j:Nat),b']:=cq.of ag
       revert Ln Kd
       generalize upd JB T2 (.tup [.int (j:Nat),b'])=Oe
       intro Ln Kd
       have LU:az H9 Oe:=(Fu.trans s1112).trans Ln
       refine⟨T2,_,rfl,Kd,rfl,_,_,rfl,_,_,rfl,rfl,?_⟩
       refine⟨.ref a,xa,Ld,.int (0+(i:Nat)),v',wy,ow,GQ,j,b',_,_,GO,rfl,At.same LU _ _ OY,hd,K5.same Ln,by omega,fun Nw R7 hs Fg hfl14 hL14 hlh htxh htoh=>?_⟩
       have hfl14':H Nw=none:=by
        rcases hfl14 with rfl | h6
        ·exact Ib
        ·exact none_of (HE.trans Ln) h6
       obtain⟨QR,hf14,Nq⟩:=hL14
       have s1214:=Ln.trans Fg
       refine⟨_,rfl,_,rfl,_,rfl,_,rfl,by show 1≤sizeLine;decide,fun pw2 HN=>?_⟩
       have QV:=af HN (.tup [.int (j:Nat)])
       refine⟨way++[.int (0+(i:Nat))],[.int (j:Nat)],At.same ((LU.trans Fg).trans QV) _ _ hwy9,At.new HN (ai.eA (bo.mpr rfl)),by rw[CK];show _+1+1≤_;exact small (by omega),fun Oj H16 s16 Kp=>?_⟩
       have s1416:=QV.trans s16
       refine⟨b',Oj,Sf,(way++[D.int (0+(i:Nat))])++[D.int (j:Nat)],rfl,At.same (s1214.trans s1416) _ _ hAj12,Kp,hbst,MU,by omega,by simp only[List.length_append,List.length_singleton];omega,fun p17 H17 rows hp17 s17 hL17 htx17 hto17 hl17=>?_⟩
       obtain⟨QQ,hf17,Np⟩:=hL17
       have s1417:=s1416.trans s17
       have Ki:=Nq.len
       have l17:=Np.len
       have hm3:Sf.length*cT (n+1)≤4*cT (n+1):=Nat.mul_le_mul_right _ MU
       rw[CK] at Ki
       refine⟨Nw,p17,QR,QQ,rfl,rfl,s1417 _ _ hf14,hf17,by rw[Ki,l17];exact ny (by omega),fun p18 Mq=>?_⟩
       have Oc:=af Mq (.lst (QR++QQ))
       have s1218:=s1214.trans s1417
       refine⟨p18,_,_,(GO++hs)++rows,rfl,none_of (HE.trans s1218) Mq,(HE.trans s1218).trans Oc,(s1112.trans s1218).trans Oc,⟨_,ag,ai.same Oc _ _ (ai.append (ai.same s1417 _ _ Nq) Np)⟩,fun r hr=>?_,?_,?_⟩
       ·rcases Df.mp hr with hr | hr
        ·exact(Df.mp hr).elim (HJ r) (htxh r)
        ·exact htx17 r hr
       ·have ep:(List.range (j+1)).flatMap (gB (.tup (.str k::r)))=(List.range j).flatMap (gB (.tup (.str k::r)))++(kE (.tup (.str k::r)) j++Sf):=by
         rw[List.range_succ,List.flatMap_append,List.flatMap_cons,List.flatMap_nil,List.append_nil]
         unfold gB
         rw[show(aY (.tup (.str k::r))).getD j .aR=.tup Sf by rw[List.getD_eq_getElem?_getD,C5 hj,ebd];rfl]
         rfl
        rw[ep,fj,fj,vM,←List.cons_append,←List.append_assoc,←List.append_assoc]
        exact(GW.append htoh).append hto17
       ·simp only[List.length_append]
        rw[Nat.add_mul,Nat.one_mul]
        omega
     ·rintro σ JB ⟨Ld,o812,o912,GO,rfl,Ib,HE,s1112,K5,HJ,GW,Mw⟩
      refine⟨Ld,_,_,_,_,_,_,_,GO,rfl,Ib,HE,R5.trans (bN.of (Fu.trans s1112)),K5,HJ,?_,?_⟩
      ·rw[lb,qd hd] at GW
       rw[Jg];exact GW
      ·rw[Nat.add_mul,Nat.one_mul]
       have:vbs.length*(48+4*cT n)≤5*(48+4*cT n):=Nat.mul_le_mul_right _ lb5
       omega
   ·rintro σ H2 ⟨fl,o3,o4,o5,o6,o7,o8,o9,Sg,rfl,EO,sH,sT,hL,Lx,Jf,IC⟩
    rw[lx,List.take_length] at Jf
    exact⟨_,rfl,q fl H2 Sg EO sH hL Lx Jf (by rw[lx] at IC;exact IC)⟩
end
end GS
namespace GS
open PySem PySem.Spec PyProof.Rows
theorem mC:typeLookup (.type "list") "keys"=pure none:=by rw[typeLookup_type,builtinLookup_eq_fast];kernel_rfl
theorem nr{prog:Program}{w:World}{A:Around}{E:Value→Shared→Prop}{s:Shared}{a:Addr}{o:Obj}{xs:Array Value}{k:Nat}{Q:Option Value→Shared→Prop}
  (hx:s.heap.get? a=some o) (hc:o.cls=.type "list") (MO:o.data=.seq xs k) (hd:o.dict=none) (hA:A.handled=none)
  (h:∀h' tk,(∀b ob,s.heap.get? b=some ob→h'.get? b=some ob)→Q none { s with heap:=h',toks:=tk }):wpAny (model prog w) A (getAttr? (.ref a) "keys") Q E s:=by
 obtain⟨c,dct,dat,sl⟩:=o
 simp only at hc MO hd
 subst hc MO hd
 obtain⟨hp,g,d,tk,os⟩:=s
 have hT:∀Lm,(⟨hp,g,d,Lm,os⟩:Shared).TypeIs (.ref a) "list":=fun _=>⟨_,hx,rfl⟩
 have f1:=sub_AttributeError
 have f3:=F.slot_list_getattribute.lookup
 have f4:=F.slot_list_getattribute.bind (.ref a)
 have f5:=am_list_getattr_none
 unfold getAttr? getAttrBy? getAttrBy
 repeat (any_goals (first | assumption | exact hT _ | ((with_reducible show wpAny _ _ (call (Value.builtin "list.__getattribute__") _ _) _ _ _);refine call_meets F.slot_list_getattribute (hT _) am_entry_list_getattribute (F.args_list_getattribute_2 _ _) (meets_getattribute_miss_list a xs k sl "keys" _ mC (by decide +kernel)) ⟨hx,hA,fun h' Lm e GR=>?_⟩) | wp_step))
 obtain⟨t',u',he⟩:=GR.there
 show wpAny _ _ (getattributeRaised _ _ _ _ _ _ _) _ _ _
 unfold getattributeRaised
 repeat (any_goals (first | assumption | wp_step))
 exact h _ _ GR.keeps
theorem ip:entryFor table "dict.update.loop"=some Builtin.«dict.update.loop»:=entryFor_of_tree (by kernel_rfl)
theorem eZ:plainId "dict.update.loop"=true:=by decide +kernel
def ig (kv:Nat→L2.Key×Value) (i:Nat):List (L2.Key×Value):=merged [] ((List.range i).map kv)
theorem kS (kv:Nat→L2.Key×Value) (i:Nat):ig kv (i+1)=stored (ig kv i) (kv i).1 (kv i).2:=by
 unfold ig merged
 rw[List.range_succ,List.map_append,List.foldl_append]
 rfl
theorem qV (Sd:List (L2.Key×Value)) (k:L2.Key) (v:Value):(stored Sd k v).length≤Sd.length+1:=by
 unfold stored
 split
 ·rw[CS];omega
 ·rw[CK,List.length_singleton];exact CN _
theorem mM (kv:Nat→L2.Key×Value):∀i,(ig kv i).length≤i
 | 0=>CN _
 | i+1=>by
  rw[kS]
  have h1:=qV (ig kv i) (kv i).1 (kv i).2
  have h2:=mM kv i
  omega
section
variable{prog:Program}{w:World}{A:Around}{R:Result→Shared→Prop}{I:Addr}{fp wr:List Addr}{n:Nat}{P:Nat→Value→Prop}{St:Nat→Heap→Prop}
theorem kb (W:Walks prog w A.in1 I fp wr n P St) (d:Addr) (Gr:d∉fp) (kv:Nat→L2.Key×Value) (pr:Nat→Addr) (ks:Nat→Value) (hP:∀i v,i < n→P i v→v=.ref (pr i)) (hk:∀i,i < n→(L2.b7 prog w).is (kv i).1 (ks i)=true)
  (O9:∀i,i < n→pr i≠d∧pr i∉wr) (hz:n≤sizeLine):
  ∀(k i:Nat) (s:Shared) (t:Tok),n - i=k→i≤n→St i s.heap→s.heap.DictOf (L2.b7 prog w) d (ig kv i)→(∀j,j < n→IsTup s.heap (pr j) #[ks j,(kv j).2])→
   (∀h' tk,(∀b o,b≠d→b∉wr→s.heap.get? b=some o→h'.get? b=some o)→h'.DictOf (L2.b7 prog w) d (ig kv n)→R (.ok (.ret .none)) { s with heap:=h',toks:=tk })→
   codeAny (model prog w) A (.builtin "dict.update.loop" ⟨[.ref d,.ref I,.int (i:Nat) t,.none],[]⟩) R s:=by
 have MI:d∉wr:=fun h=>Gr (W.sub _ h)
 intro k
 induction k with
 | zero=>
  intro i s t hki hi EE hD hT hR
  have Js:i=n:=by omega
  subst Js
  refine codeAny_builtin ip ?_
  rw[Around.under_plainId eZ _]
  show wpAny _ A.in1 (pyNext (.ref I) >>= _) _ _ s
  refine CG (W.done s _ _ EE fun h' tk hm=>?_)
  show wpAny _ A.in1 (Builtin.Dict.addKeywords d [] >>= _) _ _ _
  exact CG (CH (CH (hR h' tk (fun b o _ hb e=>hm b o hb e) (by
   obtain⟨o,es,ep,ho,rest⟩:=hD
   exact⟨o,es,ep,hm d _ MI ho,rest⟩))))
 | succ k ih=>
  intro i s t hki hi EE hD hT hR
  have Ex:i < n:=by omega
  refine codeAny_builtin ip ?_
  rw[Around.under_plainId eZ _]
  show wpAny _ A.in1 (pyNext (.ref I) >>= _) _ _ s
  refine CG (W.item i s _ _ Ex EE fun v h' tk hPv Gx hm=>?_)
  have ev:=hP i v Ex hPv
  subst ev
  have PN:h'.DictOf (L2.b7 prog w) d (ig kv i):=by
   obtain⟨o,es,ep,ho,rest⟩:=hD
   exact⟨o,es,ep,hm d _ MI ho,rest⟩
  have RK:∀j,j < n→IsTup h' (pr j) #[ks j,(kv j).2]:=fun j hj=>by
   obtain⟨o,ho,rest⟩:=hT j hj
   exact⟨o,hm _ _ (O9 j hj).2 ho,rest⟩
  obtain⟨o,ho,Jm,m,JR⟩:=id (RK i Ex)
  have hTy:(⟨h',s.gens,s.drawn,tk,s.os⟩:Shared).TypeIs (.ref (pr i)) "tuple":=⟨o,ho,Jm⟩
  refine CG (wpAny_holding (CG ?_))
  refine wpAny_tryCatch ?_
  unfold Builtin.Dict.pairItems
  refine CG (wpAny_typeOf hTy ?_)
  rw[CQ (by decide)]
  refine CG (wpAny_seqItems ho JR ?_)
  refine CH ?_
  show wpAny _ A.in1 (holding [ks i,(kv i).2] (dictSet d (ks i) (kv i).2)) _ _ _
  refine wpAny_holding (wpAny_dictSet_pairs (hk i Ex) PN (fun h2 Hx F0=>?_) (CZ (mM kv i) (by omega)))
  rw[←kS] at Hx
  refine CH ⟨plainId_quiet eZ _,?_⟩
  have hcast:((i:Nat):Int)+1=((i+1:Nat):Int):=by omega
  rw[hcast]
  refine ih (i+1) _ _ (by omega) Ex (W.frame _ _ _ Gx fun b hb o e=>?_) Hx (fun j hj=>?_) fun h3 tk3 hk3 M6=>?_
  ·rw[F0.2 b (fun h:b=d=>Gr (by rw[←h];exact hb))];exact e
  ·obtain⟨o,ho,rest⟩:=RK j hj
   exact⟨o,(F0.2 _ (O9 j hj).1).trans ho,rest⟩
  ·exact hR h3 tk3 (fun b o hb RE e=>hk3 b o hb RE ((F0.2 b hb).trans (hm b o RE e))) M6
end
open L2
theorem nA:∀{ps:List Addr}{Se:List Value},Vals (ps.map V.ref) Se→Se=ps.map Value.ref
 | [],_,h=>by rw[List.map_nil] at h;cases h;rfl
 | p::ps,_,h=>by
  rw[List.map_cons] at h
  cases h with
  | cons a b=>rw[nA b,show _=Value.ref p from a];rfl
theorem wM{Sd:List (Key×V)}{g:Nat→Key×Value}(h:∀i kv,Sd[i]?=some kv→kv.1=(g i).1∧RelV kv.2 (g i).2):KV Sd ((List.range Sd.length).map g):=by
 induction Sd generalizing g with
 | nil=>exact .nil
 | cons a r ih=>
  rw[CY,List.range_succ_eq_map,List.map_cons,List.map_map]
  exact .cons (h 0 a rfl) (ih fun i kv e=>h (i+1) kv e)
section
variable{X:Cx}
theorem mR (hc:X.calm=true):i9 X (.type "dict") (fun xs H Q=>∃(p:Addr) (ps:List Addr) (Sd:List (Key×V)),xs=[.ref p]∧br X.K H p (ps.map V.ref)∧ps.length=Sd.length∧(∀(i:Nat) (a:Addr) (kv:Key×V),ps[i]?=some a→Sd[i]?=some kv→cq X.K H a [kV kv.1,kv.2])∧Sd.length≤sizeLine∧
  ∀l,H l=none→Q (.ref l) (upd H l (.dK (cA [] Sd)))):=by
 intro Sb s σ H xs us Q I r h
 obtain⟨p,ps,Sd,rfl,hq,hlen,hT,hz,q⟩:=h
 obtain⟨u,rfl,ru⟩:=vals1 r
 cases ru
 obtain⟨Se,rv,pl,hzz⟩:=I.list hq
 have ei:=nA rv
 subst ei
 have Ez:p < s.heap.objs.size:=let ⟨o,n,e,_⟩:=pl;Heap.lt_size e
 have hex:∀i:Nat,∃y:Addr×(Key×Value)×Value,i < Sd.length→ps[i]?=some y.1∧(∀kv,Sd[i]?=some kv→kv.1=y.2.1.1∧RelV kv.2 y.2.1.2)∧(b7 X.prog X.w).is y.2.1.1 y.2.2=true∧IsTup s.heap y.1 #[y.2.2,y.2.1.2]:=fun i=>by
  by_cases hi:i < Sd.length
  ·have Ry:i < ps.length:=by omega
   obtain⟨EK,r2,p2,_⟩:=I.tuple (hT i ps[i] Sd[i] (by simp[Ry]) (by simp[hi]))
   cases r2 with
   | @cons _ u1 _ us1 a1 b1=>
    cases b1 with
    | @cons _ u2 _ us2 a2 b2=>
     cases b2
     refine⟨(ps[i],(Sd[i].1,u2),u1),fun _=>⟨by simp[Ry],fun kv e=>?_,mH a1,p2⟩⟩
     have:Sd[i]=kv:=by simpa[hi] using e
     rw[←this];exact⟨rfl,a2⟩
  ·exact⟨(0,(.inl 0,.none),.none),fun z=>absurd z hi⟩
 obtain⟨y,hy⟩:=Classical.axiomOfChoice hex
 refine callType_codes (Q₁:=fun obj s₁=>obj=.ref s.heap.objs.size∧s₁={ s with heap:=s.heap.push { cls:=.type "dict",data:=.dict #[] } }) F.kt_called_dict (F.kt_typeCall_dict_1 _) F.entry_dict_init (kt_code_dict_new _ ⟨rfl,rfl⟩) ?_
 rintro obj s₁ ⟨rfl,rfl⟩
 have Jo:(s.heap.push { cls:=.type "dict",data:=.dict #[] }).DictOf (b7 X.prog X.w) s.heap.objs.size []:=Heap.DictOf.new s.heap
 refine⟨Jo.typeIs,F.args_dict_init_2 _ _,?_⟩
 unfold Builtin.«dict.__init__»
 refine CG ?_
 unfold Builtin.Dict.selfAndRest
 refine CG (wpAny_notOrdered_dict Jo.typeIs ?_)
 show wpAny _ _ (pure (s.heap.objs.size,[Value.ref p])) _ _ _
 refine CH ?_
 show wpAny _ _ (Builtin.Dict.updateFrom "dict.__init__" s.heap.objs.size (.ref p) [] .none) _ _ _
 unfold Builtin.Dict.updateFrom
 obtain⟨o,nn,e,Jm,JR⟩:=id pl
 have e1:(s.heap.push { cls:=.type "dict",data:=.dict #[] }).get? p=some o:=CL _ e
 refine CG (wpAny_typeOf (T:="list") ⟨o,e1,Jm⟩ ?_)
 rw[CQ (by decide)]
 have RC:=I.ok.hd hc
 refine CG (nr (xs:=(ps.map Value.ref).toArray) (k:=nn) e1 Jm JR.2 JR.1 RC fun h1 tk1 ID=>?_)
 show wpAny _ _ (rule _ >>= _) _ _ _
 have e2:h1.get? p=some o:=ID _ _ e1
 have hL:h1.IsList p (ps.map Value.ref).toArray:=⟨o,e2,Jm,nn,JR.2⟩
 refine CG (wpAny_rule (CG (wpAny_pyIter_list (s:=⟨h1,s.gens,s.drawn,tk1,s.os⟩) hL ?_)))
 have hsz:s.heap.objs.size < h1.objs.size:=by
  obtain⟨o',_,_,Fz,_⟩:=Jo
  exact Heap.lt_size (ID _ _ Fz)
 refine CH ⟨plainId_quiet eZ _,?_⟩
 have Jr:(ps.map Value.ref).toArray.size=Sd.length:=by rw[List.size_toArray,CS];exact hlen
 have keep:∀b ob,s.heap.get? b=some ob→(h1.push { cls:=.type "list_iterator",data:=.fields #[.ref p,.int 0 0] }).get? b=some ob:=fun b ob hb=>CL _ (ID _ _ (CL _ hb))
 have hpI:p≠h1.objs.size:=Dc (Nat.lt_trans Ez hsz)
 have hold:∀{b ob},s.heap.get? b=some ob→b≠s.heap.objs.size∧b∉[h1.objs.size]:=fun {b ob} hb=>by
  have:=Heap.lt_size hb
  exact⟨Dc this,fun m=>by rw[Dg] at m;exact Nat.lt_asymm hsz (m▸this)⟩
 have hd2:X.A.in1.in1.handled=none:=RC
 refine kb (A:=X.A.in1) (Walks.list (A:=X.A.in1.in1) hd2 h1.objs.size p hpI (ps.map Value.ref).toArray) s.heap.objs.size (fun m=>?m1) (fun i=>(y i).2.1) (fun i=>(y i).1) (fun i=>(y i).2.2) (fun i v hi hv=>?m2) (fun i hi=>(hy i (by rw[←Jr];exact hi)).2.2.1) (fun i hi=>?m3) (by rw[Jr];exact hz) _ 0 _ 0 rfl (Nat.zero_le _) ⟨?m4,?m5⟩ ?m6 (fun j hj=>?m7) (fun h' tk hk hD=>?m8)
 case m1=>
  simp only[List.mem_cons,List.not_mem_nil,or_false] at m
  rcases m with m | m
  ·exact Dc hsz m
  ·exact Dc Ez m.symm
 case m2=>
  have Fs:i < Sd.length:=by rw[←Jr];exact hi
  have P0:=(hy i Fs).1
  have:(ps.map Value.ref)[i]?=some v:=by simpa using hv
  rw[List.getElem?_map,P0] at this
  simpa using this.symm
 case m3=>
  obtain⟨_,_,_,o',Fz,_⟩:=hy i (by rw[←Jr];exact hi)
  exact hold Fz
 case m4=>exact⟨_,Heap.get?_push_size _ rfl,rfl,rfl⟩
 case m5=>exact⟨o,CL _ e2,Jm,nn,JR.2⟩
 case m6=>
  obtain⟨o',es,ep,Fz,rest⟩:=Jo
  exact⟨o',es,ep,CL _ (ID _ _ Fz),rest⟩
 case m7=>
  obtain⟨_,_,_,o',Fz,rest⟩:=hy j (by rw[←Jr];exact hj)
  exact⟨o',keep _ _ Fz,rest⟩
 case m8=>
  have rel:KV Sd ((List.range Sd.length).map fun i=>(y i).2.1):=wM fun i kv e=>(hy i (CM.mp e).1).2.1 kv e
  have PN:h'.DictOf (b7 X.prog X.w) s.heap.objs.size (merged [] ((List.range Sd.length).map fun i=>(y i).2.1)):=by
   have:ig (fun i=>(y i).2.1) (ps.map Value.ref).toArray.size=merged [] ((List.range Sd.length).map fun i=>(y i).2.1):=by rw[Jr];rfl
   rw[←this];exact hD
  have L7:(cA [] Sd).length≤sizeLine:=CZ (eU Sd []) (by simpa using hz)
  refine⟨rfl,.ref s.heap.objs.size,_,I.laid (a:=s.heap.objs.size) (o:=.dK (cA [] Sd)) (h':=h') (t':=tk) (fun b u hb=>?_) (CN _) (pC L7 (beq_eq_false_iff_ne.mpr (Ne.symm (Dc I.big))) (rel.merge .nil) PN),rfl,q _ (I.bH.fresh (CN _))⟩
  exact hk b u (hold hb).1 (hold hb).2 (keep _ _ hb)
end
end GS
namespace GS
open PySem PyProof.Rows
open L2 hiding ak cn bj aq pv cZ ay fQ bZ dw dY fR b9 bC cI cH cm ae aa aI aw bG aV cj eF ar cB dk bQ cX bX dZ aL bU aU cw bF dm bz cU aG ba aA eD aN cu bR aB ah aj
open L3
abbrev mn:Stmt:=dz 15
abbrev mr:Stmt:=dz 16
theorem cut2 (ds:List D):cutD ds (some 2) none=ds.drop 2:=by
 unfold cutD
 rw[HT.pY,show HT.eY ds.length 0 (some 2)=min 2 ds.length from HT.sV _ _ 2]
 match ds with
 | []=>rfl
 | [a]=>rfl
 | a::b::r=>simp
theorem sy{n:Nat}{d:D}(h:e9 n d):∃k r,d=.tup (.str k::r)∧(k="name"→∃z,r=[.str z])∧(k="both"∨k="two"→∃z t u,r=[.str z,t,u]∧e9 n t∧e9 n u)∧(k="call"→∃t ts,r=[t,.tup ts]∧e9 n t∧ts.length≤2∧∀s∈ts,e9 n s)∧(k="not"∨k="minus"∨k="field"→∃t rest,r=t::rest∧e9 n t):=by
 have leaf:∀{d:D},nU d→∃k r,d=.tup (.str k::r)∧(k="name"→∃z,r=[.str z])∧(k="both"∨k="two"→∃z t u,r=[.str z,t,u]∧e9 n t∧e9 n u)∧(k="call"→∃t ts,r=[t,.tup ts]∧e9 n t∧ts.length≤2∧∀s∈ts,e9 n s)∧(k="not"∨k="minus"∨k="field"→∃t rest,r=t::rest∧e9 n t):=fun h=>by
  rcases h with ⟨i,rfl⟩ | ⟨z,rfl⟩ | rfl | ⟨b,rfl⟩ | ⟨z,rfl⟩
  ·exact⟨_,_,rfl,fun z=>absurd z (by decide +kernel),fun z=>absurd z (by decide +kernel),fun z=>absurd z (by decide +kernel),fun z=>absurd z (by decide +kernel)⟩
  ·exact⟨_,_,rfl,fun _=>⟨z,rfl⟩,fun z=>absurd z (by decide +kernel),fun z=>absurd z (by decide +kernel),fun z=>absurd z (by decide +kernel)⟩
  ·exact⟨_,_,rfl,fun z=>absurd z (by decide +kernel),fun z=>absurd z (by decide +kernel),fun z=>absurd z (by decide +kernel),fun z=>absurd z (by decide +kernel)⟩
  ·exact⟨_,_,rfl,fun z=>absurd z (by decide +kernel),fun z=>absurd z (by decide +kernel),fun z=>absurd z (by decide +kernel),fun z=>absurd z (by decide +kernel)⟩
  ·exact⟨_,_,rfl,fun z=>absurd z (by decide +kernel),fun z=>absurd z (by decide +kernel),fun z=>absurd z (by decide +kernel),fun z=>absurd z (by decide +kernel)⟩
 cases n with
 | zero=>exact leaf h
 | succ n=>
  rcases h with h | ⟨t,ts,rfl,h1,h2,h3⟩ | ⟨t,z,rfl,h1⟩ | ⟨k,t,rfl,hk,h1⟩ | ⟨k,z,t,u,rfl,hk,h1,h2⟩
  ·exact leaf h
  ·exact⟨_,_,rfl,fun z=>absurd z (by decide +kernel),fun z=>absurd z (by decide +kernel),fun _=>⟨t,ts,rfl,h1.up,h2,fun s hs=>(h3 s hs).up⟩,fun z=>absurd z (by decide +kernel)⟩
  ·exact⟨_,_,rfl,fun z=>absurd z (by decide +kernel),fun z=>absurd z (by decide +kernel),fun z=>absurd z (by decide +kernel),fun _=>⟨t,_,rfl,h1.up⟩⟩
  ·exact⟨k,_,rfl,fun z=>absurd z (by rcases hk with rfl | rfl<;>decide +kernel),fun z=>absurd z (by rcases hk with rfl | rfl<;>decide +kernel),fun z=>absurd z (by rcases hk with rfl | rfl<;>decide +kernel),fun _=>⟨t,_,rfl,h1.up⟩⟩
  ·exact⟨k,_,rfl,fun z=>absurd z (by rcases hk with rfl | rfl<;>decide +kernel),fun _=>⟨z,t,u,rfl,h1.up,h2.up⟩,fun z=>absurd z (by rcases hk with rfl | rfl<;>decide +kernel),fun z=>absurd z (by rcases hk with rfl | rfl<;>decide +kernel)⟩
section
variable{P:Program}{w:World}{K:Fg06}{mg:Str→Option Value}{base:Heap}{f:Addr}{fd:FuncData}
def zK (K:Fg06):Sp:=fun vs H Q _=>∃(x:V) (d:D),vs=[x]∧At K H d x∧e9 2 d∧∀r H' ts,az H H'→At K H' (.tup ts) r→(∀t∈ts,e9 2 t)→eN ts+1≤lj d→(d.k="name"→ts=[])→Q r H'
theorem scTi:aW ["tree"] ["tree"] (aE mn):=fsX rfl rfl rfl rfl (by decide +kernel)
theorem B6 (F:eX K "trees_in" "trees_in" mn f fd):bO P w K mg base fw 1 f fd ["tree"] (zK K):=by
 refine F.hV scTi (fun vs H Q E h=>?_) (fun Si A outer s H vs Q E hr h=>?_)
 ·obtain⟨_,_,rfl,_⟩:=h;rfl
 obtain⟨x,d,rfl,hx,ht,q⟩:=h
 refine⟨_,(ah (aN (ar bq (aC (pv 0)) (aw (aa aq (aa aq ae))) rfl) (aj (aG (cm BF (pv 0) (cH ak) cI))) aB)
   (ah (aN (ar bw (aC (pv 0)) aq (aH _)) (aj (aG (ay gC (aw (aa (aC (pv 0)) ae)) (aC (pv 0))))) aB)
   (aj (aG (b9 (ar bq (aC (pv 0)) (aw (aa aq (aa aq (aa aq ae)))) rfl) (aw (aa (aC (pv 0)) ae)) (aw ae)))))),?_⟩
 obtain⟨k,r,rfl,_,k2,k3,k4⟩:=sy ht
 refine⟨_,rfl,0,_,_,rfl,hx,rfl,fun yk EB=>⟨by show 2≤sizeLine;decide,fun p1 EG=>?_⟩⟩
 rw[av.mp EB]
 refine⟨p1,_,rfl,.inr (cq.of ag),rfl,rfl,_,rfl,?_⟩
 have s1:=af EG (.tup [.str "both",.str "two"])
 revert s1
 generalize upd H p1 (.tup [.str "both",.str "two"])=H1
 intro s1
 have Fq:=At.same s1 _ _ hx
 rw[show(if false=true then !gq (.str k) [.str "both",.str "two"] else gq (.str k) [.str "both",.str "two"])=decide (k∈(["both","two"]:List Str)) from jl k ["both","two"]]
 by_cases c1:k="both"∨k="two"
 ·rw[CJ (show k∈(["both","two"]:List Str) by simpa using c1)]
  obtain⟨z,t,u,rfl,h1,h2⟩:=k2 c1
  refine bJ ⟨_,rfl,2,rfl,_,Fq,fun r H2 s2 Gb=>?_⟩
  rw[cut2] at Gb
  refine q r H2 [t,u] (s1.trans s2) Gb (fun e he=>?_) ?_ ?_
  ·simp only[List.mem_cons,List.not_mem_nil,or_false] at he
   rcases he with rfl | rfl
   ·exact h1
   ·exact h2
  ·simp only[dH,aX,cE];omega
  ·exact fun z=>absurd (show k="name" from z) (by rcases c1 with rfl | rfl<;>decide +kernel)
 rw[CI (show ¬k∈(["both","two"]:List Str) from fun m=>c1 (by simpa using m))]
 refine bg ⟨_,rfl,0,_,_,rfl,Fq,rfl,fun yk EB=>?_⟩
 rw[av.mp EB]
 refine⟨rfl,_,rfl,?_⟩
 rw[dF]
 by_cases c2:k="call"
 ·rw[CJ c2]
  obtain⟨t,ts,rfl,h1,h2,h3⟩:=k3 c2
  refine bJ ⟨_,rfl,1,_,_,rfl,Fq,rfl,fun yt OS=>⟨by show 1≤sizeLine;decide,fun p2 EC=>?_⟩⟩
  have s2:=af EC (.tup [yt])
  refine⟨_,rfl,2,_,_,rfl,At.same s2 _ _ Fq,rfl,fun ys hys=>⟨[t],ts,At.new EC (ai.eA OS),hys,by show 1+_≤_;exact small (by omega),fun r H3 s3 Ha=>?_⟩⟩
  refine q r H3 ([t]++ts) ((s1.trans s2).trans s3) Ha (fun e he=>?_) ?_ (fun z=>absurd (show k="name" from z) (by rw[c2];decide +kernel))
  ·rcases Df.mp he with he | he
   ·rw[Dg.mp he];exact h1
   ·exact h3 e he
  ·rw[dH,eC,aX,aX,aX,cE,aX,cE,dH];omega
 rw[CI c2]
 refine bg ⟨_,rfl,0,_,_,rfl,Fq,rfl,fun yk EB=>⟨by show 3≤sizeLine;decide,fun p2 EC=>?_⟩⟩
 rw[av.mp EB]
 refine⟨p2,_,rfl,.inr (cq.of ag),rfl,rfl,_,rfl,?_⟩
 have s2:=s1.trans (af EC (.tup [.str "not",.str "minus",.str "field"]))
 revert s2
 generalize upd H1 p2 (.tup [.str "not",.str "minus",.str "field"])=H2
 intro s2
 rw[show(if false=true then !gq (.str k) [.str "not",.str "minus",.str "field"] else gq (.str k) [.str "not",.str "minus",.str "field"])=decide (k∈(["not","minus","field"]:List Str)) from jl k ["not","minus","field"]]
 by_cases c3:k="not"∨k="minus"∨k="field"
 ·rw[CJ (show k∈(["not","minus","field"]:List Str) by simpa using c3)]
  obtain⟨t,rest,rfl,h1⟩:=k4 c3
  refine bJ ⟨_,rfl,1,_,_,rfl,At.same s2 _ _ hx,rfl,fun yt OS=>⟨by show 1≤sizeLine;decide,fun p3 FV=>?_⟩⟩
  refine q _ _ [t] (s2.trans (af FV _)) (At.new FV (ai.eA OS)) (fun e he=>by rw[Dg.mp he];exact h1) ?_ (fun z=>absurd (show k="name" from z) (by rcases c3 with rfl | rfl | rfl<;>decide +kernel))
  rw[dH,aX,aX,aX,cE];omega
 ·rw[CI (show ¬k∈(["not","minus","field"]:List Str) from fun m=>c3 (by simpa using m))]
  refine bg ⟨by decide,fun p3 FV=>?_⟩
  exact q _ _ [] (s2.trans (af FV _)) (At.new FV (aD.mpr rfl)) (fun e he=>by cases he) (by rw[cE];exact lg _) (fun _=>rfl)
def vz (K:Fg06):Sp:=fun vs H Q _=>∃(p:Addr) (ds:List D),vs=[.ref p]∧cG K H p ds∧(∀d∈ds,e9 2 d)∧eN ds≤1000∧∀p H' (zs:List Str),H p=none→az H H'→H' p=some (.lst (zs.map V.str))→3*zs.length≤eN ds→Q (.ref p) H'
theorem sP:aW ["trees","names","waiting","tree"] ["trees"] (aE mr):=fsX rfl rfl rfl rfl (by decide +kernel)
def vV (K:Fg06) (N:Nat) (H:Hp) (x:V) (n0 w0:Addr) (m:Nat) (σ:L2.St) (H':Hp):Prop:=(∃o3,σ=[some x,some (.ref n0),some (.ref w0),o3])∧az H H'∧(∃wds vw,H' w0=some (.lst vw)∧ai K H' wds vw∧(∀d∈wds,e9 2 d)∧m=eN wds)∧∃zs:List Str,H' n0=some (.lst (zs.map V.str))∧3*zs.length+m≤N
def niIf (K:Fg06):TS:=fun E σ H=>∃(x:V) (n0 w0:Addr) (v:V) (d:D) (zs:List Str),σ=[some x,some (.ref n0),some (.ref w0),some v]∧At K H d v∧e9 2 d∧H n0=some (.lst (zs.map V.str))∧zs.length≤1000∧
 ∀H' (Ll:List Str),di n0 H H'→H' n0=some (.lst (Ll.map V.str))→(Ll.length=zs.length∨(Ll.length=zs.length+1∧d.k="name"∧lj d=3))→E.nx [some x,some (.ref n0),some (.ref w0),some v] H'
theorem As (g:fh mg) (F:eX K "names_in" "names_in" mr f fd) (dT:Def P w K mg base "trees_in" ["tree"] 1 (zK K)):bO P w K mg base fw 2 f fd ["trees"] (vz K):=by
 refine F.hV sP (fun vs H Q E h=>?_) (fun Si A outer s H vs Q E hr h=>?_)
 ·obtain⟨_,_,rfl,_⟩:=h;rfl
 obtain⟨p,ds,rfl,⟨vd,hp,Jz⟩,htm,hsz,q⟩:=h
 refine⟨_,(ah (aA (i:=1) sP.nd rfl (Or.inl rfl) (aI ae))
   (ah (aA (i:=2) sP.nd rfl (Or.inl rfl) (aV fq rfl g.nList b6L (aa (pv 0) ae)))
   (ah (cu C9 (ar (gP hr) (pv 2) (aI ae) (aH _)) (ah (aA (i:=3) sP.nd rfl (Or.inl rfl) (eF CW PySem.F.slot_list_pop PySem.F.type_list_pop rL (pv 2)))
   (ah (dU (t':=niIf K) (aN (ar bw (aC (pv 3)) aq (aH _)) (aj (ba (cj CW C3 C4 bA (pv 1) (aa (aC (pv 3)) ae)))) aB) ?i1)
   (aj (ba (cj CW PySem.F.slot_list_extend PySem.F.type_list_extend jz (pv 2) (aa (L3.aK dT hr (by decide) rfl (aa (pv 3) ae)) ae)))))))
   (aj (aG (pv 1)))))),?main⟩
 case main=>
  refine⟨by decide,fun n0 Hn=>?_⟩
  have s1:=af Hn (.lst [])
  have c1:upd H n0 (.lst []) n0=some (.lst []):=ag
  revert s1 c1
  generalize upd H n0 (.lst [])=H1
  intro s1 c1
  refine⟨_,rfl,p,vd,rfl,.inl (br.of (s1 _ _ hp)),fun w0 Hw=>?_⟩
  have Ma:H w0=none:=none_of s1 Hw
  have nwn:w0≠n0:=fun z=>by rw[←z,Hw] at c1;cases c1
  have s2:=af Hw (.lst vd)
  have c2:upd H1 w0 (.lst vd) w0=some (.lst vd):=ag
  revert s2 c2
  generalize upd H1 w0 (.lst vd)=H2
  intro s2 c2
  have Fp:=s1.trans s2
  generalize hN:eN ds=N at q hsz
  refine⟨vV K N H (.ref p) n0 w0,⟨eN ds,⟨none,rfl⟩,Fp,⟨ds,vd,c2,ai.same Fp _ _ Jz,htm,rfl⟩,[],s2 _ _ c1,by rw[hN];simp⟩,?_⟩
  rintro m σ H3 ⟨⟨o3,rfl⟩,sH,⟨wds,vw,JM,JX,OW,rfl⟩,zs,Mt,hlen⟩
  refine⟨_,rfl,by decide,fun p0 Fi=>⟨w0,p0,vw,rfl,rfl,br.of ((af Fi _) _ _ JM),br.of ag,_,rfl,?_⟩⟩
  have t0:=af Fi (.lst [])
  revert t0
  generalize upd H3 p0 (.lst [])=H4
  intro t0
  have HI:=t0 _ _ JM
  have Jq:=t0 _ _ Mt
  have GH:=ai.same t0 _ _ JX
  have FG:=sH.trans t0
  rcases List.eq_nil_or_concat wds with rfl | ⟨wi,d,rfl⟩
  ·cases aD.mp JX
   exact bg ⟨_,rfl,q n0 H4 zs Hn FG Jq (by omega)⟩
  ·rw[List.concat_eq_append] at GH OW hlen ⊢
   obtain⟨vi,v,rfl,ER,GI⟩:=ai.snoc GH
   rw[show(!(vi++[v]).isEmpty)=true by simp]
   rw[eC,aX,cE] at hlen ⊢
   have Ks:=OW d (by simp)
   have O9:=lg d
   refine bJ ⟨fun σ H'=>∃m',m' < eN wi+(lj d+0)∧vV K N H (.ref p) n0 w0 m' σ H',fun σ' H' z=>z,?_⟩
   refine⟨_,rfl,.inl ⟨rfl,_,br.of HI⟩,w0,_,v,rfl,rfl,HI,by simp,?_⟩
   rw[List.dropLast_concat]
   have w5:bN H4 (upd H4 w0 (.lst vi)):=aS HI
   have Gh:upd H4 w0 (.lst vi) n0=some (.lst (zs.map V.str)):=by rw[aF (Ne.symm nwn)];exact Jq
   have Hv:upd H4 w0 (.lst vi) w0=some (.lst vi):=ag
   have s5:az H (upd H4 w0 (.lst vi)):=bh Ma FG
   revert w5 Gh Hv s5
   generalize upd H4 w0 (.lst vi)=H5
   intro w5 Gh Hv s5
   have K9:=ai.ax w5 _ _ ER
   have Ij:=At.ax w5 _ _ GI
   refine⟨_,n0,w0,v,d,zs,rfl,Ij,Ks,Gh,by omega,fun H6 Ll GG FW KN=>?_⟩
   have T6:=GG.ax Gh
   have Lw:=GG w0 _ nwn Hv
   have s6:=GG.jQ Hn s5
   refine⟨_,rfl,.inl ⟨rfl,_,br.of Lw⟩,_,rfl,v,d,rfl,At.ax T6 _ _ Ij,Ks,fun r7 H7 ts s7 G9 Iy hsz7 hnm7=>?_⟩
   obtain⟨pt,vt,rfl,sqt,FZ⟩:=aP.mp G9
   have Hu:=s7 _ _ Lw
   have Ni:=ai.same s7 _ _ (ai.ax T6 _ _ K9)
   have li:=Ni.len
   have lt:=FZ.len
   have lsi:=iD wi
   have lst:=iD ts
   have key:3*Ll.length+eN ts≤3*zs.length+lj d:=by
    rcases KN with h | ⟨h,hk6,h3⟩
    ·omega
    ·rw[hnm7 hk6,cE];omega
   refine⟨w0,pt,vi,vt,rfl,rfl,Hu,sqt,by rw[li,lt];exact small (by omega),?_⟩
   refine⟨eN (wi++ts),by rw[eC];omega,⟨_,rfl⟩,bh Ma (s6.trans s7),⟨wi++ts,vi++vt,ag,ai.ax (aS Hu) _ _ (ai.append Ni FZ),fun e he=>?_,rfl⟩,Ll,by rw[aF (Ne.symm nwn)];exact s7 _ _ FW,by rw[eC];omega⟩
   rcases Df.mp he with z | z
   ·exact OW e (by simp[z])
   ·exact Iy e z
 case i1=>
  rintro E0 σ H0 ⟨x,n0,w0,v,d,zs,rfl,hv,Ks,Hn,hl,hq⟩
  obtain⟨k,r,rfl,hk,_⟩:=sy Ks
  refine⟨_,rfl,0,_,_,rfl,hv,rfl,fun yk EB=>?_⟩
  rw[av.mp EB]
  refine⟨rfl,_,rfl,?_⟩
  rw[dF]
  by_cases c:k="name"
  ·rw[CJ c]
   obtain⟨z,rfl⟩:=hk c
   refine bJ ⟨_,rfl,.inl ⟨rfl,_,br.of Hn⟩,_,rfl,1,_,_,rfl,hv,rfl,fun y1 E5=>?_⟩
   rw[av.mp E5]
   refine⟨n0,_,_,rfl,rfl,Hn,by rw[CS];exact small (by omega),hq _ (zs++[z]) (di.gL n0 _ _) ?_ (.inr ⟨by rw[CK];rfl,c,by simp only[dH,aX,cE,iB]⟩)⟩
   rw[ag,List.map_append];rfl
  ·rw[CI c]
   exact bg (hq H0 zs (di.refl _ _) Hn (.inl rfl))
abbrev mm:Stmt:=dz 17
abbrev mq:Stmt:=dz 18
structure xm (k:Str) (r:List D):Prop where
 df:k="def"→∃z ps b,r=[z,.tup ps,b]∧ps.length≤4∧∀p∈ps,nN p
 cl:k="class"→∃z es b,r=[z,.tup es,b]∧es.length≤2∧∀e∈es,e9 2 e
 pu:k="put"→∃t z u,r=[t,z,u]∧fH t∧fH u
 ra:k="raise"→∃t u,r=[t,u]∧fH t∧fH u
 one:k∈(["do","return","if","while","except"]:List Str)→∃t rest,r=t::rest∧fH t
 two:k∈(["set","for","yield"]:List Str)→∃a t rest,r=a::t::rest∧fH t
 mo:k="more"→∃a b t,r=[a,b,t]∧fH t
theorem cW.rsh{d:D}(h:cW d):∃k r,d=.tup (.str k::r)∧xm k r:=by
 have sim:∀{d:D},fZ d→∃k r,d=.tup (.str k::r)∧xm k r:=fun h=>by
  rcases h with ⟨k,xs,rfl,hk,_⟩ | ⟨k,rfl,hk⟩ | ⟨z,t,rfl,h1⟩ | ⟨z,o,t,rfl,h1⟩ | ⟨t,z,u,rfl,h1,h2⟩ | ⟨t,rfl,h1⟩ | ⟨t,u,rfl,h1,h2⟩ | ⟨a,t,rfl,ha,h1⟩ | ⟨t,rfl,h1⟩
  ·exact⟨k,_,rfl,⟨fun z=>absurd z (by rcases hk with rfl | rfl<;>decide +kernel),fun z=>absurd z (by rcases hk with rfl | rfl<;>decide +kernel),fun z=>absurd z (by rcases hk with rfl | rfl<;>decide +kernel),fun z=>absurd z (by rcases hk with rfl | rfl<;>decide +kernel),fun z=>absurd z (by rcases hk with rfl | rfl<;>decide +kernel),fun z=>absurd z (by rcases hk with rfl | rfl<;>decide +kernel),fun z=>absurd z (by rcases hk with rfl | rfl<;>decide +kernel)⟩⟩
  ·exact⟨k,_,rfl,⟨fun z=>absurd z (by rcases hk with rfl | rfl | rfl<;>decide +kernel),fun z=>absurd z (by rcases hk with rfl | rfl | rfl<;>decide +kernel),fun z=>absurd z (by rcases hk with rfl | rfl | rfl<;>decide +kernel),fun z=>absurd z (by rcases hk with rfl | rfl | rfl<;>decide +kernel),fun z=>absurd z (by rcases hk with rfl | rfl | rfl<;>decide +kernel),fun z=>absurd z (by rcases hk with rfl | rfl | rfl<;>decide +kernel),fun z=>absurd z (by rcases hk with rfl | rfl | rfl<;>decide +kernel)⟩⟩
  ·exact⟨_,_,rfl,⟨fun z=>absurd z (by decide +kernel),fun z=>absurd z (by decide +kernel),fun z=>absurd z (by decide +kernel),fun z=>absurd z (by decide +kernel),fun z=>absurd z (by decide +kernel),fun _=>⟨_,t,_,rfl,.inr h1⟩,fun z=>absurd z (by decide +kernel)⟩⟩
  ·exact⟨_,_,rfl,⟨fun z=>absurd z (by decide +kernel),fun z=>absurd z (by decide +kernel),fun z=>absurd z (by decide +kernel),fun z=>absurd z (by decide +kernel),fun z=>absurd z (by decide +kernel),fun z=>absurd z (by decide +kernel),fun _=>⟨_,_,t,rfl,.inr h1⟩⟩⟩
  ·exact⟨_,_,rfl,⟨fun z=>absurd z (by decide +kernel),fun z=>absurd z (by decide +kernel),fun _=>⟨t,_,u,rfl,.inr h1,.inr h2⟩,fun z=>absurd z (by decide +kernel),fun z=>absurd z (by decide +kernel),fun z=>absurd z (by decide +kernel),fun z=>absurd z (by decide +kernel)⟩⟩
  ·exact⟨_,_,rfl,⟨fun z=>absurd z (by decide +kernel),fun z=>absurd z (by decide +kernel),fun z=>absurd z (by decide +kernel),fun z=>absurd z (by decide +kernel),fun _=>⟨t,_,rfl,h1⟩,fun z=>absurd z (by decide +kernel),fun z=>absurd z (by decide +kernel)⟩⟩
  ·exact⟨_,_,rfl,⟨fun z=>absurd z (by decide +kernel),fun z=>absurd z (by decide +kernel),fun z=>absurd z (by decide +kernel),fun _=>⟨t,u,rfl,h1,h2⟩,fun z=>absurd z (by decide +kernel),fun z=>absurd z (by decide +kernel),fun z=>absurd z (by decide +kernel)⟩⟩
  ·exact⟨_,_,rfl,⟨fun z=>absurd z (by decide +kernel),fun z=>absurd z (by decide +kernel),fun z=>absurd z (by decide +kernel),fun z=>absurd z (by decide +kernel),fun z=>absurd z (by decide +kernel),fun _=>⟨_,t,_,rfl,.inr h1⟩,fun z=>absurd z (by decide +kernel)⟩⟩
  ·exact⟨_,_,rfl,⟨fun z=>absurd z (by decide +kernel),fun z=>absurd z (by decide +kernel),fun z=>absurd z (by decide +kernel),fun z=>absurd z (by decide +kernel),fun _=>⟨t,_,rfl,.inr h1⟩,fun z=>absurd z (by decide +kernel),fun z=>absurd z (by decide +kernel)⟩⟩
 rcases h with ⟨n,h⟩ | ⟨e,x,rfl,he,_⟩
 ·cases n with
  | zero=>exact sim h
  | succ n=>
   rcases h with h | ⟨z,ps,b,rfl,hp,EL,hb⟩ | ⟨z,es,b,rfl,he,Gj,hb⟩ | ⟨b,cs,o,l,rfl,hb,hc,EM,ho,hl⟩ | ⟨k,t,b,o,rfl,hk,ht,hb,ho⟩ | ⟨z,t,b,o,rfl,ht,hb,ho⟩
   ·exact sim h
   ·exact⟨_,_,rfl,⟨fun _=>⟨_,ps,_,rfl,hp,EL⟩,fun z=>absurd z (by decide +kernel),fun z=>absurd z (by decide +kernel),fun z=>absurd z (by decide +kernel),fun z=>absurd z (by decide +kernel),fun z=>absurd z (by decide +kernel),fun z=>absurd z (by decide +kernel)⟩⟩
   ·exact⟨_,_,rfl,⟨fun z=>absurd z (by decide +kernel),fun _=>⟨_,es,_,rfl,he,Gj⟩,fun z=>absurd z (by decide +kernel),fun z=>absurd z (by decide +kernel),fun z=>absurd z (by decide +kernel),fun z=>absurd z (by decide +kernel),fun z=>absurd z (by decide +kernel)⟩⟩
   ·exact⟨_,_,rfl,⟨fun z=>absurd z (by decide +kernel),fun z=>absurd z (by decide +kernel),fun z=>absurd z (by decide +kernel),fun z=>absurd z (by decide +kernel),fun z=>absurd z (by decide +kernel),fun z=>absurd z (by decide +kernel),fun z=>absurd z (by decide +kernel)⟩⟩
   ·exact⟨k,_,rfl,⟨fun z=>absurd z (by rcases hk with rfl | rfl<;>decide +kernel),fun z=>absurd z (by rcases hk with rfl | rfl<;>decide +kernel),fun z=>absurd z (by rcases hk with rfl | rfl<;>decide +kernel),fun z=>absurd z (by rcases hk with rfl | rfl<;>decide +kernel),fun _=>⟨t,_,rfl,.inr ht⟩,fun z=>absurd z (by rcases hk with rfl | rfl<;>decide +kernel),fun z=>absurd z (by rcases hk with rfl | rfl<;>decide +kernel)⟩⟩
   ·exact⟨_,_,rfl,⟨fun z=>absurd z (by decide +kernel),fun z=>absurd z (by decide +kernel),fun z=>absurd z (by decide +kernel),fun z=>absurd z (by decide +kernel),fun z=>absurd z (by decide +kernel),fun _=>⟨_,t,_,rfl,.inr ht⟩,fun z=>absurd z (by decide +kernel)⟩⟩
 ·exact⟨_,_,rfl,⟨fun z=>absurd z (by decide +kernel),fun z=>absurd z (by decide +kernel),fun z=>absurd z (by decide +kernel),fun z=>absurd z (by decide +kernel),fun _=>⟨e,_,rfl,he⟩,fun z=>absurd z (by decide +kernel),fun z=>absurd z (by decide +kernel)⟩⟩
theorem rY{H1:Hp}{a:Addr}{Sh:List V}{ds:List D}{σ:L2.St}{Q:Addr→Hp→Prop}(ha:H1 a=some (.lst Sh)) (hA:ai K H1 ds Sh) (ho:∀d∈ds,fH d) (hl:ds.length≤1000) (q:∀p H' es,H1 p=none→az H1 H'→cG K H' p es→es.length≤ds.length→(∀e∈es,e9 2 e)→Q p H'):
  ∃vs:List V,(vs.length=([]:List Nat).length∧∀(j i:Nat),([]:List Nat)[j]?=some i→∃v,vs[j]?=some v∧σ[i]?=some (some v))∧∀D,H1 D=none→∃W:Nat→Nat→List V→Hp→Prop,(∃m,W 0 m [] (upd H1 D (.lst [])))∧∀i m ys H,W i m ys H→
   ((oA K a).stop i H∧Q D H)∨((oA K a).go i H∧∀x H' (ox:List (Option V)),ox.length=1→(oA K a).pK i H x H'→fX 0 x (ox++vs.map some) H' fun σ2 H2=>∃EN,EN.length=1∧σ2=EN++vs.map some∧lO (nc (fun x y H Q=>y=.aR∧Q (.bl (!decide (x=.aR))) H) (fi 0) (tC .aR)) σ2 H2 fun b H3=>
    if b=true then fi 0 σ2 H3 fun v H4=>H4 D=some (.lst ys)∧ys.length < sizeLine∧∃m',m' < m∧W (i+1) m' (ys++[v]) (upd H4 D (.lst (ys++[v]))) else ∃m',m' < m∧W (i+1) m' ys H3):=by
 have lp:=hA.len
 refine⟨[],⟨rfl,fun j i h=>by simp at h⟩,fun np EF=>⟨fun i m ys H'=>m=Sh.length - i∧i≤Sh.length∧az H1 H'∧H' np=some (.lst ys)∧∃es,ai K H' es ys∧es.length≤i∧∀e∈es,e9 2 e,⟨_,rfl,Nat.zero_le _,af EF _,ag,[],aD.mpr rfl,CN _,fun e he=>by cases he⟩,?_⟩⟩
 rintro i m ys H' ⟨rfl,hi,sH,hD,es,hY,hle,het⟩
 have HK:br K H' a Sh:=br.of (sH _ _ ha)
 by_cases Ex:i < Sh.length
 ·refine .inr ⟨⟨Sh,Sh[i],HK,by simp[Ex]⟩,fun x H'' ox Fn Gn=>?_⟩
  obtain⟨rfl,Gn⟩:=Gn
  have ex:=Gn Sh HK
  have Fs:i < ds.length:=by rw[←lp];exact Ex
  obtain⟨v',ED,ER⟩:=ai.get (i:=i) hA (d:=ds[i]) (by simp[Fs])
  have ev:v'=x:=by rw[ex] at ED;cases ED;rfl
  subst ev
  have Ey:=At.same sH _ _ ER
  obtain⟨o,rfl⟩:∃o,ox=[o]:=by
   match ox,Fn with
   | [o],_=>exact⟨o,rfl⟩
  refine⟨[some v'],rfl,rfl,_,rfl,rfl,_,rfl,?_⟩
  rcases ho ds[i] (C2 Fs) with hn | ht
  ·rw[hn] at Ey
   rw[aZ.mp Ey,show(!decide (V.aR=V.aR))=false from rfl]
   exact bg ⟨Sh.length - (i+1),by omega,rfl,Ex,sH,hD,es,hY,by omega,het⟩
  ·obtain⟨xs,e⟩:=ht.isTup
   have FZ:=Ey
   rw[e] at FZ
   obtain⟨pb,vb,rfl,_,_⟩:=aP.mp FZ
   rw[show(!decide (V.ref pb=V.aR))=true from rfl]
   refine bJ ⟨_,rfl,hD,by rw[hY.len];exact small (by omega),Sh.length - (i+1),by omega,rfl,Ex,bh EF sH,ag,es++[ds[i]],ai.append (ai.ax (aS hD) _ _ hY) (ai.eA (At.ax (aS hD) _ _ Ey)),by rw[CK,List.length_singleton];omega,fun e' MG=>?_⟩
   rcases Df.mp MG with z | z
   ·exact het e' z
   ·rw[Dg.mp z];exact ht
 ·have e1:i=Sh.length:=by omega
  subst e1
  exact .inl ⟨⟨Sh,HK,CN _⟩,q np H' es EF sH ⟨ys,hD,hY⟩ (by omega) het⟩
def Bj (K:Fg06):TS:=fun E σ H=>∃(v:V) (d:D),σ=[some v,some (.str d.k),none]∧At K H d v∧cW d∧∀fl H' ds,H fl=none→az H H'→cG K H' fl ds→(∀e∈ds,fH e)→ds.length≤4→E.nx [some v,some (.str d.k),some (.ref fl)] H'
def vv (K:Fg06):Sp:=fun vs H Q _=>∃(x:V) (d:D),vs=[x]∧At K H d x∧cW d∧∀p H' es,H p=none→az H H'→cG K H' p es→es.length≤4→(∀e∈es,e9 2 e)→Q (.ref p) H'
theorem jO:aW ["row","kind","found"] ["row"] (aE mm):=fsX rfl rfl rfl rfl (by decide +kernel)
theorem Am (g:fh mg) (F:eX K "trees_of_row" "trees_of_row" mm f fd):bO P w K mg base fw 1 f fd ["row"] (vv K):=by
 refine F.hV jO (fun vs H Q E h=>?_) (fun Si A outer s H vs Q E hr h=>?_)
 ·obtain⟨_,_,rfl,_⟩:=h;rfl
 obtain⟨x,d,rfl,hx,hd,q⟩:=h
 refine⟨_,(ah (aA (i:=1) jO.nd rfl (Or.inl rfl) (aC (pv 0)))
   (ah (dU (t':=Bj K) (aN (ar bw (pv 1) aq (aH _)) (aj (.mk (L2.iJ (iy:=2) (cl:=[]) (Xs:=["param"]) (Nf:=[]) (js:=[]) ?k1 rfl (LI.out (dm (aC (pv 0)))) (fun C s0 H0 fp=>LG.out (aL (i:=0) (show(["param"]:List Str).Nodup by decide +kernel) rfl (Or.inl rfl))) (fun C s0 H0 fp=>gb) (fun C s0 H0 fp=>LE.out (bC (r:=iI K) wN (pv 0) ak (fun _ _=>rfl))) jO.nd rfl (Or.inl rfl)))) (aj (aN (ar bw (pv 1) aq (aH _)) (aj (aA (i:=2) jO.nd rfl (Or.inl rfl) (aV fq rfl g.nList b6L (aa (aC (pv 0)) ae)))) (aj (aN (ar bw (pv 1) aq (aH _)) (aj (aA (i:=2) jO.nd rfl (Or.inl rfl) (aI (aa (aC (pv 0)) (aa (aC (pv 0)) ae))))) (aj (aN (ar bw (pv 1) aq (aH _)) (aj (aA (i:=2) jO.nd rfl (Or.inl rfl) (aI (aa (aC (pv 0)) (aa (aC (pv 0)) ae))))) (aj (aN (ar bq (pv 1) (aw (aa aq (aa aq (aa aq (aa aq (aa aq ae)))))) rfl) (aj (aA (i:=2) jO.nd rfl (Or.inl rfl) (aI (aa (aC (pv 0)) ae)))) (aj (aN (ar bq (pv 1) (aw (aa aq (aa aq (aa aq ae)))) rfl) (aj (aA (i:=2) jO.nd rfl (Or.inl rfl) (aI (aa (aC (pv 0)) ae)))) (aj (aA (i:=2) jO.nd rfl (Or.inl rfl) (b9 (ar bw (pv 1) aq (aH _)) (aI (aa (aC (pv 0)) ae)) (aI ae))))))))))))))) ?i1)
   (aj (aG (.mk (L2.eE (cl:=[]) (Xs:=["tree"]) (Nf:=[]) (js:=[]) ?k2 rfl (LI.out (bF (pv 2))) (fun C s0 H0 fp=>LG.out (aL (i:=0) (show(["tree"]:List Str).Nodup by decide +kernel) rfl (Or.inl rfl))) (fun C s0 H0 fp=>jV (LT.out (ar gc (pv 0) bj (aH _)))) (fun C s0 H0 fp=>LE.out (pv 0)))))))),?main⟩
 case k1=>
  refine⟨rfl,by decide +kernel,rfl,by decide +kernel,fun y c h=>(by cases h),fun y hy=>?_,rfl,fun j y h=>(by simp at h)⟩
  have EI:([(".0",.local),("param",.local)]:List (Str×NameKind)).lookup y=some .cell∨([(".0",.local),("param",.local)]:List (Str×NameKind)).lookup y=some .free:=hy
  rcases EI with z | z<;>(have m:=CV z;simp at m)
 case k2=>
  refine⟨rfl,by decide +kernel,rfl,by decide +kernel,fun y c h=>(by cases h),fun y hy=>?_,rfl,fun j y h=>(by simp at h)⟩
  have EI:([(".0",.local),("tree",.local)]:List (Str×NameKind)).lookup y=some .cell∨([(".0",.local),("tree",.local)]:List (Str×NameKind)).lookup y=some .free:=hy
  rcases EI with z | z<;>(have m:=CV z;simp at m)
 case i1=>
  rintro E0 σ H0 ⟨v,d,rfl,hv,hd,hq⟩
  obtain⟨k,r,rfl,sh⟩:=hd.rsh
  have ek:D.k (.tup (.str k::r))=k:=rfl
  rw[ek] at hq ⊢
  have Lf:∀(H1:Hp) (j:Nat) (e:D),az H0 H1→(D.str k::r)[j]?=some e→fH e→∀(y:V) (p:Addr),At K H1 e y→H1 p=none→E0.nx [some v,some (.str k),some (.ref p)] (upd H1 p (.lst [y])):=fun H1 j e s1 he ho y p hy hp=>
   hq p _ [e] (none_of s1 hp) (s1.trans (af hp _)) ⟨_,ag,ai.same (af hp _) _ _ (ai.eA hy)⟩ (fun e' MG=>by rw[Dg.mp MG];exact ho) (show 1≤4 by decide)
  have Nx:∀(e e':D),fH e→fH e'→∀(y y':V) (p:Addr),At K H0 e y→At K H0 e' y'→H0 p=none→E0.nx [some v,some (.str k),some (.ref p)] (upd H0 p (.lst [y,y'])):=fun e e' ho Fz y y' p hy EI hp=>
   hq p _ [e,e'] hp (af hp _) ⟨_,ag,ai.same (af hp _) _ _ (cV hy EI)⟩ (fun u hu=>by
    simp only[List.mem_cons,List.not_mem_nil,or_false] at hu
    rcases hu with rfl | rfl
    ·exact ho
    ·exact Fz) (show 2≤4 by decide)
  refine⟨_,rfl,rfl,_,rfl,?_⟩
  rw[dF]
  by_cases c1:k="def"
  ·rw[CJ c1]
   obtain⟨z,ps,b,rfl,Ez,EL⟩:=sh.df c1
   refine bJ ⟨_,rfl,2,_,_,rfl,hv,rfl,fun yp hyp=>?_⟩
   obtain⟨ap,Sh,rfl,sqp,FJ⟩:=aP.mp hyp
   refine⟨ap,rfl,⟨Sh,sqp⟩,j9 (K:=K) (a:=ap) (i0:=1) (ds:=ps) sqp FJ (fun d hd=>by obtain⟨z,e,rfl,_⟩:=EL d hd;exact⟨_,_,rfl,rfl⟩) (by omega) fun np H5 EF s5 hL=>?_⟩
   refine hq np H5 _ EF s5 hL (fun e he=>?_) (by rw[CS];exact Ez)
   obtain⟨p,hp,rfl⟩:=List.mem_map.mp he
   obtain⟨z,e,rfl,ho⟩:=EL p hp
   exact ho
  rw[CI c1]
  refine bg ⟨_,rfl,rfl,_,rfl,?_⟩
  rw[dF]
  by_cases c2:k="class"
  ·rw[CJ c2]
   obtain⟨z,es,b,rfl,hel,Gj⟩:=sh.cl c2
   refine bJ ⟨_,rfl,2,_,_,rfl,hv,rfl,fun yp hyp=>?_⟩
   obtain⟨ap,Sh,rfl,sqp,FJ⟩:=aP.mp hyp
   exact⟨ap,Sh,rfl,.inr sqp,fun l hl=>hq l _ es hl (af hl _) ⟨_,ag,ai.same (af hl _) _ _ FJ⟩ (fun e he=>.inr (Gj e he)) (by omega)⟩
  rw[CI c2]
  refine bg ⟨_,rfl,rfl,_,rfl,?_⟩
  rw[dF]
  by_cases c3:k="put"
  ·rw[CJ c3]
   obtain⟨t,z,u,rfl,h1,h2⟩:=sh.pu c3
   exact bJ ⟨_,rfl,1,_,_,rfl,hv,rfl,fun y1 E5=>⟨_,rfl,3,_,_,rfl,hv,rfl,fun y2 Fl=>⟨by show 2≤sizeLine;decide,fun p hp=>Nx t u h1 h2 y1 y2 p E5 Fl hp⟩⟩⟩
  rw[CI c3]
  refine bg ⟨_,rfl,rfl,_,rfl,?_⟩
  rw[dF]
  by_cases c4:k="raise"
  ·rw[CJ c4]
   obtain⟨t,u,rfl,h1,h2⟩:=sh.ra c4
   exact bJ ⟨_,rfl,1,_,_,rfl,hv,rfl,fun y1 E5=>⟨_,rfl,2,_,_,rfl,hv,rfl,fun y2 Fl=>⟨by show 2≤sizeLine;decide,fun p hp=>Nx t u h1 h2 y1 y2 p E5 Fl hp⟩⟩⟩
  rw[CI c4]
  refine bg ⟨_,rfl,by show 5≤sizeLine;decide,fun p5 EV=>⟨p5,_,rfl,.inr (cq.of ag),rfl,rfl,_,rfl,?_⟩⟩
  have s5:=af EV (.tup [.str "do",.str "return",.str "if",.str "while",.str "except"])
  revert s5
  generalize upd H0 p5 (.tup [.str "do",.str "return",.str "if",.str "while",.str "except"])=H5
  intro s5
  rw[show(if false=true then !gq (.str k) [.str "do",.str "return",.str "if",.str "while",.str "except"] else gq (.str k) [.str "do",.str "return",.str "if",.str "while",.str "except"])=decide (k∈(["do","return","if","while","except"]:List Str)) from jl k ["do","return","if","while","except"]]
  by_cases c5:k∈(["do","return","if","while","except"]:List Str)
  ·rw[CJ c5]
   obtain⟨t,rest,rfl,h1⟩:=sh.one c5
   exact bJ ⟨_,rfl,1,_,_,rfl,At.same s5 _ _ hv,rfl,fun y1 E5=>⟨by show 1≤sizeLine;decide,fun p hp=>Lf H5 1 t s5 rfl h1 y1 p E5 hp⟩⟩
  rw[CI c5]
  refine bg ⟨_,rfl,by show 3≤sizeLine;decide,fun p6 Hb=>⟨p6,_,rfl,.inr (cq.of ag),rfl,rfl,_,rfl,?_⟩⟩
  have s6:=s5.trans (af Hb (.tup [.str "set",.str "for",.str "yield"]))
  revert s6
  generalize upd H5 p6 (.tup [.str "set",.str "for",.str "yield"])=H6
  intro s6
  rw[show(if false=true then !gq (.str k) [.str "set",.str "for",.str "yield"] else gq (.str k) [.str "set",.str "for",.str "yield"])=decide (k∈(["set","for","yield"]:List Str)) from jl k ["set","for","yield"]]
  by_cases c6:k∈(["set","for","yield"]:List Str)
  ·rw[CJ c6]
   obtain⟨a,t,rest,rfl,h1⟩:=sh.two c6
   exact bJ ⟨_,rfl,2,_,_,rfl,At.same s6 _ _ hv,rfl,fun y1 E5=>⟨by show 1≤sizeLine;decide,fun p hp=>Lf H6 2 t s6 rfl h1 y1 p E5 hp⟩⟩
  rw[CI c6]
  refine bg ⟨_,rfl,rfl,_,rfl,?_⟩
  rw[dF]
  by_cases c7:k="more"
  ·rw[CJ c7]
   obtain⟨a,b,t,rfl,h1⟩:=sh.mo c7
   exact bJ ⟨_,rfl,3,_,_,rfl,At.same s6 _ _ hv,rfl,fun y1 E5=>⟨by show 1≤sizeLine;decide,fun p hp=>Lf H6 3 t s6 rfl h1 y1 p E5 hp⟩⟩
  ·rw[CI c7]
   exact bg ⟨by decide,fun p hp=>hq p _ [] (none_of s6 hp) (s6.trans (af hp _)) ⟨_,ag,aD.mpr rfl⟩ (fun e he=>by cases he) (by decide)⟩
 case main=>
  obtain⟨k,r,ed,_⟩:=hd.rsh
  have GR:=hx
  rw[ed] at GR
  refine⟨_,rfl,0,_,_,rfl,GR,rfl,fun yk EB=>?_⟩
  rw[av.mp EB]
  have ek:k=d.k:=by rw[ed];rfl
  refine⟨x,d,by rw[←ek];rfl,hx,hd,fun fl H1 ds EO s1 hL ho hl=>?_⟩
  obtain⟨vf,hf,E1⟩:=hL
  refine⟨_,rfl,fl,rfl,⟨vf,br.of hf⟩,rY (K:=K) (a:=fl) hf E1 ho (by omega) fun p H2 es hp s2 hL2 hle het=>?_⟩
  exact q p H2 es (none_of s1 hp) (s1.trans s2) hL2 (by omega) het
def vA (K:Fg06):Sp:=fun vs H Q _=>∃(x:V) (d:D),vs=[x]∧At K H d x∧cW d∧∀p H' (zs:List Str),H p=none→az H H'→H' p=some (.lst (zs.map V.str))→zs.length≤63→Q (.ref p) H'
theorem zi:aW ["row","name"] ["row"] (aE mq):=fsX rfl rfl rfl rfl (by decide +kernel)
theorem Av (g:fh mg) (F:eX K "names_of_row" "names_of_row" mq f fd) (dBn:Def P w K mg base "bound_name" ["row"] 1 (ll K)) (dTr:Def P w K mg base "trees_of_row" ["row"] 1 (vv K)) (dNi:Def P w K mg base "names_in" ["trees"] 2 (vz K)):bO P w K mg base fw 3 f fd ["row"] (vA K):=by
 refine F.hV zi (fun vs H Q E h=>?_) (fun Si A outer s H vs Q E hr h=>?_)
 ·obtain⟨_,_,rfl,_⟩:=h;rfl
 obtain⟨x,d,rfl,hx,hd,q⟩:=h
 refine⟨_,(ah (aN (ar bq (aC (pv 0)) (aw (aa aq (aa aq ae))) rfl) (aj (aG (aV fq rfl g.nList b6L (aa (aC (pv 0)) ae)))) aB)
   (ah (aA (i:=1) zi.nd rfl (Or.inl rfl) (L3.aK dBn hr (by decide) rfl (aa (pv 0) ae)))
   (aj (aG (ay fM (L3.aK dNi hr (by decide) rfl (aa (L3.aK dTr hr (by decide) rfl (aa (pv 0) ae)) ae)) (b9 (ar wk (pv 1) bj (aH _)) (aI ae) (aI (aa (pv 1) ae)))))))),?main⟩
 case main=>
  obtain⟨k,r,rfl,nsh⟩:=hd.ok
  refine⟨_,rfl,0,_,_,rfl,hx,rfl,fun yk EB=>⟨by show 2≤sizeLine;decide,fun p1 EG=>?_⟩⟩
  rw[av.mp EB]
  refine⟨p1,_,rfl,.inr (cq.of ag),rfl,rfl,_,rfl,?_⟩
  have s1:=af EG (.tup [.str "global",.str "nonlocal"])
  revert s1
  generalize upd H p1 (.tup [.str "global",.str "nonlocal"])=H1
  intro s1
  have Fq:=At.same s1 _ _ hx
  rw[show(if false=true then !gq (.str k) [.str "global",.str "nonlocal"] else gq (.str k) [.str "global",.str "nonlocal"])=decide (k∈(["global","nonlocal"]:List Str)) from jl k ["global","nonlocal"]]
  by_cases c1:k="global"∨k="nonlocal"
  ·rw[CJ (show k∈(["global","nonlocal"]:List Str) by simpa using c1)]
   have Ex:=hd.told
   obtain⟨xs,rfl⟩:=nsh.tl c1
   refine bJ ⟨_,rfl,1,_,_,rfl,Fq,rfl,fun yn hyn=>?_⟩
   obtain⟨pn,vn,rfl,sqn,GJ⟩:=aP.mp hyn
   have evn:=(ai.strs xs vn).mp GJ
   subst evn
   have Ra:xs.length≤2:=by
    have e:g0 (.tup [.str k,.tup (xs.map D.str)])=xs:=by
     unfold g0
     rw[show D.k (.tup [.str k,.tup (xs.map D.str)])=k from rfl,CQ c1]
     exact ia xs
    rw[e] at Ex;exact Ex
   exact⟨pn,_,rfl,.inr sqn,fun l hl=>q l _ xs (none_of s1 hl) (s1.trans (af hl _)) ag (by omega)⟩
  rw[CI (show ¬k∈(["global","nonlocal"]:List Str) from fun m=>c1 (by simpa using m))]
  refine bg ⟨_,rfl,x,_,rfl,Fq,hd.ok,fun H2 s2=>?_⟩
  have Fp:=s1.trans s2
  refine⟨_,rfl,x,_,rfl,At.same Fp _ _ hx,hd,fun pt H3 es Fw s3 hL3 hle het=>?_⟩
  have hsz:eN es≤188:=by
   obtain⟨_,h2,_⟩:=jK fun e he=>(het e he).tm
   have tz2:tz 2=47:=rfl
   have:es.length*tz 2≤4*tz 2:=Nat.mul_le_mul_right _ hle
   omega
  refine⟨pt,es,rfl,hL3,het,by omega,fun pn H4 zs Rl s4 Jq hlz=>?_⟩
  have Fg:=(Fp.trans s3).trans s4
  have fin:∀(H5:Hp) (pb:Addr) (ys:List Str),az H4 H5→H5 pb=some (.lst (ys.map V.str))→ys.length≤1→∀p,H5 p=none→Q (.ref p) (upd H5 p (.lst (zs.map V.str++ys.map V.str))):=fun H5 pb ys s5 hb hl p hp=>
   q p _ (zs++ys) (none_of (Fg.trans s5) hp) ((Fg.trans s5).trans (af hp _)) (by rw[ag,List.map_append]) (by rw[CK];omega)
  refine⟨_,rfl,rfl,_,rfl,?_⟩
  cases e:bM (.tup (.str k::r)) with
  | none=>
   rw[show decide (uv none=V.aR)=true from rfl]
   refine bJ ⟨by decide,fun p5 EV=>?_⟩
   have a5:=af EV (.lst [])
   exact⟨pn,p5,_,_,rfl,rfl,a5 _ _ Jq,ag,by rw[CS];exact small (by show _+0≤_;omega),fun p hp=>fin _ p5 [] a5 ag (by decide) p hp⟩
  | some z=>
   rw[show decide (uv (some z)=V.aR)=false from rfl]
   refine bg ⟨_,rfl,by show 1≤sizeLine;decide,fun p5 EV=>?_⟩
   have a5:=af EV (.lst [.str z])
   exact⟨pn,p5,_,_,rfl,rfl,a5 _ _ Jq,ag,by rw[CS];exact small (by show _+1≤_;omega),fun p hp=>fin _ p5 [z] a5 ag (CN 1) p hp⟩
end
end GS
namespace GS
open PySem PyProof.Rows L2
structure kX (P:Program) (w:World) (K:Fg06) (mg:Str→Option Value) (base:Heap) (name:Str) (C:Addr) (ps:List Str) (k:Nat) (sp:Sp):Prop where
 ex:∃(f:Addr) (fd:FuncData),mg name=some (.ref C)∧Mk K C f∧Binds K fd ps []∧bO P w K mg base fw k f fd ps sp
structure xo (P:Program) (w:World) (K:Fg06) (mg:Str→Option Value) (base:Heap) (name:Str) (C:Addr) (ps:List Str) (k:Nat) (sp:Sp):Prop where
 ex:∃(f:Addr) (fd:FuncData),tW K C∧Meth K C name f∧Binds K fd ps []∧bO P w K mg base fw k f fd ps sp
end GS
namespace L3
open PySem PyProof.Rows L2
section
variable{X:Cx}{e o value:Expr}{es:List Expr}{f:Str}{pos pos' p apos:Pos}{ta tv te:TE}{t:TA}
theorem cz (he:LE X e ta) (hb:attributeBase e f X.env (eval e X.env)=eval e X.env:=by rfl):LE X (.Attribute e f pos) (BA X.K ta f):=.mk (L2.cz he.out hb)
theorem gk (ha:LE X o ta) (hv:LE X value tv) (hs:swapsWith value (some (.Attribute o f pos')) pos.line X.env=pure false:=by rfl):LS X (.Assign [.Attribute o f pos'] value pos) (BM X.K ta tv f):=.mk (L2.gk ha.out hv.out hs)
theorem nO{name:Str}{C:Addr}{ps:List Str}{k k':Nat}{sp:Sp}(M:GS.kX X.prog X.w X.K X.mg X.base name C ps k sp) (hr:dE (k'+1) X.A) (hk:k≤k') (hg:Gl X name) (ha:LA X (e::es) t)
  (E9:(name == ("__debug__":Str))=false:=by decide) (he:starEach (e::es) X.env=(false,eval e X.env)::starEach es X.env:=by rfl) (Ez:(backTo pos (starEach es X.env)).any (·.1)=false:=by rfl):
  LE X (.Call (.Name name p) (e::es) [] pos) (y9 C sp [] E0 t):=by
 obtain⟨f,fd,h1,h2,h3,h4⟩:=M.ex
 exact .mk (L2.yr h2 (h4.mono hk) hr hg h1 h3 .nil wa ha.out E9 he Ez)
theorem BX{name:Str}{C:Addr}{ps:List Str}{k k':Nat}{sp:Sp}{pl:Sem Bool}(M:GS.xo X.prog X.w X.K X.mg X.base name C ps k sp) (hr:dE k' X.A) (hk:k≤k') (ho:LE X o ta) (ha:LA X (e::es) t)
  (EE:starEach (e::es) X.env=(false,eval e X.env)::starEach es X.env:=by rfl) (Ez:(backTo pos (starEach es X.env)).any (·.1)=false:=by rfl)
  (ht:eval (.Call (.Attribute o name apos) (e::es) [] pos) X.env=(do
   let ov ←eval o X.env
   standAt apos.atName
   let (f,first) ←holding [ov] (getMethod ov name pl)
   callWith pos f first (backTo pos (starEach (e::es) X.env)) (backToKw pos (keywordEach [] X.env))):=by rfl):
  LE X (.Call (.Attribute o name apos) (e::es) [] pos) (y8 C name sp [] E0 ta t):=by
 obtain⟨f,fd,h1,h2,h3,h4⟩:=M.ex
 exact .mk (L2.yq (pl:=pl) ho.out h1 h2 (h4.mono hk) hr h3 .nil wa ha.out EE Ez ht)
end
end L3
namespace GS
open PySem PyProof.Rows
open L2 hiding ak cn bj aq pv cZ ay fQ bZ dw dY fR b9 bC cI cH cm ae aa aI aw bG aV cj eF ar cB dk bQ cX bX dZ aL bU aU cw bF dm bz cU aG ba aA eD aN cu bR aB ah aj
open L3
def tH (i:Nat):Stmt→Stmt
 | .ClassDef _ _ _ body _ _ _ _ _ _ _=>body.getD i (.Pass ⟨0,0,0,0⟩)
 | _=>.Pass ⟨0,0,0,0⟩
abbrev ur:Stmt:=tH 0 (dz 11)
abbrev nP:Stmt:=tH 1 (dz 11)
abbrev uq:Stmt:=tH 0 (dz 19)
theorem xh:bootBuiltins "dict"=some (.type "dict"):=by decide +kernel
theorem dq{f g:Str}{v x:V}{r:List (Str×V)}(h:g≠f):fk f v ((g,x)::r)=(g,x)::fk f v r:=CO h
structure zv (K:Fg06) (C:Addr):Prop where
 cls:tW K C
 n1:cJ K C "kind"
 n2:cJ K C "owned"
 n3:cJ K C "told_global"
 n4:cJ K C "defs"
 n5:cJ K C "stood"
structure Bd (K:Fg06) (C:Addr):Prop where
 cls:tW K C
 n1:cJ K C "scope"
 n2:cJ K C "way"
 n3:cJ K C "in_loop"
 n4:cJ K C "in_catch"
def xt (kd:Str) (od tg dv sd:Addr):List (Str×V):=[("kind",.str kd),("owned",.ref od),("told_global",.ref tg),("defs",.ref dv),("stood",.ref sd)]
def zh (v1 v2 v3 v4:V):List (Str×V):=[("scope",v1),("way",v2),("in_loop",v3),("in_catch",v4)]
section
variable{P:Program}{w:World}{K:Fg06}{mg:Str→Option Value}{base:Heap}{f:Addr}{fd:FuncData}
def pS (C:Addr):Sp:=fun vs H Q _=>∃(x dx:Addr) (v1 v2 v3 v4:V),vs=[.ref x,v1,v2,v3,v4]∧H x=some (.ins C dx [])∧∀H',(∀p,p≠x→H' p=H p)→H' x=some (.ins C dx (zh v1 v2 v3 v4))→Q .aR H'
theorem BH:aW ["self","scope","way","in_loop","in_catch"] ["self","scope","way","in_loop","in_catch"] (aE uq):=fsX rfl rfl rfl rfl (by decide +kernel)
theorem An{C:Addr}(c:Bd K C) (F:eX K "__init__" "Spot.__init__" uq f fd):bO P w K mg base fw 1 f fd ["self","scope","way","in_loop","in_catch"] (pS C):=by
 refine F.hV BH (fun vs H Q E h=>?_) (fun Si A outer s H vs Q E hr h=>?_)
 ·obtain⟨_,_,_,_,_,_,rfl,_⟩:=h;rfl
 obtain⟨x,dx,v1,v2,v3,v4,rfl,hx,q⟩:=h
 refine⟨_,(ah (L3.gk (pv 0) (pv 1))
   (ah (L3.gk (pv 0) (pv 2))
   (ah (L3.gk (pv 0) (pv 3))
   (aj (L3.gk (pv 0) (pv 4)))))),?_⟩
 have e1:fk "scope" v1 []=([("scope",v1)]:List (Str×V)):=rfl
 have e2:fk "way" v2 ([("scope",v1)]:List (Str×V))=([("scope",v1),("way",v2)]:List (Str×V)):=by rw[dq (by decide +kernel)];rfl
 have e3:fk "in_loop" v3 ([("scope",v1),("way",v2)]:List (Str×V))=([("scope",v1),("way",v2),("in_loop",v3)]:List (Str×V)):=by rw[dq (by decide +kernel),dq (by decide +kernel)];rfl
 have e4:fk "in_catch" v4 ([("scope",v1),("way",v2),("in_loop",v3)]:List (Str×V))=zh v1 v2 v3 v4:=by rw[dq (by decide +kernel),dq (by decide +kernel),dq (by decide +kernel)];rfl
 refine⟨_,rfl,_,rfl,x,C,dx,_,rfl,hx,c.cls,c.n1,by decide,?_⟩
 rw[e1]
 refine⟨_,rfl,_,rfl,x,C,dx,_,rfl,ag,c.cls,c.n2,CT (Dd 1) (by decide),?_⟩
 rw[e2]
 refine⟨_,rfl,_,rfl,x,C,dx,_,rfl,ag,c.cls,c.n3,CT (Dd 2) (by decide),?_⟩
 rw[e3]
 refine⟨_,rfl,_,rfl,x,C,dx,_,rfl,ag,c.cls,c.n4,CT (Dd 3) (by decide),?_⟩
 rw[e4]
 exact q _ (fun p hp=>by rw[aF hp,aF hp,aF hp,aF hp]) ag
end
structure ja (n:Nat) (Sf:List D):Prop where
 ok:∀d∈Sf,jX n d
 len:(aM n Sf).length≤300000
 A9:∀d∈aM n Sf,jU d
 t1:(cg "global" (aM n Sf)).length≤500000
 t2:(cg "nonlocal" (aM n Sf)).length≤500000
theorem kl{word:Str}(hw:word="global"∨word="nonlocal"):∀{ds:List D},(∀d∈ds,cW d)→(cg word ds).length≤ds.length*2
 | [],_=>Nat.zero_le _
 | d::ds,h=>by
  have h1:=kl hw fun d hd=>h d (C0 _ hd)
  have h2:=(h d C1).told
  have e:cg word (d::ds)=(if d.k=word then ff (d.cK 1) else [])++cg word ds:=rfl
  rw[e,CK,CY,Nat.add_mul]
  have h3:(if d.k=word then ff (d.cK 1) else []).length≤2:=by
   split
   ·rename_i hk
    unfold g0 at h2
    rw[CQ (by rw[hk];exact hw)] at h2
    exact h2
   ·exact Nat.zero_le _
  omega
theorem ja.mk'{n:Nat}{Sf:List D}(h:∀d∈Sf,cW d) (ho:∀d∈Sf,jX n d) (hl:Sf.length*cR n≤245411):ja n Sf:=by
 have h1:=cW.len (m:=n) h
 have h2:∀d∈aM n Sf,cW d:=fun d hd=>cW.mem h d hd
 have t1:=kl (word:="global") (.inl rfl) (ds:=aM n Sf) h2
 have t2:=kl (word:="nonlocal") (.inr rfl) (ds:=aM n Sf) h2
 exact⟨ho,by omega,fun d hd=>(h2 d hd).ok,by omega,by omega⟩
theorem wg (ps:List Str) (rows:List D):(ir ps rows).length≤ps.length+rows.length:=by
 have lfold:∀(told bs found:List Str),(bs.foldl (bp told) found).length≤found.length+bs.length:=fun told bs=>by
  induction bs with
  | nil=>intro found;exact CN _
  | cons b bs ih=>
   intro found
   rw[List.foldl_cons,CY]
   have h1:=ih (bp told found b)
   have h2:(bp told found b).length≤found.length+1:=by
    unfold bp
    split
    ·omega
    ·rw[CK,List.length_singleton];exact CN _
   omega
 unfold ir
 refine CZ (lfold _ _ _) ?_
 have h1:=List.length_filter_le (fun x=>decide (x∉cg "global" rows)) ps
 have h2:(rows.filterMap bM).length≤rows.length:=List.length_filterMap_le ..
 omega
theorem lJ (k:Key):∀(more Sd:List (Key×V)),((dj Sd k).isSome=true∨k∈more.map (·.1))→(dj (cA Sd more) k).isSome=true
 | [],Sd,h=>h.elim id fun z=>by cases z
 | p::r,Sd,h=>by
  show(dj (cA (putK Sd p.1 p.2) r) k).isSome=true
  refine lJ k r _ ?_
  rw[pL]
  by_cases e:k=p.1
  ·rw[CQ e];exact .inl rfl
  ·rw[CO e]
   rcases h with h | h
   ·exact .inl h
   ·rw[List.map_cons,List.mem_cons] at h
    exact h.elim (fun z=>absurd z e) .inr
theorem di.kr{b C dx:Addr}{fs:List (Str×V)}{H H':Hp}(h:di b H H') (hb:H b=some (.ins C dx fs)):bN H H':=fun p vs e=>by
 have ne:∀o,H p=some o→(∀c d f,o≠.ins c d f)→p≠b:=fun o e h2 z=>by rw[z,hb] at e;cases e;exact h2 _ _ _ rfl
 rcases e with e | ⟨o,e⟩
 ·exact .inl (h p _ (ne _ e (fun _ _ _ z=>by cases z)) e)
 ·exact .inr ⟨o,h p _ (ne _ e (fun _ _ _ z=>by cases z)) e⟩
def dh (H:Hp) (ads:List Addr) (Sd:List (Key×V)):Prop:=ads.length=Sd.length∧∀(i:Nat) (ad:Addr) (kv:Key×V),ads[i]?=some ad→Sd[i]?=some kv→H ad=some (.tup [kV kv.1,kv.2])
theorem dh.same{H H':Hp}{ads:List Addr}{Sd:List (Key×V)}(h:dh H ads Sd) (s:az H H'):dh H' ads Sd:=⟨h.1,fun i ad kv a b=>s _ _ (h.2 i ad kv a b)⟩
theorem dh.lst{H:Hp}{ads:List Addr}{Sd:List (Key×V)}{l:Addr}{xs ys:List V}(h:dh H ads Sd) (hl:H l=some (.lst xs)):dh (upd H l (.lst ys)) ads Sd:=⟨h.1,fun i ad kv a b=>by
 have:=h.2 i ad kv a b
 rw[aF (fun z=>by rw[z,hl] at this;cases this)];exact this⟩
theorem dh.snoc{H:Hp}{ads:List Addr}{Sd:List (Key×V)}{ad:Addr}{kv:Key×V}(h:dh H ads Sd) (ha:H ad=some (.tup [kV kv.1,kv.2])):dh H (ads++[ad]) (Sd++[kv]):=by
 refine⟨by rw[CK,CK,h.1];rfl,fun i a k e1 e2=>?_⟩
 by_cases hi:i < ads.length
 ·rw[List.getElem?_append_left hi] at e1
  rw[List.getElem?_append_left (by rw[←h.1];exact hi)] at e2
  exact h.2 i a k e1 e2
 ·rw[List.getElem?_append_right (by omega)] at e1
  rw[List.getElem?_append_right (by rw[←h.1];omega)] at e2
  have h0:i - ads.length=0:=by
   cases h9:i - ads.length with
   | zero=>rfl
   | succ m=>rw[h9] at e1;simp at e1
  rw[h0] at e1
  rw[←h.1,h0] at e2
  have ea:ad=a:=by simpa using e1
  have ek:kv=k:=by simpa using e2
  rw[←ea,←ek];exact ha
def uW (zs:List Str) (i:Nat):List (Key×V):=(List.range i).map fun j=>(Sum.inr (zs.getD j ""),V.int (0+(j:Nat)))
section
variable{K:Fg06}
theorem se{H1:Hp}{a:Addr}{zs:List Str}{σ:L2.St}{Q:Addr→Hp→Prop}(sq:cq K H1 a (zs.map V.str)) (hl:zs.length≤1000000) (q:∀p H' ads,H1 p=none→az H1 H'→H' p=some (.lst (ads.map V.ref))→dh H' ads (uW zs zs.length)→Q p H'):
  ∃vs:List V,(vs.length=([]:List Nat).length∧∀(j i:Nat),([]:List Nat)[j]?=some i→∃v,vs[j]?=some v∧σ[i]?=some (some v))∧∀D,H1 D=none→∃W:Nat→Nat→List V→Hp→Prop,(∃m,W 0 m [] (upd H1 D (.lst [])))∧∀i m ys H,W i m ys H→
   ((qJ K a 0).stop i H∧Q D H)∨((qJ K a 0).go i H∧∀x H' (ox:List (Option V)),ox.length=2→(qJ K a 0).pK i H x H'→yS K 2 (nX (fX 0) (nX (fX 1) yT)) x (ox++vs.map some) H' fun σ2 H2=>∃EN,EN.length=2∧σ2=EN++vs.map some∧iA σ2 H2 fun b H3=>
    if b=true then lN (cL (fi 1) (cL (fi 0) gJ)) σ2 H3 fun v H4=>H4 D=some (.lst ys)∧ys.length < sizeLine∧∃m',m' < m∧W (i+1) m' (ys++[v]) (upd H4 D (.lst (ys++[v]))) else ∃m',m' < m∧W (i+1) m' ys H3):=by
 refine⟨[],⟨rfl,fun j i h=>by simp at h⟩,fun np EF=>⟨fun i m ys H'=>m=zs.length - i∧i≤zs.length∧az H1 H'∧H' np=some (.lst ys)∧∃ads,ys=ads.map V.ref∧dh H' ads (uW zs i),⟨_,rfl,Nat.zero_le _,af EF _,ag,[],rfl,rfl,fun i ad kv e=>by simp at e⟩,?_⟩⟩
 rintro i m ys H' ⟨rfl,hi,sH,hD,ads,rfl,hP⟩
 have HD:=az.iG sH sq
 by_cases Ex:i < zs.length
 ·refine .inr ⟨⟨_,V.str zs[i],HD,by simp[Ex]⟩,fun x H'' ox Fn hy=>?_⟩
  obtain⟨T,y,hT,rfl,rfl,hy⟩:=hy
  have ey:=hy _ HD
  have ey':V.str zs[i]=y:=by simpa[Ex] using ey
  subst ey'
  obtain⟨o1,o2,rfl⟩:∃o1 o2,ox=[o1,o2]:=by
   match ox,Fn with
   | [o1,o2],_=>exact⟨o1,o2,rfl⟩
  have a1:=af hT (.tup [.int (0+(i:Nat)),.str zs[i]])
  have Gk:cq K (upd H' T (.tup [.int (0+(i:Nat)),.str zs[i]])) T [.int (0+(i:Nat)),.str zs[i]]:=cq.of ag
  revert a1 Gk
  generalize upd H' T (.tup [.int (0+(i:Nat)),.str zs[i]])=H2
  intro a1 Gk
  refine⟨T,_,rfl,Gk,rfl,_,_,rfl,_,_,rfl,rfl,[some (.int (0+(i:Nat))),some (.str zs[i])],rfl,rfl,?_⟩
  unfold iA
  dsimp only
  rw[CQ rfl]
  refine⟨_,rfl,_,rfl,by show 2≤sizeLine;decide,fun p hp=>?_⟩
  have a2:=af hp (.tup [.str zs[i],.int (0+(i:Nat))])
  have x2:upd H2 p (.tup [.str zs[i],.int (0+(i:Nat))]) p=some (.tup [.str zs[i],.int (0+(i:Nat))]):=ag
  have Fp:=a1.trans a2
  have Hx:=Fp _ _ hD
  refine⟨Hx,by rw[CS,hP.1];unfold uW;rw[CS,List.length_range];exact CT Ex (small hl),zs.length - (i+1),by omega,rfl,Ex,bh EF (sH.trans Fp),ag,ads++[p],by rw[List.map_append];rfl,?_⟩
  have e:uW zs (i+1)=uW zs i++[(Sum.inr zs[i],V.int (0+(i:Nat)))]:=by
   unfold uW
   rw[List.range_succ,List.map_append]
   congr 1
   simp[Ex]
  rw[e]
  exact dh.lst (dh.snoc (kv:=(Sum.inr zs[i],V.int (0+(i:Nat)))) (hP.same Fp) x2) Hx
 ·have ei:i=zs.length:=by omega
  subst ei
  exact .inl ⟨⟨_,HD,by rw[CS];exact CN _⟩,q np H' ads EF sH hD hP⟩
theorem rZ{H1:Hp}{a:Addr}{Sh:List V}{ps:List D}{σ:L2.St}{Q:Addr→Hp→Prop}(sq:cq K H1 a Sh) (hA:ai K H1 ps Sh) (EL:∀p∈ps,∃z e,p=.tup [.str z,e]) (hl:ps.length≤1000) (q:∀p H' ads,H1 p=none→az H1 H'→H' p=some (.lst (ads.map V.ref))→dh H' ads ((cv ps).map fun z=>(Sum.inr z,V.bl true))→Q p H'):
  ∃vs:List V,(vs.length=([]:List Nat).length∧∀(j i:Nat),([]:List Nat)[j]?=some i→∃v,vs[j]?=some v∧σ[i]?=some (some v))∧∀D,H1 D=none→∃W:Nat→Nat→List V→Hp→Prop,(∃m,W 0 m [] (upd H1 D (.lst [])))∧∀i m ys H,W i m ys H→
   ((xq K a).stop i H∧Q D H)∨((xq K a).go i H∧∀x H' (ox:List (Option V)),ox.length=1→(xq K a).pK i H x H'→fX 0 x (ox++vs.map some) H' fun σ2 H2=>∃EN,EN.length=1∧σ2=EN++vs.map some∧iA σ2 H2 fun b H3=>
    if b=true then lN (cL (nc (iI K) (fi 0) (tC (.int 0))) (cL (tC (.bl true)) gJ)) σ2 H3 fun v H4=>H4 D=some (.lst ys)∧ys.length < sizeLine∧∃m',m' < m∧W (i+1) m' (ys++[v]) (upd H4 D (.lst (ys++[v]))) else ∃m',m' < m∧W (i+1) m' ys H3):=by
 have lp:=hA.len
 have hpz:∀(l:List D),(∀p∈l,∃z e,p=.tup [.str z,e])→(cv l).length=l.length:=fun l h=>by
  have:=congrArg List.length (mi l h)
  rw[CS,CS] at this
  exact this.symm
 refine⟨[],⟨rfl,fun j i h=>by simp at h⟩,fun np EF=>⟨fun i m ys H'=>m=Sh.length - i∧i≤Sh.length∧az H1 H'∧H' np=some (.lst ys)∧∃ads,ys=ads.map V.ref∧dh H' ads ((cv (ps.take i)).map fun z=>(Sum.inr z,V.bl true)),⟨_,rfl,Nat.zero_le _,af EF _,ag,[],rfl,rfl,fun i ad kv e=>by simp at e⟩,?_⟩⟩
 rintro i m ys H' ⟨rfl,hi,sH,hD,ads,rfl,hP⟩
 have HD:=az.iG sH sq
 by_cases Ex:i < Sh.length
 ·refine .inr ⟨⟨Sh,Sh[i],HD,by simp[Ex]⟩,fun x H'' ox Fn hy=>?_⟩
  obtain⟨rfl,hy⟩:=hy
  have ex:=hy Sh HD
  have Fs:i < ps.length:=by rw[←lp];exact Ex
  obtain⟨v',ED,ER⟩:=ai.get (i:=i) hA (d:=ps[i]) (by simp[Fs])
  have ev:v'=x:=by rw[ex] at ED;cases ED;rfl
  subst ev
  obtain⟨z,e,epd⟩:=EL ps[i] (C2 Fs)
  have Ey:At K H'' (.tup [.str z,e]) v':=by rw[←epd];exact At.same sH _ _ ER
  obtain⟨o,rfl⟩:∃o,ox=[o]:=by
   match ox,Fn with
   | [o],_=>exact⟨o,rfl⟩
  refine⟨[some v'],rfl,rfl,?_⟩
  unfold iA
  dsimp only
  rw[CQ rfl]
  refine⟨_,rfl,0,_,_,rfl,Ey,rfl,fun y Fl=>?_⟩
  rw[av.mp Fl]
  refine⟨by show 2≤sizeLine;decide,fun p hp=>?_⟩
  have a2:=af hp (.tup [.str z,.bl true])
  have x2:upd H'' p (.tup [.str z,.bl true]) p=some (.tup [.str z,.bl true]):=ag
  have Hx:=a2 _ _ hD
  have e2:cv (ps.take (i+1))=cv (ps.take i)++[z]:=by
   unfold cv
   rw[C8,List.filterMap_append,C5 Fs,epd]
   rfl
  refine⟨Hx,by rw[CS,hP.1,CS,hpz _ (fun p hp=>EL p (List.mem_of_mem_take hp)),De];exact Nat.lt_of_le_of_lt (Nat.min_le_right _ _) (Nat.lt_of_le_of_lt hl (by rw[sizeLine_eq];decide)),Sh.length - (i+1),by omega,rfl,Ex,bh EF (sH.trans a2),ag,ads++[p],by rw[List.map_append];rfl,?_⟩
  rw[e2,List.map_append]
  exact dh.lst (dh.snoc (kv:=(Sum.inr z,V.bl true)) (hP.same a2) x2) Hx
 ·have ei:i=Sh.length:=by omega
  subst ei
  rw[lp,List.take_length] at hP
  exact .inl ⟨⟨Sh,HD,CN _⟩,q np H' ads EF sH hD hP⟩
end
section
variable{P:Program}{w:World}{K:Fg06}{mg:Str→Option Value}{base:Heap}{f:Addr}{fd:FuncData}
def scDf (K:Fg06) (C:Addr):TS:=fun E σ H=>∃(x dx:Addr) (kd:Str) (v2 v3:V) (da:Addr) (fs:List (Str×V)) (vd:List V),σ=[some (.ref x),some (.str kd),some v2,some v3,some (.ref da)]∧H x=some (.ins C dx fs)∧fs.length < 1000∧cq K H da vd∧vd.length≤1000∧
 ∀H' dv,di x H H'→H' x=some (.ins C dx (fk "defs" (.ref dv) fs))→cq K H' dv (if kd="def" then .ref x::vd else vd)→E.nx [some (.ref x),some (.str kd),some v2,some v3,some (.ref da)] H'
def sF (K:Fg06) (C:Addr):Sp:=fun vs H Q _=>∃(x dx:Addr) (kd:Str) (xp xb:V) (da:Addr) (n:Nat) (ps Sf:List D) (vd:List V),vs=[.ref x,.str kd,xp,xb,.ref da]∧H x=some (.ins C dx [])∧At K H (.tup ps) xp∧At K H (.tup Sf) xb∧(∀p∈ps,∃z e,p=.tup [.str z,e])∧ps.length≤1000∧ja n Sf∧cq K H da vd∧vd.length≤1000∧
 ∀H' od tg dv sd ow (tl:List Str) Sd,di x H H'→H' x=some (.ins C dx (xt kd od tg dv sd))→H' od=some (.dK ow)→H' tg=some (.lst (tl.map V.str))→cq K H' dv (if kd="def" then .ref x::vd else vd)→H' sd=some (.dK Sd)→(∀z∈cv ps,(dj Sd (.inr z)).isSome=true)→Sd.length≤1000→H tg=none→Q .aR H'
theorem BI:aW ["self","kind","params","block","defs"] ["self","kind","params","block","defs"] (aE ur):=fsX rfl rfl rfl rfl (by decide +kernel)
theorem Ao{C:Addr}(g:fh mg) (c:zv K C) (F:eX K "__init__" "Scope.__init__" ur f fd) (dO:Def P w K mg base "own_names" ["params","block"] 5 (nJ K)) (dR:Def P w K mg base "rows_of_scope" ["block"] 4 (oE K)) (dT:Def P w K mg base "told_names" ["rows","word"] 1 (oC K)):
  bO P w K mg base fw 6 f fd ["self","kind","params","block","defs"] (sF K C):=by
 refine F.hV BI (fun vs H Q E h=>?_) (fun Si A outer s H vs Q E hr h=>?_)
 ·obtain⟨_,_,_,_,_,_,_,_,_,_,rfl,_⟩:=h;rfl
 obtain⟨x,dx,kd,xp,xb,da,n,ps,Sf,vd,rfl,hx,hp,hb,EL,Ez,B,N1,GU,q⟩:=h
 refine⟨_,(ah (L3.gk (pv 0) (pv 1))
   (ah (L3.gk (pv 0) (aV (mR rfl) rfl g.zm xh (aa (.mk (L2.eE (cl:=[]) (Xs:=["place","name"]) (Nf:=[]) (js:=[]) (g:=yS K 2 (nX (fX 0) (nX (fX 1) yT))) ?k1 rfl (LI.out (.mk (L2.gO rfl g.jY (LA.out (aa (L3.aK dO hr (by decide) rfl (aa (pv 2) (aa (pv 3) ae))) ae))))) (fun C s0 H0 fp=>LG.out (cw (n:=2) rfl (aU (aL (i:=0) (show(["place","name"]:List Str).Nodup by decide +kernel) rfl (Or.inl rfl) (Or.inr rfl)) (aU (aL (i:=1) (show(["place","name"]:List Str).Nodup by decide +kernel) rfl (Or.inl rfl) (Or.inr rfl)) bU)))) (fun C s0 H0 fp=>gb) (fun C s0 H0 fp=>LE.out (aw (aa (pv 1) (aa (pv 0) ae)))))) ae)))
   (ah (L3.gk (pv 0) (L3.aK dT hr (by decide) rfl (aa (L3.aK dR hr (by decide) rfl (aa (pv 3) ae)) (aa aq ae))))
   (ah (dU (t':=scDf K C) (L3.gk (pv 0) (b9 (ar bw (pv 1) aq (aH _)) (ay yA (aw (aa (pv 0) ae)) (pv 4)) (pv 4))) ?i1)
   (aj (L3.gk (pv 0) (aV (mR rfl) rfl g.zm xh (aa (.mk (L2.eE (cl:=[]) (Xs:=["param"]) (Nf:=[]) (js:=[])  ?k2 rfl (LI.out (dm (pv 2))) (fun C s0 H0 fp=>LG.out (aL (i:=0) (show(["param"]:List Str).Nodup by decide +kernel) rfl (Or.inl rfl) (Or.inr rfl))) (fun C s0 H0 fp=>gb) (fun C s0 H0 fp=>LE.out (aw (aa (bC (r:=iI K) wN (pv 0) ak (fun _ _=>rfl)) (aa cn ae)))))) ae)))))))),?main⟩
 case k1=>
  refine⟨rfl,by decide +kernel,rfl,by decide +kernel,fun y c h=>(by cases h),fun y hy=>?_,rfl,fun j y h=>(by simp at h)⟩
  have EI:([(".0",.local),("place",.local),("name",.local)]:List (Str×NameKind)).lookup y=some .cell∨([(".0",.local),("place",.local),("name",.local)]:List (Str×NameKind)).lookup y=some .free:=hy
  rcases EI with z | z<;>(have m:=CV z;simp at m)
 case k2=>
  refine⟨rfl,by decide +kernel,rfl,by decide +kernel,fun y c h=>(by cases h),fun y hy=>?_,rfl,fun j y h=>(by simp at h)⟩
  have EI:([(".0",.local),("param",.local)]:List (Str×NameKind)).lookup y=some .cell∨([(".0",.local),("param",.local)]:List (Str×NameKind)).lookup y=some .free:=hy
  rcases EI with z | z<;>(have m:=CV z;simp at m)
 case i1=>
  rintro E0 σ H0 ⟨x,dx,kd,v2,v3,da,fs,vd,rfl,hx,EO,N1,GU,hq⟩
  have fin:∀(H1:Hp) (dv:Addr),az H0 H1→cq K H1 dv (if kd="def" then .ref x::vd else vd)→E0.nx [some (.ref x),some (.str kd),some v2,some v3,some (.ref da)] (upd H1 x (.ins C dx (fk "defs" (.ref dv) fs))):=fun H1 dv s1 sq=>
   hq _ dv ((di.of s1).trans (di.gL x _ _)) ag (cq.ax ((di.gL x H1 _).kr (s1 _ _ hx)) sq)
  refine⟨_,rfl,rfl,_,rfl,?_⟩
  rw[dF]
  by_cases ck:kd="def"
  ·rw[CJ ck]
   simp only[if_pos ck] at fin
   refine bJ ⟨_,rfl,by show 1≤sizeLine;decide,fun pt Fw=>?_⟩
   have a1:=af Fw (.tup [.ref x])
   have Gk:cq K (upd H0 pt (.tup [.ref x])) pt [.ref x]:=cq.of ag
   revert a1 Gk
   generalize upd H0 pt (.tup [.ref x])=H1
   intro a1 Gk
   refine⟨_,rfl,pt,da,[.ref x],vd,rfl,rfl,Gk,az.iG a1 N1,by simp,by show 1+_≤_;exact small (by omega),fun hnil=>?_,fun _ p hp=>?_⟩
   ·subst hnil
    exact⟨_,rfl,x,C,dx,fs,rfl,a1 _ _ hx,c.cls,c.n4,EO,fin H1 pt a1 Gk⟩
   ·have a2:=a1.trans (af hp (.tup ([.ref x]++vd)))
    exact⟨_,rfl,x,C,dx,fs,rfl,a2 _ _ hx,c.cls,c.n4,EO,fin _ p a2 (cq.of ag)⟩
  ·rw[CI ck]
   simp only[if_neg ck] at fin
   exact bg ⟨_,rfl,_,rfl,x,C,dx,fs,rfl,hx,c.cls,c.n4,EO,fin H0 da (az.refl _) N1⟩
 case main=>
  have e1:fk "kind" (.str kd) []=([("kind",.str kd)]:List (Str×V)):=rfl
  have e2:∀od,fk "owned" (.ref od) ([("kind",.str kd)]:List (Str×V))=([("kind",.str kd),("owned",.ref od)]:List (Str×V)):=fun od=>by rw[dq (by decide +kernel)];rfl
  have e3:∀od tg,fk "told_global" (.ref tg) ([("kind",.str kd),("owned",.ref od)]:List (Str×V))=([("kind",.str kd),("owned",.ref od),("told_global",.ref tg)]:List (Str×V)):=fun od tg=>by rw[dq (by decide +kernel),dq (by decide +kernel)];rfl
  have e4:∀od tg dv,fk "defs" (.ref dv) ([("kind",.str kd),("owned",.ref od),("told_global",.ref tg)]:List (Str×V))=([("kind",.str kd),("owned",.ref od),("told_global",.ref tg),("defs",.ref dv)]:List (Str×V)):=fun od tg dv=>by rw[dq (by decide +kernel),dq (by decide +kernel),dq (by decide +kernel)];rfl
  have e5:∀od tg dv sd,fk "stood" (.ref sd) ([("kind",.str kd),("owned",.ref od),("told_global",.ref tg),("defs",.ref dv)]:List (Str×V))=xt kd od tg dv sd:=fun od tg dv sd=>by rw[dq (by decide +kernel),dq (by decide +kernel),dq (by decide +kernel),dq (by decide +kernel)];rfl
  refine⟨_,rfl,_,rfl,x,C,dx,_,rfl,hx,c.cls,c.n1,by decide,?_⟩
  rw[e1]
  have B1:=di.gL x H (.ins C dx [("kind",.str kd)])
  have c1:upd H x (.ins C dx [("kind",.str kd)]) x=some (.ins C dx [("kind",.str kd)]):=ag
  revert B1 c1
  generalize upd H x (.ins C dx [("kind",.str kd)])=H1
  intro B1 c1
  have T1:=B1.kr hx
  have EG:=At.ax T1 _ _ hp
  have ES:=At.ax T1 _ _ hb
  have hda1:=cq.ax T1 N1
  have lrows:=B.len
  have lown:=wg (cv ps) (aM n Sf)
  have lprm:(cv ps).length≤1000:=CZ (List.length_filterMap_le ..) Ez
  refine⟨_,rfl,_,rfl,xp,xb,n,ps,Sf,rfl,EG,ES,EL,Ez,B.ok,B.len,B.A9,B.t1,B.t2,fun ro H2 s2 hro=>?_⟩
  obtain⟨ao,vo,rfl,sqo,hAo⟩:=aP.mp hro
  have evo:=(ai.strs _ _).mp hAo
  subst evo
  refine⟨ao,rfl,⟨_,sqo⟩,se (K:=K) (a:=ao) sqo (by omega) fun po H3 ads hpo s3 Rt RL=>?_⟩
  refine⟨po,ads,uW (ir (cv ps) (aM n Sf)) (ir (cv ps) (aM n Sf)).length,rfl,br.of Rt,RL.1,fun i a kv h1 h2=>cq.of (RL.2 i a kv h1 h2),by unfold uW;rw[CS,List.length_range];exact small (by omega),fun od JR=>?_⟩
  have a4:=af JR (.dK (cA [] (uW (ir (cv ps) (aM n Sf)) (ir (cv ps) (aM n Sf)).length)))
  have c4:upd H3 od (.dK (cA [] (uW (ir (cv ps) (aM n Sf)) (ir (cv ps) (aM n Sf)).length))) od=some (.dK (cA [] (uW (ir (cv ps) (aM n Sf)) (ir (cv ps) (aM n Sf)).length))):=ag
  revert a4 c4
  generalize (cA [] (uW (ir (cv ps) (aM n Sf)) (ir (cv ps) (aM n Sf)).length))=ow
  generalize upd H3 od (.dK ow)=H4
  intro a4 c4
  have Fg:=(s2.trans s3).trans a4
  have x4:=Fg _ _ c1
  refine⟨_,rfl,x,C,dx,_,rfl,x4,c.cls,c.n2,CT (Dd 1) (by decide),?_⟩
  rw[e2 od]
  have B5:=di.gL x H4 (.ins C dx [("kind",.str kd),("owned",.ref od)])
  have c5:upd H4 x (.ins C dx [("kind",.str kd),("owned",.ref od)]) x=some (.ins C dx [("kind",.str kd),("owned",.ref od)]):=ag
  revert B5 c5
  generalize upd H4 x (.ins C dx [("kind",.str kd),("owned",.ref od)])=H5
  intro B5 c5
  have T5:=B5.kr x4
  have nod:od≠x:=fun z=>by rw[z,x4] at c4;cases c4
  have ow5:=B5 od _ nod c4
  have Qs:=(bN.of Fg).trans T5
  have EV:=At.ax Qs _ _ EG
  have JU:=At.ax Qs _ _ ES
  have hda5:=cq.ax Qs hda1
  refine⟨_,rfl,xb,n,Sf,rfl,JU,B.ok,by omega,fun pr H6 Hl s6 hLr=>?_⟩
  refine⟨pr,"global",_,rfl,hLr,B.A9,.inl rfl,CZ B.t1 (by decide),fun tg H7 htg s7 M3=>?_⟩
  obtain⟨vt,Mc,FZ⟩:=M3
  have evt:=(ai.strs _ _).mp FZ
  subst evt
  have FK:=s6.trans s7
  have x7:=FK _ _ c5
  refine⟨_,rfl,x,C,dx,_,rfl,x7,c.cls,c.n3,CT (Dd 2) (by decide),?_⟩
  rw[e3 od tg]
  have B8:=di.gL x H7 (.ins C dx [("kind",.str kd),("owned",.ref od),("told_global",.ref tg)])
  have c8:upd H7 x (.ins C dx [("kind",.str kd),("owned",.ref od),("told_global",.ref tg)]) x=some (.ins C dx [("kind",.str kd),("owned",.ref od),("told_global",.ref tg)]):=ag
  revert B8 c8
  generalize upd H7 x (.ins C dx [("kind",.str kd),("owned",.ref od),("told_global",.ref tg)])=H8
  intro B8 c8
  have T8:=B8.kr x7
  have ntg:tg≠x:=fun z=>by rw[z,x7] at Mc;cases Mc
  have tg8:=B8 tg _ ntg Mc
  have ow8:=B8 od _ nod (FK _ _ ow5)
  have RY:=(bN.of FK).trans T8
  have Jj:=At.ax RY _ _ EV
  have hda8:=cq.ax RY hda5
  have B18:di x H H8:=((B1.trans (.of Fg)).trans B5).trans ((di.of FK).trans B8)
  refine⟨x,dx,kd,xp,xb,da,_,vd,rfl,c8,CT (Dd 3) (by decide),hda8,GU,fun H9 dv B9 c9 sq9=>?_⟩
  rw[e4 od tg dv] at c9
  have T9:=B9.kr c8
  have Gz:=At.ax T9 _ _ Jj
  have ow9:=B9 od _ nod ow8
  have tg9:=B9 tg _ ntg tg8
  obtain⟨ap,vp,rfl,sqp,FJ⟩:=aP.mp Gz
  refine⟨_,rfl,ap,rfl,⟨vp,sqp⟩,rZ (K:=K) (a:=ap) sqp FJ EL Ez fun pl FF ads2 HR EU hl10 MZ=>?_⟩
  refine⟨pl,ads2,(cv ps).map fun z=>(Sum.inr z,V.bl true),rfl,br.of hl10,MZ.1,fun i a kv h1 h2=>cq.of (MZ.2 i a kv h1 h2),by rw[CS];exact small (by omega),fun sd Mg=>?_⟩
  have LN:=af Mg (.dK (cA [] ((cv ps).map fun z=>(Sum.inr z,V.bl true))))
  have Lg:upd FF sd (.dK (cA [] ((cv ps).map fun z=>(Sum.inr z,V.bl true)))) sd=some (.dK (cA [] ((cv ps).map fun z=>(Sum.inr z,V.bl true)))):=ag
  have HX:∀z∈cv ps,(dj (cA [] ((cv ps).map fun z=>((Sum.inr z:Key),V.bl true))) (.inr z)).isSome=true:=fun z hz=>lJ _ _ _ (.inr (by rw[List.map_map];exact List.mem_map.mpr ⟨z,hz,rfl⟩))
  have Pk:(cA [] ((cv ps).map fun z=>((Sum.inr z:Key),V.bl true))).length≤1000:=CZ (eU _ []) (by rw[CS];simpa using lprm)
  revert LN Lg HX Pk
  generalize cA [] ((cv ps).map fun z=>((Sum.inr z:Key),V.bl true))=Sd
  generalize upd FF sd (.dK Sd)=Ka
  intro LN Lg HX Pk
  have Fu:=EU.trans LN
  have Oh:=Fu _ _ c9
  refine⟨_,rfl,x,C,dx,_,rfl,Oh,c.cls,c.n5,CT (Dd 4) (by decide),?_⟩
  rw[e5 od tg dv sd]
  have Lk:=di.gL x Ka (.ins C dx (xt kd od tg dv sd))
  have T12:=Lk.kr Oh
  have nsd:sd≠x:=fun z=>by rw[z,Oh] at Lg;cases Lg
  exact q _ od tg dv sd ow _ Sd ((B18.trans B9).trans ((di.of Fu).trans Lk)) ag (Lk od _ nod (Fu _ _ ow9)) (Lk tg _ ntg (Fu _ _ tg9)) (cq.ax T12 (az.iG Fu sq9)) (Lk sd _ nsd Lg) HX Pk ((B1.my ntg (none_of (Fg) (B5.my ntg (none_of s6 htg)))))
def qY (K:Fg06) (C:Addr):Sp:=fun vs H Q _=>∃(x dx l sd:Addr) (fs:List (Str×V)) (zs:List Str) (Sd:List (Key×V)),vs=[.ref x,.ref l]∧H x=some (.ins C dx fs)∧fs.lookup ("stood":Str)=some (.ref sd)∧H l=some (.lst (zs.map V.str))∧H sd=some (.dK Sd)∧Sd.length+zs.length≤16000000∧
 ∀H' EA,di sd H H'→H' sd=some (.dK EA)→(∀k,(dj Sd k).isSome=true→(dj EA k).isSome=true)→EA.length≤Sd.length+zs.length→Q .aR H'
theorem vD:aW ["self","names","name"] ["self","names"] (aE nP):=fsX rfl rfl rfl rfl (by decide +kernel)
theorem yI{C:Addr}(c:zv K C) (F:eX K "note" "Scope.note" nP f fd):bO P w K mg base fw 1 f fd ["self","names"] (qY K C):=by
 refine F.hV vD (fun vs H Q E h=>?_) (fun Si A outer s H vs Q E hr h=>?_)
 ·obtain⟨_,_,_,_,_,_,_,rfl,_⟩:=h;rfl
 obtain⟨x,dx,l,sd,fs,zs,Sd,rfl,hx,hfs,hl,Mg,hlen,q⟩:=h
 refine⟨_,(aj (bR C9 rfl (bF (pv 1)) (aL (i:=2) vD.nd rfl (Or.inl rfl)) (aj (.mk (L2.yi (mI hr) (LE.out (L3.cz (pv 0))) (LE.out (pv 2)) (LE.out cn) rfl))))),?main⟩
 case main=>
  have nls:l≠sd:=fun z=>by rw[z,Mg] at hl;cases hl
  have nxs:x≠sd:=fun z=>by rw[z,Mg] at hx;cases hx
  refine⟨_,rfl,l,rfl,⟨_,br.of hl⟩,fo (K:=K) (a:=l) (xs:=zs.map V.str) (fun i σ H'=>(∃o2,σ=[some (.ref x),some (.ref l),o2])∧di sd H H'∧∃EA,H' sd=some (.dK EA)∧(∀k,(dj Sd k).isSome=true→(dj EA k).isSome=true)∧EA.length≤Sd.length+i) ⟨⟨none,rfl⟩,di.refl _ _,Sd,Mg,fun _ h=>h,CN _⟩ (fun i σ H' _ h=>by obtain⟨_,hB,_⟩:=h;exact br.of (hB l _ nls hl)) ?_ ?_⟩
  ·rintro i u σ H1 hu ⟨⟨o2,rfl⟩,hB,EA,O4,hk,hle⟩
   rw[List.getElem?_map] at hu
   have hi:i < zs.length:=by
    cases e:zs[i]? with
    | none=>rw[e] at hu;cases hu
    | some z=>exact(CM.mp e).1
   rw[C5 hi] at hu
   have eu:V.str zs[i]=u:=by simpa using hu
   subst eu
   refine⟨_,rfl,x,C,dx,fs,_,rfl,hB x _ nxs hx,c.cls,c.n5,hfs,_,rfl,sd,_,rfl,xr.k (k:=.inr zs[i]) O4 (Nat.lt_of_le_of_lt (show EA.length≤16000000 by omega) (by rw[sizeLine_eq];decide)),⟨_,rfl⟩,hB.trans (di.gL sd _ _),_,ag,fun k h=>?_,?_⟩
   ·rw[pL]
    split
    ·rfl
    ·exact hk k h
   ·have:=gD EA (.inr zs[i]:Key) (.bl true)
    omega
  ·rintro σ H1 ⟨⟨o2,rfl⟩,hB,EA,O4,hk,hle⟩
   exact q H1 EA hB O4 hk (by rw[CS] at hle;exact hle)
end
variable{G:Addr→Prop}
abbrev pd:Stmt:=dz 12
abbrev oZ:Stmt:=dz 13
def cQ (n:Nat) (H H':Hp):Prop:=∀p o,H p=some o→H' p=some o∨∃Sd EA,o=.dK Sd∧H' p=some (.dK EA)∧(∀k,(dj Sd k).isSome=true→(dj EA k).isSome=true)∧EA.length≤Sd.length+n
theorem cQ.of{H H':Hp}(h:az H H'):cQ 0 H H':=fun p o e=>.inl (h p o e)
theorem cQ.trans{n m:Nat}{A B C:Hp}(h:cQ n A B) (h':cQ m B C):cQ (n+m) A C:=fun p o e=>by
 rcases h p o e with h1 | ⟨k1,k2,rfl,h1,h2,h3⟩
 ·rcases h' p o h1 with g1 | ⟨k3,k4,rfl,g1,g2,g3⟩
  ·exact .inl g1
  ·exact .inr ⟨k3,k4,rfl,g1,g2,by omega⟩
 ·rcases h' p _ h1 with g1 | ⟨k3,k4,e3,g1,g2,g3⟩
  ·exact .inr ⟨k1,k2,rfl,g1,h2,by omega⟩
  ·cases e3
   exact .inr ⟨k1,k4,rfl,g1,fun k hk=>g2 k (h2 k hk),by omega⟩
theorem cQ.ax{n:Nat}{H H':Hp}(h:cQ n H H'):bN H H':=fun p vs e=>by
 rcases e with e | ⟨o,e⟩
 ·rcases h p _ e with h1 | ⟨_,_,z,_⟩
  ·exact .inl h1
  ·cases z
 ·rcases h p _ e with h1 | ⟨_,_,z,_⟩
  ·exact .inr ⟨o,h1⟩
  ·cases z
theorem cQ.ins{n:Nat}{H H':Hp}{p C dx:Addr}{fs:List (Str×V)}(h:cQ n H H') (e:H p=some (.ins C dx fs)):H' p=some (.ins C dx fs):=by
 rcases h p _ e with h1 | ⟨_,_,z,_⟩
 ·exact h1
 ·cases z
theorem cQ.lst{n:Nat}{H H':Hp}{p:Addr}{xs:List V}(h:cQ n H H') (e:H p=some (.lst xs)):H' p=some (.lst xs):=by
 rcases h p _ e with h1 | ⟨_,_,z,_⟩
 ·exact h1
 ·cases z
theorem cQ.tup{n:Nat}{H H':Hp}{p:Addr}{xs:List V}(h:cQ n H H') (e:H p=some (.tup xs)):H' p=some (.tup xs):=by
 rcases h p _ e with h1 | ⟨_,_,z,_⟩
 ·exact h1
 ·cases z
theorem cQ.dK{n:Nat}{H H':Hp}{p:Addr}{Sd:List (Key×V)}(h:cQ n H H') (e:H p=some (.dK Sd)):∃EA,H' p=some (.dK EA)∧(∀k,(dj Sd k).isSome=true→(dj EA k).isSome=true)∧EA.length≤Sd.length+n:=by
 rcases h p _ e with h1 | ⟨_,k2,z,h1,h2,h3⟩
 ·exact⟨Sd,h1,fun _ h=>h,by omega⟩
 ·cases z
  exact⟨k2,h1,h2,h3⟩
def ij (K:Fg06) (C:Addr) (G:Addr→Prop) (H:Hp) (x:Addr) (kd:Str) (ps:List Str) (vd:List V) (L:Nat):Prop:=∃(dx od tg dv sd:Addr) (ow:List (Key×V)) (tl:List Str) (Sd:List (Key×V)),H x=some (.ins C dx (xt kd od tg dv sd))∧H od=some (.dK ow)∧H tg=some (.lst (tl.map V.str))∧cq K H dv vd∧H sd=some (.dK Sd)∧(∀z∈ps,(dj Sd (.inr z)).isSome=true)∧Sd.length≤L∧G tg
theorem ij.grow{K:Fg06}{C x:Addr}{H H':Hp}{kd:Str}{ps:List Str}{vd:List V}{L n:Nat}(h:ij K C G H x kd ps vd L) (g:cQ n H H'):ij K C G H' x kd ps vd (L+n):=by
 obtain⟨dx,od,tg,dv,sd,ow,tl,Sd,h1,h2,h3,h4,h5,h6,h7,h8⟩:=h
 obtain⟨LZ,g2,_⟩:=g.dK h2
 obtain⟨EA,g5,g6,g7⟩:=g.dK h5
 exact⟨dx,od,tg,dv,sd,LZ,tl,EA,g.ins h1,g2,g.lst h3,cq.ax g.ax h4,g5,fun z hz=>g6 _ (h6 z hz),by omega,h8⟩
theorem ij.same{K:Fg06}{C x:Addr}{H H':Hp}{kd:Str}{ps:List Str}{vd:List V}{L:Nat}(h:ij K C G H x kd ps vd L) (s:az H H'):ij K C G H' x kd ps vd L:=h.grow (.of s)
def mZ (K:Fg06) (C:Addr) (G:Addr→Prop) (H:Hp) (vd:List V):Prop:=∀v∈vd,∃x kd ps GL L,v=.ref x∧ij K C G H x kd ps GL L
theorem mZ.grow{K:Fg06}{C:Addr}{H H':Hp}{vd:List V}{n:Nat}(h:mZ K C G H vd) (g:cQ n H H'):mZ K C G H' vd:=fun v hv=>by
 obtain⟨x,kd,ps,GL,L,e,hs⟩:=h v hv
 exact⟨x,kd,ps,GL,_,e,hs.grow g⟩
theorem sN (kd:Str) (od tg dv sd:Addr):(xt kd od tg dv sd).lookup ("kind":Str)=some (.str kd):=rfl
theorem pW (kd:Str) (od tg dv sd:Addr):(xt kd od tg dv sd).lookup ("owned":Str)=some (.ref od):=rfl
theorem xU (kd:Str) (od tg dv sd:Addr):(xt kd od tg dv sd).lookup ("told_global":Str)=some (.ref tg):=rfl
theorem oM (kd:Str) (od tg dv sd:Addr):(xt kd od tg dv sd).lookup ("defs":Str)=some (.ref dv):=rfl
theorem pV (kd:Str) (od tg dv sd:Addr):(xt kd od tg dv sd).lookup ("stood":Str)=some (.ref sd):=rfl
theorem xV (kd:Str) (od tg dv sd:Addr):(xt kd od tg dv sd).lookup ("note":Str)=none:=rfl
theorem iE (v1 v2 v3 v4:V):(zh v1 v2 v3 v4).lookup ("scope":Str)=some v1:=rfl
theorem qW (v1 v2 v3 v4:V):(zh v1 v2 v3 v4).lookup ("way":Str)=some v2:=rfl
theorem oB (v1 v2 v3 v4:V):(zh v1 v2 v3 v4).lookup ("in_loop":Str)=some v3:=rfl
theorem lR (v1 v2 v3 v4:V):(zh v1 v2 v3 v4).lookup ("in_catch":Str)=some v4:=rfl
section
variable{P:Program}{w:World}{K:Fg06}{mg:Str→Option Value}{base:Heap}{f:Addr}{fd:FuncData}{C:Addr}
theorem jc{H1:Hp}{x dx:Addr}(hx:H1 x=none) (hd:H1 dx=none) (E2:dx≠x):az H1 (upd (upd H1 dx (.own x)) x (.ins C dx []))∧upd (upd H1 dx (.own x)) x (.ins C dx []) x=some (.ins C dx []):=by
 refine⟨(af hd _).trans (af ?_ _),ag⟩
 rw[aF (Ne.symm E2)];exact hx
def xG (K:Fg06) (C:Addr) (G:Addr→Prop) (H:Hp) (Q:VK) (kd:Str) (ps:List Str) (vd:List V):Prop:=∀x H',az H H'→ij K C G H' x kd ps (if kd="def" then .ref x::vd else vd) 1000→Q (.ref x) H'
def vy (K:Fg06) (C:Addr):Sp:=fun vs H Q _=>∃(x:V) (n:Nat) (ds:List D),vs=[x]∧At K H (.tup ds) x∧ja n ds∧xG K C (fun _=>True) H Q "program" [] []
theorem BJ:aW ["program"] ["program"] (aE pd):=fsX rfl rfl rfl rfl (by decide +kernel)
theorem Ar (M:kX P w K mg base "Scope" C ["self","kind","params","block","defs"] 6 (sF K C)) (F:eX K "program_scope" "program_scope" pd f fd):bO P w K mg base fw 8 f fd ["program"] (vy K C):=by
 refine F.hV BJ (fun vs H Q E h=>?_) (fun Si A outer s H vs Q E hr h=>?_)
 ·obtain⟨_,_,_,rfl,_⟩:=h;rfl
 obtain⟨x,n,ds,rfl,hx,B,q⟩:=h
 refine⟨_,(aj (aG (L3.nO M hr (by decide) rfl (aa aq (aa (aw ae) (aa (pv 0) (aa (aw ae) ae))))))),?_⟩
 refine⟨by decide,fun p1 EG=>⟨_,rfl,by decide,fun p2 EC xn dxn Fh Fj E2=>?_⟩⟩
 have a1:=af EG (.tup [])
 have x1:At K (upd H p1 (.tup [])) (.tup []) (.ref p1):=At.new EG (aD.mpr rfl)
 have a2:=af EC (.tup [])
 have x2:cq K (upd (upd H p1 (.tup [])) p2 (.tup [])) p2 []:=cq.of ag
 have Fp:=a1.trans a2
 have Oi:=At.same a2 _ _ x1
 revert x2 Fp Oi Fh Fj
 generalize upd (upd H p1 (.tup [])) p2 (.tup [])=H2
 intro Fh Fj x2 Fp Oi
 obtain⟨s3,c3⟩:=jc (C:=C) Fh Fj E2
 revert s3 c3
 generalize upd (upd H2 dxn (.own xn)) xn (.ins C dxn [])=H3
 intro s3 c3
 have Gm:=Fp.trans s3
 refine⟨xn,dxn,"program",.ref p1,x,p2,n,[],ds,[],rfl,c3,At.same s3 _ _ Oi,At.same Gm _ _ hx,fun p hp=>(by cases hp),by decide,B,az.iG s3 x2,by decide,fun H4 od tg dv sd ow tl Sd hB h1 h2 h3 h4 h5 h6 h7 h8=>⟨rfl,?_⟩⟩
 exact q xn H4 (hB.jQ (none_of Fp Fh) Gm) ⟨dxn,od,tg,dv,sd,ow,tl,Sd,h1,h2,h3,h4,h5,h6,h7,True.intro⟩
def pj (n:Nat) (d:D):Prop:=d.k="def"∨d.k="class"→∃z ps b,d=.tup [.str d.k,z,.tup ps,.tup b]∧ja n b∧(d.k="def"→ps.length≤1000∧∀p∈ps,∃z e,p=.tup [.str z,e])
def zI (K:Fg06) (C:Addr):Sp:=fun vs H Q _=>∃(x:V) (sc:Addr) (n:Nat) (d:D) (kd:Str) (ps:List Str) (vd:List V) (L:Nat) (G:Addr→Prop),vs=[x,.ref sc]∧(∀p,H p=none→G p)∧At K H d x∧(∃k r,d=.tup (.str k::r))∧pj n d∧ij K C G H sc kd ps vd L∧mZ K C G H vd∧vd.length≤100∧1000≤L∧
 ∀JG H' Gu GL,az H H'→ij K C G H' JG Gu (cM ps d) GL L→mZ K C G H' GL→GL.length≤vd.length+1→Q (.ref JG) H'
theorem scWi:aW ["statement","scope"] ["statement","scope"] (aE oZ):=fsX rfl rfl rfl rfl (by decide +kernel)
theorem B2 (c:zv K C) (M:kX P w K mg base "Scope" C ["self","kind","params","block","defs"] 6 (sF K C)) (F:eX K "scope_within" "scope_within" oZ f fd):bO P w K mg base fw 8 f fd ["statement","scope"] (zI K C):=by
 refine F.hV scWi (fun vs H Q E h=>?_) (fun Si A outer s H vs Q E hr h=>?_)
 ·obtain⟨_,_,_,_,_,_,_,_,_,rfl,_⟩:=h;rfl
 obtain⟨x,sc,n,d,kd,ps,vd,L,G,rfl,hG,hx,⟨k,r,rfl⟩,EY,Mh,Gr,hvd,hL,q⟩:=h
 refine⟨_,(ah (aN (ar bw (aC (pv 0)) aq (aH _)) (aj (aG (L3.nO M hr (by decide) rfl (aa aq (aa (aC (pv 0)) (aa (aC (pv 0)) (aa (L3.cz (pv 1)) ae))))))) aB)
   (ah (aN (ar bw (aC (pv 0)) aq (aH _)) (aj (aG (L3.nO M hr (by decide) rfl (aa aq (aa (aw ae) (aa (aC (pv 0)) (aa (L3.cz (pv 1)) ae))))))) aB)
   (aj (aG (pv 1))))),?_⟩
 have ek:D.k (.tup (.str k::r))=k:=rfl
 obtain⟨dx,od,tg,dv,sd,ow,tl,Sd,h1,h2,h3,h4,h5,h6,h7,h8⟩:=id Mh
 unfold pj at EY
 rw[ek] at EY
 unfold cM at q
 rw[ek] at q
 refine⟨_,rfl,0,_,_,rfl,hx,rfl,fun yk EB=>?_⟩
 rw[av.mp EB]
 refine⟨rfl,_,rfl,?_⟩
 rw[dF]
 by_cases c1:k="def"
 ·rw[CJ c1]
  simp only[if_pos c1] at q
  obtain⟨z,Iv,b,e,B,hp⟩:=EY (.inl c1)
  have er:r=[z,.tup Iv,.tup b]:=by injection e with e;injection e
  subst er
  obtain⟨EG,EC⟩:=hp c1
  refine bJ ⟨_,rfl,2,_,_,rfl,hx,rfl,fun yp hyp=>⟨_,rfl,3,_,_,rfl,hx,rfl,fun yb HH=>⟨_,rfl,sc,C,dx,_,_,rfl,h1,c.cls,c.n4,oM ..,fun xn dxn Fh Fj E2=>?_⟩⟩⟩
  obtain⟨s3,c3⟩:=jc (C:=C) Fh Fj E2
  revert s3 c3
  generalize upd (upd H dxn (.own xn)) xn (.ins C dxn [])=H3
  intro s3 c3
  refine⟨xn,dxn,"def",yp,yb,dv,n,Iv,b,vd,rfl,c3,At.same s3 _ _ hyp,At.same s3 _ _ HH,EC,EG,B,az.iG s3 h4,by omega,fun H4 Kh GN Qn Ot LZ JC EA hB g1 g2 g3 g4 g5 g6 g7 g8=>⟨rfl,?_⟩⟩
  have s4:az H H4:=hB.jQ Fh s3
  rw[CQ rfl] at g4
  have me:ij K C G H4 xn "def" (cv Iv) (.ref xn::vd) L:=⟨dxn,Kh,GN,Qn,Ot,LZ,JC,EA,g1,g2,g3,g4,g5,g6,by omega,hG _ (none_of s3 g8)⟩
  have ep:oY (.tup [.str k,z,.tup Iv,.tup b])=cv Iv:=rfl
  refine q xn H4 "def" (.ref xn::vd) s4 (by rw[ep];exact me) (fun v hv=>?_) (by rw[CY];exact CN _)
  rcases List.mem_cons.mp hv with rfl | hv
  ·exact⟨xn,_,_,_,_,rfl,me⟩
  ·exact(Gr.grow (.of s4)) v hv
 rw[CI c1]
 simp only[if_neg c1] at q
 refine bg ⟨_,rfl,0,_,_,rfl,hx,rfl,fun yk EB=>?_⟩
 rw[av.mp EB]
 refine⟨rfl,_,rfl,?_⟩
 rw[dF]
 by_cases c2:k="class"
 ·rw[CJ c2]
  simp only[if_pos c2] at q
  obtain⟨z,Iv,b,e,B,_⟩:=EY (.inr c2)
  have er:r=[z,.tup Iv,.tup b]:=by injection e with e;injection e
  subst er
  refine bJ ⟨by decide,fun p1 EG=>?_⟩
  have a1:=af EG (.tup [])
  have x1:At K (upd H p1 (.tup [])) (.tup []) (.ref p1):=At.new EG (aD.mpr rfl)
  revert a1 x1
  generalize upd H p1 (.tup [])=H1
  intro a1 x1
  refine⟨_,rfl,3,_,_,rfl,At.same a1 _ _ hx,rfl,fun yb HH=>⟨_,rfl,sc,C,dx,_,_,rfl,a1 _ _ h1,c.cls,c.n4,oM ..,fun xn dxn Fh Fj E2=>?_⟩⟩
  obtain⟨s3,c3⟩:=jc (C:=C) Fh Fj E2
  revert s3 c3
  generalize upd (upd H1 dxn (.own xn)) xn (.ins C dxn [])=H3
  intro s3 c3
  have Gm:=a1.trans s3
  refine⟨xn,dxn,"house",.ref p1,yb,dv,n,[],b,vd,rfl,c3,At.same s3 _ _ x1,At.same s3 _ _ HH,fun p hp=>(by cases hp),by decide,B,az.iG Gm h4,by omega,fun H4 Kh GN Qn Ot LZ JC EA hB g1 g2 g3 g4 g5 g6 g7 g8=>⟨rfl,?_⟩⟩
  have s4:az H H4:=hB.jQ (none_of a1 Fh) Gm
  rw[CO (by decide +kernel)] at g4
  exact q xn H4 "house" vd s4 ⟨dxn,Kh,GN,Qn,Ot,LZ,JC,EA,g1,g2,g3,g4,g5,fun z hz=>(by cases hz),by omega,hG _ (none_of Gm g8)⟩ (Gr.grow (.of s4)) (by omega)
 ·rw[CI c2]
  simp only[if_neg c2] at q
  exact bg ⟨_,rfl,q sc H kd vd (az.refl _) Mh Gr (by omega)⟩
end
variable{G:Addr→Prop}
abbrev Ah:Stmt:=dz 20
abbrev Ai:Stmt:=dz 21
def kW (way:List D):Prop:=∀d∈way,∃i:Nat,d=D.int (i:Nat)∧i≤1000000
theorem kW.snoc{way:List D}{i:Nat}(h:kW way) (hi:i≤1000000):kW (way++[D.int (i:Nat)]):=fun d hd=>by
 rcases Df.mp hd with hd | hd
 ·exact h d hd
 ·exact⟨i,Dg.mp hd,hi⟩
def Place (K:Fg06) (C CP:Addr) (G:Addr→Prop) (H:Hp) (sp:Addr) (ps:List Str) (L n e:Nat):Prop:=∃(dx sc:Addr) (vw:V) (il ic:Bool) (way:List D) (kd:Str) (vd:List V),H sp=some (.ins CP dx (zh (.ref sc) vw (.bl il) (.bl ic)))∧At K H (.tup way) vw∧ij K C G H sc kd ps vd L∧mZ K C G H vd∧way.length+e+2*n≤40∧vd.length+n≤40∧kW way
theorem Place.grow{K:Fg06}{C CP sp:Addr}{H H':Hp}{ps:List Str}{L n e m:Nat}(h:Place K C CP G H sp ps L n e) (g:cQ m H H'):Place K C CP G H' sp ps (L+m) n e:=by
 obtain⟨dx,sc,vw,il,ic,way,kd,vd,h1,h2,h3,h4,h5,h6,Gf⟩:=h
 exact⟨dx,sc,vw,il,ic,way,kd,vd,g.ins h1,At.ax g.ax _ _ h2,h3.grow g,h4.grow g,h5,h6,Gf⟩
theorem Place.same{K:Fg06}{C CP sp:Addr}{H H':Hp}{ps:List Str}{L n e:Nat}(h:Place K C CP G H sp ps L n e) (s:az H H'):Place K C CP G H' sp ps L n e:=h.grow (.of s)
abbrev Tn:=D×List Str×Nat
def jI (K:Fg06) (C CP:Addr) (G:Addr→Prop) (H:Hp) (L:Nat) (t:V) (a:Tn):Prop:=∃(tp:Addr) (vr:V) (sp:Addr),t=.ref tp∧H tp=some (.tup [vr,.ref sp])∧At K H a.1 vr∧Place K C CP G H sp a.2.1 L a.2.2 0∧jX a.2.2 a.1∧cW a.1
theorem jI.grow{K:Fg06}{C CP:Addr}{H H':Hp}{L m:Nat}{t:V}{a:Tn}(h:jI K C CP G H L t a) (g:cQ m H H'):jI K C CP G H' (L+m) t a:=by
 obtain⟨tp,vr,sp,h1,h2,h3,h4,h5,h6⟩:=h
 exact⟨tp,vr,sp,h1,g.tup h2,At.ax g.ax _ _ h3,h4.grow g,h5,h6⟩
inductive TurnsAt (K:Fg06) (C CP:Addr) (G:Addr→Prop) (H:Hp) (L:Nat):List V→List Tn→Prop
 | nil:TurnsAt K C CP G H L [] []
 | cons {t ts a as}:jI K C CP G H L t a→TurnsAt K C CP G H L ts as→TurnsAt K C CP G H L (t::ts) (a::as)
section
variable{K:Fg06}{C CP:Addr}{H H':Hp}{L L' m:Nat}{ts us:List V}{as bs:List Tn}
theorem TurnsAt.len (h:TurnsAt K C CP G H L ts as):ts.length=as.length:=by
 induction h with
 | nil=>rfl
 | cons _ _ ih=>rw[CY,CY,ih]
theorem TurnsAt.append (h:TurnsAt K C CP G H L ts as) (h':TurnsAt K C CP G H L us bs):TurnsAt K C CP G H L (ts++us) (as++bs):=by
 induction h with
 | nil=>exact h'
 | cons a _ ih=>exact .cons a ih
theorem TurnsAt.grow (h:TurnsAt K C CP G H L ts as) (g:cQ m H H'):TurnsAt K C CP G H' (L+m) ts as:=by
 induction h with
 | nil=>exact .nil
 | cons a _ ih=>exact .cons (a.grow g) ih
theorem TurnsAt.same (h:TurnsAt K C CP G H L ts as) (s:az H H'):TurnsAt K C CP G H' L ts as:=h.grow (.of s)
theorem TurnsAt.rev (h:TurnsAt K C CP G H L ts as):TurnsAt K C CP G H L ts.reverse as.reverse:=by
 induction h with
 | nil=>exact .nil
 | cons a _ ih=>
  rw[List.reverse_cons,List.reverse_cons]
  exact ih.append (.cons a .nil)
theorem TurnsAt.snoc_inv{a:Tn}(h:TurnsAt K C CP G H L ts (as++[a])):∃us t,ts=us++[t]∧TurnsAt K C CP G H L us as∧jI K C CP G H L t a:=by
 induction as generalizing ts with
 | nil=>
  cases h with
  | cons x y=>
   cases y
   exact⟨[],_,rfl,.nil,x⟩
 | cons b as ih=>
  cases h with
  | cons x y=>
   obtain⟨us,t,rfl,h1,h2⟩:=ih y
   exact⟨_::us,t,rfl,.cons x h1,h2⟩
end
theorem ij.mono{K:Fg06}{C x:Addr}{H:Hp}{kd:Str}{ps:List Str}{vd:List V}{L:Nat}{G':Addr→Prop}(h:ij K C G H x kd ps vd L) (hg:∀p o,H p=some o→G p→G' p):ij K C G' H x kd ps vd L:=by
 obtain⟨dx,od,tg,dv,sd,ow,tl,Sd,h1,h2,h3,h4,h5,h6,h7,h8⟩:=h
 exact⟨dx,od,tg,dv,sd,ow,tl,Sd,h1,h2,h3,h4,h5,h6,h7,hg _ _ h3 h8⟩
theorem mZ.mono{K:Fg06}{C:Addr}{H:Hp}{vd:List V}{G':Addr→Prop}(h:mZ K C G H vd) (hg:∀p o,H p=some o→G p→G' p):mZ K C G' H vd:=fun v hv=>by
 obtain⟨x,kd,ps,GL,L,e,hs⟩:=h v hv
 exact⟨x,kd,ps,GL,_,e,hs.mono hg⟩
theorem Place.mono{K:Fg06}{C CP sp:Addr}{H:Hp}{ps:List Str}{L n e:Nat}{G':Addr→Prop}(h:Place K C CP G H sp ps L n e) (hg:∀p o,H p=some o→G p→G' p):Place K C CP G' H sp ps L n e:=by
 obtain⟨dx,sc,vw,il,ic,way,kd,vd,h1,h2,h3,h4,h5,h6,Gf⟩:=h
 exact⟨dx,sc,vw,il,ic,way,kd,vd,h1,h2,h3.mono hg,h4.mono hg,h5,h6,Gf⟩
theorem TurnsAt.mono{K:Fg06}{C CP:Addr}{H:Hp}{L:Nat}{ts:List V}{as:List Tn}{G':Addr→Prop}(h:TurnsAt K C CP G H L ts as) (hg:∀p o,H p=some o→G p→G' p):TurnsAt K C CP G' H L ts as:=by
 induction h with
 | nil=>exact .nil
 | cons a _ ih=>
  obtain⟨tp,vr,sp,h1,h2,h3,h4,h5,h6⟩:=a
  exact .cons ⟨tp,vr,sp,h1,h2,h3,h4.mono hg,h5,h6⟩ ih
theorem ij.but{K:Fg06}{C x l:Addr}{H H':Hp}{kd:Str}{ps:List Str}{vd:List V}{L:Nat}{xs:List V}(h:ij K C G H x kd ps vd L) (hB:di l H H') (hl:H l=some (.lst xs)) (hg:¬G l):ij K C G H' x kd ps vd L:=by
 obtain⟨dx,od,tg,dv,sd,ow,tl,Sd,h1,h2,h3,h4,h5,h6,h7,h8⟩:=h
 have ne:∀{p:Addr}{o:HO},H p=some o→(∀ys,o≠.lst ys)→p≠l:=fun {p o} e hn z=>by rw[z,hl] at e;cases e;exact hn _ rfl
 exact⟨dx,od,tg,dv,sd,ow,tl,Sd,hB _ _ (ne h1 (fun _ z=>by cases z)) h1,hB _ _ (ne h2 (fun _ z=>by cases z)) h2,hB _ _ (fun z=>hg (z▸h8)) h3,cq.ax (hB.ax hl) h4,hB _ _ (ne h5 (fun _ z=>by cases z)) h5,h6,h7,h8⟩
theorem Place.but{K:Fg06}{C CP sp l:Addr}{H H':Hp}{ps:List Str}{L n e:Nat}{xs:List V}(h:Place K C CP G H sp ps L n e) (hB:di l H H') (hl:H l=some (.lst xs)) (hg:¬G l):Place K C CP G H' sp ps L n e:=by
 obtain⟨dx,sc,vw,il,ic,way,kd,vd,h1,h2,h3,h4,h5,h6,Gf⟩:=h
 refine⟨dx,sc,vw,il,ic,way,kd,vd,hB _ _ (fun z=>by rw[z,hl] at h1;cases h1) h1,At.ax (hB.ax hl) _ _ h2,h3.but hB hl hg,fun v hv=>?_,h5,h6,Gf⟩
 obtain⟨x,Gu,Iv,GL,L',e',hs⟩:=h4 v hv
 exact⟨x,Gu,Iv,GL,L',e',hs.but hB hl hg⟩
theorem TurnsAt.but{K:Fg06}{C CP l:Addr}{H H':Hp}{L:Nat}{ts:List V}{as:List Tn}{xs:List V}(h:TurnsAt K C CP G H L ts as) (hB:di l H H') (hl:H l=some (.lst xs)) (hg:¬G l):TurnsAt K C CP G H' L ts as:=by
 induction h with
 | nil=>exact .nil
 | cons a _ ih=>
  obtain⟨tp,vr,sp,h1,h2,h3,h4,h5,h6⟩:=a
  exact .cons ⟨tp,vr,sp,h1,hB _ _ (fun z=>by rw[z,hl] at h2;cases h2) h2,At.ax (hB.ax hl) _ _ h3,h4.but hB hl hg,h5,h6⟩ ih
section
variable{P:Program}{w:World}{K:Fg06}{mg:Str→Option Value}{base:Heap}{f:Addr}{fd:FuncData}{C CP:Addr}
abbrev sbS (x:V) (num:Int) (sp sc:Addr) (k:Str) (il ic:Bool) (o7:Option V):L2.St:=[some x,some (.int num),some (.ref sp),some (.ref sc),some (.str k),some (.bl il),some (.bl ic),o7]
def sbIf (K:Fg06):TS:=fun E σ H=>∃(x:V) (num:Int) (sp sc:Addr) (k:Str) (r:List D) (il ic:Bool),σ=sbS x num sp sc k il ic none∧At K H (.tup (.str k::r)) x∧(k="try"→∃b cs rest,r=b::.tup cs::rest)∧∀L4 L5 o7 H',az H H'→E.nx (sbS x num sp sc k L4 L5 o7) H'
def zL (K:Fg06) (C CP:Addr):Sp:=fun vs H Q _=>∃(x:V) (num:Nat) (sp:Addr) (m n:Nat) (k:Str) (r:List D) (ps:List Str) (L:Nat) (G:Addr→Prop),vs=[x,.int (num:Nat),.ref sp]∧num≤1000000∧(∀p,H p=none→G p)∧At K H (.tup (.str k::r)) x∧(k="try"→∃b cs rest,r=b::.tup cs::rest)∧pj m (.tup (.str k::r))∧Place K C CP G H sp ps L (n+1) 0∧1000≤L∧
 ∀NH H',az H H'→Place K C CP G H' NH (cM ps (.tup (.str k::r))) L n 1→Q (.ref NH) H'
theorem lV:aW ["statement","number","spot","scope","kind","in_loop","in_catch","catches"] ["statement","number","spot"] (aE Ah):=fsX rfl rfl rfl rfl (by decide +kernel)
theorem B7 (g:fh mg) (cp:Bd K CP) (M:kX P w K mg base "Spot" CP ["self","scope","way","in_loop","in_catch"] 1 (pS CP)) (F:eX K "spot_of_block" "spot_of_block" Ah f fd) (dW:Def P w K mg base "scope_within" ["statement","scope"] 8 (zI K C)):
  bO P w K mg base fw 10 f fd ["statement","number","spot"] (zL K C CP):=by
 refine F.hV lV (fun vs H Q E h=>?_) (fun Si A outer s H vs Q E hr h=>?_)
 ·obtain⟨_,_,_,_,_,_,_,_,_,_,rfl,_⟩:=h;rfl
 obtain⟨x,num,sp,m,n,k,r,ps,L,G,rfl,KH,hG,hx,O0,EY,Ez,hL,q⟩:=h
 refine⟨_,(ah (aA (i:=3) lV.nd rfl (Or.inl rfl) (L3.aK dW hr (by decide) rfl (aa (pv 0) (aa (L3.cz (pv 2)) ae))))
   (ah (aA (i:=4) lV.nd rfl (Or.inl rfl) (aC (pv 0)))
   (ah (aA (i:=5) lV.nd rfl (Or.inl rfl) (L3.cz (pv 2)))
   (ah (aA (i:=6) lV.nd rfl (Or.inl rfl) (L3.cz (pv 2)))
   (ah (dU (t':=sbIf K) (aN (ar bq (pv 4) (aw (aa aq (aa aq ae))) rfl) (ah (aA (i:=5) lV.nd rfl (Or.inl rfl) cn)
   (aj (aA (i:=6) lV.nd rfl (Or.inl rfl) cn))) (aj (aN (ar bq (pv 4) (aw (aa aq (aa aq ae))) rfl) (aj (aA (i:=5) lV.nd rfl (Or.inl rfl) (fR (pv 5) (dw (bZ bw (pv 1) ak (aH _)))))) (aj (aN (ar bw (pv 4) aq (aH _)) (ah (aA (i:=7) lV.nd rfl (Or.inl rfl) (bG eM rfl g.uz oy (aa (aC (pv 0)) ae)))
   (ah (aA (i:=5) lV.nd rfl (Or.inl rfl) (dY (pv 5) (dw (bZ qe (pv 1) (ay eS (pv 7) ak) (aH _)))))
   (aj (aA (i:=6) lV.nd rfl (Or.inl rfl) (fR (pv 6) (dw (dY (bZ BZ (pv 1) ak (aH _)) (dw (bZ zj (pv 1) (pv 7) (aH _)))))))))) aB))))) ?i1)
   (aj (aG (L3.nO M hr (by decide) rfl (aa (pv 3) (aa (ay gC (L3.cz (pv 2)) (aw (aa (pv 1) ae))) (aa (pv 5) (aa (pv 6) ae)))))))))))),?main⟩
 case i1=>
  rintro E0 σ H0 ⟨x,num,sp,sc,k,r,il,ic,rfl,hx,O0,hq⟩
  refine⟨_,rfl,by show 2≤sizeLine;decide,fun p1 EG=>⟨p1,_,rfl,.inr (cq.of ag),rfl,rfl,_,rfl,?_⟩⟩
  have s1:=af EG (.tup [.str "def",.str "class"])
  revert s1
  generalize upd H0 p1 (.tup [.str "def",.str "class"])=H1
  intro s1
  refine aQ (fun _=>hq false false none H1 s1) (fun _=>⟨_,rfl,by show 2≤sizeLine;decide,fun p2 EC=>⟨p2,_,rfl,.inr (cq.of ag),rfl,rfl,_,rfl,?_⟩⟩)
  have s2:=s1.trans (af EC (.tup [.str "while",.str "for"]))
  revert s2
  generalize upd H1 p2 (.tup [.str "while",.str "for"])=H2
  intro s2
  refine aQ (fun _=>⟨_,rfl,_,rfl,aQ (fun _=>hq _ ic none H2 s2) (fun _=>⟨_,rfl,rfl,hq _ ic none H2 s2⟩)⟩) (fun _=>⟨_,rfl,rfl,_,rfl,?_⟩)
  rw[dF]
  by_cases c:k="try"
  ·rw[CJ c]
   obtain⟨b,cs,rest,rfl⟩:=O0 c
   refine bJ ⟨_,rfl,2,_,_,rfl,At.same s2 _ _ hx,rfl,fun yc Jc=>?_⟩
   obtain⟨pc,vc,rfl,sqc,JY⟩:=aP.mp Jc
   refine⟨pc,vc,rfl,.inr sqc,⟨_,rfl,_,rfl,aQ (fun _=>⟨_,rfl,_,rfl,_,_,rfl,rfl,rfl,?_⟩) (fun _=>?_)⟩⟩
   all_goals exact⟨_,rfl,_,rfl,aQ (fun _=>hq _ _ _ H2 s2) (fun _=>⟨_,rfl,_,_,rfl,rfl,_,rfl,aQ (fun _=>⟨_,rfl,_,rfl,_,_,rfl,rfl,hq _ _ _ H2 s2⟩) (fun _=>hq _ _ _ H2 s2)⟩)⟩
  ·rw[CI c]
   exact bg (hq il ic none H2 s2)
 case main=>
  obtain⟨dx,sc,vw,il,ic,way,kd,vd,h1,h2,h3,h4,h5,h6,Gf⟩:=Ez
  refine⟨_,rfl,_,rfl,sp,CP,dx,_,_,rfl,h1,cp.cls,cp.n1,iE ..,x,sc,m,_,kd,ps,vd,L,G,rfl,hG,hx,⟨k,r,rfl⟩,EY,h3,h4,by omega,hL,fun JG H1 Gu GL s1 g1 g2 g3=>?_⟩
  have Fq:=At.same s1 _ _ hx
  refine⟨_,rfl,0,_,_,rfl,Fq,rfl,fun yk EB=>?_⟩
  rw[av.mp EB]
  refine⟨_,rfl,sp,CP,dx,_,_,rfl,s1 _ _ h1,cp.cls,cp.n3,oB ..,?_⟩
  refine⟨_,rfl,sp,CP,dx,_,_,rfl,s1 _ _ h1,cp.cls,cp.n4,lR ..,?_⟩
  refine⟨x,(num:Nat),sp,JG,k,r,il,ic,rfl,Fq,O0,fun L4 L5 o7 H2 s2=>?_⟩
  have Fp:=s1.trans s2
  refine⟨_,rfl,_,rfl,sp,CP,dx,_,_,rfl,Fp _ _ h1,cp.cls,cp.n2,qW ..,_,rfl,by show 1≤sizeLine;decide,fun pw HQ=>?_⟩
  have a3:=af HQ (.tup [.int (num:Nat)])
  refine⟨way,[.int (num:Nat)],At.same (Fp.trans a3) _ _ h2,At.new HQ (ai.eA (bo.mpr rfl)),by show _+1≤_;exact small (by omega),fun wy H4 s4 Ko=>⟨_,rfl,_,rfl,fun xn dxn Fh Fj E2=>?_⟩⟩
  have Fg:=(Fp.trans a3).trans s4
  obtain⟨s5,c5⟩:=jc (C:=CP) Fh Fj E2
  revert s5 c5
  generalize upd (upd H4 dxn (.own xn)) xn (.ins CP dxn [])=H5
  intro s5 c5
  have hxn0:=none_of Fg Fh
  refine⟨xn,dxn,_,_,_,_,rfl,c5,fun H6 he hx6=>⟨rfl,?_⟩⟩
  have Ov:az H4 H6:=fun p o e=>by
   rw[he p (fun z=>by rw[z,Fh] at e;cases e)];exact s5 p o e
  have QY:az H1 H6:=((s2.trans a3).trans s4).trans Ov
  refine q xn H6 (Fg.trans Ov) ⟨dxn,JG,wy,L4,L5,way++[D.int (num:Nat)],Gu,GL,hx6,At.same Ov _ _ Ko,g1.same QY,g2.grow (.of QY),?_,by omega,Gf.snoc KH⟩
  rw[CK,List.length_singleton];omega
def qI (K:Fg06) (CP sc:Addr) (H:Hp) (n:Nat) (t:V) (d:D):Prop:=∃(tp:Addr) (vr:V) (sp dx:Addr) (vw:V) (il ic:Bool) (way:List D),t=.ref tp∧H tp=some (.tup [vr,.ref sp])∧At K H d vr∧H sp=some (.ins CP dx (zh (.ref sc) vw (.bl il) (.bl ic)))∧At K H (.tup way) vw∧way.length+0+2*n≤40∧kW way
theorem qI.but{H H':Hp}{sc l:Addr}{n:Nat}{t:V}{d:D}{xs:List V}(h:qI K CP sc H n t d) (hB:di l H H') (hl:H l=some (.lst xs)):qI K CP sc H' n t d:=by
 obtain⟨tp,vr,sp,dx,vw,il,ic,way,h1,h2,h3,h4,h5,h6⟩:=h
 have ne:∀{p:Addr}{o:HO},H p=some o→(∀ys,o≠.lst ys)→p≠l:=fun {p o} e hn z=>by rw[z,hl] at e;cases e;exact hn _ rfl
 have T:=hB.ax hl
 exact⟨tp,vr,sp,dx,vw,il,ic,way,h1,hB _ _ (ne h2 (fun _ z=>by cases z)) h2,At.ax T _ _ h3,hB _ _ (ne h4 (fun _ z=>by cases z)) h4,At.ax T _ _ h5,h6⟩
theorem pN{H:Hp}{L n:Nat}{ps:List Str}:∀{ts:List V}{ds:List D},ts.length=ds.length→(∀(j:Nat) (t:V) (d:D),ts[j]?=some t→ds[j]?=some d→jI K C CP G H L t (d,ps,n))→TurnsAt K C CP G H L ts (ds.map fun d=>(d,ps,n))
 | [],[],_,_=>.nil
 | [],_::_,h,_=>by cases h
 | _::_,[],h,_=>by cases h
 | t::ts,d::ds,h,h2=>.cons (h2 0 t d rfl rfl) (pN (Nat.succ.inj h) fun j t' d' e1 e2=>h2 (j+1) t' d' e1 e2)
def pT (K:Fg06) (C CP:Addr):Sp:=fun vs H Q _=>∃(x:V) (sp:Addr) (n:Nat) (ds:List D) (ps:List Str) (L:Nat) (G:Addr→Prop),vs=[x,.ref sp]∧At K H (.tup ds) x∧(∀d∈ds,jX n d∧cW d)∧ds.length≤1000∧Place K C CP G H sp ps L n 1∧
 ∀p H' ts,H p=none→az H H'→H' p=some (.lst ts)→TurnsAt K C CP G H' L ts (ds.map fun d=>(d,ps,n))→Q (.ref p) H'
theorem sO:aW ["block","spot","rows","place","statement"] ["block","spot"] (aE Ai):=fsX rfl rfl rfl rfl (by decide +kernel)
theorem Ap (g:fh mg) (cp:Bd K CP) (M:kX P w K mg base "Spot" CP ["self","scope","way","in_loop","in_catch"] 1 (pS CP)) (F:eX K "rows_of_block" "rows_of_block" Ai f fd):bO P w K mg base fw 3 f fd ["block","spot"] (pT K C CP):=by
 refine F.hV sO (fun vs H Q E h=>?_) (fun Si A outer s H vs Q E hr h=>?_)
 ·obtain⟨_,_,_,_,_,_,_,rfl,_⟩:=h;rfl
 obtain⟨x,sp,n,ds,ps,L,G,rfl,hx,bH,hl,Ez,q⟩:=h
 refine⟨_,(ah (aA (i:=2) sO.nd rfl (Or.inl rfl) (aI ae))
   (ah (bR C9 rfl (.mk (L2.gO rfl g.jY (LA.out (aa (pv 0) ae)))) (cw rfl (aU (aL (i:=3) sO.nd rfl (Or.inl rfl)) (aU (aL (i:=4) sO.nd rfl (Or.inl rfl)) bU))) (aj (ba (cj CW C3 C4 bA (pv 2) (aa (aw (aa (pv 4) (aa (L3.nO M hr (by decide) rfl (aa (L3.cz (pv 1)) (aa (ay gC (L3.cz (pv 1)) (aw (aa (pv 3) ae))) (aa (L3.cz (pv 1)) (aa (L3.cz (pv 1)) ae))))) ae))) ae)))))
   (aj (aG (pv 2))))),?main⟩
 case main=>
  obtain⟨dx,sc,vw,il,ic,way,kd,vd,h1,h2,h3,h4,h5,h6,Gf⟩:=Ez
  refine⟨by decide,fun rl E8=>?_⟩
  have s1:=af E8 (.lst [])
  have c1:upd H rl (.lst []) rl=some (.lst []):=ag
  revert s1 c1
  generalize upd H rl (.lst [])=H1
  intro s1 c1
  obtain⟨a,vx,rfl,sqx,Hy⟩:=aP.mp (At.same s1 _ _ hx)
  have lx:=Hy.len
  refine⟨_,rfl,a,rfl,⟨vx,sqx⟩,gi (K:=K) (a:=a) (m:=0) (xs:=vx) (fun i σ H'=>(∃o3 o4,σ=[some (.ref a),some (.ref sp),some (.ref rl),o3,o4])∧az H H'∧bN H1 H'∧∃ts,H' rl=some (.lst ts)∧ts.length=i∧∀(j:Nat) (t:V) (d:D),ts[j]?=some t→ds[j]?=some d→qI K CP sc H' n t d) ⟨⟨none,none,rfl⟩,s1,fun _ _ e=>e,[],c1,rfl,fun j t d e=>by simp at e⟩ (fun i σ H' _ h=>by obtain⟨_,_,st,_⟩:=h;exact cq.ax st sqx) ?_ ?_⟩
  ·rintro i v σ H2 T hv ⟨⟨o3,o4,rfl⟩,sH,sT,ts,Gb,Ex,Iy⟩ hT
   have hi:i < ds.length:=by rw[←lx];exact(CM.mp hv).1
   obtain⟨v',ED,ER⟩:=ai.get (i:=i) Hy (d:=ds[i]) (by simp[hi])
   have ev:v'=v:=by rw[hv] at ED;cases ED;rfl
   subst ev
   have hAi2:=At.ax sT _ _ ER
   have t3:=af hT (.tup [.int (0+(i:Nat)),v'])
   have HC:cq K (upd H2 T (.tup [.int (0+(i:Nat)),v'])) T [.int (0+(i:Nat)),v']:=cq.of ag
   revert t3 HC
   generalize upd H2 T (.tup [.int (0+(i:Nat)),v'])=H3
   intro t3 HC
   have Ff:=sH.trans t3
   refine⟨T,_,rfl,HC,rfl,_,_,rfl,_,_,rfl,rfl,?_⟩
   refine⟨_,rfl,.inl ⟨rfl,_,br.of (t3 _ _ Gb)⟩,_,rfl,_,rfl,sp,CP,dx,_,_,rfl,Ff _ _ h1,cp.cls,cp.n1,iE ..,_,rfl,sp,CP,dx,_,_,rfl,Ff _ _ h1,cp.cls,cp.n2,qW ..,_,rfl,by show 1≤sizeLine;decide,fun pw HQ=>?_⟩
   have t4:=af HQ (.tup [.int (0+(i:Nat))])
   refine⟨way,[.int (0+(i:Nat))],At.same (Ff.trans t4) _ _ h2,At.new HQ (ai.eA (bo.mpr rfl)),by show _+1≤_;exact small (by omega),fun wy H5 s5 Ko=>?_⟩
   have JJ:=(t3.trans t4).trans s5
   have Gs:=sH.trans JJ
   refine⟨_,rfl,sp,CP,dx,_,_,rfl,Gs _ _ h1,cp.cls,cp.n3,oB ..,_,rfl,sp,CP,dx,_,_,rfl,Gs _ _ h1,cp.cls,cp.n4,lR ..,fun xn dxn Fh Fj E2=>?_⟩
   obtain⟨s6,c6⟩:=jc (C:=CP) Fh Fj E2
   revert s6 c6
   generalize upd (upd H5 dxn (.own xn)) xn (.ins CP dxn [])=H6
   intro s6 c6
   refine⟨xn,dxn,_,_,_,_,rfl,c6,fun H7 he hx7=>⟨rfl,by show 2≤sizeLine;decide,fun pt Fw=>?_⟩⟩
   have FK:az H5 H7:=fun p o e=>by
    rw[he p (fun z=>by rw[z,Fh] at e;cases e)];exact s6 p o e
   have a8:=af Fw (.tup [v',.ref xn])
   have c8:upd H7 pt (.tup [v',.ref xn]) pt=some (.tup [v',.ref xn]):=ag
   revert a8 c8
   generalize upd H7 pt (.tup [v',.ref xn])=H8
   intro a8 c8
   have HF:=(JJ.trans FK).trans a8
   have JP:=HF _ _ Gb
   refine⟨rl,ts,.ref pt,rfl,rfl,JP,by rw[Ex];exact small (by omega),?_⟩
   have B9:=di.gL rl H8 (.lst (ts++[.ref pt]))
   refine⟨⟨_,_,rfl⟩,bh E8 (sH.trans HF),(sT.trans (.of HF)).trans (aS JP),ts++[.ref pt],ag,by rw[CK,Ex];rfl,fun j t d e1 e2=>?_⟩
   by_cases hj:j < ts.length
   ·rw[List.getElem?_append_left hj] at e1
    exact((Iy j t d e1 e2).but (.of HF) Gb).but B9 JP
   ·rw[List.getElem?_append_right (by omega)] at e1
    have h0:j - ts.length=0:=by
     cases h9:j - ts.length with
     | zero=>rfl
     | succ q'=>rw[h9] at e1;simp at e1
    rw[h0] at e1
    have et:V.ref pt=t:=by simpa using e1
    have ej:j=i:=by omega
    subst ej
    have ed:ds[j]=d:=by simpa[hi] using e2
    subst et ed
    have hwyN:kW (way++[D.int (0+(j:Nat))]):=by rw[Int.zero_add];exact Gf.snoc (by omega)
    refine qI.but (xs:=ts) ⟨pt,v',xn,dxn,wy,il,ic,way++[D.int (0+(j:Nat))],rfl,c8,At.same HF _ _ hAi2,a8 _ _ hx7,At.same (FK.trans a8) _ _ Ko,?_,hwyN⟩ B9 JP
    rw[CK,List.length_singleton];omega
  ·rintro σ H2 ⟨⟨o3,o4,rfl⟩,sH,sT,ts,Gb,Ex,Iy⟩
   rw[lx] at Ex
   refine⟨_,rfl,q rl H2 ts E8 sH Gb (pN Ex fun j t d e1 e2=>?_)⟩
   obtain⟨tp,vr,NH,LK,vw',L4,L5,way',g1,g2,g3,g4,g5,g6,g7⟩:=Iy j t d e1 e2
   have hd:=bH d (C6 e2)
   exact⟨tp,vr,NH,g1,g2,g3,⟨LK,sc,vw',L4,L5,way',kd,vd,g4,g5,h3.same sH,h4.grow (.of sH),g6,h6,g7⟩,hd.1,hd.2⟩
end
abbrev pRw:Stmt:=dz 22
variable{G:Addr→Prop}
theorem nu{k:Str}{r:List D}(h:Shape k r):∀bd∈bt (.tup (.str k::r)),∃(num:Nat) (hd:D) (b:List D),bd=.tup [.int (num:Nat),hd,.tup b]∧(hd=.aR∨∃hs,hd=.tup hs)∧num≤1000000:=by
 intro bd hb
 obtain⟨num,hd,b,e,hh⟩:=kc h bd hb
 refine⟨num,hd,b,e,hh,?_⟩
 have key:∀bd'∈bt (.tup (.str k::r)),∃n:Nat,bd'.cK 0=.int (n:Nat)∧n≤1000000:=by
  unfold bt
  split
  ·intro bd hb
   rw[Dg.mp hb];exact⟨0,rfl,by decide⟩
  ·split
   ·intro bd hb
    simp only[List.mem_cons,List.not_mem_nil,or_false] at hb
    rcases hb with rfl | rfl
    ·exact⟨0,rfl,by decide⟩
    ·exact⟨1,rfl,by decide⟩
   ·split
    ·intro bd hb
     simp only[List.mem_cons,List.not_mem_nil,or_false] at hb
     rcases hb with rfl | rfl
     ·exact⟨0,rfl,by decide⟩
     ·exact⟨1,rfl,by decide⟩
    ·split
     ·rename_i c
      obtain⟨b,cs,o,l,rfl,IG,hc,hl⟩:=h.tr c
      intro bd hb
      simp only[D.cK,D.items,List.getD_cons_succ,List.getD_cons_zero,List.mem_cons,List.mem_append] at hb
      rcases hb with rfl | hb | rfl | hb
      ·exact⟨0,rfl,by decide⟩
      ·unfold dy at hb
       obtain⟨j,hj,e⟩:=List.mem_mapIdx.mp hb
       rw[←e]
       exact⟨j+1,rfl,by omega⟩
      ·exact⟨cs.length+1,rfl,by omega⟩
      ·rcases hl with rfl | ⟨b',rfl⟩
       ·cases hb
       ·have:bd=fg (cs.length+2) .aR (.tup b'):=by simpa using hb
        rw[this]
        exact⟨cs.length+2,rfl,by omega⟩
     ·intro bd hb;cases hb
 obtain⟨n,e1,e2⟩:=key bd hb
 rw[e] at e1
 have e3:D.int (num:Nat)=D.int (n:Nat):=e1
 injection e3 with e4
 omega
theorem Al{n:Nat}{d:D}(ho:jX (n+1) d) (hx:cW d) (hn:n≤4):pj n d:=by
 intro hk
 have hl:∀{b:List D},aO d=b→b.length≤4→ja n b:=fun {b} e hb=>by
  refine ja.mk' (fun s hs=>hx.inner.1 s (by rw[e];exact hs)) (fun s hs=>ho.2 s (by rw[e];exact hs)) ?_
  have h1:cR n≤11155:=by
   match n,hn with
   | 0,_=>decide
   | 1,_=>decide
   | 2,_=>decide
   | 3,_=>decide
   | 4,_=>decide
  have:=Nat.mul_le_mul hb h1
  omega
 rcases hx with ⟨m,h⟩ | ⟨e,x,rfl,_⟩
 ·have sim:¬fZ d:=fun h=>by
   obtain⟨k,r,rfl,h1,_⟩:=h.kind
   exact h1 hk
  cases m with
  | zero=>exact(sim h).elim
  | succ m=>
   rcases h with h | ⟨z,ps,b,rfl,hp,EL,hb⟩ | ⟨z,es,b,rfl,he,Gj,hb⟩ | ⟨b,cs,o,l,rfl,_⟩ | ⟨k,t,b,o,rfl,Fe,_⟩ | ⟨z,t,b,o,rfl,_⟩
   ·exact(sim h).elim
   ·exact⟨.str z,ps,b,rfl,hl (eI (.inl rfl)) hb.1,fun _=>⟨by omega,fun p hp=>by obtain⟨z,e,rfl,_⟩:=EL p hp;exact⟨z,e,rfl⟩⟩⟩
   ·exact⟨.str z,es,b,rfl,hl (eI (.inr rfl)) hb.1,fun z=>absurd (show("class":Str)="def" from z) (by decide +kernel)⟩
   ·exact absurd (show("try":Str)="def"∨("try":Str)="class" from hk) (by decide +kernel)
   ·have hk:k="def"∨k="class":=hk
    rcases Fe with rfl | rfl<;>exact absurd hk (by decide +kernel)
   ·exact absurd (show("for":Str)="def"∨("for":Str)="class" from hk) (by decide +kernel)
 ·exact absurd (show("except":Str)="def"∨("except":Str)="class" from hk) (by decide +kernel)
section
variable{P:Program}{w:World}{K:Fg06}{mg:Str→Option Value}{base:Heap}{f:Addr}{fd:FuncData}{C CP:Addr}
def zM (K:Fg06) (C CP:Addr):Sp:=fun vs H Q _=>∃(x:V) (sp:Addr) (n:Nat) (d:D) (ps:List Str) (L:Nat) (G:Addr→Prop),vs=[x,.ref sp]∧(∀p,H p=none→G p)∧At K H d x∧jX (n+1) d∧cW d∧n≤4∧Place K C CP G H sp ps L (n+1) 0∧1000≤L∧
 ∀p H' ts,H p=none→az H H'→H' p=some (.lst ts)→TurnsAt K C CP G H' L ts ((aO d).map fun s=>(s,cM ps d,n))→Q (.ref p) H'
theorem Place.le0{sp:Addr}{H:Hp}{ps:List Str}{L n e:Nat}(h:Place K C CP G H sp ps L n e):Place K C CP G H sp ps L n 0:=by
 obtain⟨dx,sc,vw,il,ic,way,kd,vd,h1,h2,h3,h4,h5,h6⟩:=h
 exact⟨dx,sc,vw,il,ic,way,kd,vd,h1,h2,h3,h4,by omega,h6⟩
theorem ue:aW ["statement","spot","rows","number","head","block","inner"] ["statement","spot"] (aE pRw):=fsX rfl rfl rfl rfl (by decide +kernel)
abbrev rwI (K:Fg06) (C CP:Addr) (G:Addr→Prop) (H H2:Hp) (x:V) (sp rl bl:Addr) (vbs:List V) (L:Nat) (ps:List Str) (k:Str) (r:List D) (n:Nat):Nat→L2.St→Hp→Prop:=fun i σ H'=>(∃o3 o4 o5 o6,σ=[some x,some (.ref sp),some (.ref rl),o3,o4,o5,o6])∧az H H'∧bN H2 H'∧H' bl=some (.lst vbs)∧∃ts,H' rl=some (.lst ts)∧TurnsAt K C CP (fun p=>G p∧p≠rl) H' L ts ((((bt (.tup (.str k::r))).take i).flatMap cf).map fun s=>(s,cM ps (.tup (.str k::r)),n))
theorem Ca (g:fh mg) (F:eX K "rows_within" "rows_within" pRw f fd) (dB:Def P w K mg base "blocks_of" ["statement"] 2 (jN K)) (dSb:Def P w K mg base "spot_of_block" ["statement","number","spot"] 10 (zL K C CP)) (dRo:Def P w K mg base "rows_of_block" ["block","spot"] 3 (pT K C CP)):
  bO P w K mg base fw 11 f fd ["statement","spot"] (zM K C CP):=by
 refine F.hV ue (fun vs H Q E h=>?_) (fun Si A outer s H vs Q E hr h=>?_)
 ·obtain⟨_,_,_,_,_,_,_,rfl,_⟩:=h;rfl
 obtain⟨x,sp,n,d,ps,L,G,rfl,hG,hx,bH,G8,hn,Ez,hL,q⟩:=h
 refine⟨_,(ah (aA (i:=2) ue.nd rfl (Or.inl rfl) (aI ae))
   (ah (bR C9 rfl (bF (L3.aK dB hr (by decide) rfl (aa (pv 0) ae))) (cw rfl (aU (aL (i:=3) ue.nd rfl (Or.inl rfl)) (aU (aL (i:=4) ue.nd rfl (Or.inl rfl)) (aU (aL (i:=5) ue.nd rfl (Or.inl rfl)) bU)))) (ah (aA (i:=6) ue.nd rfl (Or.inl rfl) (L3.aK dSb hr (by decide) rfl (aa (pv 0) (aa (pv 3) (aa (pv 1) ae)))))
   (ah (aN (ar gc (pv 4) bj (aH _)) (aj (ba (cj CW C3 C4 bA (pv 2) (aa (aw (aa (pv 4) (aa (pv 6) ae))) ae)))) aB)
   (aj (ba (cj CW PySem.F.slot_list_extend PySem.F.type_list_extend kA (pv 2) (aa (L3.aK dRo hr (by decide) rfl (aa (pv 5) (aa (pv 6) ae))) ae)))))))
   (aj (aG (pv 2))))),?main⟩
 case main=>
  have EY:=Al bH G8 hn
  obtain⟨⟨k,r,rfl,sh⟩,Js⟩:=bH
  have HY:=G8.inner
  refine⟨by decide,fun rl E8=>?_⟩
  have s1:az H (upd H rl (.lst [])):=af E8 _
  have c1:upd H rl (.lst []) rl=some (.lst []):=ag
  revert s1 c1
  generalize upd H rl (.lst [])=H1
  intro s1 c1
  refine⟨_,rfl,x,k,r,rfl,At.same s1 _ _ hx,sh,fun bl H2 Ih s2 ⟨vbs,EW,hA⟩=>?_⟩
  have lA:=hA.len
  have c2:=s2 _ _ c1
  have nb:rl≠bl:=fun z=>by rw[z,Ih] at c1;cases c1
  have Mp:Place K C CP (fun p=>G p∧p≠rl) H sp ps L (n+1) 0:=Ez.mono fun p o e hg=>⟨hg,fun z=>by rw[z,E8] at e;cases e⟩
  have ng:¬(G rl∧rl≠rl):=fun z=>z.2 rfl
  have sum:∀i,((bt (.tup (.str k::r))).take i).flatMap cf++((bt (.tup (.str k::r))).drop i).flatMap cf=aO (.tup (.str k::r)):=fun i=>by rw[←List.flatMap_append,List.take_append_drop,gg sh]
  refine⟨bl,rfl,⟨vbs,br.of EW⟩,fo (K:=K) (a:=bl) (xs:=vbs) (rwI K C CP G H H2 x sp rl bl vbs L ps k r n) ⟨⟨none,none,none,none,rfl⟩,s1.trans s2,fun _ _ e=>e,EW,[],c2,.nil⟩ (fun i σ H' _ h=>by obtain⟨_,_,_,hb,_⟩:=h;exact br.of hb) ?_ ?_⟩
  ·rintro i v σ H' hv ⟨⟨o3,o4,o5,o6,rfl⟩,sH,sT,hb,ts,Iy,Jw⟩
   have hi:i < (bt (.tup (.str k::r))).length:=by rw[←lA];exact(CM.mp hv).1
   obtain⟨v',ED,ER⟩:=ai.get (i:=i) hA (d:=(bt (.tup (.str k::r)))[i]) (by simp[hi])
   have ev:v'=v:=by rw[hv] at ED;cases ED;rfl
   subst ev
   obtain⟨num,hd,b,ebd,Pn,KH⟩:=nu sh _ (C2 hi)
   have Ey:At K H' (.tup [.int (num:Nat),hd,.tup b]) v':=by rw[←ebd];exact At.ax sT _ _ ER
   obtain⟨pb,vb,rfl,sqb,Fb⟩:=aP.mp Ey
   obtain⟨z0,r0,rfl,Hi,Fb⟩:=aJ.mp Fb
   obtain⟨z1,r1,rfl,Gv,Fb⟩:=aJ.mp Fb
   obtain⟨z2,r2,rfl,L7,Fb⟩:=aJ.mp Fb
   cases aD.mp Fb
   have tl:((bt (.tup (.str k::r))).take (i+1)).flatMap cf=(((bt (.tup (.str k::r))).take i).flatMap cf++bW hd)++b:=by
    rw[C8,List.flatMap_append,C5 hi,ebd,List.append_assoc]
    congr 1
    simp[cf,D.cK,D.items]
   have E7:=sum (i+1)
   rw[tl] at E7
   have memb:∀s∈bW hd++b,s∈aO (.tup (.str k::r)):=fun s hs=>by
    rw[←E7,List.append_assoc,List.append_assoc,Df,←List.append_assoc,Df]
    exact .inr (.inl hs)
   have bound:=congrArg List.length E7
   rw[CK,CK,CK] at bound
   have hin22:=HY.2
   have lt:=Jw.len
   rw[CS] at lt
   rw[bo.mp Hi] at *
   refine⟨pb,_,rfl,sqb,rfl,_,_,rfl,_,_,rfl,_,_,rfl,rfl,?_⟩

   refine⟨_,rfl,_,rfl,_,rfl,x,num,sp,n,n,k,r,ps,L,_,rfl,KH,fun p hp=>⟨hG p (none_of sH hp),fun z=>by rw[z,Iy] at hp;cases hp⟩,At.same sH _ _ hx,fun e=>?_,EY,Mp.same sH,hL,fun spb H3 s3 Mm=>?_⟩
   ·obtain⟨b,cs,o,l,rfl,_⟩:=sh.tr e
    exact⟨_,_,_,rfl⟩
   have Je:=s3 _ _ Iy
   have MX:=Jw.same s3
   have Ff:=sH.trans s3
   have NP:=sT.trans (.of s3)

   have ext:∀(H4:Hp) (ws:List V),az H H4→bN H2 H4→bN H3 H4→di rl H3 H4→H4 rl=some (.lst ws)→TurnsAt K C CP (fun p=>G p∧p≠rl) H4 L ws ((((bt (.tup (.str k::r))).take i).flatMap cf++bW hd).map fun s=>(s,cM ps (.tup (.str k::r)),n))→
     A8 K "list" tf (fi 2) (cL (lP (pT K C CP) [] E0 (cL (fi 5) (cL (fi 6) gJ))) gJ) [some x,some (.ref sp),some (.ref rl),some (.int (num:Nat)),some z1,some z2,some (.ref spb)] H4 (fun _ H'=>(∃o3 o4 o5 o6,[some x,some (.ref sp),some (.ref rl),some (.int (num:Nat)),some z1,some z2,some (.ref spb)]=[some x,some (.ref sp),some (.ref rl),o3,o4,o5,o6])∧az H H'∧bN H2 H'∧H' bl=some (.lst vbs)∧∃ts,H' rl=some (.lst ts)∧TurnsAt K C CP (fun p=>G p∧p≠rl) H' L ts ((((bt (.tup (.str k::r))).take (i+1)).flatMap cf).map fun s=>(s,cM ps (.tup (.str k::r)),n))):=fun H4 ws FG sT4 sT34 B4 IB RJ=>by
    have l4:=RJ.len
    rw[CS,CK] at l4
    refine⟨_,rfl,.inl ⟨rfl,ws,br.of IB⟩,_,rfl,_,rfl,z2,spb,n,b,_,L,_,rfl,At.ax ((bN.of s3).trans sT34) _ _ L7,fun s hs=>⟨Js s (memb s (Dh _ hs)),HY.1 s (memb s (Dh _ hs))⟩,by omega,Mm.but B4 Je ng,fun p5 H5 us EV s5 h5 N5=>?_⟩
    have Gq:=s5 _ _ IB
    have l5:=N5.len
    rw[CS] at l5
    refine⟨rl,p5,ws,us,rfl,rfl,Gq,h5,by rw[l4,l5];exact small (by omega),⟨_,_,_,_,rfl⟩,bh E8 (FG.trans s5),(sT4.trans (.of s5)).trans (aS Gq),?_,_,ag,?_⟩
    ·rw[aF (Ne.symm nb)]
     exact s5 _ _ (B4 _ _ (Ne.symm nb) (s3 _ _ hb))
    ·rw[tl,List.map_append]
     exact((RJ.same s5).append N5).but (di.gL rl H5 _) Gq ng
   refine⟨_,rfl,rfl,_,rfl,?_⟩
   rcases Pn with rfl | ⟨hs,rfl⟩
   ·rw[aZ.mp Gv,show(!decide (V.aR=V.aR))=false from rfl]
    rw[aZ.mp Gv] at ext
    exact bg (ext H3 ts Ff NP (fun _ _ e=>e) (di.refl _ _) Je (by rw[show bW .aR=[] from rfl,List.append_nil];exact MX))
   ·obtain⟨ph,vh,rfl,_,_⟩:=aP.mp Gv
    rw[show(!decide (V.ref ph=V.aR))=true from rfl]
    have lh:(bW (.tup hs)).length=1:=rfl
    have mh:=memb (.tup hs) (List.mem_append_left _ (Dg.mpr rfl))
    refine bJ ⟨_,rfl,.inl ⟨rfl,ts,br.of Je⟩,_,rfl,_,rfl,by show 2≤sizeLine;decide,fun pt Fw=>?_⟩
    have a4:=af Fw (.tup [.ref ph,.ref spb])
    have c4:upd H3 pt (.tup [.ref ph,.ref spb]) pt=some (.tup [.ref ph,.ref spb]):=ag
    revert a4 c4
    generalize upd H3 pt (.tup [.ref ph,.ref spb])=H4
    intro a4 c4
    have Jd:=a4 _ _ Je
    refine⟨rl,ts,.ref pt,rfl,rfl,Jd,by rw[lt];exact small (by omega),?_⟩
    have B5:=di.gL rl H4 (.lst (ts++[.ref pt]))
    refine ext _ (ts++[.ref pt]) (bh E8 (Ff.trans a4)) ((NP.trans (.of a4)).trans (aS Jd)) ((bN.of a4).trans (aS Jd)) ((di.of a4).trans B5) ag ?_
    rw[List.map_append]
    refine((MX.same a4).append (.cons ⟨pt,.ref ph,spb,rfl,c4,At.same (s3.trans a4) _ _ Gv,(Mm.same a4).le0,Js _ mh,HY.1 _ mh⟩ .nil)).but B5 Jd ng
  ·rintro σ H' ⟨⟨o3,o4,o5,o6,rfl⟩,sH,sT,hb,ts,Iy,Jw⟩
   refine⟨_,rfl,q rl H' ts E8 sH Iy ?_⟩
   rw[lA,List.take_length,gg sh] at Jw
   exact Jw.mono fun p o _ h=>h.1
end
end GS
namespace L2
open PySem PySem.Spec PyProof.Rows PySem.Builtin PySem.Builtin.Str
section
variable{X:Cx}
def rB (K:Fg06):V→List V→Hp→VK→Prop:=fun x vs H Q=>∃l xs y,x=.ref l∧vs=[y]∧br K H l xs∧ik y=true∧xs.all ik=true∧∀n:Nat,Q (.int (n:Nat)) H
theorem wD:Bf X "list.count" (rB X.K):=by
 intro Sb s σ H x vs v us Q I rx rv h
 obtain⟨l,xs,y,rfl,rfl,hq,fy,fs,q⟩:=h
 cases rx
 obtain⟨u,rfl,ru⟩:=rv.one
 obtain⟨Se,r,pl,hz⟩:=I.list hq
 obtain⟨⟨cls,dd,data,sl⟩,ho,hc,n,hd⟩:=id pl.isList
 simp only at hc hd
 subst hc hd
 refine call_meets PySem.F.slot_list_count ⟨_,ho,rfl⟩ PySem.F.entry_list_count (PySem.F.args_list_count_2 _ _) (SeqAt.list_countAt l Se.toArray n dd sl u (qM y)) ⟨ho,fun z hz=>gR ru fy r fs z (by simpa using hz),?_⟩
 exact⟨.int _,H,I.tok _,⟨_,rfl⟩,q _⟩
def rSlQ (K:Fg06):V→Option Int→Option Int→Hp→VK→Prop:=fun x lo hi H Q=>∃a xs,x=.ref a∧cq K H a xs∧∀b H',az H H'→cq K H' b (i6 xs lo hi)→Q (.ref b) H'
theorem BE:Be X (rSlQ X.K):=by
 intro Sb s σ H x v vl vu lo hi sl Q I rx hs pl pu h
 obtain⟨a,xs,rfl,hq,q⟩:=h
 by_cases hw:HT.eY xs.length 0 lo=0∧HT.eY xs.length xs.length hi=xs.length
 ·cases rx
  obtain⟨Se,r,ht,hz⟩:=I.tuple hq
  have hlen:Se.toArray.size=xs.length:=by rw[List.size_toArray];exact r.length.symm
  refine⟨"tuple",_,PyProof.Rows.slot_tuple_getitem.lookup,ht.typeIs,?_⟩
  refine GS.fW ht hs pl pu (by rw[hlen];exact hw) ⟨.ref a,H,I,rfl,q _ H (az.refl H) ?_⟩
  have e:i6 xs lo hi=xs:=by
   unfold i6
   rw[hw.1,hw.2]
   simp
  rw[e];exact hq
 ·exact vB Sb s σ H _ v vl vu lo hi sl Q I rx hs pl pu ⟨a,xs,rfl,hq,hw,fun p hp=>q _ _ (GS.af hp _) (cq.of ag)⟩
theorem tN{xs:List V}{lo hi:Option Int}{v:V}(h:v∈i6 xs lo hi):v∈xs:=List.mem_of_mem_drop (List.mem_of_mem_take h)
end
end L2
namespace L3
open PySem PyProof.Rows L2
section
variable{X:Cx}{o i:Expr}{pos:Pos}{td ty:TE}
theorem vU (hu:X.A.units+1 < cLine) (hi:LE X i ty) (ho:LE X o td) (hm:behindInMarks .In o=false:=by rfl):LT X (.Compare i [.In] [o] pos) (tB (BB ty td)):=.mk (L2.Ac (L2.Ag hu hi.out ho.out) hm)
theorem oX (hu:X.A.units+1 < cLine) (ho:LE X o td) (hi:LE X i ty) (hs:A1 i:=by intro _ _;rfl):LE X (.Subscript o i pos) (zd td ty):=.mk (L2.oX hu ho.out hi.out hs)
theorem uo{K:Fg06}{e:Expr}{apos cpos:Pos}{to:TE}{t:TA}(hK:X.K=K) (ho:LE X o to) (ha:LA X [e] t)
  (EJ:attributeBase o "count" X.env (eval o X.env)=eval o X.env:=by rfl)
  (Ic:((backTo cpos (starEach [e] X.env)).all (fun x=>!x.1)&&(backToKw cpos (keywordEach [] X.env)).all (fun x=>x.1.isSome)
   &&decide ([e].length+([]:List Keyword).length+(if([]:List Keyword).isEmpty then 0 else 1) < 30))=true:=by rfl)
  (EZ:(apos.endLine == cpos.line)=true:=by rfl) (hs:starEach [e] X.env=(false,eval e X.env)::starEach [] X.env:=by rfl) (Fm:(backTo cpos (starEach [] X.env)).any (·.1)=false:=by rfl):
  LE X (.Call (.Attribute o "count" apos) [e] [] cpos) (A8 K "list" (rB K) to t):=by
 subst hK
 exact cj CW PySem.F.slot_list_count PySem.F.type_list_count wD ho ha EJ Ic EZ hs Fm
end
end L3
namespace GS
open PySem PyProof.Rows
open L2 hiding ak cn bj aq pv cZ ay fQ bZ dw dY fR b9 bC cI cH cm ae aa aI aw bG aV cj eF ar cB dk bQ cX bX dZ aL bU aU cw bF dm bz cU aG ba aA eD aN cu bR aB ah aj
open L3
abbrev wd:Stmt:=dz 14
abbrev pTw:Stmt:=dz 23
abbrev pIw:Stmt:=dz 24
theorem Cz:bootBuiltins "any"=some (.builtin "any"):=by decide +kernel
theorem cW.Co{d:D}(h:cW d) (hk:d.k="global"∨d.k="nonlocal"):∃xs:List Str,d=.tup [.str d.k,.tup (xs.map D.str)]∧xs.length≤2:=by
 have sim:fZ d→∃xs:List Str,d=.tup [.str d.k,.tup (xs.map D.str)]∧xs.length≤2:=fun h=>by
  rcases h with ⟨k,xs,rfl,_,hl⟩ | ⟨k,rfl,Fe⟩ | ⟨z,t,rfl,_⟩ | ⟨z,o,t,rfl,_⟩ | ⟨t,z,u,rfl,_⟩ | ⟨t,rfl,_⟩ | ⟨t,u,rfl,_⟩ | ⟨a,t,rfl,_⟩ | ⟨t,rfl,_⟩
  ·exact⟨xs,rfl,hl⟩
  ·have hk:k="global"∨k="nonlocal":=hk
   exact absurd hk (by rcases Fe with rfl | rfl | rfl<;>decide +kernel)
  all_goals (dsimp only[D.k] at hk;exact absurd hk (by decide +kernel))
 rcases h with ⟨n,h⟩ | ⟨e,x,rfl,_⟩
 ·cases n with
  | zero=>exact sim h
  | succ n=>
   rcases h with h | ⟨z,ps,b,rfl,hp,EL,hb⟩ | ⟨z,es,b,rfl,he,Gj,hb⟩ | ⟨b,cs,o,l,rfl,_⟩ | ⟨k,t,b,o,rfl,Fe,_⟩ | ⟨z,t,b,o,rfl,_⟩
   ·exact sim h
   ·dsimp only[D.k] at hk;exact absurd hk (by decide +kernel)
   ·dsimp only[D.k] at hk;exact absurd hk (by decide +kernel)
   ·dsimp only[D.k] at hk;exact absurd hk (by decide +kernel)
   ·have hk:k="global"∨k="nonlocal":=hk
    exact absurd hk (by rcases Fe with rfl | rfl<;>decide +kernel)
   ·dsimp only[D.k] at hk;exact absurd hk (by decide +kernel)
 ·dsimp only[D.k] at hk;exact absurd hk (by decide +kernel)
theorem nM:∀prm:List D,(∀p∈prm,nN p)→prm.map (fun d=>d.cK 0)=(prm.filterMap fun d=>(d.cK 0).txt).map D.str
 | [],_=>rfl
 | d::prm,h=>by
  obtain⟨z,e,rfl,_⟩:=h d C1
  rw[List.map_cons,List.filterMap_cons,nM prm fun p hp=>h p (C0 _ hp)]
  rfl
section
variable{P:Program}{w:World}{K:Fg06}{mg:Str→Option Value}{base:Heap}{f:Addr}{fd:FuncData}{C CP:Addr}
def qZ (K:Fg06) (C:Addr):Sp:=fun vs H Q _=>∃(a:Addr) (z:Str) (vd:List V) (G:Addr→Prop),vs=[.ref a,.str z]∧cq K H a vd∧mZ K C G H vd∧∀p k rest H',az H H'→H' p=some (.tup (.str k::rest))→Q (.ref p) H'
theorem rf:aW ["defs","name","out","scope"] ["defs","name"] (aE wd):=fsX rfl rfl rfl rfl (by decide +kernel)
theorem yJ (g:fh mg) (c:zv K C) (F:eX K "meaning" "meaning" wd f fd):bO P w K mg base fw 1 f fd ["defs","name"] (qZ K C):=by
 refine F.hV rf (fun vs H Q E h=>?_) (fun Si A outer s H vs Q E hr h=>?_)
 ·obtain⟨_,_,_,_,rfl,_⟩:=h;rfl
 obtain⟨a,z,vd,G,rfl,sq,Gr,q⟩:=h
 refine⟨_,(ah (bR C9 rfl (.mk (L2.gO rfl g.jY (LA.out (aa (pv 0) ae)))) (cw rfl (aU (aL (i:=2) rf.nd rfl (Or.inl rfl)) (aU (aL (i:=3) rf.nd rfl (Or.inl rfl)) bU))) (ah (aN (ar bq (pv 1) (L3.cz (pv 3)) rfl) (aj (aG (aw (aa aq (aa (pv 1) ae))))) aB)
   (aj (aN (L3.vU (mI hr) (pv 1) (L3.cz (pv 3))) (aj (aG (aw (aa aq (aa (pv 2) (aa (L3.oX (mI hr) (L3.cz (pv 3)) (pv 1)) ae)))))) aB))))
   (aj (aG (aw (aa aq (aa (pv 1) ae)))))),?main⟩
 case main=>
  have fin:∀(H1:Hp) (k:Str) (rest:List V),az H H1→∀p,H1 p=none→Q (.ref p) (upd H1 p (.tup (.str k::rest))):=fun H1 k rest s1 p hp=>q p k rest _ (s1.trans (af hp _)) ag
  refine⟨_,rfl,a,rfl,⟨vd,sq⟩,gi (K:=K) (a:=a) (m:=0) (xs:=vd) (fun i σ H'=>(∃o2 o3,σ=[some (.ref a),some (.str z),o2,o3])∧az H H') ⟨⟨none,none,rfl⟩,az.refl H⟩ (fun i σ H' _ h=>by obtain⟨_,sH⟩:=h;exact az.iG sH sq) ?_ ?_⟩
  ·rintro i x σ H2 T hx ⟨⟨o2,o3,rfl⟩,sH⟩ hT
   obtain⟨sx,kd,ps,GL,L,rfl,hs⟩:=Gr x (C6 hx)
   have t3:=af hT (.tup [.int (0+(i:Nat)),.ref sx])
   have HC:cq K (upd H2 T (.tup [.int (0+(i:Nat)),.ref sx])) T [.int (0+(i:Nat)),.ref sx]:=cq.of ag
   revert t3 HC
   generalize upd H2 T (.tup [.int (0+(i:Nat)),.ref sx])=H3
   intro t3 HC
   have Ff:=sH.trans t3
   obtain⟨dx,od,tg,dv,sd,ow,tl,Sd,h1,h2,h3,h4,h5,h6,h7,h8⟩:=hs.same Ff
   refine⟨T,_,rfl,HC,rfl,_,_,rfl,_,_,rfl,rfl,?_⟩
   refine⟨_,rfl,_,rfl,sx,C,dx,_,_,rfl,h1,c.cls,c.n3,xU ..,tg,_,rfl,.inl (br.of h3),rfl,?_,_,rfl,?_⟩
   ·rw[List.all_map,List.all_eq_true];exact fun _ _=>rfl
   refine aQ (fun _=>⟨_,rfl,by show 2≤sizeLine;decide,fun p hp=>fin H3 _ _ Ff p hp⟩) (fun _=>?_)
   refine⟨_,rfl,_,rfl,sx,C,dx,_,_,rfl,h1,c.cls,c.n2,pW ..,od,_,rfl,kf.k (k:=.inr z) h2,_,rfl,?_⟩
   refine aQ (fun e=>?_) (fun _=>⟨⟨_,_,rfl⟩,Ff⟩)
   obtain⟨y,ey⟩:=Option.isSome_iff_exists.mp e
   refine⟨_,rfl,_,rfl,sx,C,dx,_,_,rfl,h1,c.cls,c.n2,pW ..,_,rfl,od,y,rfl,?_,by show 3≤sizeLine;decide,fun p hp=>fin H3 _ _ Ff p hp⟩
   rw[←ey];exact kf.k (k:=.inr z) h2
  ·rintro σ H2 ⟨⟨o2,o3,rfl⟩,sH⟩
   exact⟨_,rfl,by show 2≤sizeLine;decide,fun p hp=>fin H2 _ _ sH p hp⟩
def zJ (K:Fg06) (C:Addr):Sp:=fun vs H Q _=>∃(k:Str) (x:V) (sc:Addr) (xs:List Str) (kd:Str) (ps:List Str) (vd:List V) (L:Nat) (G:Addr→Prop),vs=[.str k,x,.ref sc]∧At K H (.tup (xs.map D.str)) x∧ij K C G H sc kd ps vd L∧mZ K C G H vd∧
 ∀b H',az H H'→(b=false→∀z∈xs,z∉ps)→Q (.bl b) H'
theorem zT:aW ["word","names","scope","place","name"] ["word","names","scope"] (aE pTw):=fsX rfl rfl rfl rfl (by decide +kernel)
theorem B3 (g:fh mg) (c:zv K C) (F:eX K "is_told_wrong" "is_told_wrong" pTw f fd) (dM:Def P w K mg base "meaning" ["defs","name"] 1 (qZ K C)):bO P w K mg base fw 2 f fd ["word","names","scope"] (zJ K C):=by
 refine F.hV zT (fun vs H Q E h=>?_) (fun Si A outer s H vs Q E hr h=>?_)
 ·obtain⟨_,_,_,_,_,_,_,_,_,rfl,_⟩:=h;rfl
 obtain⟨k,x,sc,xs,kd,ps,vd,L,G,rfl,hx,hs,Gr,q⟩:=h
 refine⟨_,(ah (aN (ar qe (L3.cz (pv 2)) aq (aH _)) (aj (aG cn)) aB)
   (ah (bR C9 rfl (.mk (L2.gO rfl g.jY (LA.out (aa (pv 1) ae)))) (cw rfl (aU (aL (i:=3) zT.nd rfl (Or.inl rfl)) (aU (aL (i:=4) zT.nd rfl (Or.inl rfl)) bU))) (ah (aN (LW.pt (dZ (L3.vU (mI hr) (pv 4) (L3.cz (pv 2))) (cX (ar bq (pv 4) (cm BE (pv 1) cI (cH (pv 3))) rfl)))) (aj (aG cn)) aB)
   (aj (aN (LW.pt (bX (ar bw (pv 0) aq (aH _)) (bQ (ar qe (bC pz (L3.aK dM hr (by decide) rfl (aa (cm BE (L3.cz (pv 2)) (cH ak) cI) (aa (pv 4) ae))) ak (fun _ _=>rfl)) aq (aH _))))) (aj (aG cn)) aB))))
   (aj (aG cn)))),?main⟩
 case main=>
  obtain⟨dx,od,tg,dv,sd,ow,tl,Sd,h1,h2,h3,h4,h5,h6,h7,h8⟩:=hs
  obtain⟨a,vx,rfl,sqx,Hy⟩:=aP.mp hx
  have evx:=(ai.strs _ _).mp Hy
  subst evx
  refine⟨_,rfl,sc,C,dx,_,_,rfl,h1,c.cls,c.n1,sN ..,rfl,_,rfl,aQ (fun _=>q true H (az.refl H) (fun z=>by cases z)) (fun _=>?_)⟩
  refine⟨_,rfl,a,rfl,⟨_,sqx⟩,gi (K:=K) (a:=a) (m:=0) (xs:=xs.map V.str) (fun i σ H'=>(∃o3 o4,σ=[some (.str k),some (.ref a),some (.ref sc),o3,o4])∧az H H'∧∀z∈xs.take i,z∉ps) ⟨⟨none,none,rfl⟩,az.refl H,fun z hz=>by simp at hz⟩ (fun i σ H' _ h=>by obtain⟨_,sH,_⟩:=h;exact az.iG sH sqx) ?_ ?_⟩
  ·rintro i y σ H2 T hy ⟨⟨o3,o4,rfl⟩,sH,KI⟩ hT
   rw[List.getElem?_map] at hy
   obtain⟨z,hz,rfl⟩:=Option.map_eq_some_iff.mp hy
   have t3:=af hT (.tup [.int (0+(i:Nat)),.str z])
   have HC:cq K (upd H2 T (.tup [.int (0+(i:Nat)),.str z])) T [.int (0+(i:Nat)),.str z]:=cq.of ag
   revert t3 HC
   generalize upd H2 T (.tup [.int (0+(i:Nat)),.str z])=H3
   intro t3 HC
   have Ff:=sH.trans t3
   have no:∀H',az H H'→Q (.bl true) H':=fun H' s'=>q true H' s' (fun z=>by cases z)
   refine⟨T,_,rfl,HC,rfl,_,_,rfl,_,_,rfl,rfl,?_⟩
   refine⟨_,rfl,_,rfl,sc,C,dx,_,_,rfl,Ff _ _ h1,c.cls,c.n5,pV ..,sd,_,rfl,kf.k (k:=.inr z) (Ff _ _ h5),_,rfl,?_⟩
   refine aQ (fun _=>bJ (no H3 Ff)) (fun e=>?_)
   have hzp:z∉ps:=fun m=>by rw[h6 z m] at e;cases e
   refine⟨_,rfl,_,rfl,_,rfl,_,rfl,a,_,rfl,az.iG Ff sqx,fun b H4 s4 sq4=>?_⟩
   have FG:=Ff.trans s4
   refine⟨b,_,rfl,.inr sq4,rfl,?_,_,rfl,?_⟩
   ·rw[List.all_eq_true]
    intro v hv
    obtain⟨y,_,rfl⟩:=List.mem_map.mp (tN hv)
    rfl
   refine aQ (fun _=>no H4 FG) (fun _=>?_)
   have nx:∀H',az H H'→(∃o3 o4,[some (V.str k),some (.ref a),some (.ref sc),some (V.int (0+(i:Nat))),some (V.str z)]=[some (V.str k),some (V.ref a),some (V.ref sc),o3,o4])∧az H H'∧∀z∈xs.take (i+1),z∉ps:=fun H' s'=>⟨⟨_,_,rfl⟩,s',fun y hy=>by
    rw[C8,hz,Df] at hy
    rcases hy with hy | hy
    ·exact KI y hy
    ·have:y=z:=by simpa using hy
     rw[this];exact hzp⟩
   refine⟨_,rfl,rfl,_,rfl,aQ (fun _=>?_) (fun _=>bg (nx H4 FG))⟩
   refine⟨_,rfl,sc,C,dx,_,_,rfl,FG _ _ h1,c.cls,c.n4,oM ..,_,rfl,dv,_,rfl,cq.ax (.of FG) h4,fun b5 H5 s5 sq5=>⟨_,rfl,b5,z,_,G,rfl,sq5,fun v hv=>?_,fun p kk rest H6 s6 PX=>?_⟩⟩
   ·exact(Gr.grow (.of (FG.trans s5))) v (tN hv)
   have NQ:=(FG.trans s5).trans s6
   exact⟨p,_,((0:Nat):Int),.str kk,rfl,rfl,cq.of PX,fG rfl,rfl,_,rfl,aQ (fun _=>no H6 NQ) (fun _=>nx H6 NQ)⟩
  ·rintro σ H2 ⟨⟨o3,o4,rfl⟩,sH,KI⟩
   refine q false H2 sH fun _ z hz=>KI z ?_
   rw[CS,List.take_length];exact hz
def zR (K:Fg06) (C CP:Addr):Sp:=fun vs H Q _=>∃(x:V) (sp:Addr) (d:D) (ps:List Str) (L n e:Nat) (G:Addr→Prop),vs=[x,.ref sp]∧At K H d x∧cW d∧Place K C CP G H sp ps L n e∧
 ∀b H',az H H'→(b=false→d.k="global"→∀z∈ff (d.cK 1),z∉ps)→Q (.bl b) H'
theorem sf{H1:Hp}{a:Addr}{zs:List Str}{σ:L2.St}{Q:Addr→Hp→Prop}(sq:br K H1 a (zs.map V.str)) (hσ:σ[3]?=some (some (.ref a))) (hl:zs.length≤1000) (q:∀p H' (bs:List Bool),H1 p=none→az H1 H'→H' p=some (.lst (bs.map V.bl))→Q p H'):
  ∃vs:List V,(vs.length=([3]:List Nat).length∧∀(j i:Nat),([3]:List Nat)[j]?=some i→∃v,vs[j]?=some v∧σ[i]?=some (some v))∧∀D,H1 D=none→∃W:Nat→Nat→List V→Hp→Prop,(∃m,W 0 m [] (upd H1 D (.lst [])))∧∀i m ys H,W i m ys H→
   ((oA K a).stop i H∧Q D H)∨((oA K a).go i H∧∀x H' (ox:List (Option V)),ox.length=1→(oA K a).pK i H x H'→fX 0 x (ox++vs.map some) H' fun σ2 H2=>∃EN,EN.length=1∧σ2=EN++vs.map some∧iA σ2 H2 fun b H3=>
    if b=true then nc (yg fun i j=>.bl (decide (j < i))) (A8 K "list" (rB K) (fi 1) (cL (fi 0) gJ)) (tC (.int 1)) σ2 H3 fun v H4=>H4 D=some (.lst ys)∧ys.length < sizeLine∧∃m',m' < m∧W (i+1) m' (ys++[v]) (upd H4 D (.lst (ys++[v]))) else ∃m',m' < m∧W (i+1) m' ys H3):=by
 refine⟨[.ref a],⟨rfl,fun j i h=>?_⟩,fun np EF=>⟨fun i m ys H'=>m=zs.length - i∧i≤zs.length∧az H1 H'∧H' np=some (.lst ys)∧∃bs:List Bool,ys=bs.map V.bl∧bs.length=i,⟨_,rfl,Nat.zero_le _,af EF _,ag,[],rfl,rfl⟩,?_⟩⟩
 ·match j,h with
  | 0,h=>cases h;exact⟨_,rfl,hσ⟩
  | j+1,h=>simp at h
 rintro i m ys H' ⟨rfl,hi,sH,hD,bs,rfl,hb⟩
 by_cases Ex:i < zs.length
 ·refine .inr ⟨⟨_,.str zs[i],az.seq sH sq,by simp[Ex]⟩,fun x H'' ox Fn hy=>?_⟩
  obtain⟨rfl,hy⟩:=hy
  have ex:=hy _ (az.seq sH sq)
  rw[List.getElem?_map,C5 Ex] at ex
  have ev:V.str zs[i]=x:=by simpa using ex
  subst ev
  obtain⟨o,rfl⟩:∃o,ox=[o]:=by
   match ox,Fn with
   | [o],_=>exact⟨o,rfl⟩
  refine⟨[some (.str zs[i])],rfl,rfl,?_⟩
  unfold iA
  dsimp only
  rw[CQ rfl]
  have QW:=az.seq sH sq
  refine⟨_,rfl,.inl ⟨rfl,_,QW⟩,_,rfl,a,_,_,rfl,rfl,QW,rfl,?_,fun n=>?_⟩
  ·rw[List.all_map,List.all_eq_true];exact fun _ _=>rfl
  refine⟨_,_,rfl,rfl,hD,?_,zs.length - (i+1),by omega,rfl,Ex,bh EF sH,ag,bs++[decide ((1:Int) < (n:Int))],?_,?_⟩
  ·rw[CS];exact nK (by omega)
  ·rw[List.map_append];rfl
  ·rw[CK,hb];rfl
 ·have ei:i=zs.length:=by omega
  subst ei
  exact .inl ⟨⟨_,az.seq sH sq,by rw[CS];exact CN _⟩,q np H' bs EF sH hD⟩
theorem zU:aW ["row","spot","kind","names"] ["row","spot"] (aE pIw):=fsX rfl rfl rfl rfl (by decide +kernel)
theorem Cf (g:fh mg) (c:zv K C) (cp:Bd K CP) (F:eX K "is_wrong" "is_wrong" pIw f fd) (dTw:Def P w K mg base "is_told_wrong" ["word","names","scope"] 2 (zJ K C)):bO P w K mg base fw 3 f fd ["row","spot"] (zR K C CP):=by
 refine F.hV zU (fun vs H Q E h=>?_) (fun Si A outer s H vs Q E hr h=>?_)
 ·obtain⟨_,_,_,_,_,_,_,_,rfl,_⟩:=h;rfl
 obtain⟨x,sp,d,ps,L,n,e,G,rfl,hx,G8,Ez,q⟩:=h
 refine⟨_,(ah (aA (i:=2) zU.nd rfl (Or.inl rfl) (aC (pv 0)))
   (ah (aN (ar bq (pv 2) (aw (aa aq (aa aq ae))) rfl) (aj (aG (bZ qe (L3.cz (L3.cz (pv 1))) aq (aH _)))) aB)
   (ah (aN (ar bq (pv 2) (aw (aa aq (aa aq ae))) rfl) (aj (aG (.mk (L2.vY (LE.out (L3.cz (pv 1))))))) aB)
   (ah (aN (ar bw (pv 2) aq (aH _)) (aj (aG (dY (bZ wk (aC (pv 0)) bj (aH _)) (dw (.mk (L2.vY (LE.out (L3.cz (pv 1))))))))) aB)
   (ah (aN (ar bq (pv 2) (aw (aa aq (aa aq ae))) rfl) (aj (aG (L3.aK dTw hr (by decide) rfl (aa (pv 2) (aa (aC (pv 0)) (aa (L3.cz (pv 1)) ae)))))) aB)
   (ah (aN (ar bw (pv 2) aq (aH _)) (ah (aA (i:=3) zU.nd rfl (Or.inr rfl) (.mk (L2.eE (cl:=[]) (Xs:=["param"]) (Nf:=[]) (js:=[]) ?k1 rfl (LI.out (dm (aC (pv 0)))) (fun C s0 H0 fp=>LG.out (aL (i:=0) (show(["param"]:List Str).Nodup by decide +kernel) rfl (Or.inl rfl))) (fun C s0 H0 fp=>gb) (fun C s0 H0 fp=>LE.out (bC (r:=iI K) wN (pv 0) ak (fun _ _=>rfl))))))
   (aj (aG (bG (xf rfl) rfl g.nAny Cz (aa (.mk (L2.eE (cl:=[("names",s.heap.objs.size+1)]) (Xs:=["name"]) (Nf:=["names"]) (js:=[3]) ?k2 rfl (LI.out (bF (pv 3))) (fun C s0 H0 fp=>LG.out (aL (i:=0) (show(["name","names"]:List Str).Nodup by decide +kernel) rfl (Or.inl rfl))) (fun C s0 H0 fp=>gb) (fun C s0 H0 fp=>LE.out (bZ qf (L3.uo (K:=K) rfl (pv 1) (aa (pv 0) ae)) ak (aH _))))) ae))))) aB)
   (aj (aG cn)))))))),?main⟩
 case k1=>
  refine⟨rfl,by decide +kernel,rfl,by decide +kernel,fun y c h=>(by cases h),fun y hy=>?_,rfl,fun j y h=>(by simp at h)⟩
  have EI:([(".0",.local),("param",.local)]:List (Str×NameKind)).lookup y=some .cell∨([(".0",.local),("param",.local)]:List (Str×NameKind)).lookup y=some .free:=hy
  rcases EI with z | z<;>(have m:=CV z;simp at m)
 case k2=>
  refine⟨rfl,by decide +kernel,rfl,by decide +kernel,fun y c h=>?_,fun y hy=>?_,rfl,fun j y h=>?_⟩
  ·obtain⟨rfl,rfl⟩:=zo h;rfl
  ·have EI:([(".0",.local),("name",.local),("names",.cell)]:List (Str×NameKind)).lookup y=some .cell∨([(".0",.local),("name",.local),("names",.cell)]:List (Str×NameKind)).lookup y=some .free:=hy
   rcases EI with z | z
   ·have m:=CV z
    simp at m
    subst m
    exact⟨_,rfl⟩
   ·have m:=CV z
    simp at m
  ·match j,h with
   | 0,h=>cases h;exact⟨3,rfl,rfl,rfl,.inl rfl⟩
   | j+1,h=>simp at h
 case main=>
  obtain⟨dx,sc,vw,il,ic,way,kd,vd,h1,h2,h3,h4,h5,h6⟩:=Ez
  obtain⟨k,r,rfl,sh⟩:=G8.rsh
  have ek:D.k (.tup (.str k::r))=k:=rfl
  have two:∀(H1:Hp) (x1 x2:Str){A B:Hp→Prop},az H H1→(k=x1∨k=x2→∀H2,az H H2→A H2)→(¬(k=x1∨k=x2)→∀H2,az H H2→B H2)→∀p,H1 p=none→if(if false=true then !gq (.str k) [.str x1,.str x2] else gq (.str k) [.str x1,.str x2])=true then A (upd H1 p (.tup [.str x1,.str x2])) else B (upd H1 p (.tup [.str x1,.str x2])):=fun H1 x1 x2 A B s1 hA hB p hp=>by
   rw[show(if false=true then !gq (.str k) [.str x1,.str x2] else gq (.str k) [.str x1,.str x2])=decide (k∈([x1,x2]:List Str)) from jl k [x1,x2]]
   have s2:=s1.trans (af hp (.tup [.str x1,.str x2]))
   by_cases c1:k=x1∨k=x2
   ·rw[CJ (show k∈([x1,x2]:List Str) by simpa using c1)]
    exact bJ (hA c1 _ s2)
   ·rw[CI (show ¬k∈([x1,x2]:List Str) from fun m=>c1 (by simpa using m))]
    exact bg (hB c1 _ s2)
  have fin:∀(b:Bool) (H':Hp),az H H'→k≠"global"→Q (.bl b) H':=fun b H' s' hk=>q b H' s' fun _ z=>absurd z hk
  obtain⟨LK,od,tg,dv,sd,ow,tl,Sd,g1,g2,g3,g4,g5,g6,g7,g8⟩:=id h3
  refine⟨_,rfl,0,_,_,rfl,hx,rfl,fun yk EB=>?_⟩
  rw[av.mp EB]
  refine⟨_,rfl,by show 2≤sizeLine;decide,fun p1 EG=>⟨p1,_,rfl,.inr (cq.of ag),rfl,rfl,_,rfl,two H "return" "yield" (az.refl H) (fun e H1 s1=>?_) (fun _ H1 s1=>?_) p1 EG⟩⟩
  ·exact⟨_,rfl,sp,CP,dx,_,_,rfl,s1 _ _ h1,cp.cls,cp.n1,iE ..,sc,C,LK,_,_,rfl,s1 _ _ g1,c.cls,c.n1,sN ..,rfl,fin _ H1 s1 (by rcases e with rfl | rfl<;>decide +kernel)⟩
  refine⟨_,rfl,by show 2≤sizeLine;decide,fun p2 EC=>⟨p2,_,rfl,.inr (cq.of ag),rfl,rfl,_,rfl,two H1 "break" "continue" s1 (fun e H2 s2=>?_) (fun _ H2 s2=>?_) p2 EC⟩⟩
  ·exact⟨_,rfl,sp,CP,dx,_,_,rfl,s2 _ _ h1,cp.cls,cp.n3,oB ..,_,rfl,fin _ H2 s2 (by rcases e with rfl | rfl<;>decide +kernel)⟩
  refine⟨_,rfl,rfl,_,rfl,?_⟩
  rw[dF]
  by_cases c3:k="raise"
  ·rw[CJ c3]
   have ng:k≠"global":=by rw[c3];decide +kernel
   obtain⟨t,u,rfl,_⟩:=sh.ra c3
   refine bJ ⟨_,rfl,1,_,_,rfl,At.same s2 _ _ hx,rfl,fun y hy=>⟨rfl,_,rfl,?_⟩⟩
   exact aQ (fun _=>⟨_,rfl,sp,CP,dx,_,_,rfl,s2 _ _ h1,cp.cls,cp.n4,lR ..,_,rfl,fin _ H2 s2 ng⟩) (fun _=>fin _ H2 s2 ng)
  rw[CI c3]
  refine bg ⟨_,rfl,by show 2≤sizeLine;decide,fun p4 Fy=>⟨p4,_,rfl,.inr (cq.of ag),rfl,rfl,_,rfl,two H2 "global" "nonlocal" s2 (fun e H4 s4=>?_) (fun n4 H4 s4=>?_) p4 Fy⟩⟩
  ·obtain⟨xs,exs,_⟩:=G8.Co e
   rw[ek] at exs
   cases exs
   refine⟨_,rfl,_,rfl,1,_,_,rfl,At.same s4 _ _ hx,rfl,fun y hy=>⟨_,rfl,sp,CP,dx,_,_,rfl,s4 _ _ h1,cp.cls,cp.n1,iE ..,k,y,sc,xs,kd,ps,vd,L,G,rfl,hy,h3.same s4,h4.grow (.of s4),fun b H5 s5 hb=>q b H5 (s4.trans s5) fun e1 _=>?_⟩⟩
   show ∀z∈ff (.tup (xs.map D.str)),z∉ps
   rw[ia];exact hb e1
  have ng:k≠"global":=fun z=>n4 (.inl z)
  refine⟨_,rfl,rfl,_,rfl,?_⟩
  rw[dF]
  by_cases c5:k="def"
  ·rw[CJ c5]
   obtain⟨z,prm,b,rfl,Mp,EL⟩:=sh.df c5
   refine bJ ⟨_,rfl,2,_,_,rfl,At.same s4 _ _ hx,rfl,fun yp hyp=>?_⟩
   obtain⟨ap,Sh,rfl,sqp,FJ⟩:=aP.mp hyp
   refine⟨ap,rfl,⟨Sh,sqp⟩,j9 (K:=K) (a:=ap) (i0:=0) (ds:=prm) sqp FJ (fun d hd=>by obtain⟨z,e,rfl,_⟩:=EL d hd;exact⟨_,_,rfl,rfl⟩) (by omega) fun np H5 EF s5 ⟨vn,Gh,GJ⟩=>?_⟩
   have en:∃zs:List Str,prm.map (fun d=>d.cK 0)=zs.map D.str∧zs.length≤1000:=by
    exact⟨_,nM prm EL,CZ (List.length_filterMap_le ..) (by omega)⟩
   obtain⟨zs,ez,hzl⟩:=en
   rw[ez] at GJ
   have evn:=(ai.strs _ _).mp GJ
   subst evn
   refine⟨_,rfl,np,rfl,⟨_,br.of Gh⟩,sf (K:=K) (a:=np) (zs:=zs) (br.of Gh) rfl hzl fun p6 H6 bs Hb s6 PX=>?_⟩
   exact⟨p6,bs,rfl,br.of PX,fin _ H6 ((s4.trans s5).trans s6) ng⟩
  ·rw[CI c5]
   exact bg (fin false H4 s4 ng)
end
end GS
namespace PySem
section
variable{M:Model}{A:Around}{E:Value→Shared→Prop}{s:Shared}
structure Heap.jo (l:List Env) (e:Addr) (oe:Obj) (h h':Heap):Prop where
 keep:∀b o,b≠e→b∉l.filterMap (·.frame)→h.get? b=some o→h'.get? b=some o
 slot:∀b o,b≠e→h.get? b=some o→∃sl,h'.get? b=some { o with slots:=sl }
 exc:∃vs Ol T oT ts,oe.data=.fields vs∧Ol=vs.setIfInBounds 1 (.ref T)∧1 < vs.size∧h'.get? e=some (oe.mapFields (·.setIfInBounds 1 (.ref T)))∧h.objs.size≤T∧h'.get? T=some oT∧oT.data=.fields ts∧ts[3]?=some .none
theorem jd{base:Heap}{env:Env}{outer:List Env}{L e:Addr}{oe:Obj}{vs:Array Value}{head:Value}{hadNext:Bool}{Q:Unit→Shared→Prop}
  (FX:A.frames=some (env::outer)) (hl:s.heap.FunFrames base (env::outer)) (hf:env.frame=some L) (he:s.heap.get? e=some oe) (hd:oe.data=.fields vs) (hsz:1 < vs.size)
  (h:∀h',Heap.jo (env::outer) e oe s.heap h'→Q () { s with heap:=h' }):
  wpAny M A (do let a ←frameOf env;let pl ←entryPlaceOf L hadNext;let b ←EntryCells.newEntry head a .none (rawInt L) .none pl;setField (.ref e) 1 b) (fun _ s'=>wpAny M A (setFlight (.ref e) none) Q E s') E s:=by
 have hene:e∉(env::outer).filterMap (·.frame):=fun hm=>by
  obtain⟨_,o,ho,Jn⟩:=hl.mem hm
  rw[he] at ho;cases ho;exact Jn vs hd
 refine CG (wpAny_frameOf_fun FX hl hf fun h1 k1=>?_)
 refine CG (wpAny_entryPlaceOf fun pl Ez=>?_)
 unfold EntryCells.newEntry newFields
 refine CG (wpAny_newObj_type ?_ (Ez.sizeOk5 _ _ _ _ _))
 have e1:h1.get? e=some oe:=(k1.2.1 e hene).trans he
 obtain⟨tb,O1⟩:∃tb:Obj,tb={ cls:=.type "traceback",dict:=none,data:=.fields ([head,.ref L,.none,rawInt L,.none]++(if pl.isEmpty then List.replicate 6 Value.none else pl)).toArray }:=⟨_,rfl⟩
 rw[←O1]
 have tbf:tb.isFreed=false:=by rw[O1];rfl
 have e2:(h1.push tb).get? e=some oe:=CL tb e1
 refine wpAny_setField e2 hd hsz ?_
 have ne:h1.objs.size≠e:=Nat.ne_of_gt (Heap.lt_size e1)
 have d3:=Obj.data_mapFields hd (·.setIfInBounds 1 (Value.ref h1.objs.size))
 have e3:=Heap.get?_update_self (Obj.mapFields (·.setIfInBounds 1 (Value.ref h1.objs.size))) e2 (Obj.isFreed_of_fields d3)
 have t3:=(Heap.get?_update_other (h1.push tb) (Obj.mapFields (·.setIfInBounds 1 (Value.ref h1.objs.size))) (Ne.symm ne)).trans (Heap.get?_push_size h1 (o:=tb) tbf)
 unfold setFlight
 refine CG (wpAny_field e3 d3 (x:=.ref h1.objs.size) (by simp[hsz]) ?_)
 rw[CQ (show(Value.ref h1.objs.size != Value.none)=true from by simp)]
 have tbd:tb.data=.fields ([head,.ref L,.none,rawInt L,.none]++(if pl.isEmpty then List.replicate 6 Value.none else pl)).toArray:=by rw[O1]
 refine wpAny_setField t3 tbd (by simp only[List.size_toArray,List.length_append,List.length_cons,List.length_nil]<;>omega) (h _ ?_)
 have keep:∀b o,b≠e→h1.get? b=some o→(((h1.push tb).update e (Obj.mapFields (·.setIfInBounds 1 (Value.ref h1.objs.size)))).update h1.objs.size (Obj.mapFields (·.setIfInBounds 3 ((none:Option Addr).elim Value.none fun f=>rawInt f)))).get? b=some o:=fun b o hb q=>by
  rw[Heap.get?_update_other _ _ (Nat.ne_of_gt (Heap.lt_size q)),Heap.get?_update_other _ _ (Ne.symm hb)]
  exact CL _ q
 refine⟨fun b o hb hn q=>keep b o hb ((k1.2.1 b hn).trans q),fun b o hb q=>?_,vs,_,h1.objs.size,_,_,hd,rfl,hsz,?_,Nat.le_of_eq k1.1.symm,Heap.get?_update_self _ t3 (Obj.isFreed_of_fields (Obj.data_mapFields tbd _)),Obj.data_mapFields tbd _,?_⟩
 ·obtain⟨sl,q1⟩:=k1.2.2 b o q
  exact⟨sl,keep b _ hb q1⟩
 ·rw[Heap.get?_update_other _ _ ne];exact e3
 ·first | (simp;done) | (rcases Ez with rfl | ⟨_,_,_,_,_,_,_,rfl⟩<;>simp)
theorem mF{base:Heap}{env:Env}{outer:List Env}{L e:Addr}{oe:Obj}{vs:Array Value}{Q:Unit→Shared→Prop}
  (FX:A.frames=some (env::outer)) (hl:s.heap.FunFrames base (env::outer)) (hf:env.frame=some L) (he:s.heap.get? e=some oe) (hd:oe.data=.fields vs) (h1:vs[1]?=some .none)
  (h:∀h',Heap.jo (env::outer) e oe s.heap h'→Q () { s with heap:=h' }):wpAny M A (leaving env (.ref e)) Q E s:=by
 unfold leaving noteFrame
 simp only[hf]
 refine CG (CG (wpAny_field he hd h1 ?_))
 rw[CO (by decide)]
 exact jd FX hl hf he hd (Array.getElem?_eq_some_iff.mp h1).1 h
theorem nq{base:Heap}{env:Env}{outer:List Env}{L e T:Addr}{oe oT:Obj}{vs ts:Array Value}{Q:Unit→Shared→Prop}
  (FX:A.frames=some (env::outer)) (hl:s.heap.FunFrames base (env::outer)) (hf:env.frame=some L) (he:s.heap.get? e=some oe) (hd:oe.data=.fields vs) (h1:vs[1]?=some (.ref T))
  (PD:T≠e) (hT:s.heap.get? T=some oT) (KU:oT.data=.fields ts) (h3:ts[3]?=some .none)
  (h:∀h',(∃hm:Heap,(∀b,b≠T→hm.get? b=s.heap.get? b)∧hm.objs.size=s.heap.objs.size∧Heap.jo (env::outer) e oe hm h')→Q () { s with heap:=h' }):wpAny M A (leaving env (.ref e)) Q E s:=by
 unfold leaving noteFrame
 simp only[hf]
 refine CG (CG (wpAny_field he hd h1 ?_))
 rw[CQ (show(Value.ref T != Value.none)=true from by simp)]
 refine CG (wpAny_field hT KU h3 ?_)
 rw[CO (show ¬((Value.none == rawInt L)=true) from by simp[rawInt])]
 refine CG (wpAny_setField hT KU (Array.getElem?_eq_some_iff.mp h3).1 ?_)
 have other:∀b,b≠T→(s.heap.update T (Obj.mapFields (·.setIfInBounds 3 Value.none))).get? b=s.heap.get? b:=fun b hb=>Heap.get?_update_other _ _ (Ne.symm hb)
 have noRec:∀b o,s.heap.get? b=some o→(∀vs,o.data≠.fields vs)→b≠T:=fun b o hb Jn q=>by
  rw[q,hT] at hb;cases hb;exact Jn ts KU
 refine jd FX (hl.of_keeps fun b o hb Jn=>⟨o,(other b (noRec b o hb Jn)).trans hb,rfl⟩) hf ((other e (Ne.symm PD)).trans he) hd (Array.getElem?_eq_some_iff.mp h1).1 fun h' k=>h h' ⟨_,other,Heap.size_after_update ..,k⟩
end
end PySem
namespace L2
open PySem PySem.Spec PyProof.Rows
structure mY (n:Nat) (h:Heap) (H:Hp) (a:Addr) (cls:Value) (dx:Option Addr):Prop where
 up:n≤a
 free:H a=none
 ex:∃oe vs,h.get? a=some oe∧oe.cls=cls∧oe.dict=dx∧oe.data=.fields vs∧(vs[1]?=some .none∨∃T oT ts,vs[1]?=some (.ref T)∧T≠a∧n≤T∧H T=none∧h.get? T=some oT∧oT.data=.fields ts∧ts[3]?=some .none)
def xB (P:Program) (w:World):qO:=fun outer H s E e s'=>∃(a:Addr) (H':Hp) (cls:Value) (dx:Option Addr),e=.ref a∧s'.os=s.os∧AllBare s'.gens∧Un (nY outer) [] H H' s.heap s'.heap∧ji P w H' s'.heap∧mY s.heap.objs.size s'.heap H' a cls dx∧E cls dx H'
theorem tD{env:Env}{outer:List Env}{L a:Addr}{oe:Obj}{H H':Hp}{h0 h hm h':Heap}{T:Option Addr}(hf:env.frame=some L) (u:Un (nY outer) [] H H' h0 h) (hL:h0.objs.size≤L) (ha:h0.objs.size≤a) (hT:∀t,T=some t→h0.objs.size≤t)
  (km:∀b,some b≠T→hm.get? b=h.get? b) (k:Heap.jo (env::outer) a oe hm h'):Un (nY outer) [] H H' h0 h':=by
 have fr:(env::outer).filterMap (·.frame)=L::nY outer:=by
  show List.filterMap _ _=_
  rw[List.filterMap_cons,hf];rfl
 have old:∀b o,h0.get? b=some o→b≠a∧b≠L∧some b≠T:=fun b o q=>by
  have:=Heap.lt_size q
  refine⟨fun z=>?_,fun z=>?_,fun z=>?_⟩
  ·rw[z] at this;exact absurd (CT this ha) (C7 _)
  ·rw[z] at this;exact absurd (CT this hL) (C7 _)
  ·exact absurd (CT this (hT b z.symm)) (C7 _)
 refine⟨fun b o q n hb hx=>?_,fun b o q n hb hx=>?_,u.free,fun b o q hx=>?_,u.ki,u.j6,u.ko⟩
 ·obtain⟨o1,o2,o3⟩:=old b o q
  refine k.keep b o o1 (by rw[fr];intro z;rcases List.mem_cons.mp z with z | z;exact o2 z;exact hb z) ?_
  rw[km b o3];exact u.keep b o q n hb hx
 ·obtain⟨o1,o2,o3⟩:=old b o q
  obtain⟨sl,e⟩:=u.slot b o q n hb hx
  obtain⟨NJ,e'⟩:=k.slot b _ o1 (by rw[km b o3];exact e)
  exact⟨NJ,e'⟩
 ·obtain⟨o1,o2,o3⟩:=old b o q
  obtain⟨o',e⟩:=u.there b o q hx
  obtain⟨NJ,e'⟩:=k.slot b _ o1 (by rw[km b o3];exact e)
  exact⟨_,e'⟩
theorem jZ{P:Program}{w:World}{l:List Env}{a:Addr}{oe:Obj}{H':Hp}{h hm h':Heap}{T:Option Addr}(x:ji P w H' h) (ha:H' a=none) (hT:∀t,T=some t→H' t=none) (FX:∀b∈nY l,H' b=none)
  (km:∀b,some b≠T→hm.get? b=h.get? b) (k:Heap.jo l a oe hm h'):ji P w H' h':=fun b u e=>by
 refine(x b u e).lQ (fun c v hc q=>?_) (fun _ q=>q) fun _ _ q=>q
 have EM:H' c≠none:=by
  rcases hc with z | z
  ·rw[z,e];intro z;cases z
  ·rw[z];intro z;cases z
 have hcT:some c≠T:=fun z=>EM (hT c z.symm)
 refine k.keep c v (fun z=>EM (by rw[z];exact ha)) (fun z=>EM (FX c z)) ?_
 rw[km c hcT];exact q
theorem qq{n:Nat}{l:List Env}{a:Addr}{oe:Obj}{cls:Value}{dx:Option Addr}{H':Hp}{hm h':Heap}(hn:n≤a) (ha:H' a=none) (hs:∀b u,H' b=some u→b < hm.objs.size) (HV:n≤hm.objs.size) (II:a < hm.objs.size)
  (hc:oe.cls=cls) (Fj:oe.dict=dx) (k:Heap.jo l a oe hm h'):mY n h' H' a cls dx:=by
 obtain⟨vs,Ol,T,oT,ts,e1,e2,e3,e4,e5,e6,e7,e8⟩:=k.exc
 refine⟨hn,ha,_,_,e4,(Obj.cls_mapFields _ _).trans hc,?_,Obj.data_mapFields e1 _,.inr ⟨T,oT,ts,by simp[e3],fun z=>?_,CZ HV e5,?_,e6,e7,e8⟩⟩
 ·have:(oe.mapFields (·.setIfInBounds 1 (.ref T))).dict=oe.dict:=by
   unfold Obj.mapFields
   split<;>rfl
  rw[this];exact Fj
 ·rw[z] at e5;exact absurd (CT II e5) (C7 _)
 ·cases q:H' T with
  | none=>rfl
  | some u=>exact absurd (CT (hs T u q) e5) (C7 _)
theorem Inv.raises{P:Program}{w:World}{K:Fg06}{mg:Str→Option Value}{base:Heap}{N:List Str}{qual:Str}{scope:Scope}{f:Addr}{cd:Value}{A:Around}{outer:List Env}{s s':Shared}{H H':Hp}{E:XK}{Sb:List (Addr×Obj)}{σ:St}{a:Addr}{cls:Value}{dx:Option Addr}
  (I:Inv (k8 (xB P w) P w K mg base N qual scope f cd A outer s H E) Sb σ H' s') (hx:mY s.heap.objs.size s'.heap H' a cls dx) (q:E cls dx H'):(k8 (xB P w) P w K mg base N qual scope f cd A outer s H E).xe (.ref a) s':=by
 obtain⟨env,henv⟩:∃env,env=envOfC qual scope s.heap.objs.size f cd:=⟨_,rfl⟩
 show wpAny (model P w) (A.deeper (envOfC qual scope s.heap.objs.size f cd)) (leaving (envOfC qual scope s.heap.objs.size f cd) (.ref a)) (fun _ s''=>xB P w outer H s E (.ref a) s'') (fun e' s''=>xB P w outer H s E e' s'') s'
 have FX:(A.deeper (envOfC qual scope s.heap.objs.size f cd)).frames=some (envOfC qual scope s.heap.objs.size f cd::outer):=I.ok.frames
 have hl:s'.heap.FunFrames base (envOfC qual scope s.heap.objs.size f cd::outer):=I.stack
 have hf:(envOfC qual scope s.heap.objs.size f cd).frame=some s.heap.objs.size:=rfl
 have Fc:∀b∈nY (envOfC qual scope s.heap.objs.size f cd::outer),H' b=none:=fun b hb=>I.jL b hb
 have EJ:Un (nY outer) [] H H' s.heap s'.heap:=I.base
 have bH:ji P w H' s'.heap:=I.bH
 have hsz:s.heap.objs.size≤s'.heap.objs.size:=I.sz
 obtain⟨hn,ha,oe,vs,h1,h2,h3,h4,h5⟩:=hx
 have II:a < s'.heap.objs.size:=Heap.lt_size h1
 rcases h5 with h5 | ⟨T,oT,ts,k1,k2,k3,k4,k5,k6,k7⟩
 ·refine mF FX hl hf h1 h4 h5 fun h' k=>?_
  exact⟨a,H',cls,dx,rfl,I.os,I.bare,tD (T:=none) hf EJ (CN _) hn (fun t z=>by cases z) (fun b _=>rfl) k,jZ (T:=none) bH ha (fun t z=>by cases z) Fc (fun b _=>rfl) k,
   qq hn ha (fun b u e=>bH.lt e) hsz II h2 h3 k,q⟩
 ·refine nq FX hl hf h1 h4 k1 k2 k5 k6 k7 fun h' ⟨hm,m1,m2,k⟩=>?_
  have km:∀b,some b≠some T→hm.get? b=s'.heap.get? b:=fun b hb=>m1 b fun z=>hb (by rw[z])
  exact⟨a,H',cls,dx,rfl,I.os,I.bare,tD (T:=some T) hf EJ (CN _) hn (fun t z=>by cases z;exact k3) km k,jZ (T:=some T) bH ha (fun t z=>by cases z;exact k4) Fc km k,
   qq hn ha (fun b u e=>by rw[m2];exact bH.lt e) (by rw[m2];exact hsz) (by rw[m2];exact II) h2 h3 k,q⟩
theorem eX.okF{P:Program}{w:World}{K:Fg06}{mg:Str→Option Value}{base:Heap}{x qual:Str}{st:Stmt}{f:Addr}{fd:FuncData}{N ps:List Str}{k:Nat}{sp:Sp}(F:eX K x qual st f fd) (S:aW N ps (aE st)) (len:∀vs H Q E,sp vs H Q E→vs.length=ps.length)
  (Fo:∀(Si:Value) (A:Around) (outer:List Env) (s:Shared) (H:Hp) (vs:List V) (Q:VK) (E:XK),dE k (A.deeper (envOfC qual (aE st) s.heap.objs.size f Si))→sp vs H Q E→
   ∃t,L3.pJ (k8 (xB P w) P w K mg base N qual (aE st) f Si A outer s H E) (dg st) t∧t { nx:=fun _ H'=>Q .aR H',rt:=Q } (start N vs) H):bO P w K mg base (xB P w) (k+1) f fd ps sp:=by
 obtain⟨oc,od,kV,doc,pm,an,Si,ct,osl,rfl,lk,Ft⟩:=F.ex
 refine zr lk Ft S len fun A outer s H vs Q E hr Iz=>?_
 obtain⟨t,h,q⟩:=Fo Si A outer s H vs Q E hr Iz
 exact⟨t,h.out,q⟩
section
variable{prog:Program}{w:World}{A:Around}{E:Value→Shared→Prop}{h:Heap}{g:Array GenState}{d:Drawn}{t:Nat}{os:OsState}{nm q:Str}{C N:Addr}{bs bm bmB:List Value}{MM:Bool}{sn:List Str}{sub:List Value}{ab:Bool}{col:Option Bool}{dd:Option Addr}{k0 k1 k2 k3 k5:Option Value}{B Bn newId nid initId inN:String}{bmN:List Value}
theorem lK (fN:ExcBaseFacts Bn newId inN bmN) (hB:bmB.contains (.type Bn)=true) (fB:ExcBaseFacts B nid initId bmB) (ot:OwnTail h bmB bm){mN:Str→Option Value}{rest:List Value}{fI:Addr}{oI:Obj}{Q:PySem.Fin→Shared→Prop}
  (hC:h.get? C=some (excClassObj nm q C N bs bm MM sn sub ab col dd k0 k1 k2 k3 k5 newId)) (hN:h.Ns N mN) (hi:mN "__init__"=some (.ref fI)) (hf:h.get? fI=some oI) (hc:oI.cls=.type "function")
  (k:∀(h':Heap) (e:Addr),e=h.objs.size+1→h.MadeExcOf h' e (.ref C) rest→wpAny (model prog w) A (call (.ref fI) (.ref e::rest)) (fun r s'=>r=.none∧Q (.done (.ret (.ref e))) s') E { heap:=h',gens:=g,drawn:=d,toks:=t,os:=os })
  (hz:rest.length≤sizeLine):
  wpAny (model prog w) A (Builtin.«type.__call__» { pos:=.ref C::rest }) Q E { heap:=h,gens:=g,drawn:=d,toks:=t,os:=os }:=by
 unfold Builtin.«type.__call__»
 dsimp only
 refine wpAny_ite_false (by simp) ?_
 refine CG (wpAny_mroOf_exc hC ?_)
 refine wpAny_ite_false (by simp) ?_
 refine CG (wpAny_madeBy_exc hC ?_)
 dsimp only
 refine CG (CH ?_)
 refine CG (wpAny_holding (wpAny_call ?_))
 refine codeAny_call_builtin_code (Code.quiet_builtin _ fN.quiet) ?_
 refine wpAny_check_new_subU fN hB ot hC ?_
 refine codeAny_exc_new_subU fN hB fB ot hC ?_ hz
 dsimp only
 have e1:((h.push { cls:=.type "tuple",data:=.seq rest.toArray }).push { cls:=.ref C,data:=.fields #[.ref h.objs.size,.none,.none,.none,.bool false,.none] }).get? (h.objs.size+1)=some { cls:=.ref C,data:=.fields #[.ref h.objs.size,.none,.none,.none,.bool false,.none] }:=by
  have:=Heap.get?_push_size (h.push { cls:=.type "tuple",data:=.seq rest.toArray }) (o:={ cls:=.ref C,data:=.fields #[.ref h.objs.size,.none,.none,.none,.bool false,.none] }) rfl
  rwa [Heap.size_push] at this
 have kp:∀b o,h.get? b=some o→((h.push { cls:=.type "tuple",data:=.seq rest.toArray }).push { cls:=.ref C,data:=.fields #[.ref h.objs.size,.none,.none,.none,.bool false,.none] }).get? b=some o:=fun b o q=>CL _ (CL _ q)
 refine CG (CG (CG (wpAny_loadPart_at e1 (CH ?_))))
 refine wpAny_isSubtype_exc (kp _ _ hC) ?_
 refine wpAny_ite_false (by simp) ?_
 refine CG (wpAny_holding ?_)
 unfold callSpecial?
 have hN':((h.push { cls:=.type "tuple",data:=.seq rest.toArray }).push { cls:=.ref C,data:=.fields #[.ref h.objs.size,.none,.none,.none,.bool false,.none] }).Ns N mN:=by
  obtain⟨o,es,ep,ho,r⟩:=hN
  exact⟨o,es,ep,kp _ _ ho,r⟩
 refine CG (CG (CG (wpAny_loadPart_at e1 (CH ?_))))
 refine wpAny_typeLookup_tail (kp _ _ hC) hN' (ot.keeps kp) fB.mroIs fB.init.lookup ?_
 rw[hi]
 dsimp only
 refine wpAny_holding (CG ?_)
 unfold bindSpecial
 refine CG (CG (wpAny_loadPart_at (kp _ _ hf) (CH ?_)))
 rw[hc]
 refine wpAny_ite_true (by simp) (CH ?_)
 dsimp only
 refine CG (wpAny_mono (k _ (h.objs.size+1) rfl ⟨kp,Heap.get?_none_of_le (Nat.le_succ _),h.objs.size,e1,Heap.get?_none_of_le (CN _),CL _ (Heap.get?_push_size h rfl)⟩) (fun r s' z=>?_) (fun _ _ z=>z))
 obtain⟨rfl,z⟩:=z
 refine CH ?_
 dsimp only
 exact wpAny_ite_false (by simp) (CH z)
theorem uP (fN:ExcBaseFacts Bn newId inN bmN) (hB:bmB.contains (.type Bn)=true) (fB:ExcBaseFacts B nid initId bmB) (ot:OwnTail h bmB bm){mN:Str→Option Value}{rest:List Value}{fI:Addr}{oI:Obj}{Q:Value→Shared→Prop}
  (hC:h.get? C=some (excClassObj nm q C N bs bm MM sn sub ab col dd k0 k1 k2 k3 k5 newId)) (hN:h.Ns N mN) (hi:mN "__init__"=some (.ref fI)) (hf:h.get? fI=some oI) (hc:oI.cls=.type "function")
  (k:∀(h':Heap) (e:Addr),e=h.objs.size+1→h.MadeExcOf h' e (.ref C) rest→wpAny (model prog w) (A.under (.builtin "type.__call__" { pos:=.ref C::rest })) (call (.ref fI) (.ref e::rest)) (fun r s'=>r=.none∧Q (.ref e) s') E { heap:=h',gens:=g,drawn:=d,toks:=t,os:=os })
  (hz:rest.length≤sizeLine):
  wpAny (model prog w) A (call (.ref C) rest) Q E { heap:=h,gens:=g,drawn:=d,toks:=t,os:=os }:=by
 refine wpAny_call (codeAny_of_tree ?_)
 show wpAny _ _ (callAny (.ref C) { pos:=rest }) _ _ _
 unfold callAny
 dsimp only
 refine CG (wpAny_load' hC ?_)
 unfold excClassObj
 dsimp only
 unfold callAny.viaDunder
 refine CG (wpAny_specialOf (T:="type") ⟨_,hC,rfl⟩ tc_lookup ?_)
 dsimp only
 refine CG (wpAny_of_eq (tc_bind _) ?_)
 dsimp only
 refine CG (CH ?_)
 refine wpAny_ite_true (by simp) ?_
 refine CH ⟨rfl,?_⟩
 refine codeAny_call_builtin_at (b:=Builtin.«type.__call__») (Code.quiet_builtin _ (by decide +kernel)) F.entry_type_call ?_
 refine wpAny_check_type_call_sub hC ?_
 refine lK fN hB fB ot hC hN hi hf hc (fun h' e he m=>wpAny_mono (k h' e he m) (fun r s' z=>z) (fun _ _ z=>z)) hz
end
abbrev xx:List Value:=[.type "ValueError",.type "Exception",.type "BaseException",.type "object"]
section
variable{prog:Program}{w:World}{A:Around}{E:Value→Shared→Prop}{s:Shared}{K:Fg06}{x C S:Addr}{ox:Obj}{od:Option Obj}{name:Str}{v:Value}
theorem yz{R:Result→Shared→Prop}{tk:Tok}{cd:ClassData}(X:K.In s.heap) (J:PySem.W.InstAt s.heap x ox C od) (Ft:PySem.W.clsIn K C=some cd) (hm:cd.mro=.ref C::.ref S::xx) (ht:PySem.W.findIn K (.ref C) name=some none)
  (k:wpAny (model prog w) A.in1 (Builtin.ObjectAttr.storeInOwnDict (.ref x) (.ref C) (.str name tk) name v false)
   (fun fin s'=>match fin with | .done f=>R (.ok f) s' | .again c'=>c'.quiet=true∧codeAny (model prog w) A c' R s') (fun e s'=>R (.error e) s') s):
  codeAny (model prog w) A (.call (.builtin "object.__setattr__") { pos:=[.ref x,.str name tk,v] }) R s:=by
 refine codeAny_call_builtin F.store_ValueError.slot.plain F.store_ValueError.entry ?_
 have hsub:PySem.W.mroIn K C (.type "object")=some true:=by
  unfold PySem.W.mroIn
  rw[Ft]
  show(if cd.mro.isEmpty=true then none else some (cd.mro.contains (.type "object")))=some true
  rw[hm]
  simp
 have hinst:PySem.W.Looks (model prog w) s.heap (isInstance (.ref x) (.type "object")) true:=by
  unfold isInstance
  exact PySem.W.Looks.andThen (f:=fun t=>isSubtype t (.type "object")) J.type (PySem.W.looks_mroIn X hsub)
 have h1:=F.store_ValueError.kind
 have h2:=F.store_ValueError.split
 have h3:=F.store_ValueError.args (.ref x) (.str name tk) v
 refine @PySem.W.check_slot (model prog w) A.in1 _ s "object.__setattr__" "object" "__setattr__" (.ref x) [.str name tk,v] [] _ h1 h2 hinst h3 ?_
 rw[PySem.W.osa_eq,refuse_eq]
 refine CG (CG (PySem.W.Looks.here J.type (CG ?_)))
 have Mu:PySem.W.Looks (model prog w) s.heap (mroOf (.ref C)) cd.mro:=by
  show PySem.W.Looks (model prog w) s.heap (classData C >>= fun c=>pure c.mro) cd.mro
  exact PySem.W.Looks.andThen (PySem.W.looks_clsIn X Ft) PySem.W.Looks.now
 refine PySem.W.Looks.here Mu ?_
 rw[hm,refuseLoop_ref,refuseLoop_ref,F.store_ValueError.passes]
 refine CH (CG (PySem.W.Looks.here J.type (CG (PySem.W.Looks.here (PySem.W.looks_findIn X ht) ?_))))
 exact CG (CH k)
theorem yU{cd:ClassData}{vs:Array Value}{Q:Unit→Shared→Prop}(X:K.In s.heap) (hx:s.heap.get? x=some ox) (hc:ox.cls=.ref C) (MJ:ox.data=.fields vs) (MK:ox.dict=none) (hsa:PySem.W.findIn K (.ref C) "__setattr__"=some (some (.builtin "object.__setattr__")))
  (Ft:PySem.W.clsIn K C=some cd) (hm:cd.mro=.ref C::.ref S::xx) (hd:cd.hasDict=true) (ht:PySem.W.findIn K (.ref C) name=some none)
  (k:∀h' tk,h'.get? x=some { ox with dict:=some s.heap.objs.size }→h'.Ns1 s.heap.objs.size (fun y=>if y=name then some v else none)→(∀b o,b≠x→s.heap.get? b=some o→h'.get? b=some o)→Q () { s with heap:=h',toks:=tk }):
  wpAny (model prog w) A (setAttr (.ref x) name v) Q E s:=by
 have J:PySem.W.InstAt s.heap x ox C none:=⟨hx,hc,by unfold PySem.W.notCls;rw[MJ],by rw[MK];trivial⟩
 refine PySem.W.set_plain X J hsa (yz (s:={ s with toks:=s.toks+1 }) X J Ft hm ht ?_)
 unfold Builtin.ObjectAttr.storeInOwnDict
 rw[show ownStreamTells (.ref x) (.ref C)=pure () from rfl]
 refine CG (CH ?_)
 refine wpAny_ite_false (by simp) ?_
 refine CG ?_
 unfold Builtin.ObjectAttr.ownDictForStores instanceDict
 dsimp only
 refine CG (wpAny_loadPart (s:={ s with toks:=s.toks+1 }) hx ?_)
 rw[hc]
 dsimp only
 refine CG (PySem.W.Looks.here (s:={ s with toks:=s.toks+1 }) (PySem.W.looks_clsIn X Ft) ?_)
 rw[hd]
 refine wpAny_ite_false (by simp) ?_
 rw[MK]
 dsimp only
 refine wpAny_ite_false (by simp[typeHasDict]) ?_
 rw[MJ]
 dsimp only
 obtain⟨hp,gn,dr,tk,os⟩:=s
 have hxl:x < hp.objs.size:=Heap.lt_size hx
 refine CG (wpAny_alloc' ?_)
 have Fq:(hp.push { cls:=.type "dict",data:=.dict #[] }).get? x=some ox:=CL _ hx
 refine CG (wpAny_update' Fq ?_)
 refine CH ?_
 dsimp only
 have Rq:hp.objs.size≠x:=(Dc hxl).symm
 have e0:((hp.push { cls:=.type "dict",data:=.dict #[] }).update x fun o=>{ cls:=o.cls,dict:=some hp.objs.size,data:=o.data,slots:=o.slots }).get? hp.objs.size=some { cls:=.type "dict",data:=.dict #[] }:=by
  rw[Heap.get?_update_ne _ _ _ _ Rq]
  exact Heap.get?_push_size hp rfl
 have e1:((hp.push { cls:=.type "dict",data:=.dict #[] }).update x fun o=>{ cls:=o.cls,dict:=some hp.objs.size,data:=o.data,slots:=o.slots }).get? x=some { ox with dict:=some hp.objs.size }:=by
  refine Heap.get?_update_self _ Fq ?_
  show Obj.isFreed ⟨ox.cls,some hp.objs.size,ox.data,ox.slots⟩=false
  rw[MJ]
  rfl
 have n0:((hp.push { cls:=.type "dict",data:=.dict #[] }).update x fun o=>{ cls:=o.cls,dict:=some hp.objs.size,data:=o.data,slots:=o.slots }).Ns1 hp.objs.size (fun _=>none):=
  Heap.Ns1.of_empty ⟨_,#[],_,e0,rfl,(fun e he=>absurd he (by simp)),fun _=>rfl⟩
 unfold Builtin.ObjectAttr.storeInDict Builtin.ObjectAttr.newKeyGuard
 refine CG (CH (CG ?_))
 refine wpAny_nsSet1 n0 fun h' KJ FU=>?_
 obtain⟨oD,esD,epD,Pa,Pu,Py⟩:=KJ.count (PySem.Within.cons name v PySem.Within.nil)
 refine CG (wpAny_lookBehind Pa (by rw[Pu];exact pastItsLine_dict (CZ Py (by rw[sizeLine_eq];simp))) ?_)
 refine CH (k h' _ ?_ KJ fun b o hb q=>?_)
 ·rw[FU.2 x Rq.symm];exact e1
 ·have Hc:b≠hp.objs.size:=Dc (Heap.lt_size q)
  rw[FU.2 b Hc,Heap.get?_update_ne _ _ _ _ hb]
  exact CL _ q
end
def strKeyed (es:Array DictEntry):Bool:=es.toList.all fun e=>match e.key with | .str _ _=>true | _=>false
theorem pQ{es:Array DictEntry}(h:strKeyed es=true):StrKeys es:=fun e he=>by
 have:=List.all_eq_true.mp h e (Array.mem_toList_iff.mpr he)
 revert this
 cases hk:e.key<;>intro this<;>first | exact⟨_,_,rfl⟩ | cases this
def NsK (K:Fg06) (N:Addr):Prop:=∃oc od es ep osl,K.lookup N=some ⟨oc,od,.dict es ep,osl⟩∧strKeyed es=true
theorem NsK.ns{K:Fg06}{N:Addr}(x:NsK K N){h:Heap}(X:K.In h):∃mN,h.Ns N mN∧∀n v,PySem.W.nsIn K N n=some v→mN n=v:=by
 obtain⟨oc,od,es,ep,osl,a,b⟩:=x
 refine⟨nsFind es,⟨_,es,ep,X _ _ a,rfl,pQ b,fun _=>rfl⟩,fun n v e=>?_⟩
 unfold PySem.W.nsIn at e
 rw[a] at e
 dsimp only at e
 unfold nsFind findBy
 rw[←Array.find?_toList]
 split at e
 ·rename_i y q
  have q':List.find? (fun e=>e.key.isStr n) es.toList=some y:=q
  rw[q']
  exact Option.some.inj e
 ·rename_i q
  have q':List.find? (fun e=>e.key.isStr n) es.toList=none:=q
  rw[q']
  split at e
  ·cases e
  ·exact Option.some.inj e
structure gW (K:Fg06) (C S fI:Addr):Prop where
 obj:∃nm q N bs sn sub ab col dd k0 k1 k2 k3 k5,K.lookup C=some (excClassObj nm q C N bs (.ref S::xx) true sn sub ab col dd k0 k1 k2 k3 k5 "ValueError.__new__")∧NsK K N∧PySem.W.nsIn K N "__init__"=some (some (.ref fI))
 base:∃c0 dS cdS slS,K.lookup S=some ⟨c0,dS,.cls cdS,slS⟩∧NsK K cdS.ns∧PySem.W.nsIn K cdS.ns "__init__"=some none
 sa:PySem.W.findIn K (.ref C) "__setattr__"=some (some (.builtin "object.__setattr__"))
 fn:∃oI,K.lookup fI=some oI∧oI.cls=.type "function"
 kp:PySem.W.keepIn K (.ref C)=true
structure qK (K:Fg06) (S:Addr):Prop where
 ga:PySem.W.specialIn K (.ref S) "__getattribute__"=some (some (.builtin "type.__getattribute__"))
 rd:PySem.W.readsIn K S (.type "type")=true
 fc:PySem.W.findCls K (.ref S) (.type "type") "__init__"=some (.val (.builtin "ValueError.__init__"))
theorem excK_mk{K:Fg06}{C S fI N:Addr}{nm q:Str}{bs:List Value} {sn sub ab col dd k0 k1 k2 k3 k5}{oI:Obj} {oc od es ep osl c0 dS cdS slS ON Kh LJ Ny Kf}(a:K.lookup C=some (excClassObj nm q C N bs (.ref S::xx) true sn sub ab col dd k0 k1 k2 k3 k5 "ValueError.__new__"))
  (b:K.lookup N=some ⟨oc,od,.dict es ep,osl⟩) (b2:strKeyed es=true)
  (c:PySem.W.nsIn K N "__init__"=some (some (.ref fI))) (d:K.lookup S=some ⟨c0,dS,.cls cdS,slS⟩) (d2:K.lookup cdS.ns=some ⟨ON,Kh,.dict LJ Ny,Kf⟩) (d3:strKeyed LJ=true) (d4:PySem.W.nsIn K cdS.ns "__init__"=some none)
  (e:PySem.W.findIn K (.ref C) "__setattr__"=some (some (.builtin "object.__setattr__"))) (f:K.lookup fI=some oI) (g:oI.cls=.type "function") (kp:PySem.W.keepIn K (.ref C)=true):gW K C S fI:=
 ⟨⟨nm,q,N,bs,sn,sub,ab,col,dd,k0,k1,k2,k3,k5,a,⟨_,_,_,_,_,b,b2⟩,c⟩,⟨_,_,_,_,d,⟨_,_,_,_,_,d2,d3⟩,d4⟩,e,⟨oI,f,g⟩,kp⟩
theorem gW.own{K:Fg06}{C S fI:Addr}(T:gW K C S fI){h:Heap}(X:K.In h):∃nm q N bs sn sub ab col dd k0 k1 k2 k3 k5 mN oI,h.get? C=some (excClassObj nm q C N bs (.ref S::xx) true sn sub ab col dd k0 k1 k2 k3 k5 "ValueError.__new__")∧h.Ns N mN∧mN "__init__"=some (.ref fI)∧h.get? fI=some oI∧oI.cls=.type "function":=by
 obtain⟨nm,q,N,bs,sn,sub,ab,col,dd,k0,k1,k2,k3,k5,a,b,c⟩:=T.obj
 obtain⟨oI,f1,f2⟩:=T.fn
 obtain⟨mN,n1,n2⟩:=b.ns X
 exact⟨nm,q,N,bs,sn,sub,ab,col,dd,k0,k1,k2,k3,k5,mN,oI,X _ _ a,n1,n2 _ _ c,X _ _ f1,f2⟩
theorem gW.tail{K:Fg06}{C S fI:Addr}(T:gW K C S fI){h:Heap}(X:K.In h):OwnTail h xx (.ref S::xx):=by
 obtain⟨c0,dS,cdS,slS,a,b,c⟩:=T.base
 obtain⟨mN,n1,n2⟩:=b.ns X
 exact .own (X _ _ a) n1 (n2 _ _ c) .base
theorem gW.cls{K:Fg06}{C S fI:Addr}(T:gW K C S fI):∃cd,PySem.W.clsIn K C=some cd∧cd.mro=.ref C::.ref S::xx∧cd.hasDict=true:=by
 obtain⟨nm,q,N,bs,sn,sub,ab,col,dd,k0,k1,k2,k3,k5,a,b,c⟩:=T.obj
 unfold PySem.W.clsIn
 rw[a]
 exact⟨_,rfl,rfl,rfl⟩
def ExcAt (e C:Addr) (dx:Option Addr):Heap→Prop:=fun h=>∃oe vs,h.get? e=some oe∧oe.cls=.ref C∧oe.dict=dx∧oe.data=.fields vs∧vs.size=6∧vs[1]?=some .none
theorem mO{P:Program}{w:World}{H:Hp}{h:Heap}{e C:Addr}{dx:Option Addr}(x:ExcAt e C dx h):dG P w H h e (.ext (ExcAt e C dx)):=by
 refine⟨x,?_,?_⟩
 ·obtain⟨oe,_,h1,_⟩:=x
  exact⟨oe,h1⟩
 ·rintro h1 h2 ⟨oe,vs,a1,a⟩ k
  exact⟨oe,vs,k oe a1,a⟩
section
variable{X:Cx}{CX:qO}{k:Nat}{f C S:Addr}{fd:FuncData}{ps:List Str}{sp:Sp}{x:Str}{p pos apos:Pos}{e:Expr}{es:List Expr}{t:TA}
end
theorem zy{H:Hp}{a:Addr}{o:HO}(h:H a=some o):upd H a o=H:=by
 funext b
 unfold upd
 split
 ·rename_i z;rw[z,h]
 ·rfl
section
variable{X:Cx}{k:Nat}{f C S:Addr}{x:Str}{p pos apos:Pos}{e:Expr}{es:List Expr}{t:TA}
theorem uF{Sb:List (Addr×Obj)}{σ:St}{H:Hp}{s:Shared}{Q:Value→Shared→Prop}{a:Addr}{u:Value}(T:gW X.K C S f) (I:Inv X Sb σ H s) (ha:H a=some (.ext (ExcAt a C none)))
  (q:∀s',Inv X Sb σ H s'→Q .none s'):wpAny (model X.prog X.w) X.A (call (.builtin "ValueError.__init__") [.ref a,u]) Q X.xe s:=by
 obtain⟨nm,qn,N,bs,sn,sub,ab,col,dd,k0,k1,k2,k3,k5,mN,oI,h1,h2,h3,h4,h5⟩:=T.own I.kQ
 obtain⟨⟨oe,vs,e1,e2,e3,e4,e5,e6⟩,_⟩:=I.bH a _ ha
 obtain⟨hp,gn,dr,tk,os⟩:=s
 obtain⟨oc,od,odt,osl⟩:=oe
 dsimp only at e2 e3 e4
 subst e2 e3 e4
 have fV:=_root_.PySem.F.excBase_ValueError
 refine wpAny_call (codeAny_call_builtin (id:="ValueError.__init__") fV.init.plain fV.initEntry ?_)
 refine @wpAny_check_init_subU X.A.in1 _ hp gn dr tk os nm qn C N bs (.ref S::xx) xx true sn sub ab col dd k0 k1 k2 k3 k5 "ValueError" "ValueError.__new__" "ValueError.__new__" "ValueError.__init__" fV (T.tail I.kQ) _ a _ [u] _ h1 e1 rfl ?_
 unfold Builtin.«BaseException.__init__»
 dsimp only
 refine wpAny_ite_false (by simp) ?_
 refine CG (wpAny_newTuple ?_ (by show 1≤sizeLine;decide))
 have II:a < hp.objs.size:=Heap.lt_size e1
 have g1:(hp.push { cls:=.type "tuple",data:=.seq [u].toArray }).get? a=some ⟨.ref C,none,.fields vs,osl⟩:=CL _ e1
 have v0:∃z,vs[0]?=some z:=⟨vs[0]'(by omega),by simp⟩
 obtain⟨z,v0⟩:=v0
 unfold Builtin.BaseException.bexcPut
 refine CG (CG (wpAny_field g1 rfl v0 (CG (wpAny_setField g1 rfl (by omega) ?_))))
 have I2:∀Lm,Inv X Sb σ H ⟨(hp.push { cls:=.type "tuple",data:=.seq [u].toArray }).update a (Obj.mapFields fun y=>y.setIfInBounds 0 (.ref hp.objs.size)),gn,dr,Lm,os⟩:=fun Lm=>by
  have:=I.write (x:=a) (e:=a) (o:=.ext (ExcAt a C none)) (t':=Lm) (h':=(hp.push { cls:=.type "tuple",data:=.seq [u].toArray }).update a (Obj.mapFields fun y=>y.setIfInBounds 0 (.ref hp.objs.size))) (by rw[ha];trivial) (.inl rfl)
   (fun b o hb q=>by rw[Heap.get?_update_ne _ _ _ _ hb];exact CL _ q) ⟨_,Heap.get?_update_self _ g1 rfl⟩ (mO ⟨_,vs.setIfInBounds 0 (.ref hp.objs.size),Heap.get?_update_self _ g1 rfl,?_,?_,?_,?_,?_⟩)
  ·rw[zy ha] at this;exact this
  ·rfl
  ·rfl
  ·rfl
  ·simpa using e5
  ·simpa using e6
 cases z with
 | ref b=>exact wpAny_letGo (CH (q _ (I2 _)))
 | _=>exact CH (CH (q _ (I2 _)))
def tBI (C:Addr) (t:TA):TE:=fun σ H Q=>t σ H fun vs H1=>∃a y,vs=[.ref a,y]∧H1 a=some (.ext (ExcAt a C none))∧Q .aR H1
theorem iK{pl:Sem Bool}(T:gW X.K C S f) (B:qK X.K S) (hg:Gl X x) (hm:X.mg x=some (.ref S)) (ha:PA X (e::es) t) (E9:(x == ("__debug__":Str))=false:=by decide)
  (EE:starEach (e::es) X.env=(false,eval e X.env)::starEach es X.env:=by rfl) (Ez:(backTo pos (starEach es X.env)).any (·.1)=false:=by rfl)
  (ht:eval (.Call (.Attribute (.Name x p) "__init__" apos) (e::es) [] pos) X.env=(do
   let ov ←eval (.Name x p) X.env
   standAt apos.atName
   let (f,first) ←holding [ov] (getMethod ov "__init__" pl)
   callWith pos f first (backTo pos (starEach (e::es) X.env)) (backToKw pos (keywordEach [] X.env))):=by rfl):
  PE X (.Call (.Attribute (.Name x p) "__init__" apos) (e::es) [] pos) (tBI C t):=by
 intro Sb s σ H Q I h
 refine PySem.W.methodCall_KW (pl:=pl) (j0 I hg hm ?_ E9) ht
 refine PySem.W.method_cls I.kQ B.ga (PySem.W.cls_value I.kQ B.rd B.fc rfl ?_)
 have I1:=I.tok (s.toks+1)
 have hA:=ha pos Sb _ σ H _ I1 h
 show wpAny _ _ (callWith pos (.builtin "ValueError.__init__") [] (backTo pos (starEach (e::es) X.env)) []) _ _ _
 rw[EE] at hA ⊢
 refine Calls.callWith_builtin (by show(false||(backTo pos (starEach es X.env)).any (·.1))=false;rw[Ez]<;>rfl) (Calls.evalArgs_plain ?_)
 refine cx hA fun us s2 zq=>?_
 obtain⟨vs,H2,I2,r2,a,y,ev,ea,q2⟩:=zq
 subst ev
 obtain⟨u1,u2,eu,r3,r4⟩:=vals2 r2
 subst eu
 cases r3
 exact uF T I2 ea fun s' I3=>⟨.aR,H2,I3,rfl,q2⟩
end
section
variable{X:Cx}{k:Nat}{f C S:Addr}{x:Str}{p pos pos' apos:Pos}{e o value:Expr}{es:List Expr}{t:TA}{ta tv te:TE}
theorem Inv.AJ{Sb:List (Addr×Obj)}{σ:St}{H:Hp}{s:Shared}{a dx:Addr}{h':Heap}{tk:Nat}{fs:List (Str×V)}{mA:Str→Option Value}(I:Inv X Sb σ H s) (ha:H a=some (.ext (ExcAt a C none))) (Fj:s.heap.objs.size≤dx)
  (ne:∀b o,b≠a→s.heap.get? b=some o→h'.get? b=some o) (ok:ExcAt a C (some dx) h') (ns:h'.Ns1 dx mA) (r:∀g,gw (fs.lookup g) (mA g)):
  Inv X Sb σ (upd (upd H dx (.xd fs)) a (.ext (ExcAt a C (some dx)))) { s with heap:=h',toks:=tk }:=by
 have Pp:H dx=none:=I.bH.fresh Fj
 have nda:dx≠a:=fun z=>by rw[z,ha] at Pp;cases Pp
 have hb:∀b o,s.heap.get? b=some o→b≠dx:=fun b o q z=>by
  rw[z] at q
  exact absurd (CT (Heap.lt_size q) Fj) (C7 _)
 have Pd:∀b,H b=none→b≠a:=fun b q z=>by rw[z,ha] at q;cases q
 have up:∀b u,H b=some u→b≠a→upd (upd H dx (.xd fs)) a (.ext (ExcAt a C (some dx))) b=some u:=fun b u q z=>by
  rw[aF z,aF (cC q Pp)]
  exact q
 obtain⟨oa,va,a1,_⟩:=ok
 refine I.un (t':=tk) ⟨fun b ob q n _ _=>ne b ob (Pd b n) q,fun b ob q n _ _=>⟨ob.slots,ne b ob (Pd b n) q⟩,fun b ob q n _=>?_,fun b ob q _=>?_,fun b xs q=>up b _ q fun z=>?_,fun b ob u q=>up b _ q fun z=>?_,fun b ps q=>⟨#[],?_⟩⟩ fun b u q=>?_
 ·rw[aF (Pd b n),aF (hb b ob q)];exact n
 ·by_cases z:b=a
  ·rw[z];exact⟨oa,a1⟩
  ·exact⟨ob,ne b ob z q⟩
 ·rw[z,ha] at q;cases q
 ·rw[z,ha] at q;cases q
 ·have z:b≠a:=fun z=>by rw[z,ha] at q;cases q
  rw[up b _ q z];simp
 ·by_cases z:b=a
  ·subst z
   rw[ag] at q
   cases q
   exact mO ⟨oa,va,a1,by assumption⟩
  ·rw[aF z] at q
   by_cases z2:b=dx
   ·subst z2
    rw[ag] at q
    cases q
    exact⟨mA,ns,r⟩
   ·rw[aF z2] at q
    refine(I.bH b u q).lQ (fun c v hc w=>ne c v (fun z3=>?_) w) (fun c w=>up c _ w fun z3=>?_) fun c xs w=>up c _ w fun z3=>?_
    ·rcases hc with hc | hc
     ·exact z (hc.symm.trans z3)
     ·rw[z3,ha] at hc;cases hc
    ·rw[z3,ha] at w;cases w
    ·rw[z3,ha] at w;cases w
def BN (C:Addr) (g:Str) (ta tv:TE):TS:=fun D σ H=>tv σ H fun y H1=>ta σ H1 fun x H2=>∃a,x=.ref a∧H2 a=some (.ext (ExcAt a C none))∧∀dx,H2 dx=none→D.nx σ (upd (upd H2 dx (.xd [(g,y)])) a (.ext (ExcAt a C (some dx))))
theorem ky{g:Str}(T:gW X.K C S f) (hn:PySem.W.findIn X.K (.ref C) g=some none) (ha:PE X o ta) (hv:PE X value tv) (hs:swapsWith value (some (.Attribute o g pos')) pos.line X.env=pure false:=by rfl):PS X (.Assign [.Attribute o g pos'] value pos) (BN C g ta tv):=by
 intro Sb s σ H D I h
 refine plainObj_wpAny_Assign_Attribute (cx (hv Sb s σ H _ I h) fun u s1 ⟨y,H1,I1,ry,q⟩=>cx (ha Sb s1 σ H1 _ I1 q) fun ov s2 zq=>?_) hs
 obtain⟨x,H2,I2,rx,a,ex,ea,q2⟩:=zq
 subst ex
 obtain rfl:ov=Value.ref a:=rx
 obtain⟨⟨oe,vs,e1,e2,e3,e4,e5,e6⟩,_⟩:=I2.bH a _ ea
 obtain⟨cd,c1,c2,c3⟩:=T.cls
 refine yU I2.kQ e1 e2 e4 e3 T.sa c1 c2 c3 hn fun h' tk k1 k2 k3=>?_
 refine⟨σ,_,I2.AJ (fs:=[(g,y)]) ea (CN _) k3 ⟨_,vs,k1,e2,rfl,e4,e5,e6⟩ k2 (fun z=>?_),q2 _ (I2.bH.fresh (CN _))⟩
 show gw (List.lookup z [(g,y)]) (if z=g then some u else none)
 by_cases hz:z=g
 ·subst hz
  simp[List.lookup,gw,ry]
 ·have:(z == g)=false:=by simpa using hz
  simp[List.lookup,this,gw,hz]
def without (H:Hp) (a:Addr):Hp:=fun b=>if b=a then none else H b
theorem gX{H:Hp}{a:Addr}:without H a a=none:=CQ rfl
theorem gY{H:Hp}{a b:Addr}(h:b≠a):without H a b=H b:=CO h
theorem Inv.drop{Sb:List (Addr×Obj)}{σ:St}{H:Hp}{s:Shared}{a:Addr}{φ:Heap→Prop}(I:Inv X Sb σ H s) (ha:H a=some (.ext φ)) (hn:X.s₀.heap.objs.size≤a):Inv X Sb σ (without H a) s:=by
 have nn:∀b,H b=none→without H a b=none:=fun b q=>by
  by_cases z:b=a
  ·rw[z];exact gX
  ·rw[gY z];exact q
 have up:∀b u,H b=some u→u≠.ext φ→without H a b=some u:=fun b u q z=>by
  rw[gY fun y=>?_]
  ·exact q
  ·rw[y,ha] at q;cases q;exact z rfl
 have hb:∀b o,X.s₀.heap.get? b=some o→b≠a:=fun b o q z=>by
  rw[z] at q
  exact absurd (CT (Heap.lt_size q) hn) (C7 _)
 refine⟨I.ok,I.os,I.bare,⟨I.base.keep,I.base.slot,fun b o q n hx=>nn b (I.base.free b o q n hx),I.base.there,fun b xs q=>up b _ (I.base.ki b xs q) (by intro z;cases z),fun b o u q=>up b _ (I.base.j6 b o u q) (by intro z;cases z),fun b ps q=>?_⟩,I.loc,I.cell,nn _ I.free,fun x c e=>nn _ (I.fJ x c e),fun p hp=>?_,fun b u q=>?_,I.len⟩
 ·obtain⟨m,z⟩:=I.base.ko b ps q
  exact⟨m,up b _ z (by intro z;cases z)⟩
 ·obtain⟨h1,h2,h3⟩:=I.pin p hp
  exact⟨h1,nn _ h2,h3⟩
 ·have z:b≠a:=fun z=>by rw[z,gX] at q;cases q
  rw[gY z] at q
  exact(I.bH b u q).lQ (fun _ _ _ w=>w) (fun c w=>up c _ w (by intro z;cases z)) fun c xs w=>up c _ w (by intro z;cases z)
def mX (X:Cx) (E:XK):Prop:=∀(Sb:List (Addr×Obj)) (σ:St) (H:Hp) (s:Shared) (a:Addr) (cls:Value) (dx:Option Addr),Inv X Sb σ H s→mY X.s₀.heap.objs.size s.heap H a cls dx→E cls dx H→X.xe (.ref a) s
def ve (n:Nat) (E:XK) (C:Addr) (te:TE):TS:=fun _ σ H=>te σ H fun x H1=>∃a dx,x=.ref a∧n≤a∧H1 a=some (.ext (ExcAt a C dx))∧E (.ref C) dx (without H1 a)
theorem mf{E:XK}(hx:mX X E) (hc:X.calm=true) (T:gW X.K C S f) (he:PE X e te):PS X (.Raise (some e) none pos) (ve X.s₀.heap.objs.size E C te):=by
 intro Sb s σ H D I h
 rw[arm_exec_Raise]
 refine CG (wpAny_standAt ?_)
 unfold raiseStmt evalOpt
 dsimp only[Option.map]
 refine CG (CG (cx (he Sb s σ H _ I h) fun u s1 zq=>?_))
 obtain⟨x,H1,I1,rx,a,dx,ex,hn,ea,q⟩:=zq
 subst ex
 obtain rfl:u=Value.ref a:=rx
 refine CG (wpAny_standAt (CH ?_))
 obtain⟨nm,qn,N,bs,sn,sub,ab,col,dd,k0,k1,k2,k3,k5,mN,oI,h1,h2,h3,h4,h5⟩:=T.own I1.kQ
 obtain⟨⟨oe,vs,e1,e2,e3,e4,e5,e6⟩,_⟩:=I1.bH a _ ea
 have notCls:(match oe.data with | .cls c=>true | _=>false)=false:=by rw[e4]
 have Iw:∀{Q:Bool→Shared→Prop}{E':Value→Shared→Prop},Q false s1→wpAny (model X.prog X.w) X.A (isType (.ref a)) Q E' s1:=fun q=>by
  unfold isType loadHead
  dsimp only
  refine CG (wpAny_loadPart e1 (CH ?_))
  rw[e4]
  exact q
 refine CG (CH ?_)
 refine CG (wpAny_holding ?_)
 unfold excFromValue isExcClass
 refine CG (CG (Iw (wpAny_ite_false (by simp) (CH (wpAny_ite_false (by simp) ?_)))))
 obtain⟨hp,gn,dr,tk,os⟩:=s1
 unfold isInstance
 refine CG (CG (CG (wpAny_loadPart_at e1 (CH ?_))))
 rw[e2]
 refine wpAny_isSubtype_exc h1 (wpAny_ite_true (by simp) (CH ?_))
 refine CG (Iw (wpAny_ite_false (by simp) ?_))
 unfold raisedInstance
 refine CG (CG (CG (wpAny_loadPart_at e1 (CH ?_))))
 rw[e2]
 refine CG (CG (wpAny_loadPart_at h1 (CH ?_)))
 refine wpAny_ite_true (by unfold excClassObj;simp) (CH ?_)
 unfold setFlight
 refine CG (CG (wpAny_field e1 e4 e6 (wpAny_ite_false (by simp) (CH ?_))))
 refine wpAny_raiseNew_none (I.ok.hd hc) ?_
 exact hx Sb σ _ _ a (.ref C) dx (I1.drop ea hn) ⟨hn,gX,oe,vs,e1,e2,e3,e4,.inl e6⟩ q
end
end L2
namespace PySem
section
variable{M:Model}{A:Around}{E:Value→Shared→Prop}{s:Shared}
theorem rG{base:Heap}{env:Env}{outer:List Env}{L e T:Addr}{oe oT:Obj}{vs ts:Array Value}{Q:Unit→Shared→Prop}
  (FX:A.frames=some (env::outer)) (hl:s.heap.FunFrames base (env::outer)) (hf:env.frame=some L) (he:s.heap.get? e=some oe) (hd:oe.data=.fields vs) (h1:vs[1]?=some (.ref T))
  (PD:T≠e) (hT:s.heap.get? T=some oT) (KU:oT.data=.fields ts) (h3:ts[3]?=some .none)
  (h:∀h',(∃hm:Heap,(∀b,b≠T→hm.get? b=s.heap.get? b)∧hm.objs.size=s.heap.objs.size∧Heap.jo (env::outer) e oe hm h')→Q () { s with heap:=h' }):wpAny M A (noteFrame (.ref e) env) (fun _ s'=>wpAny M A (setFlight (.ref e) none) Q E s') E s:=by
 unfold noteFrame
 simp only[hf]
 refine CG (wpAny_field he hd h1 ?_)
 rw[CQ (show(Value.ref T != Value.none)=true from by simp)]
 refine CG (wpAny_field hT KU h3 ?_)
 rw[CO (show ¬((Value.none == rawInt L)=true) from by simp[rawInt])]
 refine CG (wpAny_setField hT KU (Array.getElem?_eq_some_iff.mp h3).1 ?_)
 have other:∀b,b≠T→(s.heap.update T (Obj.mapFields (·.setIfInBounds 3 Value.none))).get? b=s.heap.get? b:=fun b hb=>Heap.get?_update_other _ _ (Ne.symm hb)
 have noRec:∀b o,s.heap.get? b=some o→(∀vs,o.data≠.fields vs)→b≠T:=fun b o hb Jn q=>by
  rw[q,hT] at hb;cases hb;exact Jn ts KU
 exact jd FX (hl.of_keeps fun b o hb Jn=>⟨o,(other b (noRec b o hb Jn)).trans hb,rfl⟩) hf ((other e (Ne.symm PD)).trans he) hd (Array.getElem?_eq_some_iff.mp h1).1 fun h' k=>h h' ⟨_,other,Heap.size_after_update ..,k⟩
theorem qh{base:Heap}{env:Env}{outer:List Env}{L e:Addr}{oe:Obj}{vs:Array Value}{Q:Unit→Shared→Prop}
  (FX:A.frames=some (env::outer)) (hl:s.heap.FunFrames base (env::outer)) (hf:env.frame=some L) (he:s.heap.get? e=some oe) (hd:oe.data=.fields vs) (h1:vs[1]?=some .none)
  (h:∀h',Heap.jo (env::outer) e oe s.heap h'→Q () { s with heap:=h' }):wpAny M A (noteFrame (.ref e) env) (fun _ s'=>wpAny M A (setFlight (.ref e) none) Q E s') E s:=by
 unfold noteFrame
 simp only[hf]
 refine CG (wpAny_field he hd h1 ?_)
 rw[CO (by decide)]
 exact jd FX hl hf he hd (Array.getElem?_eq_some_iff.mp h1).1 h
end
end PySem
namespace L2
open PySem PySem.Spec PyProof.Rows
abbrev Cx.lM (X:Cx) (E:Value→Shared→Prop) (Sb:List (Addr×Obj)):Cx:={ X with xe:=E,pn:=X.pn++Sb }
abbrev Cx.held (X:Cx) (e:Value) (Sb:List (Addr×Obj)):Cx:={ X with A:=X.A.mark (some e),calm:=false,xe:=fun _ _=>False,pn:=X.pn++Sb }
section
variable{X:Cx}
theorem Inv.lM{Sb:List (Addr×Obj)}{σ:St}{H:Hp}{s:Shared}(I:Inv X Sb σ H s) (E:Value→Shared→Prop):Inv (X.lM E Sb) [] σ H s:=
 ⟨⟨I.ok.mod,I.ok.kind,I.ok.glob,I.ok.blt,I.ok.above,I.ok.inj,I.ok.has,I.ok.zt,I.ok.hd,I.ok.frames,I.ok.zG,I.ok.Cp,I.ok.bs,I.ok.sj,I.ok.pk,I.ok.rV,I.ok.jA,I.ok.xv⟩,I.os,I.bare,I.base,I.loc,I.cell,I.free,I.fJ,fun p hp=>I.pin p (by simpa using hp),I.bH,I.len⟩
theorem Inv.fF{Sb pl:List (Addr×Obj)}{σ:St}{H:Hp}{s:Shared}{E:Value→Shared→Prop}(I:Inv (X.lM E Sb) pl σ H s):Inv X Sb σ H s:=
 ⟨⟨I.ok.mod,I.ok.kind,I.ok.glob,I.ok.blt,I.ok.above,I.ok.inj,I.ok.has,I.ok.zt,I.ok.hd,I.ok.frames,I.ok.zG,I.ok.Cp,I.ok.bs,I.ok.sj,I.ok.pk,I.ok.rV,I.ok.jA,I.ok.xv⟩,I.os,I.bare,I.base,I.loc,I.cell,I.free,I.fJ,fun p hp=>I.pin p (List.mem_append_left _ hp),I.bH,I.len⟩
theorem Inv.hold{Sb:List (Addr×Obj)}{σ:St}{H:Hp}{s:Shared}(I:Inv X Sb σ H s) (e:Value):Inv (X.held e Sb) [] σ H s:=
 ⟨⟨I.ok.mod,I.ok.kind,I.ok.glob,I.ok.blt,I.ok.above,I.ok.inj,I.ok.has,I.ok.zt,(fun z=>by cases z),I.ok.frames,I.ok.zG,I.ok.Cp,I.ok.bs,I.ok.sj,I.ok.pk,I.ok.rV,I.ok.jA,I.ok.xv⟩,I.os,I.bare,I.base,I.loc,I.cell,I.free,I.fJ,fun p hp=>I.pin p (by simpa using hp),I.bH,I.len⟩
theorem Inv.kh{Sb pl:List (Addr×Obj)}{σ:St}{H:Hp}{s:Shared}{e:Value}(ok:X.Ok) (I:Inv (X.held e Sb) pl σ H s):Inv X Sb σ H s:=
 ⟨ok,I.os,I.bare,I.base,I.loc,I.cell,I.free,I.fJ,fun p hp=>I.pin p (List.mem_append_left _ hp),I.bH,I.len⟩
theorem SP.fF{Sb:List (Addr×Obj)}{D:Ends}{f:Flow}{s':Shared}{E:Value→Shared→Prop}(h:SP (X.lM E Sb) [] D f s'):SP X Sb D f s':=by
 cases f with
 | next=>obtain⟨σ',H',I,q⟩:=h;exact⟨σ',H',I.fF,q⟩
 | brk=>obtain⟨σ',H',I,q⟩:=h;exact⟨σ',H',I.fF,q⟩
 | cont=>obtain⟨σ',H',I,q⟩:=h;exact⟨σ',H',I.fF,q⟩
 | ret u=>obtain⟨v,σ',H',I,r,q⟩:=h;exact⟨v,σ',H',I.fF,r,q⟩
theorem SP.kh{Sb:List (Addr×Obj)}{D:Ends}{f:Flow}{s':Shared}{e:Value}(ok:X.Ok) (h:SP (X.held e Sb) [] D f s'):SP X Sb D f s':=by
 cases f with
 | next=>obtain⟨σ',H',I,q⟩:=h;exact⟨σ',H',I.kh ok,q⟩
 | brk=>obtain⟨σ',H',I,q⟩:=h;exact⟨σ',H',I.kh ok,q⟩
 | cont=>obtain⟨σ',H',I,q⟩:=h;exact⟨σ',H',I.kh ok,q⟩
 | ret u=>obtain⟨v,σ',H',I,r,q⟩:=h;exact⟨v,σ',H',I.kh ok,r,q⟩
structure Below (X:Cx) (Sb:List (Addr×Obj)) (n:Nat):Prop where
 z:X.s₀.heap.objs.size≤n
 l:X.env.locals < n
 c:∀x c,X.env.cells.lookup x=some c→c < n
 p:∀p∈X.pn++Sb,p.1 < n
theorem Inv.below{Sb:List (Addr×Obj)}{σ:St}{H:Hp}{s:Shared}(I:Inv X Sb σ H s):Below X Sb s.heap.objs.size:=
 ⟨I.sz,I.lt,fun x c e=>let ⟨_,_,h,_⟩:=I.cell x c e;Heap.lt_size h,fun p hp=>Heap.lt_size (I.pin p hp).1⟩
def New (X:Cx) (Sb:List (Addr×Obj)) (b:Addr):Prop:=(b∈X.ex∨X.s₀.heap.objs.size≤b)∧b≠X.env.locals∧(∀x c,X.env.cells.lookup x=some c→c≠b)∧∀p∈X.pn++Sb,p.1≠b
theorem Below.new{Sb:List (Addr×Obj)}{n:Nat}(B:Below X Sb n){b:Addr}(hb:n≤b):New X Sb b:=
 ⟨.inr (CZ B.z hb),Nat.ne_of_gt (CT B.l hb),fun x c e=>Dc (CT (B.c x c e) hb),fun p hp=>Dc (CT (B.p p hp) hb)⟩
structure zw (N:Addr→Prop) (h:Heap) (H:Hp) (a:Addr) (cls:Value) (dx:Option Addr):Prop where
 up:N a
 free:H a=none
 ex:∃oe vs T oT ts,h.get? a=some oe∧oe.cls=cls∧oe.dict=dx∧oe.data=.fields vs∧vs[1]?=some (.ref T)∧T≠a∧N T∧H T=none∧h.get? T=some oT∧oT.data=.fields ts∧ts[3]?=some .none
theorem tE{N:Addr→Prop}{l:List Env}{a:Addr}{oe:Obj}{cls:Value}{dx:Option Addr}{H':Hp}{hm h':Heap}(hn:N a) (ha:H' a=none) (hs:∀b u,H' b=some u→b < hm.objs.size) (HV:∀b,hm.objs.size≤b→N b) (II:a < hm.objs.size)
  (hc:oe.cls=cls) (Fj:oe.dict=dx) (k:Heap.jo l a oe hm h'):zw N h' H' a cls dx:=by
 obtain⟨vs,Ol,T,oT,ts,e1,e2,e3,e4,e5,e6,e7,e8⟩:=k.exc
 refine⟨hn,ha,_,_,T,oT,ts,e4,(Obj.cls_mapFields _ _).trans hc,?_,Obj.data_mapFields e1 _,by simp[e3],fun z=>?_,HV _ e5,?_,e6,e7,e8⟩
 ·have:(oe.mapFields (·.setIfInBounds 1 (.ref T))).dict=oe.dict:=by
   unfold Obj.mapFields
   split<;>rfl
  rw[this];exact Fj
 ·rw[z] at e5;exact absurd (CT II e5) (C7 _)
 ·cases q:H' T with
  | none=>rfl
  | some u=>exact absurd (CT (hs T u q) e5) (C7 _)
theorem Inv.note{Sb:List (Addr×Obj)}{σ:St}{H:Hp}{s:Shared}{n:Nat}{a:Addr}{cls:Value}{dx:Option Addr}{Q:Unit→Shared→Prop}{E:Value→Shared→Prop}(EE:X.stack=X.env::X.outer) (hf:X.env.frame=some X.env.locals) (I:Inv X Sb σ H s) (B:Below X Sb n) (rc:mY n s.heap H a cls dx)
  (k:∀h',Inv X Sb σ H { s with heap:=h' }→zw (New X Sb) h' H a cls dx→Q () { s with heap:=h' }):wpAny (model X.prog X.w) X.A (noteFrame (.ref a) X.env) (fun _ s'=>wpAny (model X.prog X.w) X.A (setFlight (.ref a) none) Q E s') E s:=by
 have FX:X.A.frames=some (X.env::X.outer):=by rw[←EE];exact I.ok.frames
 have hl:s.heap.FunFrames X.base (X.env::X.outer):=by rw[←EE];exact I.stack
 have Fc:∀b∈nY (X.env::X.outer),H b=none:=fun b hb=>I.jL b (by rw[EE];exact hb)
 obtain⟨hn,ha,oe,vs,h1,h2,h3,h4,h5⟩:=rc
 have II:a < s.heap.objs.size:=Heap.lt_size h1
 have GC:∀b,n≤b→New X Sb b:=fun b hb=>B.new hb
 have un:∀{hm h':Heap}{T:Option Addr},(∀b,some b≠T→hm.get? b=s.heap.get? b)→Heap.jo (X.env::X.outer) a oe hm h'→Un (nY X.stack) (a::T.toList) H H s.heap h':=fun {hm h' T} km kk=>by
  have hx:∀b,b∉a::T.toList→b≠a∧some b≠T:=fun b hb=>by
   refine⟨fun z=>hb (by simp[z]),fun z=>hb ?_⟩
   rw[←z];simp
  refine⟨fun b o q n hb hc=>?_,fun b o q n hb hc=>?_,fun b o q n _=>n,fun b o q hc=>?_,fun _ _ q=>q,fun _ _ _ q=>q,fun b ps q=>⟨#[],by simpa using q⟩⟩
  ·exact kk.keep b o (hx b hc).1 (by rw[EE] at hb;exact hb) (by rw[km b (hx b hc).2];exact q)
  ·exact kk.slot b o (hx b hc).1 (by rw[km b (hx b hc).2];exact q)
  ·obtain⟨sl,e⟩:=kk.slot b o (hx b hc).1 (by rw[km b (hx b hc).2];exact q)
   exact⟨_,e⟩
 rcases h5 with h5 | ⟨T,oT,ts,k1,k2,k3,k4,k5,k6,k7⟩
 ·refine qh FX hl hf h1 h4 h5 fun h' kk=>k h' ?_ ?_
  ·exact I.call (t':=s.toks) (d':=s.drawn) (g':=s.gens) (un (T:=none) (fun _ _=>rfl) kk) (jZ (T:=none) I.bH ha (fun t z=>by cases z) Fc (fun b _=>rfl) kk) I.bare fun b hb=>GC b (by simp at hb;rw[hb];exact hn)
  ·exact tE (GC a hn) ha (fun b u e=>I.bH.lt e) (fun b hb=>I.below.new hb) II h2 h3 kk
 ·refine rG FX hl hf h1 h4 k1 k2 k5 k6 k7 fun h' ⟨hm,m1,m2,kk⟩=>k h' ?_ ?_
  ·have km:∀b,some b≠some T→hm.get? b=s.heap.get? b:=fun b hb=>m1 b fun z=>hb (by rw[z])
   exact I.call (t':=s.toks) (d':=s.drawn) (g':=s.gens) (un (T:=some T) km kk) (jZ (T:=some T) I.bH ha (fun t z=>by cases z;exact k4) Fc km kk) I.bare fun b hb=>GC b (by simp at hb;rcases hb with hb | hb<;>rw[hb]<;>first | exact hn | exact k3)
  ·exact tE (GC a hn) ha (fun b u e=>by rw[m2];exact I.bH.lt e) (fun b hb=>I.below.new (by rw[m2] at hb;exact hb)) (by rw[m2];exact II) h2 h3 kk
def tTry (n:Nat) (C:Addr) (t:XK→TS) (u:TS):TS:=fun D σ H=>t (fun cls _ H'=>cls=.ref C∧u D (List.replicate n none) H') D σ H
theorem Ad{f C S:Addr}{x:Str}{np hp pos:Pos}{body:List Stmt}{b₀:Stmt}{suite:List Stmt}{t:XK→TS}{u:TS}(T:gW X.K C S f) (EE:X.stack=X.env::X.outer) (FX:X.env.frame=some X.env.locals) (hg:Gl X x) (hm:X.mg x=some (.ref C)) (E9:(x == ("__debug__":Str))=false)
  (hb:∀(E:XK) (xe:Value→Shared→Prop) (pn:List (Addr×Obj)),Passes (xB X.prog X.w) (X.lM xe pn) E→pI (X.lM xe pn) body (t E)) (hs:∀(e:Value) (pn:List (Addr×Obj)),pI (X.held e pn) (b₀::suite) u):
  PS X (.Try body [.ExceptHandler (some (.Name x np)) none (b₀::suite) hp] [] [] pos) (tTry X.N.length C t u):=by
 intro Sb s σ H D I h
 refine wpAny_Try_except ?_
 obtain⟨xe,Rb⟩:∃xe:Value→Shared→Prop,xe=fun e s₁=>wpAny (model X.prog X.w) X.A (noteFrame e X.env) (fun _ s₂=>wpAny (model X.prog X.w) X.A (setFlight e none) (fun _ s₃=>wpAny (model X.prog X.w) X.A (handleBy e X.env [.ExceptHandler (some (.Name x np)) none (b₀::suite) hp]) (SP X Sb D) X.xe s₃) X.xe s₂) X.xe s₁:=⟨_,rfl⟩
 rw[←Rb]
 refine cx (hb (fun cls _ H'=>cls=.ref C∧u D (List.replicate X.N.length none) H') xe Sb ?_ [] s σ H D (I.lM xe) h) fun fl s1 q=>?_
 ·intro pl σ1 H1 s1 e s2 I1 ⟨a,H2,cls,dx,ee,os,bare,un,bH,rc,ec,hu⟩
  subst ee
  rw[Rb]
  have R6:Inv X Sb σ1 H1 s1:=I1.fF
  have I2:Inv X Sb σ1 H2 s2:=R6.qE (ch:=[]) os un bH bare (fun b z=>absurd z (by simp))
  refine I2.note EE FX R6.below rc fun h' I3 tb=>?_
  subst ec
  obtain⟨hNa,Pq,oe,vs,Tb,oT,ts,g1,g2,g3,g4,g5,g6,g7,g8,g9,g10,g11⟩:=tb
  refine wpAny_handleBy_cons (codeAny_handlers_test ?_) (by intro z;cases z)
  have I4:=I3.hold (.ref a)
  refine j0 (X:=X.held (.ref a) Sb) I4 hg hm ?_ E9
  obtain⟨nm,qn,N,bs,sn,sub,ab,col,dd,k0,k1,k2,k3,k5,mN,oI,h1,h2,h3,h4,h5⟩:=T.own I3.kQ
  refine wpAny_excMatches_sub_self h1 g1 g2 (by simp) ?_
  rw[CQ rfl]
  dsimp only
  refine codeAny_handlers_suite ?_
  refine wpAny_setFlight_none g1 g4 g5 g9 g10 (Array.getElem?_eq_some_iff.mp g11).1 ?_
  have I5:Inv X Sb σ1 H2 { s2 with heap:=h'.update Tb (Obj.mapFields fun x=>x.setIfInBounds 3 Value.none) }:=
   I3.turned (t':=s2.toks) (fun b o hb q=>by rw[Heap.get?_update_ne _ _ _ _ hb];exact q) g8 g7.2.1 g7.1 g7.2.2.1 g7.2.2.2
  have I6:=(I5.weak (σ':=List.replicate X.N.length none) (by rw[List.length_replicate];exact I5.len.symm) (fun i v z=>by
   rw[List.getElem?_replicate] at z
   split at z<;>simp at z)).hold (.ref a)
  refine wpAny_mono (hs (.ref a) Sb [] _ _ H2 D I6 hu) (fun fl s3 q=>?_) (fun _ _ z=>z.elim)
  exact q.kh I.ok
 ·cases fl with
  | next=>exact wpAny_execs_nil q.fF
  | brk=>exact q.fF
  | cont=>exact q.fF
  | ret u=>exact q.fF
end
end L2
namespace GS
open PySem L2 PyProof.Rows
def tT (K:Fg06) (H:Hp) (x:V) (r:Str):Prop:=(∃i:Int,x=.int i∧i.natAbs.log2 < 1920∧r=toString i)∨(x=.aR∧r="None")∨
 ∃ds,At K H (.tup ds) x∧(toPy (.tup ds)).showable=true∧dep (.tup ds)≤40∧(toPy (.tup ds)).shown.length≤sizeLine∧r=(toPy (.tup ds)).shown
def tFr (K:Fg06) (c:Str) (te:TE):TE:=fun σ H Q=>te σ H fun x H1=>∃r,tT K H1 x r∧r.length≤sizeLine∧(Str.empty++c++r).length≤sizeLine∧Q (.str (Str.empty++c++r)) H1
section
variable{X:Cx}
theorem z6{k:Nat}(hr:dE k X.A){Sb:List (Addr×Obj)}{σ:L2.St}{H:Hp}{s:Shared}{x:V}{u:Value}{r:Str}{Q:Value→Shared→Prop}(I:Inv X Sb σ H s) (rx:RelV x u) (h:tT X.K H x r) (q:∀s' t,Inv X Sb σ H s'→Q (.str r t) s'):
  wpAny (model X.prog X.w) X.A (pyReprObj u) Q X.xe s:=by
 rcases h with ⟨i,rfl,hi,rfl⟩ | ⟨rfl,rfl⟩ | ⟨ds,hx,hs,hd,hz,rfl⟩
 ·obtain⟨t,rfl⟩:=rx
  exact pyReprObj_int hi (q _ _ (I.tok _))
 ·cases rx
  exact pyReprObj_none (q _ _ (I.tok _))
 ·obtain⟨as,rd⟩:=sY I (.tup ds) x u rx hx
  obtain⟨p,vs,rfl,_⟩:=aP.mp hx
  cases rx
  have hdep:=pO (.tup ds)
  exact pyReprObj_of_reads rd hs (fun z=>by rw[kJ] at z;cases z) hr.gd (by have:=hr.units;omega) (fun b o e=>e) (fun h' u tk kp=>q _ _ (I.kept kp)) hz
theorem vZ{k:Nat}{c:Str}{j:Nat}{e:Expr}{p1 p2 pos:Pos}{te:TE}(hr:dE k X.A) (hc:c.length≤1000) (he:PE X e te):PE X (.JoinedStr [.Constant (.str c) j p1,.FormattedValue e 114 none p2] pos) (tFr X.K c te):=by
 intro Sb s σ H Q I h
 refine JoinedStr_many (joinParts_cons ?_)
 refine Calls.Constant_str ⟨?_,?_⟩
 ·show(Str.empty++c).length≤sizeLine
  have e:(Str.empty++c).length=c.length:=by
   show(Str.empty.cps++c.cps).size=c.cps.size
   rw[Array.size_append]
   show 0+_=_
   omega
  rw[e,sizeLine_eq]
  omega
 refine joinParts_cons ?_
 rw[arm_eval_FormattedValue]
 refine CG (cx (he Sb _ σ H _ (I.tok _) h) fun u s1 zq=>?_)
 obtain⟨x,H1,I1,rx,r,sh,NX,GA,q⟩:=zq
 refine CG (wpAny_standAt (CG (wpAny_holding (z6 hr I1 rx sh fun s2 t I2=>?_))))
 refine formatField_str (fun t' tk=>⟨GA,?_⟩) NX
 exact joinParts_nil ⟨.str _,H1,(I2.tok tk).tok (tk+1),⟨_,rfl⟩,q⟩ GA
end
end GS
namespace L2
open PySem PySem.Spec PyProof.Rows
theorem uj{P:Program}{w:World}{K:Fg06}{mg:Str→Option Value}{base:Heap}{N:List Str}{qual:Str}{scope:Scope}{f:Addr}{cd:Value}{A:Around}{outer:List Env}{s:Shared}{H:Hp}{E:XK}:
  mX (k8 (xB P w) P w K mg base N qual scope f cd A outer s H E) E:=fun Sb σ H' s' a cls dx I rc q=>I.raises rc q
section
variable{X:Cx}{CX:qO}{k:Nat}{f C S:Addr}{fd:FuncData}{ps:List Str}{sp:Sp}{x:Str}{p pos apos:Pos}{e:Expr}{es:List Expr}{t:TA}
theorem vL{Sb:List (Addr×Obj)}{σ:St}{H:Hp}{s:Shared}{Q:VK}{us:List Value}{vs:List V}(T:gW X.K C S f) (F:bO X.prog X.w X.K X.mg X.base fw k f fd ps sp) (hr:dE (k+1) X.A) (hb:Binds X.K fd ps [])
  (I:Inv X Sb σ H s) (r:Vals vs us) (hz:us.length≤sizeLine)
  (h:∀e,H e=none→X.s₀.heap.objs.size≤e→sp (.ref e::vs) (upd H e (.ext (ExcAt e C none))) (fun v H2=>v=.aR∧Q (.ref e) H2) E0):
  wpAny (model X.prog X.w) X.A (call (.ref C) us) (EP X Sb σ Q) X.xe s:=by
 obtain⟨nm,q,N,bs,sn,sub,ab,col,dd,k0,k1,k2,k3,k5,mN,oI,h1,h2,h3,h4,h5⟩:=T.own I.kQ
 have isz:=I.sz
 obtain⟨hp,gn,dr,tk,os⟩:=s
 refine uP _root_.PySem.F.excBase_ValueError (by rfl) _root_.PySem.F.excBase_ValueError (T.tail I.kQ) h1 h2 h3 h4 h5 (fun h' e he m=>?_) hz
 have I2:Inv X Sb σ (upd H e (.ext (ExcAt e C none))) ⟨h',gn,dr,tk,os⟩:=by
  refine I.laid (t':=tk) m.keeps (by rw[he];exact Nat.le_succ _) (mO ?_)
  obtain⟨t,m1,_⟩:=m.there
  exact⟨_,_,m1,rfl,rfl,rfl,rfl,rfl⟩
 have hq:=h e (I.bH.fresh (by rw[he];exact Nat.le_succ _)) (CZ isz (by rw[he];exact Nat.le_succ _))
 have r2:Vals (V.ref e::vs) (Value.ref e::us):=.cons rfl r
 have hl:(Value.ref e::us++[]).length=ps.length:=by
  have z:=r2.length
  rw[F.len _ _ _ _ hq] at z
  rw[List.append_nil]
  exact z.symm
 refine wpAny_call (codeAny_mono (F.run _ X.stack _ _ ⟨Value.ref e::us,[]⟩ (Value.ref e::us) _ _ E0 (hr.make C us []) (I2.AM.make C us []) (by have:=hb ⟨h',gn,dr,tk,os⟩ (Value.ref e::us) I2.kQ hl;rw[List.append_nil] at this;exact this) r2 hq) fun r s' HM=>?_)
 cases r with
 | error e=>exact HM.elim
 | ok fl=>
  cases fl with
  | ret u=>
   obtain⟨v,H',I3,rv,ev,q3⟩:=I2.after HM
   subst ev
   exact⟨rv,⟨V.ref e,H',I3,rfl,q3⟩⟩
  | next=>exact False.elim HM
  | brk=>exact False.elim HM
  | cont=>exact False.elim HM
def za (n:Nat) (C:Addr) (sp:Sp) (t:TA):TE:=fun σ H Q=>t σ H fun vs H1=>vs.length≤sizeLine∧∀e,H1 e=none→n≤e→sp (.ref e::vs) (upd H1 e (.ext (ExcAt e C none))) (fun v H2=>v=.aR∧Q (.ref e) H2) E0
theorem yv (T:gW X.K C S f) (F:bO X.prog X.w X.K X.mg X.base fw k f fd ps sp) (hr:dE (k+1) X.A) (hg:Gl X x) (hm:X.mg x=some (.ref C)) (hb:Binds X.K fd ps [])
  (ha:PA X (e::es) t) (E9:(x == ("__debug__":Str))=false:=by decide) (he:starEach (e::es) X.env=(false,eval e X.env)::starEach es X.env:=by rfl) (Ez:(backTo pos (starEach es X.env)).any (·.1)=false:=by rfl):
  PE X (.Call (.Name x p) (e::es) [] pos) (za X.s₀.heap.objs.size C sp t):=by
 intro Sb s σ H Q I h
 refine wpAny_Call_Name_kw (j0 I hg hm ?_ E9)
 refine PySem.W.callWith_K (h₀:=X.base) I.ok.mod.Bb T.kp (cx (ha pos Sb s σ H _ I h) fun us s1 ⟨vs,H1,I1,r,hz,q⟩=>⟨I1.kQ,?_⟩) he Ez
 exact vL T F hr hb I1 r (by show us.length≤_;rw[←r.length];exact hz) q
end
end L2
namespace GS
open PySem PyProof.Rows L2
structure qH (P:Program) (w:World) (K:Fg06) (mg:Str→Option Value) (base:Heap) (name:Str) (C S:Addr) (ps:List Str) (k:Nat) (sp:Sp):Prop where
 ex:∃(f:Addr) (fd:FuncData),mg name=some (.ref C)∧gW K C S f∧Binds K fd ps []∧bO P w K mg base fw k f fd ps sp
end GS
namespace L3
open PySem PyProof.Rows L2
section
variable{X:Cx}{e o value:Expr}{es:List Expr}{f:Str}{pos pos' p apos p1 p2:Pos}{ta tv te:TE}{t:TA}{C S fa:Addr}
theorem BW{name:Str}{ps:List Str}{k k':Nat}{sp:Sp}(M:GS.qH X.prog X.w X.K X.mg X.base name C S ps k sp) (hr:dE (k'+1) X.A) (hk:k≤k') (hg:Gl X name) (ha:LA X (e::es) t)
  (E9:(name == ("__debug__":Str))=false:=by decide) (he:starEach (e::es) X.env=(false,eval e X.env)::starEach es X.env:=by rfl) (Ez:(backTo pos (starEach es X.env)).any (·.1)=false:=by rfl):
  LE X (.Call (.Name name p) (e::es) [] pos) (za X.s₀.heap.objs.size C sp t):=by
 obtain⟨f,fd,h1,h2,h3,h4⟩:=M.ex
 exact .mk (L2.yv h2 (h4.mono hk) hr hg h1 h3 ha.out E9 he Ez)
theorem mf{E:XK}{name:Str}{ps:List Str}{k:Nat}{sp:Sp}(hx:mX X E) (hc:X.calm=true) (M:GS.qH X.prog X.w X.K X.mg X.base name C S ps k sp) (he:LE X e te):LS X (.Raise (some e) none pos) (ve X.s₀.heap.objs.size E C te):=by
 obtain⟨f,fd,h1,h2,h3,h4⟩:=M.ex
 exact .mk (L2.mf hx hc h2 he.out)
theorem vZ{k:Nat}{c:Str}{j:Nat}(hr:dE k X.A) (hc:c.length≤1000) (he:LE X e te):LE X (.JoinedStr [.Constant (.str c) j p1,.FormattedValue e 114 none p2] pos) (GS.tFr X.K c te):=.mk (GS.vZ hr hc he.out)
theorem ky{g:Str}(T:gW X.K C S fa) (hn:PySem.W.findIn X.K (.ref C) g=some none) (ha:LE X o ta) (hv:LE X value tv) (hs:swapsWith value (some (.Attribute o g pos')) pos.line X.env=pure false:=by rfl):LS X (.Assign [.Attribute o g pos'] value pos) (BN C g ta tv):=.mk (L2.ky T hn ha.out hv.out hs)
theorem iK{x:Str}{pl:Sem Bool}(T:gW X.K C S fa) (B:qK X.K S) (hg:Gl X x) (hm:X.mg x=some (.ref S)) (ha:LA X (e::es) t) (E9:(x == ("__debug__":Str))=false:=by decide)
  (EE:starEach (e::es) X.env=(false,eval e X.env)::starEach es X.env:=by rfl) (Ez:(backTo pos (starEach es X.env)).any (·.1)=false:=by rfl)
  (ht:eval (.Call (.Attribute (.Name x p) "__init__" apos) (e::es) [] pos) X.env=(do
   let ov ←eval (.Name x p) X.env
   standAt apos.atName
   let (f,first) ←holding [ov] (getMethod ov "__init__" pl)
   callWith pos f first (backTo pos (starEach (e::es) X.env)) (backToKw pos (keywordEach [] X.env))):=by rfl):
  LE X (.Call (.Attribute (.Name x p) "__init__" apos) (e::es) [] pos) (tBI C t):=.mk (L2.iK (pl:=pl) T B hg hm ha.out E9 EE Ez ht)
end
end L3
namespace GS
open PySem PyProof.Rows
open L2 hiding ak cn bj aq pv cZ ay fQ bZ dw dY fR b9 bC cI cH cm ae aa aI aw bG aV cj eF ar cB dk bQ cX bX dZ aL bU aU cw bF dm bz cU aG ba aA eD aN cu bR aB ah aj
open L3
abbrev uu:Stmt:=tH 0 (dz 2)
theorem su:∀{way:List D},kW way→((PyData.shownAll (eB way)).map (·.length)).sum≤1921*way.length∧(PyData.shownAll (eB way)).length=way.length∧PyData.showableAll (eB way)=true∧eW way≤1
 | [],_=>⟨CN _,rfl,rfl,by simp[eW]⟩
 | d::way,h=>by
  obtain⟨a,b,c,e⟩:=su (way:=way) fun x hx=>h x (C0 _ hx)
  obtain⟨i,rfl,hi⟩:=h d C1
  have Mv:((i:Nat):Int).natAbs.log2 < 1920:=by
   have h1:((i:Nat):Int).natAbs=i:=rfl
   rw[h1]
   have h2:i.log2≤i:=Nat.log2_le_self i
   by_cases h0:i=0
   ·rw[h0];decide
   ·have h3:=Nat.log2_self_le h0
    by_cases h4:i.log2 < 1920
    ·exact h4
    ·exfalso
     have h5:(2:Nat) ^ 20≤2 ^ i.log2:=Nat.pow_le_pow_right (by decide) (by omega)
     have h6:(2:Nat) ^ 20=1048576:=by decide
     omega
  have hl:=int_text_len_1921 Mv
  refine⟨?_,?_,?_,?_⟩
  ·show(((Str.ofString (toString ((i:Nat):Int)))::PyData.shownAll (eB way)).map (·.length)).sum≤_
   rw[List.map_cons,List.sum_cons,CY]
   omega
  ·show((Str.ofString (toString ((i:Nat):Int)))::PyData.shownAll (eB way)).length=_
   rw[CY,b,CY]
  ·show(decide (((i:Nat):Int).natAbs.log2 < 1920)&&PyData.showableAll (eB way))=true
   rw[CJ Mv,c];rfl
  ·simp only[eW,dep];omega
theorem uZ{K:Fg06}{H:Hp}{way:List D}{v:V}(hw:At K H (.tup way) v) (ho:kW way) (hl:way.length≤40):∃r,tT K H v r∧r.length≤1000000:=by
 obtain⟨a,b,c,e⟩:=su ho
 have h1:=tupleText_len_le (PyData.shownAll (eB way))
 have h2:(toPy (.tup way)).shown=tupleText (PyData.shownAll (eB way)):=rfl
 have h3:(toPy (.tup way)).shown.length≤1000000:=by rw[h2];omega
 exact⟨_,.inr (.inr ⟨way,hw,c,by simp only[dep];omega,small h3,rfl⟩),h3⟩
section
variable{P:Program}{w:World}{K:Fg06}{mg:Str→Option Value}{base:Heap}{f:Addr}{fd:FuncData}
def sL (K:Fg06) (C:Addr):Sp:=fun vs H Q _=>∃(a:Addr) (y:V) (r:Str),vs=[.ref a,y]∧H a=some (.ext (ExcAt a C none))∧tT K H y r∧r.length≤1000000∧∀dx,H dx=none→Q .aR (upd (upd H dx (.xd [("at",y)])) a (.ext (ExcAt a C (some dx))))
theorem BL:aW ["self","at"] ["self","at"] (aE uu):=fsX rfl rfl rfl rfl (by decide +kernel)
theorem Ax{C S fa:Addr}(T:gW K C S fa) (B:qK K S) (hm:mg "SnakeError"=some (.ref S)) (hn:PySem.W.findIn K (.ref C) "at"=some none) (F:eX K "__init__" "BadName.__init__" uu f fd):bO P w K mg base fw 1 f fd ["self","at"] (sL K C):=by
 refine F.hV BL (fun vs H Q E h=>?_) (fun Si A outer s H vs Q E hr h=>?_)
 ·obtain⟨_,_,_,rfl,_⟩:=h;rfl
 obtain⟨a,y,r,rfl,ha,hs,hl,q⟩:=h
 refine⟨_,ah (ba (L3.iK T B rfl hm (aa (pv 0) (aa (L3.vZ hr (by decide +kernel) (pv 1)) ae))))
  (aj (L3.ky T hn (pv 0) (pv 1))),?main⟩
 case main=>
  refine⟨_,rfl,_,rfl,r,hs,small hl,?_,a,_,rfl,ha,?_⟩
  ·have e:∀(c:Str),(Str.empty++c++r).length=c.length+r.length:=fun c=>by
    show((Str.empty.cps++c.cps)++r.cps).size=c.cps.size+r.cps.size
    rw[Array.size_append,Array.size_append]
    show 0+_+_=_
    omega
   rw[e,sizeLine_eq]
   have:∀(n:Nat),n≤1000→n+r.length≤16777216:=fun n hn=>by omega
   exact this _ (by decide +kernel)
  ·exact⟨_,rfl,_,rfl,a,rfl,ha,fun dx Fj=>q dx Fj⟩
end
abbrev pLk:Stmt:=dz 25
theorem oz (n:Nat) (s:D) (xs:List D):eJ n (s::xs)=eJ n [s]++eJ n xs:=by
 cases n with
 | zero=>rfl
 | succ n=>
  simp[eJ]
theorem mW (n:Nat) (d:D):(eJ (n+1) [d]).length=1+(eJ n (aO d)).length:=by
 show([d].flatMap fun s=>s::eJ n (aO s)).length=_
 simp
 omega
theorem cW.xj:∀{m:Nat}{ds:List D},(∀d∈ds,cW d)→(eJ m ds).length≤ds.length*cR m
 | 0,_,_=>Nat.zero_le _
 | m+1,ds,h=>by
  induction ds with
  | nil=>exact Nat.zero_le _
  | cons s ds ih=>
   have h1:=ih fun d hd=>h d (C0 _ hd)
   have h2:=(h s C1).inner
   have h3:(eJ m (aO s)).length≤22*cR m:=CZ (cW.xj h2.1) (Nat.mul_le_mul_right _ h2.2)
   rw[oz,CK,mW,CY,Nat.add_mul]
   have e:cR (m+1)=1+22*cR m:=rfl
   rw[e] at h1 ⊢
   omega
def mu:List Tn→Nat
 | []=>0
 | a::as=>(eJ a.2.2 [a.1]).length+mu as
theorem je:∀as bs:List Tn,mu (as++bs)=mu as+mu bs
 | [],bs=>by simp[mu]
 | a::as,bs=>by simp only[List.cons_append,mu,je as bs];omega
theorem rJ:∀as:List Tn,mu as.reverse=mu as
 | []=>rfl
 | a::as=>by rw[List.reverse_cons,je,rJ as];simp only[mu];omega
theorem rK (ps:List Str) (n:Nat):∀ds:List D,mu (ds.map fun s=>(s,ps,n))=(eJ n ds).length
 | []=>by cases n<;>rfl
 | d::ds=>by
  rw[List.map_cons,oz,CK]
  simp only[mu,rK ps n ds]
theorem wB:∀{as:List Tn},(∀a∈as,1≤a.2.2)→as.length≤mu as
 | [],_=>CN _
 | a::as,h=>by
  have h1:=wB (as:=as) fun b hb=>h b (C0 _ hb)
  have h2:=h a C1
  obtain⟨d,ps,n⟩:=a
  cases n with
  | zero=>cases h2
  | succ n=>
   have:=mW n d
   simp only[mu,List.length_cons]
   omega
theorem cQ.own{m:Nat}{H H':Hp}{l:Addr}{o:HO}(h0:H l=none) (g:cQ m H H'):cQ m H (upd H' l o):=fun p u e=>by
 have hp:p≠l:=fun z=>by rw[z,h0] at e;cases e
 rw[aF hp];exact g p u e
theorem cQ.my{m:Nat}{H H':Hp}{p:Addr}(g:cQ m H H') (h:H' p=none):H p=none:=by
 cases e:H p with
 | none=>rfl
 | some u=>
  rcases g p u e with h1 | ⟨_,_,_,h1,_⟩<;>(rw[h] at h1;cases h1)
theorem cQ.without{m:Nat}{H H':Hp}{l:Addr}(h0:H l=none) (g:cQ m H H'):cQ m H (without H' l):=fun p u e=>by
 have hp:p≠l:=fun z=>by rw[z,h0] at e;cases e
 rw[gY hp];exact g p u e
theorem cQ.note{n:Nat}{H H':Hp}{sd:Addr}{Sd EA:List (Key×V)}(hB:di sd H H') (h:H sd=some (.dK Sd)) (h':H' sd=some (.dK EA)) (hk:∀k,(dj Sd k).isSome=true→(dj EA k).isSome=true) (hl:EA.length≤Sd.length+n):cQ n H H':=fun p u e=>by
 by_cases hp:p=sd
 ·rw[hp,h] at e
  cases e
  exact .inr ⟨Sd,EA,rfl,by rw[hp];exact h',hk,hl⟩
 ·exact .inl (hB p u hp e)
theorem TurnsAt.mem{K:Fg06}{C CP:Addr}{G:Addr→Prop}{H:Hp}{L:Nat}{ts:List V}{as:List Tn}(h:TurnsAt K C CP G H L ts as):∀a∈as,jX a.2.2 a.1:=by
 induction h with
 | nil=>intro a ha;cases ha
 | cons x _ ih=>
  intro a ha
  rcases List.mem_cons.mp ha with rfl | ha
  ·obtain⟨_,_,_,_,_,_,_,h5,_⟩:=x
   exact h5
  ·exact ih a ha
section
variable{P:Program}{w:World}{K:Fg06}{mg:Str→Option Value}{base:Heap}{f:Addr}{fd:FuncData}{C CP CB SB:Addr}
def zQ (K:Fg06) (CB:Addr):Sp:=fun vs H Q E=>∃(x:V) (Sf:List D),vs=[x]∧At K H (.tup Sf) x∧(∀d∈Sf,jX 5 d∧cW d)∧Sf.length≤1∧(∀H' m,cQ m H H'→(∀d∈Sf,Good 5 [] d)→Q .aR H')∧∀dx H' m,cQ m H H'→E (.ref CB) dx H'
theorem vF:aW ["program","waiting","turn","row","spot"] ["program"] (aE pLk):=fsX rfl rfl rfl rfl (by decide +kernel)
abbrev lkW (K:Fg06) (C CP:Addr) (H:Hp) (x:V) (wl:Addr) (N0:Nat) (Sf:List D):Nat→L2.St→Hp→Prop:=fun m σ H'=>(∃o2 o3 o4,σ=[some x,some (.ref wl),o2,o3,o4])∧(∃M,cQ M H H')∧∃as us,H' wl=some (.lst us)∧TurnsAt K C CP (fun p=>p≠wl) H' (1000+63*(N0 - m)) us as∧(∀a∈as,a.2.2≤5)∧m=mu as∧m≤N0∧((∀a∈as,Good 5 a.2.1 a.1)→∀d∈Sf,Good 5 [] d)
theorem Cd (g:fh mg) (c:zv K C) (cp:Bd K CP) (F:eX K "looked" "looked" pLk f fd)
  (MS:kX P w K mg base "Spot" CP ["self","scope","way","in_loop","in_catch"] 1 (pS CP)) (MN:xo P w K mg base "note" C ["self","names"] 1 (qY K C)) (XB:qH P w K mg base "BadName" CB SB ["self","at"] 1 (sL K CB))
  (dPs:Def P w K mg base "program_scope" ["program"] 8 (vy K C)) (dRo:Def P w K mg base "rows_of_block" ["block","spot"] 3 (pT K C CP)) (dIw:Def P w K mg base "is_wrong" ["row","spot"] 3 (zR K C CP)) (dNo:Def P w K mg base "names_of_row" ["row"] 3 (vA K)) (dRw:Def P w K mg base "rows_within" ["statement","spot"] 11 (zM K C CP)):
  bO P w K mg base (xB P w) 13 f fd ["program"] (zQ K CB):=by
 refine F.okF vF (fun vs H Q E h=>?_) (fun Si A outer s H vs Q E hr h=>?_)
 ·obtain⟨_,_,rfl,_⟩:=h;rfl
 obtain⟨x,Sf,rfl,hx,bH,hlen,q,hE⟩:=h
 refine⟨_,(ah (aA (i:=1) vF.nd rfl (Or.inl rfl) (.mk (L2.ju rfl rfl g.nList rfl g.yN (LA.out (aa (L3.aK dRo hr (by decide) rfl (aa (pv 0) (aa (L3.nO MS hr (by decide) rfl (aa (L3.aK dPs hr (by decide) rfl (aa (pv 0) ae)) (aa (aw ae) (aa cn (aa cn ae))))) ae))) ae)))))
   (aj (cu PassesOwn.leaving (ar (gP hr) (pv 1) (aI ae) (aH _)) (ah (aA (i:=2) vF.nd rfl (Or.inl rfl) (eF CW PySem.F.slot_list_pop PySem.F.type_list_pop rL (pv 1)))
   (ah (aA (i:=3) vF.nd rfl (Or.inl rfl) (bC pz (pv 2) ak (fun _ _=>rfl)))
   (ah (aA (i:=4) vF.nd rfl (Or.inl rfl) (bC pz (pv 2) ak (fun _ _=>rfl)))
   (ah (aN (cB (L3.aK dIw hr (by decide) rfl (aa (pv 3) (aa (pv 4) ae)))) (aj (L3.mf uj rfl XB (L3.BW XB hr (by decide) rfl (aa (L3.cz (pv 4)) ae)))) aB)
   (ah (ba (L3.BX MN hr (by decide) (L3.cz (pv 4)) (aa (L3.aK dNo hr (by decide) rfl (aa (pv 3) ae)) ae)))
   (aj (ba (cj CW PySem.F.slot_list_extend PySem.F.type_list_extend kA (pv 1) (aa (.mk (L2.ju rfl rfl g.nList rfl g.yN (LA.out (aa (L3.aK dRw hr (by decide) rfl (aa (pv 3) (aa (pv 4) ae))) ae)))) ae)))))))))))),?main⟩
 case main=>
  have c5:cR 5=245411:=by decide +kernel
  have B:ja 5 Sf:=ja.mk' (fun d hd=>(bH d hd).2) (fun d hd=>(bH d hd).1) (by rw[c5];omega)
  have N7:(eJ 5 Sf).length≤245411:=by
   have:=cW.xj (m:=5) (ds:=Sf) fun d hd=>(bH d hd).2
   rw[c5] at this
   omega
  refine⟨_,rfl,_,rfl,x,5,Sf,rfl,hx,B,fun sc H1 s1 Mh=>?_⟩
  rw[CO (by decide +kernel)] at Mh
  refine⟨by decide,fun p2 EC xn dxn Fh Fj E2=>?_⟩
  have a2:=af EC (.tup [])
  have x2:At K (upd H1 p2 (.tup [])) (.tup []) (.ref p2):=At.new EC (aD.mpr rfl)
  revert a2 x2 Fh Fj
  generalize upd H1 p2 (.tup [])=H2
  intro Fh Fj a2 x2
  obtain⟨s3,c3⟩:=jc (C:=CP) Fh Fj E2
  revert s3 c3
  generalize upd (upd H2 dxn (.own xn)) xn (.ins CP dxn [])=H3
  intro s3 c3
  refine⟨xn,dxn,_,_,_,_,rfl,c3,fun H4 he hx4=>⟨rfl,?_⟩⟩
  have IZ:az H2 H4:=fun p o e=>by
   rw[he p (fun z=>by rw[z,Fh] at e;cases e)];exact s3 p o e
  have Fg:=a2.trans IZ
  have FG:=s1.trans Fg
  refine⟨x,xn,5,Sf,[],1000,_,rfl,At.same FG _ _ hx,bH,by omega,⟨dxn,sc,.ref p2,false,false,[],"program",[],hx4,At.same IZ _ _ x2,Mh.same Fg,fun v hv=>(by cases hv),by decide,by decide,fun d hd=>(by cases hd)⟩,fun rp H5 ts Ri s5 h5 N5=>?_⟩
  refine⟨rp,ts,rfl,br.of h5,fun wl Ht=>?_⟩
  have Gs:=FG.trans s5
  have Hw:H wl=none:=none_of Gs Ht
  have a6:=af Ht (.lst ts.reverse)
  have c6:upd H5 wl (.lst ts.reverse) wl=some (.lst ts.reverse):=ag
  have PF:=((N5.mono (G':=fun p=>p≠wl) fun p o e _ z=>by rw[z,Ht] at e;cases e).same a6).rev
  revert a6 c6 PF
  generalize upd H5 wl (.lst ts.reverse)=H6
  intro a6 c6 PF
  obtain⟨N0,RS⟩:∃N0,N0=(eJ 5 Sf).length:=⟨_,rfl⟩
  rw[←RS] at N7
  refine⟨lkW K C CP H x wl N0 Sf,
   ⟨N0,⟨none,none,none,rfl⟩,⟨0,.of (Gs.trans a6)⟩,(Sf.map fun d=>((d,[],5):Tn)).reverse,ts.reverse,c6,?_,?_,?_,CN _,?_⟩,?_⟩
  ·rw[Nat.sub_self];exact PF
  ·intro a ha
   obtain⟨d,_,rfl⟩:=List.mem_map.mp (List.mem_reverse.mp ha)
   exact CN _
  ·rw[rJ,rK,RS]
  ·intro h d hd
   exact h (d,[],5) (List.mem_reverse.mpr (List.mem_map.mpr ⟨d,hd,rfl⟩))
  rintro m σ H7 ⟨⟨o2,o3,o4,rfl⟩,⟨M,gH⟩,as,us,Hu,RI,Gh,em,hm,hG⟩
  refine⟨_,rfl,by decide,fun p0 Fi=>⟨wl,p0,us,rfl,rfl,br.of ((af Fi _) _ _ Hu),br.of ag,_,rfl,?_⟩⟩
  have t0:az H7 (upd H7 p0 (.lst [])):=af Fi _
  revert t0
  generalize upd H7 p0 (.lst [])=H8
  intro t0
  have NU:=t0 _ _ Hu
  have RH:=RI.same t0
  have RQ:=gH.trans (.of t0)
  rcases List.eq_nil_or_concat as with rfl | ⟨J9,⟨d,ps,n⟩,rfl⟩
  ·cases RI
   exact bg (q H8 _ RQ (hG fun a ha=>by cases ha))
  rw[List.concat_eq_append] at RH Gh em hG
  obtain⟨vi,t,rfl,hTi,hTt⟩:=RH.snoc_inv
  rw[show(!(vi++[t]).isEmpty)=true by simp]
  have ngw:¬(wl≠wl):=fun z=>z rfl
  refine bJ ⟨fun σ H'=>∃m',m' < m∧((∃o2 o3 o4,σ=[some x,some (.ref wl),o2,o3,o4])∧(∃M,cQ M H H')∧∃as us,H' wl=some (.lst us)∧TurnsAt K C CP (fun p=>p≠wl) H' (1000+63*(N0 - m')) us as∧(∀a∈as,a.2.2≤5)∧m'=mu as∧m'≤N0∧((∀a∈as,Good 5 a.2.1 a.1)→∀d∈Sf,Good 5 [] d)),fun σ' H' z=>z,?_⟩
  refine⟨_,rfl,.inl ⟨rfl,_,br.of NU⟩,wl,_,t,rfl,rfl,NU,by simp,?_⟩
  rw[List.dropLast_concat]
  have B9:=di.gL wl H8 (.lst vi)
  have K3:=hTi.but B9 NU ngw
  have K2:TurnsAt K C CP (fun p=>p≠wl) (upd H8 wl (.lst vi)) (1000+63*(N0 - m)) [t] [(d,ps,n)]:=(TurnsAt.cons hTt .nil).but B9 NU ngw
  have Lv:upd H8 wl (.lst vi) wl=some (.lst vi):=ag
  have Oa:=RQ.own (l:=wl) (o:=.lst vi) Hw
  clear B9
  revert K3 K2 Lv Oa
  generalize upd H8 wl (.lst vi)=H9
  intro K3 K2 Lv Oa
  obtain⟨tp,vr,sp,rfl,NV,OX,Ez,KA,G8⟩:jI K C CP (fun p=>p≠wl) H9 (1000+63*(N0 - m)) t (d,ps,n):=by cases K2 with | cons a _=>exact a
  have hn:n≤5:=Gh (d,ps,n) (by simp)
  refine⟨_,rfl,tp,[vr,.ref sp],((0:Nat):Int),vr,rfl,rfl,cq.of NV,fG rfl,?_⟩
  refine⟨_,rfl,tp,[vr,.ref sp],((1:Nat):Int),.ref sp,rfl,rfl,cq.of NV,fG rfl,?_⟩
  refine⟨_,rfl,_,rfl,vr,sp,d,ps,_,n,0,_,rfl,OX,G8,Ez,fun b FF EU hb=>⟨b,rfl,?_⟩⟩
  have Lb:=Oa.trans (.of EU)
  have HS:=Ez.same EU
  obtain⟨dx,JG,vw,il,ic,way,kd,vd,h1,h2,h3,h4,h5',h6,Gf⟩:=id HS
  refine aQ (fun _=>?_) (fun eb=>?_)
  ·
   refine⟨_,rfl,sp,CP,dx,_,_,rfl,h1,cp.cls,cp.n2,qW ..,by show 1≤sizeLine;decide,fun e he hne'=>?_⟩
   have NZ:=Lb.my he
   have LN:=af he (.ext (ExcAt e CB none))
   obtain⟨r,Mi,Gb⟩:=uZ (At.same LN _ _ h2) Gf (by omega)
   refine⟨e,vw,r,rfl,ag,Mi,Gb,fun dxe MH=>⟨rfl,e,some dxe,rfl,hne',ag,hE _ _ _ (cQ.without NZ (cQ.own NZ (cQ.own ?_ (cQ.own NZ Lb))))⟩⟩
   by_cases z:dxe=e
   ·rw[z];exact NZ
   ·rw[aF z] at MH;exact Lb.my MH

  cases n with
  | zero=>exact KA.elim
  | succ n=>
   obtain⟨LK,od,tg,dv,sd,ow,tl,Sd,g1,g2,g3,g4,g5,g6,g7,g8⟩:=id h3
   refine⟨_,rfl,sp,CP,dx,_,_,rfl,h1,cp.cls,cp.n1,iE ..,JG,LK,_,rfl,g1,xV ..,_,rfl,vr,d,rfl,At.same EU _ _ OX,G8,fun np Ka zs EF Hh Nu hz=>?_⟩
   have mu1:mu (J9++[(d,ps,n+1)])=mu J9+(1+(eJ n (aO d)).length):=by
    rw[je]
    simp only[mu]
    rw[mW]
    omega
   refine⟨JG,LK,np,sd,_,zs,Sd,rfl,Hh _ _ g1,pV ..,Nu,Hh _ _ g5,by omega,fun JB EA Lk h12 hk12 Mw=>?_⟩
   have G12:=cQ.note (n:=63) Lk (Hh _ _ g5) h12 hk12 (by omega)
   have g9:cQ (0+(0+63)) H9 JB:=(cQ.of EU).trans ((cQ.of Hh).trans G12)
   have Kr:JB wl=some (.lst vi):=g9.lst Lv
   have Ii:=K3.grow g9
   have hpl12:=Ez.grow g9
   have hvr12:=At.ax g9.ax _ _ OX
   have gH12:=Oa.trans g9
   have KL:=TurnsAt.mem Ii
   have hlen1:J9.length≤mu J9:=wB fun a ha=>by
    have:=KL a ha
    obtain⟨d',Iv,n'⟩:=a
    cases n' with
    | zero=>exact this.elim
    | succ n'=>exact Nat.succ_le_succ (Nat.zero_le _)
   have HY:=G8.inner
   refine⟨_,rfl,.inl ⟨rfl,_,br.of Kr⟩,_,rfl,_,rfl,vr,sp,n,d,ps,_,_,rfl,fun p hp z=>by(rw[z,Kr] at hp;cases hp),hvr12,KA,G8,by omega,hpl12,by omega,fun Q0 Oe ws Kx Gm h13 MY=>?_⟩
   refine⟨Q0,ws,rfl,br.of h13,fun Ki hl14=>?_⟩
   have NC:=af hl14 (.lst ws.reverse)
   have Qo:upd Oe Ki (.lst ws.reverse) Ki=some (.lst ws.reverse):=ag
   revert NC Qo
   generalize upd Oe Ki (.lst ws.reverse)=R7
   intro NC Qo
   have Ke:=Gm.trans NC
   have L9:=Ke _ _ Kr
   have l1:=Ii.len
   have l2:=MY.len
   rw[CS] at l2
   refine⟨wl,Ki,vi,ws.reverse,rfl,rfl,L9,Qo,by(rw[List.length_reverse,l1,l2];exact small (by have h22:(aO d).length≤22:=HY.2;omega)),?_⟩
   have T1:=((Ii.same Ke).append ((MY.same NC).rev)).but (di.gL wl R7 (.lst (vi++ws.reverse))) L9 ngw
   have mu2:mu (J9++((aO d).map fun s=>(s,cM ps d,n)).reverse)=mu J9+(eJ n (aO d)).length:=by rw[je,rJ,rK]
   refine⟨mu (J9++((aO d).map fun s=>(s,cM ps d,n)).reverse),by omega,⟨_,_,_,rfl⟩,⟨_,(gH12.trans (.of Ke)).own Hw⟩,_,_,ag,?_,?_,rfl,by omega,?_⟩
   ·have eL:1000+63*(N0 - mu (J9++((aO d).map fun s=>(s,cM ps d,n)).reverse))=1000+63*(N0 - m)+(0+(0+63)):=by omega
    rw[eL];exact T1
   ·intro a ha
    rcases Df.mp ha with ha | ha
    ·exact Gh a (by simp[ha])
    ·obtain⟨s',_,rfl⟩:=List.mem_map.mp (List.mem_reverse.mp ha)
     show n≤5
     omega
   ·intro h
    refine hG fun a ha=>?_
    rcases Df.mp ha with ha | ha
    ·exact h a (List.mem_append_left _ ha)
    ·rw[Dg.mp ha]
     refine Good.step (KA.deep.mono hn) (hb eb) fun s' Ga=>?_
     exact h (s',cM ps d,n) (Dh _ (List.mem_reverse.mpr (List.mem_map.mpr ⟨s',Ga,rfl⟩)))
end
end GS
namespace L2
open PySem PySem.Spec PyProof.Rows
section
variable{X:Cx}{es:List Expr}{t:TA}{pos:Pos}
def Bw (K:Fg06) (t:TA):TE:=fun σ H Q=>t σ H fun xs H1=>xs.length≤sizeLine∧∀p,H1 p=none→K.lookup p=none→Q (.ref p) (upd H1 p (.lst xs))
theorem yu (h:PA X es t):PE X (.List es pos) (Bw X.K t):=by
 intro Sb s σ H Q I hq
 refine wpAny_List_spliced (cx (h pos Sb s σ H _ I hq) fun us s1 ⟨xs,H1,I1,r,z,q⟩=>⟨by rw[←r.length];exact z,?_⟩)
 have hf:H1 s1.heap.objs.size=none:=I1.bH.fresh (CN _)
 have hk:X.K.lookup s1.heap.objs.size=none:=by
  cases e:X.K.lookup s1.heap.objs.size with
  | none=>rfl
  | some o=>exact absurd (Heap.lt_size (I1.kQ _ _ e)) (C7 _)
 refine⟨.ref s1.heap.objs.size,upd H1 s1.heap.objs.size (.lst xs),I1.laid (t':=s1.toks) (fun b u e=>CL _ e) (CN _) ?_,rfl,q _ hf hk⟩
 exact⟨z,us,0,r,Heap.get?_push_size _ rfl⟩
end
end L2
namespace GS
open PySem PyProof.Rows
open L2 hiding ak cn bj aq pv cZ ay fQ bZ dw dY fR b9 bC cI cH cm ae aa aI aw bG aV cj eF ar cB dk bQ cX bX dZ aL bU aU cw bF dm bz cU aG ba aA eD aN cu bR aB ah aj
open L3
abbrev zV:Stmt:=dz 42
section
variable{P:Program}{w:World}{K:Fg06}{mg:Str→Option Value}{base:Heap}{f:Addr}{fd:FuncData}{CB SB:Addr}
structure CF (P:Program) (w:World) (K:Fg06) (mg:Str→Option Value) (base:Heap) (name:Str) (ps:List Str) (k:Nat) (sp:Sp):Prop where
 ex:∃(f:Addr) (fd:FuncData),mg name=some (.ref f)∧PySem.W.keepIn K (.ref f)=true∧Binds K fd ps []∧bO P w K mg base (xB P w) k f fd ps sp
def sI (K:Fg06):Sp:=fun vs H Q _=>∃(x:V) (d:D),vs=[x]∧At K H d x∧jX 5 d∧cW d∧∀b H' m,cQ m H H'→(b=true→Good 5 [] d)→Q (.bl b) H'
theorem BK:aW ["_law_one"] ["_law_one"] (aE zV):=fsX rfl rfl rfl rfl (by decide +kernel)
theorem Aw (F:eX K "_law_let_by" "_law_let_by" zV f fd) (XB:qH P w K mg base "BadName" CB SB ["self","at"] 1 (sL K CB)) (dL:CF P w K mg base "looked" ["program"] 13 (zQ K CB)):bO P w K mg base fw 14 f fd ["_law_one"] (sI K):=by
 refine F.hV BK (fun vs H Q E h=>?_) (fun Si A outer s H vs Q E hr h=>?_)
 ·obtain⟨_,_,rfl,_⟩:=h;rfl
 obtain⟨x,d,rfl,hx,bH,G8,q⟩:=h
 obtain⟨fB,fdB,mB,TB,_,_⟩:=XB.ex
 obtain⟨fL,fdL,mL,kL,bL,FL⟩:=dL.ex
 refine⟨_,ah (.mk (L2.Ad TB rfl rfl rfl mB (by decide) (fun E xe pn hp=>pJ.out (aj (ba (.mk (L2.tu (FL.mono (CN _)) hr rfl mL kL bL .nil hp (LA.out (aa (aw (aa (pv 0) ae)) ae))))))) (fun e pn=>pJ.out (aj (aG cn)))))
  (aj (aG cn)),?main⟩
 case main=>
  refine⟨_,rfl,by show 1≤sizeLine;decide,fun p hp=>?_⟩
  have s1:=af hp (.tup [x])
  refine⟨.ref p,[d],rfl,At.new hp (ai.eA hx),fun d' GB=>by(rw[Dg.mp GB];exact⟨bH,G8⟩),CN _,fun H' m g hG=>?_,fun dx H' m g=>⟨rfl,?_⟩⟩
  ·exact q true H' _ ((cQ.of s1).trans g) fun _=>hG d C1
  ·exact q false H' _ ((cQ.of s1).trans g) fun z=>by cases z
end
end GS
namespace GS
open PySem PyProof.Rows
open L2 hiding ak cn bj aq pv cZ ay fQ bZ dw dY fR b9 bC cI cH cm ae aa aI aw bG aV cj eF ar cB dk bQ cX bX dZ aL bU aU cw bF dm bz cU aG ba aA eD aN cu bR aB ah aj
open L3
abbrev sU:Stmt:=dz 43
theorem fY.inner{n:Nat}{d:D}(h:fY (n+1) d):∀s∈aO d,fY n s∨s.k="except"∧aO s=[]:=by
 have sim:fZ d→∀s∈aO d,fY n s∨s.k="except"∧aO s=[]:=fun h=>by
  obtain⟨k,r,rfl,h1,h2,h3,h4,_⟩:=h.kind
  rw[gp h1 h2 h3 h4]
  intro s hs;cases hs
 rcases h with h | ⟨z,ps,b,rfl,hp,EL,hb⟩ | ⟨z,es,b,rfl,he,Gj,hb⟩ | ⟨b,cs,o,l,rfl,hb,hc,EM,ho,hl⟩ | ⟨k,t,b,o,rfl,hk,ht,hb,ho⟩ | ⟨z,t,b,o,rfl,ht,hb,ho⟩
 ·exact sim h
 ·rw[eI (.inl rfl)];exact fun s hs=>.inl (hb.2 s hs)
 ·rw[eI (.inr rfl)];exact fun s hs=>.inl (hb.2 s hs)
 ·rw[jg]
  intro s hs
  rw[Df,Df,Df,List.mem_flatMap] at hs
  rcases hs with hs | ⟨c,EH,hs⟩ | hs | hs
  ·exact .inl (hb.2 s hs)
  ·obtain⟨e,x,b',rfl,h1,h2,ET⟩:=EM c EH
   rcases List.mem_cons.mp hs with rfl | hs
   ·exact .inr ⟨rfl,kR _⟩
   ·exact .inl (ET.2 s hs)
  ·exact .inl (ho.2 s hs)
  ·rcases hl with rfl | ⟨b',rfl,ET⟩
   ·cases hs
   ·exact .inl (ET.2 s hs)
 ·rw[j4 hk]
  intro s hs
  rcases Df.mp hs with hs | hs
  ·exact .inl (hb.2 s hs)
  ·exact .inl (ho.2 s hs)
 ·rw[jh]
  intro s hs
  rcases Df.mp hs with hs | hs
  ·exact .inl (hb.2 s hs)
  ·exact .inl (ho.2 s hs)
def yZ (m:Nat) (d:D):Prop:=∃z ps b,d=.tup [.str "def",.str z,.tup ps,.tup b]∧ps.length≤4∧(∀p∈ps,nN p)∧gu (fY m) b
theorem fY.def{n:Nat}{d:D}(h:fY n d) (hk:d.k="def"):∃m,m < n∧yZ m d:=by
 have sim:¬fZ d:=fun h=>by
  obtain⟨k,r,rfl,h1,_⟩:=h.kind
  exact h1 (.inl hk)
 cases n with
 | zero=>exact(sim h).elim
 | succ n=>
  rcases h with h | ⟨z,ps,b,rfl,hp,EL,hb⟩ | ⟨z,es,b,rfl,he,Gj,hb⟩ | ⟨b,cs,o,l,rfl,hb,hc,EM,ho,hl⟩ | ⟨k,t,b,o,rfl,Fe,ht,hb,ho⟩ | ⟨z,t,b,o,rfl,ht,hb,ho⟩
  ·exact(sim h).elim
  ·exact⟨n,Dd n,z,ps,b,rfl,hp,EL,hb⟩
  ·dsimp only[D.k] at hk;exact absurd hk (by decide +kernel)
  ·dsimp only[D.k] at hk;exact absurd hk (by decide +kernel)
  ·have hk:k="def":=hk
   exact absurd hk (by rcases Fe with rfl | rfl<;>decide +kernel)
  ·dsimp only[D.k] at hk;exact absurd hk (by decide +kernel)
theorem lC{n:Nat}{d d':D}(h:d'∈eJ (n+1) [d]):d'=d∨d'∈eJ n (aO d):=by
 obtain⟨s,hs,h⟩:=gS.mp h
 rw[Dg.mp hs] at h
 exact h
theorem zg:∀{n:Nat}{d d':D},fY n d→d'∈eJ (n+1) [d]→d'.k="def"→∃m,m < n∧yZ m d'
 | 0,d,d',h,hm,hk=>by
  rcases lC hm with rfl | hm
  ·exact h.def hk
  ·cases hm
 | n+1,d,d',h,hm,hk=>by
  rcases lC hm with rfl | hm
  ·exact h.def hk
  ·obtain⟨s,hs,hm⟩:=ib hm
   rcases h.inner s hs with EE | ⟨ek,ei⟩
   ·obtain⟨m,h1,h2⟩:=zg EE hm hk
    exact⟨m,by omega,h2⟩
   ·rcases lC hm with rfl | hm
    ·rw[ek] at hk;exact absurd hk (by decide +kernel)
    ·rw[ei] at hm
     cases n with
     | zero=>cases hm
     | succ n=>cases hm
theorem rA{n m:Nat}{xs:List D}(h:∀s∈xs,gG n s) (hm:n≤m):aM n xs=aM m xs:=by
 induction hm with
 | refl=>rfl
 | step hm ih=>rw[ih];exact jT _ xs fun s hs=>(h s hs).mono hm
theorem pP:∀{ds:List D},(∀d∈ds,cW d)→(ds.flatMap g0).length≤ds.length*2
 | [],_=>Nat.zero_le _
 | d::ds,h=>by
  have h1:=pP (ds:=ds) fun d hd=>h d (C0 _ hd)
  have h2:=(h d C1).told
  rw[List.flatMap_cons,CK,CY,Nat.add_mul]
  omega
theorem yZ.facts{m:Nat}{z:Str}{ps b:List D}(hm:m≤3) (hb:gu (fY m) b):ja (m+1) b∧(∀d∈b,stX (m+1) d)∧((aM (m+1) b).flatMap g0).length≤1000000∧∀s∈b,gG (m+1) s:=by
 have hx:∀d∈b,cW d:=fun d hd=>.inl ⟨m,hb.2 d hd⟩
 have ho:∀d∈b,jX (m+1) d:=fun d hd=>(fY.ok (hb.2 d hd)).1
 have c:cR (m+1)≤11155:=by
  match m,hm with
  | 0,_=>decide
  | 1,_=>decide
  | 2,_=>decide
  | 3,_=>decide
 have hl:b.length*cR (m+1)≤245411:=CZ (Nat.mul_le_mul hb.1 c) (by decide)
 have B:=ja.mk' hx ho hl
 refine⟨B,fun d hd=>⟨m,rfl,hb.2 d hd⟩,?_,fun s hs=>(ho s hs).deep⟩
 have:=pP (ds:=aM (m+1) b) fun d hd=>cW.mem hx d hd
 have:=B.len
 omega
theorem qy:∀xs:List Str,eW (xs.map D.str)≤1
 | []=>by simp[eW]
 | x::xs=>by
  have:=qy xs
  simp only[List.map_cons,eW,dep]
  omega
theorem bO.any{P:Program}{w:World}{K:Fg06}{mg:Str→Option Value}{base:Heap}{CX:qO}{k:Nat}{f:Addr}{fd:FuncData}{ps:List Str}{sp:Nat→Sp}{ok:Nat→Prop}(h:∀n,ok n→bO P w K mg base CX k f fd ps (sp n)):
  bO P w K mg base CX k f fd ps (fun vs H Q E=>∃n,ok n∧sp n vs H Q E):=⟨fun vs H Q E ⟨n,hn,hs⟩=>(h n hn).len vs H Q E hs,fun A outer s H args us vs Q E a b c d ⟨n,hn,hs⟩=>(h n hn).run A outer s H args us vs Q E a b c d hs⟩
section
variable{P:Program}{w:World}{K:Fg06}{mg:Str→Option Value}{base:Heap}{f:Addr}{fd:FuncData}
def zO (K:Fg06):Sp:=fun vs H Q E=>∃n,(1≤n∧n≤4)∧qX K n vs H Q E
theorem Cb (g:fh mg) (F:eX K "_law_own" "_law_own" sR f fd) (dT:∀n,n≤4→Def P w K mg base "_law_text" ["_law_block_here","_law_at"] 5 (xN K n)):bO P w K mg base fw 6 f fd ["_law_host"] (zO K):=by
 refine bO.any (sp:=fun n=>qX K n) (ok:=fun n=>1≤n∧n≤4) fun n hn=>yH g F (dT n hn.2) ?_
 obtain⟨m,rfl⟩:∃m,n=m+1:=⟨n - 1,by omega⟩
 intro x xa Sf way H Q E hx Gp hw EE hl Jq Hk hq
 refine⟨x,xa,Sf,way,rfl,hx,Gp,fun d hd=>?_,hl,by omega,by(rw[hw];show 0+_≤_;omega),fun p H' rows hp s hL hr ht hle=>hq p H' rows hp s hL hr ht ?_⟩
 ·obtain⟨m',e,h⟩:=EE d hd
  have:m=m':=by omega
  rw[this];exact h
 ·have h1:=zu (m+1) Jq
  have h2:Sf.length*cT (m+1)≤4*3730503:=Nat.mul_le_mul hl h1
  omega
theorem w8{H1:Hp}{a:Addr}{Sh:List V}{ds:List D}{σ:L2.St}{Q:Addr→Hp→Prop}(sq:cq K H1 a Sh) (hA:ai K H1 ds Sh) (hd:∀d∈ds,jX 5 d∧cW d) (hl:ds.length≤1000) (q:∀p H' Hg ys,H' p=some (.lst ys)→ai K H' Hg ys→Hg.length≤ds.length→(∀d∈Hg,d∈ds∧Good 5 [] d)→Q p H'):
  ∃vs:List V,(vs.length=([]:List Nat).length∧∀(j i:Nat),([]:List Nat)[j]?=some i→∃v,vs[j]?=some v∧σ[i]?=some (some v))∧∀D,H1 D=none→∃W:Nat→Nat→List V→Hp→Prop,(∃m,W 0 m [] (upd H1 D (.lst [])))∧∀i m ys H,W i m ys H→
   ((xq K a).stop i H∧Q D H)∨((xq K a).go i H∧∀x H' (ox:List (Option V)),ox.length=1→(xq K a).pK i H x H'→fX 0 x (ox++vs.map some) H' fun σ2 H2=>∃EN,EN.length=1∧σ2=EN++vs.map some∧L2.tB (lP (sI K) [] E0 (cL (fi 0) gJ)) σ2 H2 fun b H3=>
    if b=true then fi 0 σ2 H3 fun v H4=>H4 D=some (.lst ys)∧ys.length < sizeLine∧∃m',m' < m∧W (i+1) m' (ys++[v]) (upd H4 D (.lst (ys++[v]))) else ∃m',m' < m∧W (i+1) m' ys H3):=by
 have lp:=hA.len
 refine⟨[],⟨rfl,fun j i h=>by simp at h⟩,fun np EF=>⟨fun i m ys H'=>m=Sh.length - i∧i≤Sh.length∧(∃M,cQ M H1 H')∧H' np=some (.lst ys)∧∃Hg,ai K H' Hg ys∧Hg.length≤i∧∀d∈Hg,d∈ds∧Good 5 [] d,⟨_,rfl,Nat.zero_le _,⟨0,.of (af EF _)⟩,ag,[],aD.mpr rfl,CN _,fun d hd=>by cases hd⟩,?_⟩⟩
 rintro i m ys H' ⟨rfl,hi,⟨M,gH⟩,hD,Hg,RP,Mx,KQ⟩
 have HD:=cq.ax gH.ax sq
 by_cases Ex:i < Sh.length
 ·refine .inr ⟨⟨Sh,Sh[i],HD,by simp[Ex]⟩,fun x H'' ox Fn hy=>?_⟩
  obtain⟨rfl,hy⟩:=hy
  have ex:=hy Sh HD
  have Fs:i < ds.length:=by rw[←lp];exact Ex
  obtain⟨v',ED,ER⟩:=ai.get (i:=i) hA (d:=ds[i]) (by simp[Fs])
  have ev:v'=x:=by rw[ex] at ED;cases ED;rfl
  subst ev
  have Ey:=At.ax gH.ax _ _ ER
  have md:ds[i]∈ds:=C2 Fs
  obtain⟨o,rfl⟩:∃o,ox=[o]:=by
   match ox,Fn with
   | [o],_=>exact⟨o,rfl⟩
  refine⟨[some v'],rfl,rfl,?_⟩
  refine⟨_,rfl,v',ds[i],rfl,Ey,(hd _ md).1,(hd _ md).2,fun b H3 m3 g3 hb=>⟨b,rfl,?_⟩⟩
  have M6:=g3.lst hD
  have RR:=gH.trans g3
  have Hr:=ai.ax g3.ax _ _ RP
  have hAi3:=At.ax g3.ax _ _ Ey
  have l3:=Hr.len
  refine aQ (fun eb=>⟨_,rfl,M6,?_,Sh.length - (i+1),by omega,rfl,Ex,⟨_,RR.own EF⟩,ag,Hg++[ds[i]],?_,?_,?_⟩) (fun _=>⟨Sh.length - (i+1),by omega,rfl,Ex,⟨_,RR⟩,M6,Hg,Hr,by omega,KQ⟩)
  ·rw[l3];exact nK (by omega)
  ·have T:=aS (ys:=ys++[v']) M6
   exact ai.append (ai.ax T _ _ Hr) (ai.eA (At.ax T _ _ hAi3))
  ·rw[CK,List.length_singleton];omega
  ·intro d GB
   rcases Df.mp GB with GB | GB
   ·exact KQ d GB
   ·rw[Dg.mp GB];exact⟨md,hb eb⟩
 ·have ei:i=Sh.length:=by omega
  subst ei
  exact .inl ⟨⟨Sh,HD,CN _⟩,q np H' Hg ys hD RP (by omega) KQ⟩
def oH (K:Fg06):Sp:=fun vs H Q _=>∃(a:Addr) (ns:List Int),vs=[.ref a]∧br K H a (ns.map V.int)∧ns.length≤63∧∀H',Q (.bl true) H'
theorem lX:aW ["_law_script","_law_program_here","_law_at","_law_one","_law_found"] ["_law_script"] (aE sU):=fsX rfl rfl rfl rfl (by decide +kernel)
theorem yK (g:fh mg) (F:eX K "law" "law" sU f fd) (dPg:Def P w K mg base "_law_program" ["_law_cells","_law_spot"] 21 (zN K)) (dLet:Def P w K mg base "_law_let_by" ["_law_one"] 14 (sI K)) (dAll:Def P w K mg base "_law_all" ["_law_block_here","_law_at"] 7 (sM K 6))
  (dOwn:Def P w K mg base "own_names" ["params","block"] 5 (nJ K)) (dOl:Def P w K mg base "_law_own" ["_law_host"] 6 (zO K)):bO P w K mg base fw 22 f fd ["_law_script"] (oH K):=by
 refine F.hV lX (fun vs H Q E h=>?_) (fun Si A outer s H vs Q E hr h=>?_)
 ·obtain⟨_,_,rfl,_⟩:=h;rfl
 obtain⟨a,ns,rfl,hS,PV,q⟩:=h
 refine⟨_,(ah (aA (i:=1) lX.nd rfl (Or.inl rfl) (aV b4 rfl g.fm eg (aa (.mk (L2.eE (cl:=[]) (Xs:=["_law_one"]) (Nf:=[]) (js:=[]) ?k1 rfl (LI.out (dm (L3.aK dPg hr (by decide) rfl (aa (pv 0) (aa (.mk (L2.yu (LA.out (aa ak (aa ak ae))))) ae))))) (fun C s0 H0 fp=>LG.out (aL (i:=0) (show(["_law_one"]:List Str).Nodup by decide +kernel) rfl (Or.inl rfl))) (fun C s0 H0 fp=>jV (LT.out (cB (L3.aK dLet hr (by decide) rfl (aa (pv 0) ae))))) (fun C s0 H0 fp=>LE.out (pv 0)))) ae)))
   (ah (bR C9 rfl (bF (L3.aK dAll hr (by decide) rfl (aa (pv 1) (aa (aw ae) ae)))) (cw rfl (aU (aL (i:=2) lX.nd rfl (Or.inl rfl)) (aU (aL (i:=3) lX.nd rfl (Or.inl rfl)) bU))) (aj (aN (ar bw (aC (pv 3)) aq (aH _)) (ah (aA (i:=4) lX.nd rfl (Or.inl rfl) (L3.aK dOwn hr (by decide) rfl (aa (aC (pv 3)) (aa (aC (pv 3)) ae))))
   (aj (aN (LW.pt (dZ (dk (cB (bG kH rfl g.AA xg (aa (pv 4) (aa (cZ (v:=.ty "tuple") rfl g.fm eg rfl) ae))))) (dZ (ar (wj hr) (pv 4) (L3.aK dOl hr (by decide) rfl (aa (pv 3) ae)) (aH _)) (cX (ar (wj hr) (L3.aK dOwn hr (by decide) rfl (aa (aC (pv 3)) (aa (aC (pv 3)) ae))) (pv 4) (aH _)))))) (aj (aG cn)) aB))) aB)))
   (aj (aG (bZ (wo hr) (L3.aK dOwn hr (by decide) rfl (aa (aw ae) (aa (aw ae) ae))) (aw ae) (aH _)))))),?main⟩
 case k1=>
  refine⟨rfl,by decide +kernel,rfl,by decide +kernel,fun y c h=>(by cases h),fun y hy=>?_,rfl,fun j y h=>(by simp at h)⟩
  have EI:([(".0",.local),("_law_one",.local),("_law_let_by",.globalImplicit)]:List (Str×NameKind)).lookup y=some .cell∨([(".0",.local),("_law_one",.local),("_law_let_by",.globalImplicit)]:List (Str×NameKind)).lookup y=some .free:=hy
  rcases EI with z | z<;>(have m:=CV z;simp at m)
 case main=>
  refine⟨_,rfl,by show 2≤sizeLine;decide,fun b hb My=>?_⟩
  have My:K.lookup b=none:=My
  have s1:=af hb (.lst [.int 0,.int 30])
  have c1:upd H b (.lst [.int 0,.int 30]) b=some (.lst [.int 0,.int 30]):=ag
  have ne:a≠b:=fun z=>by
   rcases hS with (h | ⟨o,h⟩) | ⟨o,_,_,h,_⟩
   ·rw[z,hb] at h;cases h
   ·rw[z,hb] at h;cases h
   ·rw[z,My] at h;cases h
  revert s1 c1
  generalize upd H b (.lst [.int 0,.int 30])=H1
  intro s1 c1
  refine⟨a,b,0,30,rfl,⟨⟨ns,az.seq s1 hS,PV⟩,ne,c1⟩,by decide,fun r H2 ds hB Gb hdl EE=>?_⟩
  obtain⟨pr,vr,rfl,sqr,He⟩:=aP.mp Gb
  refine⟨pr,rfl,⟨vr,sqr⟩,w8 (K:=K) (a:=pr) (ds:=ds) sqr He (fun d hd=>⟨(fY.ok (EE d hd)).1,.inl ⟨4,EE d hd⟩⟩) (by omega) fun np H3 Hg ys EF hAy Mx KQ=>?_⟩
  refine⟨np,ys,rfl,.inl ⟨br.of EF,fun tp NV=>?_⟩⟩
  have FZ:At K (upd H3 tp (.tup ys)) (.tup Hg) (.ref tp):=At.new NV hAy
  revert FZ
  generalize upd H3 tp (.tup ys)=H4
  intro FZ
  refine⟨_,rfl,by decide,fun pe HU=>?_⟩
  have s5:=af HU (.tup [])
  have Gy:At K (upd H4 pe (.tup [])) (.tup []) (.ref pe):=At.new HU (aD.mpr rfl)
  revert s5 Gy
  generalize upd H4 pe (.tup [])=H5
  intro s5 Gy
  refine⟨.ref tp,.ref pe,Hg,[],rfl,At.same s5 _ _ FZ,Gy,fun d hd=>fY.ok (EE d (KQ d hd).1),by omega,by decide,by decide,fun lp H6 Sg hlp s6 ⟨vl,KN,N8⟩ Hl E8=>?_⟩
  have lA:=N8.len

  have last:∀(H':Hp) (o2 o3 o4:Option V),nc (BR (k8 fw P w K mg base ["_law_script","_law_program_here","_law_at","_law_one","_law_found"] "law" (aE sU) f Si A outer s H E).Ba) (lP (nJ K) [] E0 (cL (lN gJ) (cL (lN gJ) gJ))) (lN gJ) [some (.ref a),some (.ref tp),o2,o3,o4] H' Q:=fun H' o2 o3 o4=>by
   refine⟨by decide,fun p1 EG=>⟨by decide,fun p2 EC=>?_⟩⟩
   have t1:=af EG (.tup [])
   have x1:At K (upd H' p1 (.tup [])) (.tup []) (.ref p1):=At.new EG (aD.mpr rfl)
   have t2:=af EC (.tup [])
   have x2:At K (upd (upd H' p1 (.tup [])) p2 (.tup [])) (.tup []) (.ref p2):=At.new EC (aD.mpr rfl)
   refine⟨.ref p1,.ref p2,0,[],[],rfl,At.same t2 _ _ x1,x2,fun p hp=>(by cases hp),by decide,fun d hd=>(by cases hd),by decide,fun d hd=>(by cases hd),by decide,by decide,fun r H7 s7 G9=>?_⟩
   refine⟨by decide,fun p3 FV=>?_⟩
   have t3:=af FV (.tup [])
   have x3:At K (upd H7 p3 (.tup [])) (.tup []) (.ref p3):=At.new FV (aD.mpr rfl)
   refine⟨_,_,At.same t3 _ _ G9,x3,by decide,?_⟩
   have e:du (.tup ((ir (cv []) (aM 0 [])).map D.str)) (.tup [])=true:=j7 _
   rw[e];exact q _
  refine⟨lp,rfl,⟨vl,br.of KN⟩,fo (K:=K) (a:=lp) (xs:=vl) (fun i σ H'=>(∃o2 o3 o4,σ=[some (.ref a),some (.ref tp),o2,o3,o4])∧az H6 H') ⟨⟨none,none,none,rfl⟩,az.refl _⟩ (fun i σ H' _ h=>by obtain⟨_,sS⟩:=h;exact br.of (sS _ _ KN)) ?_ ?_⟩
  ·rintro i v σ H7 hv ⟨⟨o2,o3,o4,rfl⟩,sS⟩
   have hi:i < Sg.length:=by rw[←lA];exact(CM.mp hv).1
   obtain⟨v',ED,ER⟩:=ai.get (i:=i) N8 (d:=Sg[i]) (by simp[hi])
   have ev:v'=v:=by rw[hv] at ED;cases ED;rfl
   subst ev
   obtain⟨wy,d,er,hd⟩:=Hl Sg[i] (C2 hi)
   have Ey:At K H7 (.tup [wy,d]) v':=by rw[←er];exact At.same sS _ _ ER
   obtain⟨pb,vb,rfl,sqb,Fb⟩:=aP.mp Ey
   obtain⟨z0,r0,rfl,Hi,Fb⟩:=aJ.mp Fb
   obtain⟨z1,r1,rfl,Gv,Fb⟩:=aJ.mp Fb
   cases aD.mp Fb
   obtain⟨s',Ga,Pw⟩:=ib hd
   have Gx:=EE s' (KQ s' Ga).1
   have hgood:=(KQ s' Ga).2
   have G8:cW d:=by
    have:∀{n:Nat}{x:D},cW x→∀y∈eJ n [x],cW y:=fun {n}=>by
     induction n with
     | zero=>intro x hx y hy;cases hy
     | succ n ih=>
      intro x hx y hy
      rcases lC hy with rfl | hy
      ·exact hx
      ·obtain⟨t,ht,hy⟩:=ib hy
       exact ih (hx.inner.1 t ht) y hy
    exact this (.inl ⟨4,Gx⟩) d Pw
   obtain⟨k,rr,rfl,_⟩:=G8.rsh
   refine⟨pb,_,rfl,sqb,rfl,_,_,rfl,_,_,rfl,rfl,?_⟩
   refine⟨_,rfl,0,_,_,rfl,Gv,rfl,fun yk EB=>?_⟩
   rw[av.mp EB]
   refine⟨rfl,_,rfl,?_⟩
   rw[dF]
   by_cases c:k="def"
   ·rw[CJ c]
    obtain⟨m,hm,z,ps,bb,ed,Ez,EL,N3⟩:=zg Gx Pw c
    rw[ed] at Gv
    have Ml:∀p∈ps,∃z e,p=D.tup [.str z,e]:=fun p hp=>by obtain⟨z,e,h,_⟩:=EL p hp;exact⟨z,e,h⟩
    obtain⟨B,hsx,GX,Pt⟩:=yZ.facts (z:=z) (ps:=ps) (show m≤3 by omega) N3
    have KR:∀x∈cv ps,x∉cg "global" (aM (m+1) bb):=by
     have h1:=hgood.d _ Pw
     rw[ed] at h1
     have h2:∀x∈cv ps,x∉cg "global" (aM 5 (aO (.tup [.str "def",.str z,.tup ps,.tup bb]))):=h1 rfl
     rw[eI (.inl rfl),←rA (n:=m+1) Pt (by omega)] at h2
     exact h2
    have esame:=we KR (told:=(aM (m+1) bb).flatMap g0) (wF (aM (m+1) bb))
    have ownS:∀(H8:Hp) (Q':VK) (σ':L2.St),At K H8 (.tup [.str "def",.str z,.tup ps,.tup bb]) z1→σ'[3]?=some (some z1)→(∀r H9,az H8 H9→At K H9 (.tup ((ir (cv ps) (aM (m+1) bb)).map D.str)) r→Q' r H9)→lP (nJ K) [] E0 (cL (nc (iI K) (fi 3) (tC (.int 2))) (cL (nc (iI K) (fi 3) (tC (.int 3))) gJ)) σ' H8 Q':=fun H8 Q' σ' h8 e8 hq=>by
     refine⟨_,e8,2,_,_,rfl,h8,rfl,fun yp hyp=>⟨_,e8,3,_,_,rfl,h8,rfl,fun yb HH=>?_⟩⟩
     exact⟨yp,yb,m+1,ps,bb,rfl,hyp,HH,Ml,by omega,B.ok,B.len,B.A9,B.t1,B.t2,hq⟩
    have JS:∀xs:List Str,dep (.tup (xs.map D.str))≤60:=fun xs=>by
     have:=qy xs
     simp only[dep]
     omega
    refine bJ (ownS H7 _ _ Gv rfl fun r1 H8 s8 JP=>?_)
    refine⟨_,rfl,r1,"tuple",_,true,rfl,JP,rfl,_,rfl,bg ?_⟩
    refine⟨_,rfl,_,rfl,m+1,⟨by omega,by omega⟩,z1,_,ps,bb,rfl,At.same s8 _ _ Gv,Ml,by omega,hsx,N3.1,by omega,B.A9,GX,fun r2 H9 s9 hr9=>?_⟩
    refine⟨_,_,At.same s9 _ _ JP,hr9,JS _,_,rfl,?_⟩
    rw[esame,j7]
    refine bg (ownS H9 _ _ (At.same (s8.trans s9) _ _ Gv) rfl fun r3 FF EU hr10=>?_)
    refine⟨_,rfl,_,_,hr10,At.same (s9.trans EU) _ _ JP,JS _,_,rfl,?_⟩
    rw[j7]
    exact bg ⟨⟨_,_,_,rfl⟩,((sS.trans s8).trans s9).trans EU⟩
   ·rw[CI c]
    exact bg ⟨⟨_,_,_,rfl⟩,sS⟩
  ·rintro σ H7 ⟨⟨o2,o3,o4,rfl⟩,_⟩
   exact last H7 o2 o3 o4
end
end GS
set_option maxHeartbeats 8000000
namespace GS
open PySem L2 PyProof.Rows
def bE (K:Fg06) (mg:Str→Option Value) (name:Str) (st:Stmt):Prop:=∃(f:Addr) (fd:FuncData),mg name=some (.ref f)∧eX K name name st f fd
theorem fun_at6{K:Fg06}{h:Heap}{mg:Str→Option Value}{name:Str}{st:Stmt}{f:Addr}{oc:Value}{od an:Option Addr}{osl:Array (Option Value)}{kV doc pm Si ct:Value}(X:K.In h) (G:h.Ns mainGlobals mg)
  (a:PySem.W.nsIn K mainGlobals name=some (some (.ref f))) (l:K.lookup f=some ⟨oc,od,.func (PySem.W.fnOf name name (ef st) (dg st) (aE st) .none kV doc pm an Si ct),osl⟩)
  (c:PySem.W.codeIn K Si name=true) (k:PySem.W.keepIn K (.ref f)=true):bE K mg name st:=⟨f,_,PySem.W.mg_of X G a,mK l c k⟩
def tU (K:Fg06) (mg:Str→Option Value):Prop:=∃(C f:Addr) (fd:FuncData) (fn:Addr) (fdn:FuncData),mg "Scope"=some (.ref C)∧zv K C∧Mk K C f∧eX K "__init__" "Scope.__init__" ur f fd∧Meth K C "note" fn∧eX K "note" "Scope.note" nP fn fdn
theorem scope_at{K:Fg06}{h:Heap}{mg:Str→Option Value}{C f fn:Addr}{oc:Value}{od an:Option Addr}{osl:Array (Option Value)}{kV doc pm Si ct:Value}{ON:Value}{Kh an':Option Addr}{Kf:Array (Option Value)}{kV' doc' pm' NB ct':Value}(X:K.In h) (G:h.Ns mainGlobals mg)
  (a:PySem.W.nsIn K mainGlobals "Scope"=some (some (.ref C))) (c:tW K C) (n1:cJ K C "kind") (n2:cJ K C "owned") (n3:cJ K C "told_global") (n4:cJ K C "defs") (n5:cJ K C "stood") (m:Mk K C f)
  (l:K.lookup f=some ⟨oc,od,.func (PySem.W.fnOf "__init__" "Scope.__init__" (ef ur) (dg ur) (aE ur) .none kV doc pm an Si ct),osl⟩) (cc:PySem.W.codeIn K Si "Scope.__init__"=true) (k:PySem.W.keepIn K (.ref f)=true) (mt:Meth K C "note" fn)
  (l':K.lookup fn=some ⟨ON,Kh,.func (PySem.W.fnOf "note" "Scope.note" (ef nP) (dg nP) (aE nP) .none kV' doc' pm' an' NB ct'),Kf⟩) (cc':PySem.W.codeIn K NB "Scope.note"=true):tU K mg:=
 ⟨C,f,_,fn,_,PySem.W.mg_of X G a,⟨c,n1,n2,n3,n4,n5⟩,m,mK l cc k,mt,mK l' cc' mt.kp⟩
def xl (K:Fg06) (mg:Str→Option Value):Prop:=∃(C f:Addr) (fd:FuncData),mg "Spot"=some (.ref C)∧Bd K C∧Mk K C f∧eX K "__init__" "Spot.__init__" uq f fd
theorem spot_at{K:Fg06}{h:Heap}{mg:Str→Option Value}{C f:Addr}{oc:Value}{od an:Option Addr}{osl:Array (Option Value)}{kV doc pm Si ct:Value}(X:K.In h) (G:h.Ns mainGlobals mg)
  (a:PySem.W.nsIn K mainGlobals "Spot"=some (some (.ref C))) (c:tW K C) (n1:cJ K C "scope") (n2:cJ K C "way") (n3:cJ K C "in_loop") (n4:cJ K C "in_catch") (m:Mk K C f)
  (l:K.lookup f=some ⟨oc,od,.func (PySem.W.fnOf "__init__" "Spot.__init__" (ef uq) (dg uq) (aE uq) .none kV doc pm an Si ct),osl⟩) (cc:PySem.W.codeIn K Si "Spot.__init__"=true) (k:PySem.W.keepIn K (.ref f)=true):xl K mg:=
 ⟨C,f,_,PySem.W.mg_of X G a,⟨c,n1,n2,n3,n4⟩,m,mK l cc k⟩
def zx (K:Fg06) (mg:Str→Option Value):Prop:=∃(C S f:Addr) (fd:FuncData),mg "BadName"=some (.ref C)∧mg "SnakeError"=some (.ref S)∧gW K C S f∧qK K S∧PySem.W.findIn K (.ref C) "at"=some none∧eX K "__init__" "BadName.__init__" uu f fd
theorem bad_at{K:Fg06}{h:Heap}{mg:Str→Option Value}{C S f:Addr}{oc:Value}{od an:Option Addr}{osl:Array (Option Value)}{kV doc pm Si ct:Value}(X:K.In h) (G:h.Ns mainGlobals mg)
  (a:PySem.W.nsIn K mainGlobals "BadName"=some (some (.ref C))) (a':PySem.W.nsIn K mainGlobals "SnakeError"=some (some (.ref S))) (e:gW K C S f) (b:qK K S) (n:PySem.W.findIn K (.ref C) "at"=some none)
  (l:K.lookup f=some ⟨oc,od,.func (PySem.W.fnOf "__init__" "BadName.__init__" (ef uu) (dg uu) (aE uu) .none kV doc pm an Si ct),osl⟩) (cc:PySem.W.codeIn K Si "BadName.__init__"=true) (k:PySem.W.keepIn K (.ref f)=true):zx K mg:=
 ⟨C,S,f,_,PySem.W.mg_of X G a,PySem.W.mg_of X G a',e,b,n,mK l cc k⟩
section
variable{P:Program}{w:World}{K:Fg06}{mg:Str→Option Value}
theorem law_of6 (g:fh mg) (cs:tU K mg) (cp:xl K mg) (cb:zx K mg) (f1:bE K mg "blocks_of_try" pBT) (f2:bE K mg "blocks_of" pf) (f3:bE K mg "inner_rows" rE) (f4:bE K mg "rows_of_scope" wc) (f5:bE K mg "bound_name" rF) (f6:bE K mg "told_names" wb) (f7:bE K mg "own_names" Aj) (f8:bE K mg "program_scope" pd) (f9:bE K mg "scope_within" oZ) (f10:bE K mg "meaning" wd) (f11:bE K mg "trees_in" mn) (f12:bE K mg "names_in" mr) (f13:bE K mg "trees_of_row" mm) (f14:bE K mg "names_of_row" mq) (f15:bE K mg "spot_of_block" Ah) (f16:bE K mg "rows_of_block" Ai) (f17:bE K mg "rows_within" pRw) (f18:bE K mg "is_told_wrong" pTw) (f19:bE K mg "is_wrong" pIw) (f20:bE K mg "looked" pLk) (f21:bE K mg "_law_cell" rn) (f22:bE K mg "_law_name" rm) (f23:bE K mg "_law_term" rh) (f24:bE K mg "_law_row" vI) (f25:bE K mg "_law_def" sW) (f26:bE K mg "_law_try" sQ) (f27:bE K mg "_law_statement" oO) (f28:bE K mg "_law_block" ly) (f29:bE K mg "_law_program" rj) (f30:bE K mg "_law_blocks" oP) (f31:bE K mg "_law_all" zX) (f32:bE K mg "_law_names_in" lZ) (f33:bE K mg "_law_text" rg) (f34:bE K mg "_law_own" sR) (f35:bE K mg "_law_let_by" zV) (f36:bE K mg "law" sU)
  {fa:Addr}(Pq:mg "law"=some (.ref fa)):
  ∃fd:FuncData,(∀(s:Shared) (v:Value),BindsTo s fd ⟨[v],[]⟩ [("_law_script",v)])∧∀base:Heap,bO P w K mg base fw 22 fa fd ["_law_script"] (oH K):=by
 obtain⟨C,fS,dS,fN,dN,mS,cS,mkS,FS,mtN,FN⟩:=cs
 obtain⟨CP,fP,dP,mP,cP,mkP,FP⟩:=cp
 obtain⟨CB,SB,fB,dB,mB,mSB,tB',bB,nB,FB⟩:=cb
 obtain⟨a1,d1,m1,F1⟩:=f1
 obtain⟨a2,d2,m2,F2⟩:=f2
 obtain⟨a3,d3,m3,F3⟩:=f3
 obtain⟨a4,d4,m4,F4⟩:=f4
 obtain⟨a5,d5,m5,F5⟩:=f5
 obtain⟨a6,d6,m6,F6⟩:=f6
 obtain⟨a7,d7,m7,F7⟩:=f7
 obtain⟨a8,d8,m8,F8⟩:=f8
 obtain⟨a9,d9,m9,F9⟩:=f9
 obtain⟨Ip,d10,m10,QN⟩:=f10
 obtain⟨LN,d11,m11,QM⟩:=f11
 obtain⟨Qp,d12,m12,QL⟩:=f12
 obtain⟨RV,d13,m13,QK⟩:=f13
 obtain⟨NC,d14,m14,QJ⟩:=f14
 obtain⟨a15,d15,m15,QI⟩:=f15
 obtain⟨a16,d16,m16,QH⟩:=f16
 obtain⟨a17,d17,m17,QG⟩:=f17
 obtain⟨Oc,d18,m18,QF⟩:=f18
 obtain⟨a19,d19,m19,QE⟩:=f19
 obtain⟨a20,d20,m20,QD⟩:=f20
 obtain⟨a21,d21,m21,QC⟩:=f21
 obtain⟨a22,d22,m22,QB⟩:=f22
 obtain⟨a23,d23,Lu,Lj⟩:=f23
 obtain⟨a24,d24,m24,QA⟩:=f24
 obtain⟨a25,d25,m25,F25⟩:=f25
 obtain⟨a26,d26,m26,F26⟩:=f26
 obtain⟨a27,d27,m27,F27⟩:=f27
 obtain⟨a28,d28,m28,F28⟩:=f28
 obtain⟨a29,d29,m29,Qz⟩:=f29
 obtain⟨a30,d30,m30,Qy⟩:=f30
 obtain⟨a31,d31,Q9,Qx⟩:=f31
 obtain⟨a32,d32,m32,Qw⟩:=f32
 obtain⟨a33,d33,Q8,Qv⟩:=f33
 obtain⟨a34,d34,m34,Qu⟩:=f34
 obtain⟨a35,d35,m35,Qt⟩:=f35
 obtain⟨a36,d36,m36,R8⟩:=f36
 rw[m36] at Pq
 have ea:a36=fa:=by injection Pq with e;injection e
 subst ea
 refine⟨d36,fun s v=>?_,fun base=>?_⟩
 ·obtain⟨oc,od,kV,doc,pm,an,Si,ct,osl,rfl,lk,Ft⟩:=R8.ex
  exact .of_eq rfl
 have D1:Def P w K mg base "blocks_of_try" ["statement"] 1 (zS K):=bu F1 m1 (qN F1 (fun _ _ _ _ _ _ _=>rfl) rfl) (Cg g F1)
 have D2:Def P w K mg base "blocks_of" ["statement"] 2 (jN K):=bu F2 m2 (qN F2 (fun _ _ _ _ _ _ _=>rfl) rfl) (uw F2 D1)
 have D3:Def P w K mg base "inner_rows" ["statement"] 3 (oJ K):=bu F3 m3 (qN F3 (fun _ _ _ _ _ _ _=>rfl) rfl) (wt F3 D2)
 have D4:Def P w K mg base "rows_of_scope" ["block"] 4 (oE K):=bu F4 m4 (qN F4 (fun _ _ _ _ _ _ _=>rfl) rfl) (yF g F4 D3)
 have D5:Def P w K mg base "bound_name" ["row"] 1 (ll K):=bu F5 m5 (qN F5 (fun _ _ _ _ _ _ _=>rfl) rfl) (wx F5)
 have D6:Def P w K mg base "told_names" ["rows","word"] 1 (oC K):=bu F6 m6 (uS F6 (fun _ _ _ _ _ _ _ _=>rfl) rfl) (yE F6)
 have D7:Def P w K mg base "own_names" ["params","block"] 5 (nJ K):=bu F7 m7 (uS F7 (fun _ _ _ _ _ _ _ _=>rfl) rfl) (Au g F7 D4 D6 D5)
 have MSc:kX P w K mg base "Scope" C ["self","kind","params","block","defs"] 6 (sF K C):=⟨fS,dS,mS,mkS,(bd5 FS (fun _ _ _ _ _ _ _ _ _ _ _=>rfl) rfl),Ao g cS FS D7 D4 D6⟩
 have MN:xo P w K mg base "note" C ["self","names"] 1 (qY K C):=⟨fN,dN,cS.cls,mtN,(uS FN (fun _ _ _ _ _ _ _ _=>rfl) rfl),yI cS FN⟩
 have MSp:kX P w K mg base "Spot" CP ["self","scope","way","in_loop","in_catch"] 1 (pS CP):=⟨fP,dP,mP,mkP,(bd5 FP (fun _ _ _ _ _ _ _ _ _ _ _=>rfl) rfl),An cP FP⟩
 have XB:qH P w K mg base "BadName" CB SB ["self","at"] 1 (sL K CB):=⟨fB,dB,mB,tB',(uS FB (fun _ _ _ _ _ _ _ _=>rfl) rfl),Ax tB' bB mSB nB FB⟩
 have D8:Def P w K mg base "program_scope" ["program"] 8 (vy K C):=bu F8 m8 (qN F8 (fun _ _ _ _ _ _ _=>rfl) rfl) (Ar MSc F8)
 have D9:Def P w K mg base "scope_within" ["statement","scope"] 8 (zI K C):=bu F9 m9 (uS F9 (fun _ _ _ _ _ _ _ _=>rfl) rfl) (B2 cS MSc F9)
 have D10:Def P w K mg base "meaning" ["defs","name"] 1 (qZ K C):=bu QN m10 (uS QN (fun _ _ _ _ _ _ _ _=>rfl) rfl) (yJ g cS QN)
 have D11:Def P w K mg base "trees_in" ["tree"] 1 (zK K):=bu QM m11 (qN QM (fun _ _ _ _ _ _ _=>rfl) rfl) (B6 QM)
 have D12:Def P w K mg base "names_in" ["trees"] 2 (vz K):=bu QL m12 (qN QL (fun _ _ _ _ _ _ _=>rfl) rfl) (As g QL D11)
 have D13:Def P w K mg base "trees_of_row" ["row"] 1 (vv K):=bu QK m13 (qN QK (fun _ _ _ _ _ _ _=>rfl) rfl) (Am g QK)
 have D14:Def P w K mg base "names_of_row" ["row"] 3 (vA K):=bu QJ m14 (qN QJ (fun _ _ _ _ _ _ _=>rfl) rfl) (Av g QJ D5 D13 D12)
 have D15:Def P w K mg base "spot_of_block" ["statement","number","spot"] 10 (zL K C CP):=bu QI m15 (bd3 QI (fun _ _ _ _ _ _ _ _ _=>rfl) rfl) (B7 g cP MSp QI D9)
 have Sa:Def P w K mg base "rows_of_block" ["block","spot"] 3 (pT K C CP):=bu QH m16 (uS QH (fun _ _ _ _ _ _ _ _=>rfl) rfl) (Ap g cP MSp QH)
 have D17:Def P w K mg base "rows_within" ["statement","spot"] 11 (zM K C CP):=bu QG m17 (uS QG (fun _ _ _ _ _ _ _ _=>rfl) rfl) (Ca g QG D2 D15 Sa)
 have D18:Def P w K mg base "is_told_wrong" ["word","names","scope"] 2 (zJ K C):=bu QF m18 (bd3 QF (fun _ _ _ _ _ _ _ _ _=>rfl) rfl) (B3 g cS QF D10)
 have D19:Def P w K mg base "is_wrong" ["row","spot"] 3 (zR K C CP):=bu QE m19 (uS QE (fun _ _ _ _ _ _ _ _=>rfl) rfl) (Cf g cS cP QE D18)
 have D20:CF P w K mg base "looked" ["program"] 13 (zQ K CB):=⟨a20,d20,m20,QD.kp,(qN QD (fun _ _ _ _ _ _ _=>rfl) rfl),Cd g cS cP QD MSp MN XB D8 Sa D19 D14 D17⟩
 have LP:Def P w K mg base "_law_cell" ["_law_cells","_law_spot"] 1 (gy K):=bu QC m21 (uS QC (fun _ _ _ _ _ _ _ _=>rfl) rfl) (wu g QC)
 have NF:Def P w K mg base "_law_name" ["_law_n"] 1 gx:=bu QB m22 (qN QB (fun _ _ _ _ _ _ _=>rfl) rfl) (wq QB)
 have LM:Binds K d23 ["_law_cells","_law_spot","_law_deep"] []:=(bd3 Lj (fun _ _ _ _ _ _ _ _ _=>rfl) rfl)
 have T1:Def P w K mg base "_law_term" ["_law_cells","_law_spot","_law_deep"] 2 (jM K 1):=bu Lj Lu LM (jW g Lj Lu LM LP NF 1)
 have T2:Def P w K mg base "_law_term" ["_law_cells","_law_spot","_law_deep"] 3 (jM K 2):=bu Lj Lu LM (jW g Lj Lu LM LP NF 2)
 have T3:Def P w K mg base "_law_term" ["_law_cells","_law_spot","_law_deep"] 4 (jM K 3):=bu Lj Lu LM (jW g Lj Lu LM LP NF 3)
 have D24:Def P w K mg base "_law_row" ["_law_cells","_law_spot","_law_at"] 5 (oG K):=bu QA m24 (bd3 QA (fun _ _ _ _ _ _ _ _ _=>rfl) rfl) (yG g QA LP NF T2 T3)
 have BS:=(tR g F28 F25 F26 F27 m28 m25 m26 m27 LP NF T1 T2 T3 D24 4).2
 have D29:Def P w K mg base "_law_program" ["_law_cells","_law_spot"] 21 (zN K):=bu Qz m29 (uS Qz (fun _ _ _ _ _ _ _ _=>rfl) rfl) (Aq g Qz LP BS)
 have R9:Def P w K mg base "_law_blocks" ["_law_one"] 1 (xQ K):=bu Qy m30 (qN Qy (fun _ _ _ _ _ _ _=>rfl) rfl) (Ce Qy)
 have RU:Binds K d31 ["_law_block_here","_law_at"] []:=(uS Qx (fun _ _ _ _ _ _ _ _=>rfl) rfl)
 have D31:Def P w K mg base "_law_all" ["_law_block_here","_law_at"] 7 (sM K 6):=bu Qx Q9 RU (wz g Qx Q9 RU R9 6)
 have D32:Def P w K mg base "_law_names_in" ["_law_thing"] 1 (zP K):=bu Qw m32 (qN Qw (fun _ _ _ _ _ _ _=>rfl) rfl) (Cc g Qw)
 have RT:Binds K d33 ["_law_block_here","_law_at"] []:=(uS Qv (fun _ _ _ _ _ _ _ _=>rfl) rfl)
 have D33:∀n,n≤4→Def P w K mg base "_law_text" ["_law_block_here","_law_at"] 5 (xN K n):=fun n hn=>bu Qv Q8 RT ((zk g Qv Q8 RT R9 D32 n).mono (by omega))
 have D34:Def P w K mg base "_law_own" ["_law_host"] 6 (zO K):=bu Qu m34 (qN Qu (fun _ _ _ _ _ _ _=>rfl) rfl) (Cb g Qu D33)
 have D35:Def P w K mg base "_law_let_by" ["_law_one"] 14 (sI K):=bu Qt m35 (qN Qt (fun _ _ _ _ _ _ _=>rfl) rfl) (Aw Qt XB D20)
 exact yK g R8 D29 D35 D31 D7 D34
end
theorem walk6{l:PySem.W.OpenLaw}{q:Program}{loose:List Str}{XP:(Str→Option Value)→Heap→Prop}{YP:World→Heap→Prop}{d:DefRec}{K:Params→Fg06}(hn:l.most=some 63) (Gr:d.params.defaults=[])
  (hY:∀(w:World) (h:Heap),YP w h→(K w.params).In h)
  (F:∀(w:World) (mg:Str→Option Value) (fa:Addr) (h:Heap),(K w.params).In h→h.Ns mainGlobals mg→mg d.name=some (.ref fa)→
   ∃fd:FuncData,(∀(s:Shared) (u:Value),BindsTo s fd ⟨[u],[]⟩ [("_law_script",u)])∧∀base:Heap,bO l.prog w (K w.params) mg base fw 22 fa fd ["_law_script"] (oH (K w.params))):
  PySem.W.WalkO q loose XP YP l.row.toRowW d [] (fun f vs=>PySem.call f vs):=
 L2.xD (n:=63) (k:=22) (x:="_law_script") (CX:=fun _=>fw) (sp:=fun w=>oH (K w.params)) hn (by decide) Gr ⟨rfl,by decide,by decide,rfl⟩ hY (fun w mg fa h a b c=>let ⟨fd,p,q⟩:=F w mg fa h a b c;⟨fd,p,fun base _ _=>q base⟩) (fun _ _ a ns hl _ hS=>⟨a,ns,rfl,hS,hl,fun _=>rfl⟩) fun _ _ _ _ _ z=>z
end GS
open PySem PySem.W
set_option maxRecDepth 100000 in
set_option maxHeartbeats 0 in
theorem PySem.Challenge.cw_grassnake_k06_own_names_holds : PySem.Challenge.rw_grassnake_k06_own_names.Holds := by
 refine holds_law GS.said6 fun said=>?_
 refine W.holds_open (q:=GS.q6) (loose:=[]) (Xt:=fun s=>xlAt GS.q6 [] s&&recOk (RowW.records (OpenRow.toRowW (OpenLaw.row GS.r6))) s) (XP:=XL GS.q6 []) (Yf:=Hook.obs (kHook GS.K6 GS.AW GS.eK6)) (Ya:=Hook.val (kHook GS.K6 GS.AW GS.eK6)) (YP:=Hook.says (kHook GS.K6 GS.AW GS.eK6)) (N:=4254) GS.left6 (Hook.of _) (Hook.keeps _) (fun s e=>xl_of s (Bool.and_eq_true_iff.mp e).1) XL.keeps (by rfl) (by rfl) (by rfl) (fun s e=>recFacts_of (Bool.and_eq_true_iff.mp e).2) (by rfl) said (by decide +kernel) ⟨rfl,rfl,rfl,rfl,rfl,by decide +kernel⟩ ?hw ?hc
 case hw=>w_witness2
 k_fill
 refine GS.walk6 (l:=GS.r6) rfl rfl (fun w h Y=>kIn_of Y) ?F
 case F =>
  intro w mg fa h KX G Pf
  have g : GS.fh mg:=by
   refine' ⟨?_,?_,?_,?_,?_,?_,?_,?_,?_,?_⟩
   all_goals (refine' mg_none_of KX G ?a;(case a=>k_is))
  have cs : GS.tU (L2.KOf KX) mg:=by
   dsimp only [L2.KOf]
   refine' GS.scope_at KX G ?_ ⟨?_,?_,?_,?_⟩ ?_ ?_ ?_ ?_ ?_ ⟨?_,?_,?_,?_⟩ ?_ ?_ ?_ ⟨?_,?_,?_⟩ ?_ ?_
   repeat any_goals first | k_is | (unfold L2.cJ;k_is)
  have cp : GS.xl (L2.KOf KX) mg:=by
   dsimp only [L2.KOf]
   refine' GS.spot_at KX G ?_ ⟨?_,?_,?_,?_⟩ ?_ ?_ ?_ ?_ ⟨?_,?_,?_,?_⟩ ?_ ?_ ?_
   repeat any_goals first | k_is | (unfold L2.cJ;k_is)
  have cb : GS.zx (L2.KOf KX) mg:=by
   dsimp only [L2.KOf]
   refine' GS.bad_at KX G ?_ ?_ (L2.excK_mk ?_ ?_ ?x ?_ ?_ ?_ ?y ?_ ?_ ?_ ?z ?_) ⟨?_,?_,?_⟩ ?_ ?_ ?_ ?_
   repeat any_goals k_is
   all_goals rfl
  refine GS.law_of6 g cs cp cb ?_ ?_ ?_ ?_ ?_ ?_ ?_ ?_ ?_ ?_ ?_ ?_ ?_ ?_ ?_ ?_ ?_ ?_ ?_ ?_ ?_ ?_ ?_ ?_ ?_ ?_ ?_ ?_ ?_ ?_ ?_ ?_ ?_ ?_ ?_ ?_ Pf
  all_goals ((try dsimp only [L2.KOf]);refine' GS.fun_at6 KX G ?_ ?_ ?_ ?_;repeat any_goals k_is)
