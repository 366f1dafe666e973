import PyProof.Rows.All
import Wide.All
import OpenK.AllK
import Wide.FinOn
import Lean
import PyProof.EqAt
import PyProof.EqKinds
import PyProof.TupleCall
import PyProof.NeKinds
import KE.LcSums
import PyProof.ExcBaseAll.ValueError
import KE.KTryMore
import KE.RegKTryMore
import PyProof.StrLawsRepr
import PyProof.ReprStr
import PyProof.EnumMake
import PyProof.EnumFor
import KE.KEqDict
import PyProof.Rows.Range3
import PyProof.SumWalkG
import PyProof.ZipIter
import KE.KIsAll
import PyProof.ExcArgsOwn
import PyProof.ExcAttrAll.ValueError
import PyProof.RulesAs
import PyProof.NsDelKeeps
import PySem.Challenge.RW_trueleaf_k07_parts_refused
set_option Elab.async false
set_option linter.all false
set_option maxRecDepth 100000
set_option maxHeartbeats 4000000
namespace L2
open PySem
def defArgs (s:Stmt) : Arguments:=match s with
 | .FunctionDef _ a _ _ _ _ _ _ _ _=>a
 | _=>{ posonlyargs:=[],args:=[],vararg:=none,kwonlyargs:=[],kw_defaults:=[],kwarg:=none,defaults:=[] }
def defBody (s:Stmt) : List Stmt:=match s with
 | .FunctionDef _ _ b _ _ _ _ _ _ _=>b
 | _=>[]
def defScope (s:Stmt) : Scope:=match s with
 | .FunctionDef _ _ _ _ _ _ sc _ _ _=>sc
 | _=>{ kind:=.function,names:=[],isGenerator:=false,isCoroutine:=false }

end L2
namespace K07
open PySem PySem.W L2 PyProof.Rows
noncomputable def top (i:Nat) : Stmt:=PySem.Challenge.pw_trueleaf_k07_parts_refused.main.body.getD i (.Pass ⟨0,0,0,0⟩)
noncomputable abbrev os (s:String) : Str:=Str.ofString s
noncomputable abbrev kh (P:Params) (s:Str) : Int:=PyData.keyHash P s
noncomputable abbrev cO (n:String) (a b c:Nat) (l1 l2 l5:Int) (r0:Addr) (m:Int) (r1 r2 r3 r4:Addr) (x y:Int) (d:Nat) : Obj:=⟨.type "code",none,.fields #[.str (os n) a,.str (os n) b,.str (os "/claim/cut.py") c,.int l1 0,.int l2 0,.int 0 0,.int 0 0,.int l5 0,.ref r0,.bool true,.int m 0,.ref r1,.none,.ref r2,.ref r3,.ref r4,.int x 0,.int y 0,.str (os "/claim/cut.py") d],#[]⟩
noncomputable abbrev fO (n:String) (i:Nat) (d:Value) (m:String) (k:Nat) (r:Addr) : Obj:=⟨.type "function",none,.func (fnOf (os n) (os n) (defArgs (top i)) (defBody (top i)) (defScope (top i)) d .none .none (.str (os m) k) none (.ref r) .none),#[]⟩
noncomputable def kk:Params→Frag:=fun P=>(nat_lit 2,⟨(.none),none,.dict ([]).toArray 0,#[]⟩) ::
 (nat_lit 3,⟨(.type "dict"),none,.dict (List.toArray (⟨kh P (os "__name__"),(.str (os "__name__") 165),(.str (os "law_trueleaf_k07_parts_refused") 584)⟩ :: ⟨kh P (os "__doc__"),(.str (os "__doc__") 166),(.none)⟩ :: ⟨kh P (os "__package__"),(.str (os "__package__") 167),(.none)⟩ :: ⟨kh P (os "__loader__"),(.str (os "__loader__") 168),(.builtin "__main__.__loader__#opaque")⟩ :: ⟨kh P (os "__spec__"),(.str (os "__spec__") 169),(.none)⟩ :: ⟨kh P (os "__annotations__"),(.str (os "__annotations__") 170),(.ref 6)⟩ :: ⟨kh P (os "__builtins__"),(.str (os "__builtins__") 171),(.ref 4)⟩ :: ⟨kh P (os "__file__"),(.str (os "__file__") 173),(.str (os "/claim/cut.py") 172)⟩ :: ⟨kh P (os "__cached__"),(.str (os "__cached__") 174),(.none)⟩ :: ⟨kh P (os "TrueleafError"),(.str (os "TrueleafError") 206),(.ref 24)⟩ :: ⟨kh P (os "BadRow"),(.str (os "BadRow") 222),(.ref 37)⟩ :: ⟨kh P (os "NoPart"),(.str (os "NoPart") 238),(.ref 49)⟩ :: ⟨kh P (os "Ring"),(.str (os "Ring") 254),(.ref 61)⟩ :: ⟨kh P (os "TooLong"),(.str (os "TooLong") 270),(.ref 73)⟩ :: ⟨kh P (os "BadCall"),(.str (os "BadCall") 286),(.ref 85)⟩ :: ⟨kh P (os "Deep"),(.str (os "Deep") 302),(.ref 97)⟩ :: ⟨kh P (os "NoShort"),(.str (os "NoShort") 318),(.ref 109)⟩ :: ⟨kh P (os "BadForm"),(.str (os "BadForm") 334),(.ref 121)⟩ :: ⟨kh P (os "BadWord"),(.str (os "BadWord") 350),(.ref 133)⟩ :: ⟨kh P (os "BadPaper"),(.str (os "BadPaper") 366),(.ref 145)⟩ :: ⟨kh P (os "NoGrowth"),(.str (os "NoGrowth") 382),(.ref 157)⟩ :: ⟨kh P (os "Twice"),(.str (os "Twice") 398),(.ref 169)⟩ :: ⟨kh P (os "NoFoot"),(.str (os "NoFoot") 414),(.ref 181)⟩ :: ⟨kh P (os "NoMark"),(.str (os "NoMark") 430),(.ref 193)⟩ :: ⟨kh P (os "NoLaying"),(.str (os "NoLaying") 446),(.ref 205)⟩ :: ⟨kh P (os "BadName"),(.str (os "BadName") 462),(.ref 217)⟩ :: ⟨kh P (os "NoRow"),(.str (os "NoRow") 478),(.ref 229)⟩ :: ⟨kh P (os "NothingDone"),(.str (os "NothingDone") 494),(.ref 241)⟩ :: ⟨kh P (os "LETTERS"),(.str (os "LETTERS") 498),(.str (os "abcdefghijklmnopqrstuvwxyz") 497)⟩ :: ⟨kh P (os "FIGURES"),(.str (os "FIGURES") 500),(.str (os "0123456789") 499)⟩ :: ⟨kh P (os "LONGEST_NAME"),(.str (os "LONGEST_NAME") 502),(.int 12 501)⟩ :: ⟨kh P (os "words_in"),(.str (os "words_in") 508),(.ref 248)⟩ :: ⟨kh P (os "is_name"),(.str (os "is_name") 514),(.ref 253)⟩ :: ⟨kh P (os "MOST_ROWS"),(.str (os "MOST_ROWS") 518),(.int 400 517)⟩ :: ⟨kh P (os "rows_in"),(.str (os "rows_in") 525),(.ref 260)⟩ :: ⟨kh P (os "joined"),(.str (os "joined") 534),(.ref 267)⟩ :: ⟨kh P (os "is_use"),(.str (os "is_use") 541),(.ref 274)⟩ :: ⟨kh P (os "is_good_use"),(.str (os "is_good_use") 548),(.ref 281)⟩ :: ⟨kh P (os "look_through"),(.str (os "look_through") 561),(.ref 288)⟩ :: ⟨kh P (os "used_part"),(.str (os "used_part") 571),(.ref 295)⟩ :: ⟨kh P (os "put_together"),(.str (os "put_together") 583),(.ref 302)⟩ :: ⟨kh P (os "_law_cell_at"),(.str (os "_law_cell_at") 593),(.ref 309)⟩ :: ⟨kh P (os "_law_draw"),(.str (os "_law_draw") 603),(.ref 316)⟩ :: ⟨kh P (os "_law_sign_by"),(.str (os "_law_sign_by") 612),(.ref 323)⟩ :: ⟨kh P (os "_law_names"),(.str (os "_law_names") 618),(.ref 328)⟩ :: ⟨kh P (os "_law_plain_row"),(.str (os "_law_plain_row") 624),(.ref 333)⟩ :: ⟨kh P (os "_law_use_row"),(.str (os "_law_use_row") 633),(.ref 340)⟩ :: ⟨kh P (os "_law_bad_row"),(.str (os "_law_bad_row") 642),(.ref 347)⟩ :: ⟨kh P (os "_law_shelf_row"),(.str (os "_law_shelf_row") 656),(.ref 354)⟩ :: ⟨kh P (os "_law_shelf"),(.str (os "_law_shelf") 662),(.ref 359)⟩ :: ⟨kh P (os "_law_parts"),(.str (os "_law_parts") 668),(.ref 364)⟩ :: ⟨kh P (os "_law_met"),(.str (os "_law_met") 679),(.ref 371)⟩ :: ⟨kh P (os "_law_count"),(.str (os "_law_count") 690),(.ref 378)⟩ :: ⟨kh P (os "_law_refusal"),(.str (os "_law_refusal") 700),(.ref 385)⟩ :: ⟨kh P (os "_law_asked"),(.str (os "_law_asked") 710),(.ref 392)⟩ :: ⟨kh P (os "law"),(.str (os "law") 726),(.ref 399)⟩ :: [])) 56,#[]⟩) ::
 (nat_lit 15,⟨(.type "tuple"),none,(.seq #[.type "ValueError"]),#[]⟩) ::
 (nat_lit 22,⟨(.type "tuple"),none,(.seq #[]),#[]⟩) ::
 (nat_lit 23,⟨(.type "dict"),none,.dict (List.toArray (⟨kh P (os "__module__"),(.str (os "__module__") 196),(.str (os "trueleaf.errors") 187)⟩ :: ⟨kh P (os "__firstlineno__"),(.str (os "__firstlineno__") 200),(.int 2 199)⟩ :: ⟨kh P (os "__static_attributes__"),(.str (os "__static_attributes__") 201),(.ref 22)⟩ :: ⟨kh P (os "__weakref__"),(.str (os "__weakref__") 203),(.ref 25)⟩ :: ⟨kh P (os "__doc__"),(.str (os "__doc__") 204),(.none)⟩ :: [])) 3,#[]⟩) ::
 (nat_lit 24,⟨(.type "type"),none,(.cls (PySem.ClassData.mk (os "TrueleafError") [.type "ValueError"] [.ref 24,.type "ValueError",.type "Exception",.type "BaseException",.type "object"] 23 (os "TrueleafError") true [] [.ref 37,.ref 49,.ref 61,.ref 73,.ref 85,.ref 97,.ref 109,.ref 121,.ref 133,.ref 145,.ref 157,.ref 169,.ref 181,.ref 193,.ref 205,.ref 217,.ref 229,.ref 241] false none false)),#[Option.some (.ref 15),none,Option.some (.str (os "TrueleafError") 189),Option.some (.str (os "TrueleafError") 197),Option.some (.builtin "ValueError.__new__"),Option.some (.bool true)]⟩) ::
 (nat_lit 25,⟨(.type "getset_descriptor"),none,(.fields #[.str (os "__weakref__") 202,.ref 24,.builtin "ExceptionGroup.__weakref__",.none]),#[]⟩) ::
 (nat_lit 28,⟨(.type "tuple"),none,(.seq #[.ref 24]),#[]⟩) ::
 (nat_lit 35,⟨(.type "tuple"),none,(.seq #[]),#[]⟩) ::
 (nat_lit 36,⟨(.type "dict"),none,.dict (List.toArray (⟨kh P (os "__module__"),(.str (os "__module__") 214),(.str (os "trueleaf.errors") 187)⟩ :: ⟨kh P (os "__firstlineno__"),(.str (os "__firstlineno__") 218),(.int 4 217)⟩ :: ⟨kh P (os "__static_attributes__"),(.str (os "__static_attributes__") 219),(.ref 35)⟩ :: ⟨kh P (os "__doc__"),(.str (os "__doc__") 220),(.none)⟩ :: [])) 2,#[]⟩) ::
 (nat_lit 37,⟨(.type "type"),none,(.cls (PySem.ClassData.mk (os "BadRow") [.ref 24] [.ref 37,.ref 24,.type "ValueError",.type "Exception",.type "BaseException",.type "object"] 36 (os "BadRow") true [] [] false none false)),#[Option.some (.ref 28),none,Option.some (.str (os "BadRow") 207),Option.some (.str (os "BadRow") 215),Option.some (.builtin "ValueError.__new__"),Option.some (.bool true)]⟩) ::
 (nat_lit 40,⟨(.type "tuple"),none,(.seq #[.ref 24]),#[]⟩) ::
 (nat_lit 47,⟨(.type "tuple"),none,(.seq #[]),#[]⟩) ::
 (nat_lit 48,⟨(.type "dict"),none,.dict (List.toArray (⟨kh P (os "__module__"),(.str (os "__module__") 230),(.str (os "trueleaf.errors") 187)⟩ :: ⟨kh P (os "__firstlineno__"),(.str (os "__firstlineno__") 234),(.int 6 233)⟩ :: ⟨kh P (os "__static_attributes__"),(.str (os "__static_attributes__") 235),(.ref 47)⟩ :: ⟨kh P (os "__doc__"),(.str (os "__doc__") 236),(.none)⟩ :: [])) 2,#[]⟩) ::
 (nat_lit 49,⟨(.type "type"),none,(.cls (PySem.ClassData.mk (os "NoPart") [.ref 24] [.ref 49,.ref 24,.type "ValueError",.type "Exception",.type "BaseException",.type "object"] 48 (os "NoPart") true [] [] false none false)),#[Option.some (.ref 40),none,Option.some (.str (os "NoPart") 223),Option.some (.str (os "NoPart") 231),Option.some (.builtin "ValueError.__new__"),Option.some (.bool true)]⟩) ::
 (nat_lit 52,⟨(.type "tuple"),none,(.seq #[.ref 24]),#[]⟩) ::
 (nat_lit 59,⟨(.type "tuple"),none,(.seq #[]),#[]⟩) ::
 (nat_lit 60,⟨(.type "dict"),none,.dict (List.toArray (⟨kh P (os "__module__"),(.str (os "__module__") 246),(.str (os "trueleaf.errors") 187)⟩ :: ⟨kh P (os "__firstlineno__"),(.str (os "__firstlineno__") 250),(.int 8 249)⟩ :: ⟨kh P (os "__static_attributes__"),(.str (os "__static_attributes__") 251),(.ref 59)⟩ :: ⟨kh P (os "__doc__"),(.str (os "__doc__") 252),(.none)⟩ :: [])) 2,#[]⟩) ::
 (nat_lit 61,⟨(.type "type"),none,(.cls (PySem.ClassData.mk (os "Ring") [.ref 24] [.ref 61,.ref 24,.type "ValueError",.type "Exception",.type "BaseException",.type "object"] 60 (os "Ring") true [] [] false none false)),#[Option.some (.ref 52),none,Option.some (.str (os "Ring") 239),Option.some (.str (os "Ring") 247),Option.some (.builtin "ValueError.__new__"),Option.some (.bool true)]⟩) ::
 (nat_lit 64,⟨(.type "tuple"),none,(.seq #[.ref 24]),#[]⟩) ::
 (nat_lit 71,⟨(.type "tuple"),none,(.seq #[]),#[]⟩) ::
 (nat_lit 72,⟨(.type "dict"),none,.dict (List.toArray (⟨kh P (os "__module__"),(.str (os "__module__") 262),(.str (os "trueleaf.errors") 187)⟩ :: ⟨kh P (os "__firstlineno__"),(.str (os "__firstlineno__") 266),(.int 10 265)⟩ :: ⟨kh P (os "__static_attributes__"),(.str (os "__static_attributes__") 267),(.ref 71)⟩ :: ⟨kh P (os "__doc__"),(.str (os "__doc__") 268),(.none)⟩ :: [])) 2,#[]⟩) ::
 (nat_lit 73,⟨(.type "type"),none,(.cls (PySem.ClassData.mk (os "TooLong") [.ref 24] [.ref 73,.ref 24,.type "ValueError",.type "Exception",.type "BaseException",.type "object"] 72 (os "TooLong") true [] [] false none false)),#[Option.some (.ref 64),none,Option.some (.str (os "TooLong") 255),Option.some (.str (os "TooLong") 263),Option.some (.builtin "ValueError.__new__"),Option.some (.bool true)]⟩) ::
 (nat_lit 76,⟨(.type "tuple"),none,(.seq #[.ref 24]),#[]⟩) ::
 (nat_lit 83,⟨(.type "tuple"),none,(.seq #[]),#[]⟩) ::
 (nat_lit 84,⟨(.type "dict"),none,.dict (List.toArray (⟨kh P (os "__module__"),(.str (os "__module__") 278),(.str (os "trueleaf.errors") 187)⟩ :: ⟨kh P (os "__firstlineno__"),(.str (os "__firstlineno__") 282),(.int 12 281)⟩ :: ⟨kh P (os "__static_attributes__"),(.str (os "__static_attributes__") 283),(.ref 83)⟩ :: ⟨kh P (os "__doc__"),(.str (os "__doc__") 284),(.none)⟩ :: [])) 2,#[]⟩) ::
 (nat_lit 85,⟨(.type "type"),none,(.cls (PySem.ClassData.mk (os "BadCall") [.ref 24] [.ref 85,.ref 24,.type "ValueError",.type "Exception",.type "BaseException",.type "object"] 84 (os "BadCall") true [] [] false none false)),#[Option.some (.ref 76),none,Option.some (.str (os "BadCall") 271),Option.some (.str (os "BadCall") 279),Option.some (.builtin "ValueError.__new__"),Option.some (.bool true)]⟩) ::
 (nat_lit 88,⟨(.type "tuple"),none,(.seq #[.ref 24]),#[]⟩) ::
 (nat_lit 95,⟨(.type "tuple"),none,(.seq #[]),#[]⟩) ::
 (nat_lit 96,⟨(.type "dict"),none,.dict (List.toArray (⟨kh P (os "__module__"),(.str (os "__module__") 294),(.str (os "trueleaf.errors") 187)⟩ :: ⟨kh P (os "__firstlineno__"),(.str (os "__firstlineno__") 298),(.int 14 297)⟩ :: ⟨kh P (os "__static_attributes__"),(.str (os "__static_attributes__") 299),(.ref 95)⟩ :: ⟨kh P (os "__doc__"),(.str (os "__doc__") 300),(.none)⟩ :: [])) 2,#[]⟩) ::
 (nat_lit 97,⟨(.type "type"),none,(.cls (PySem.ClassData.mk (os "Deep") [.ref 24] [.ref 97,.ref 24,.type "ValueError",.type "Exception",.type "BaseException",.type "object"] 96 (os "Deep") true [] [] false none false)),#[Option.some (.ref 88),none,Option.some (.str (os "Deep") 287),Option.some (.str (os "Deep") 295),Option.some (.builtin "ValueError.__new__"),Option.some (.bool true)]⟩) ::
 (nat_lit 100,⟨(.type "tuple"),none,(.seq #[.ref 24]),#[]⟩) ::
 (nat_lit 107,⟨(.type "tuple"),none,(.seq #[]),#[]⟩) ::
 (nat_lit 108,⟨(.type "dict"),none,.dict (List.toArray (⟨kh P (os "__module__"),(.str (os "__module__") 310),(.str (os "trueleaf.errors") 187)⟩ :: ⟨kh P (os "__firstlineno__"),(.str (os "__firstlineno__") 314),(.int 16 313)⟩ :: ⟨kh P (os "__static_attributes__"),(.str (os "__static_attributes__") 315),(.ref 107)⟩ :: ⟨kh P (os "__doc__"),(.str (os "__doc__") 316),(.none)⟩ :: [])) 2,#[]⟩) ::
 (nat_lit 109,⟨(.type "type"),none,(.cls (PySem.ClassData.mk (os "NoShort") [.ref 24] [.ref 109,.ref 24,.type "ValueError",.type "Exception",.type "BaseException",.type "object"] 108 (os "NoShort") true [] [] false none false)),#[Option.some (.ref 100),none,Option.some (.str (os "NoShort") 303),Option.some (.str (os "NoShort") 311),Option.some (.builtin "ValueError.__new__"),Option.some (.bool true)]⟩) ::
 (nat_lit 112,⟨(.type "tuple"),none,(.seq #[.ref 24]),#[]⟩) ::
 (nat_lit 119,⟨(.type "tuple"),none,(.seq #[]),#[]⟩) ::
 (nat_lit 120,⟨(.type "dict"),none,.dict (List.toArray (⟨kh P (os "__module__"),(.str (os "__module__") 326),(.str (os "trueleaf.errors") 187)⟩ :: ⟨kh P (os "__firstlineno__"),(.str (os "__firstlineno__") 330),(.int 18 329)⟩ :: ⟨kh P (os "__static_attributes__"),(.str (os "__static_attributes__") 331),(.ref 119)⟩ :: ⟨kh P (os "__doc__"),(.str (os "__doc__") 332),(.none)⟩ :: [])) 2,#[]⟩) ::
 (nat_lit 121,⟨(.type "type"),none,(.cls (PySem.ClassData.mk (os "BadForm") [.ref 24] [.ref 121,.ref 24,.type "ValueError",.type "Exception",.type "BaseException",.type "object"] 120 (os "BadForm") true [] [] false none false)),#[Option.some (.ref 112),none,Option.some (.str (os "BadForm") 319),Option.some (.str (os "BadForm") 327),Option.some (.builtin "ValueError.__new__"),Option.some (.bool true)]⟩) ::
 (nat_lit 124,⟨(.type "tuple"),none,(.seq #[.ref 24]),#[]⟩) ::
 (nat_lit 131,⟨(.type "tuple"),none,(.seq #[]),#[]⟩) ::
 (nat_lit 132,⟨(.type "dict"),none,.dict (List.toArray (⟨kh P (os "__module__"),(.str (os "__module__") 342),(.str (os "trueleaf.errors") 187)⟩ :: ⟨kh P (os "__firstlineno__"),(.str (os "__firstlineno__") 346),(.int 20 345)⟩ :: ⟨kh P (os "__static_attributes__"),(.str (os "__static_attributes__") 347),(.ref 131)⟩ :: ⟨kh P (os "__doc__"),(.str (os "__doc__") 348),(.none)⟩ :: [])) 2,#[]⟩) ::
 (nat_lit 133,⟨(.type "type"),none,(.cls (PySem.ClassData.mk (os "BadWord") [.ref 24] [.ref 133,.ref 24,.type "ValueError",.type "Exception",.type "BaseException",.type "object"] 132 (os "BadWord") true [] [] false none false)),#[Option.some (.ref 124),none,Option.some (.str (os "BadWord") 335),Option.some (.str (os "BadWord") 343),Option.some (.builtin "ValueError.__new__"),Option.some (.bool true)]⟩) ::
 (nat_lit 136,⟨(.type "tuple"),none,(.seq #[.ref 24]),#[]⟩) ::
 (nat_lit 143,⟨(.type "tuple"),none,(.seq #[]),#[]⟩) ::
 (nat_lit 144,⟨(.type "dict"),none,.dict (List.toArray (⟨kh P (os "__module__"),(.str (os "__module__") 358),(.str (os "trueleaf.errors") 187)⟩ :: ⟨kh P (os "__firstlineno__"),(.str (os "__firstlineno__") 362),(.int 22 361)⟩ :: ⟨kh P (os "__static_attributes__"),(.str (os "__static_attributes__") 363),(.ref 143)⟩ :: ⟨kh P (os "__doc__"),(.str (os "__doc__") 364),(.none)⟩ :: [])) 2,#[]⟩) ::
 (nat_lit 145,⟨(.type "type"),none,(.cls (PySem.ClassData.mk (os "BadPaper") [.ref 24] [.ref 145,.ref 24,.type "ValueError",.type "Exception",.type "BaseException",.type "object"] 144 (os "BadPaper") true [] [] false none false)),#[Option.some (.ref 136),none,Option.some (.str (os "BadPaper") 351),Option.some (.str (os "BadPaper") 359),Option.some (.builtin "ValueError.__new__"),Option.some (.bool true)]⟩) ::
 (nat_lit 148,⟨(.type "tuple"),none,(.seq #[.ref 24]),#[]⟩) ::
 (nat_lit 155,⟨(.type "tuple"),none,(.seq #[]),#[]⟩) ::
 (nat_lit 156,⟨(.type "dict"),none,.dict (List.toArray (⟨kh P (os "__module__"),(.str (os "__module__") 374),(.str (os "trueleaf.errors") 187)⟩ :: ⟨kh P (os "__firstlineno__"),(.str (os "__firstlineno__") 378),(.int 24 377)⟩ :: ⟨kh P (os "__static_attributes__"),(.str (os "__static_attributes__") 379),(.ref 155)⟩ :: ⟨kh P (os "__doc__"),(.str (os "__doc__") 380),(.none)⟩ :: [])) 2,#[]⟩) ::
 (nat_lit 157,⟨(.type "type"),none,(.cls (PySem.ClassData.mk (os "NoGrowth") [.ref 24] [.ref 157,.ref 24,.type "ValueError",.type "Exception",.type "BaseException",.type "object"] 156 (os "NoGrowth") true [] [] false none false)),#[Option.some (.ref 148),none,Option.some (.str (os "NoGrowth") 367),Option.some (.str (os "NoGrowth") 375),Option.some (.builtin "ValueError.__new__"),Option.some (.bool true)]⟩) ::
 (nat_lit 160,⟨(.type "tuple"),none,(.seq #[.ref 24]),#[]⟩) ::
 (nat_lit 167,⟨(.type "tuple"),none,(.seq #[]),#[]⟩) ::
 (nat_lit 168,⟨(.type "dict"),none,.dict (List.toArray (⟨kh P (os "__module__"),(.str (os "__module__") 390),(.str (os "trueleaf.errors") 187)⟩ :: ⟨kh P (os "__firstlineno__"),(.str (os "__firstlineno__") 394),(.int 26 393)⟩ :: ⟨kh P (os "__static_attributes__"),(.str (os "__static_attributes__") 395),(.ref 167)⟩ :: ⟨kh P (os "__doc__"),(.str (os "__doc__") 396),(.none)⟩ :: [])) 2,#[]⟩) ::
 (nat_lit 169,⟨(.type "type"),none,(.cls (PySem.ClassData.mk (os "Twice") [.ref 24] [.ref 169,.ref 24,.type "ValueError",.type "Exception",.type "BaseException",.type "object"] 168 (os "Twice") true [] [] false none false)),#[Option.some (.ref 160),none,Option.some (.str (os "Twice") 383),Option.some (.str (os "Twice") 391),Option.some (.builtin "ValueError.__new__"),Option.some (.bool true)]⟩) ::
 (nat_lit 172,⟨(.type "tuple"),none,(.seq #[.ref 24]),#[]⟩) ::
 (nat_lit 179,⟨(.type "tuple"),none,(.seq #[]),#[]⟩) ::
 (nat_lit 180,⟨(.type "dict"),none,.dict (List.toArray (⟨kh P (os "__module__"),(.str (os "__module__") 406),(.str (os "trueleaf.errors") 187)⟩ :: ⟨kh P (os "__firstlineno__"),(.str (os "__firstlineno__") 410),(.int 28 409)⟩ :: ⟨kh P (os "__static_attributes__"),(.str (os "__static_attributes__") 411),(.ref 179)⟩ :: ⟨kh P (os "__doc__"),(.str (os "__doc__") 412),(.none)⟩ :: [])) 2,#[]⟩) ::
 (nat_lit 181,⟨(.type "type"),none,(.cls (PySem.ClassData.mk (os "NoFoot") [.ref 24] [.ref 181,.ref 24,.type "ValueError",.type "Exception",.type "BaseException",.type "object"] 180 (os "NoFoot") true [] [] false none false)),#[Option.some (.ref 172),none,Option.some (.str (os "NoFoot") 399),Option.some (.str (os "NoFoot") 407),Option.some (.builtin "ValueError.__new__"),Option.some (.bool true)]⟩) ::
 (nat_lit 184,⟨(.type "tuple"),none,(.seq #[.ref 24]),#[]⟩) ::
 (nat_lit 191,⟨(.type "tuple"),none,(.seq #[]),#[]⟩) ::
 (nat_lit 192,⟨(.type "dict"),none,.dict (List.toArray (⟨kh P (os "__module__"),(.str (os "__module__") 422),(.str (os "trueleaf.errors") 187)⟩ :: ⟨kh P (os "__firstlineno__"),(.str (os "__firstlineno__") 426),(.int 30 425)⟩ :: ⟨kh P (os "__static_attributes__"),(.str (os "__static_attributes__") 427),(.ref 191)⟩ :: ⟨kh P (os "__doc__"),(.str (os "__doc__") 428),(.none)⟩ :: [])) 2,#[]⟩) ::
 (nat_lit 193,⟨(.type "type"),none,(.cls (PySem.ClassData.mk (os "NoMark") [.ref 24] [.ref 193,.ref 24,.type "ValueError",.type "Exception",.type "BaseException",.type "object"] 192 (os "NoMark") true [] [] false none false)),#[Option.some (.ref 184),none,Option.some (.str (os "NoMark") 415),Option.some (.str (os "NoMark") 423),Option.some (.builtin "ValueError.__new__"),Option.some (.bool true)]⟩) ::
 (nat_lit 196,⟨(.type "tuple"),none,(.seq #[.ref 24]),#[]⟩) ::
 (nat_lit 203,⟨(.type "tuple"),none,(.seq #[]),#[]⟩) ::
 (nat_lit 204,⟨(.type "dict"),none,.dict (List.toArray (⟨kh P (os "__module__"),(.str (os "__module__") 438),(.str (os "trueleaf.errors") 187)⟩ :: ⟨kh P (os "__firstlineno__"),(.str (os "__firstlineno__") 442),(.int 32 441)⟩ :: ⟨kh P (os "__static_attributes__"),(.str (os "__static_attributes__") 443),(.ref 203)⟩ :: ⟨kh P (os "__doc__"),(.str (os "__doc__") 444),(.none)⟩ :: [])) 2,#[]⟩) ::
 (nat_lit 205,⟨(.type "type"),none,(.cls (PySem.ClassData.mk (os "NoLaying") [.ref 24] [.ref 205,.ref 24,.type "ValueError",.type "Exception",.type "BaseException",.type "object"] 204 (os "NoLaying") true [] [] false none false)),#[Option.some (.ref 196),none,Option.some (.str (os "NoLaying") 431),Option.some (.str (os "NoLaying") 439),Option.some (.builtin "ValueError.__new__"),Option.some (.bool true)]⟩) ::
 (nat_lit 208,⟨(.type "tuple"),none,(.seq #[.ref 24]),#[]⟩) ::
 (nat_lit 215,⟨(.type "tuple"),none,(.seq #[]),#[]⟩) ::
 (nat_lit 216,⟨(.type "dict"),none,.dict (List.toArray (⟨kh P (os "__module__"),(.str (os "__module__") 454),(.str (os "trueleaf.errors") 187)⟩ :: ⟨kh P (os "__firstlineno__"),(.str (os "__firstlineno__") 458),(.int 34 457)⟩ :: ⟨kh P (os "__static_attributes__"),(.str (os "__static_attributes__") 459),(.ref 215)⟩ :: ⟨kh P (os "__doc__"),(.str (os "__doc__") 460),(.none)⟩ :: [])) 2,#[]⟩) ::
 (nat_lit 217,⟨(.type "type"),none,(.cls (PySem.ClassData.mk (os "BadName") [.ref 24] [.ref 217,.ref 24,.type "ValueError",.type "Exception",.type "BaseException",.type "object"] 216 (os "BadName") true [] [] false none false)),#[Option.some (.ref 208),none,Option.some (.str (os "BadName") 447),Option.some (.str (os "BadName") 455),Option.some (.builtin "ValueError.__new__"),Option.some (.bool true)]⟩) ::
 (nat_lit 220,⟨(.type "tuple"),none,(.seq #[.ref 24]),#[]⟩) ::
 (nat_lit 227,⟨(.type "tuple"),none,(.seq #[]),#[]⟩) ::
 (nat_lit 228,⟨(.type "dict"),none,.dict (List.toArray (⟨kh P (os "__module__"),(.str (os "__module__") 470),(.str (os "trueleaf.errors") 187)⟩ :: ⟨kh P (os "__firstlineno__"),(.str (os "__firstlineno__") 474),(.int 36 473)⟩ :: ⟨kh P (os "__static_attributes__"),(.str (os "__static_attributes__") 475),(.ref 227)⟩ :: ⟨kh P (os "__doc__"),(.str (os "__doc__") 476),(.none)⟩ :: [])) 2,#[]⟩) ::
 (nat_lit 229,⟨(.type "type"),none,(.cls (PySem.ClassData.mk (os "NoRow") [.ref 24] [.ref 229,.ref 24,.type "ValueError",.type "Exception",.type "BaseException",.type "object"] 228 (os "NoRow") true [] [] false none false)),#[Option.some (.ref 220),none,Option.some (.str (os "NoRow") 463),Option.some (.str (os "NoRow") 471),Option.some (.builtin "ValueError.__new__"),Option.some (.bool true)]⟩) ::
 (nat_lit 232,⟨(.type "tuple"),none,(.seq #[.ref 24]),#[]⟩) ::
 (nat_lit 239,⟨(.type "tuple"),none,(.seq #[]),#[]⟩) ::
 (nat_lit 240,⟨(.type "dict"),none,.dict (List.toArray (⟨kh P (os "__module__"),(.str (os "__module__") 486),(.str (os "trueleaf.errors") 187)⟩ :: ⟨kh P (os "__firstlineno__"),(.str (os "__firstlineno__") 490),(.int 38 489)⟩ :: ⟨kh P (os "__static_attributes__"),(.str (os "__static_attributes__") 491),(.ref 239)⟩ :: ⟨kh P (os "__doc__"),(.str (os "__doc__") 492),(.none)⟩ :: [])) 2,#[]⟩) ::
 (nat_lit 241,⟨(.type "type"),none,(.cls (PySem.ClassData.mk (os "NothingDone") [.ref 24] [.ref 241,.ref 24,.type "ValueError",.type "Exception",.type "BaseException",.type "object"] 240 (os "NothingDone") true [] [] false none false)),#[Option.some (.ref 232),none,Option.some (.str (os "NothingDone") 479),Option.some (.str (os "NothingDone") 487),Option.some (.builtin "ValueError.__new__"),Option.some (.bool true)]⟩) ::
 (nat_lit 247,⟨(.type "code"),none,(.fields #[.str (os "words_in") 503,.str (os "words_in") 504,.str (os "/claim/cut.py") 505,.int 44 0,.int 1 0,.int 0 0,.int 0 0,.int 3 0,.ref 244,.bool true,.int 181 0,.ref 245,.none,.none,.none,.ref 246,.int 506 0,.int 44 0,.str (os "/claim/cut.py") 507]),#[]⟩) ::
 (nat_lit 248,fO "words_in" 24 (.none) "trueleaf.signs" 495 247) ::
 (nat_lit 252,⟨(.type "code"),none,(.fields #[.str (os "is_name") 509,.str (os "is_name") 510,.str (os "/claim/cut.py") 511,.int 46 0,.int 1 0,.int 0 0,.int 0 0,.int 3 0,.ref 249,.bool true,.int 181 0,.ref 250,.none,.none,.none,.ref 251,.int 512 0,.int 46 0,.str (os "/claim/cut.py") 513]),#[]⟩) ::
 (nat_lit 253,fO "is_name" 25 (.none) "trueleaf.signs" 495 252) ::
 (nat_lit 259,cO "rows_in" 519 520 521 52 1 3 254 181 255 256 257 258 523 52 524) ::
 (nat_lit 260,fO "rows_in" 28 (.none) "trueleaf.parts" 515 259) ::
 (nat_lit 266,cO "joined" 526 527 528 54 2 3 261 181 262 263 264 265 532 54 533) ::
 (nat_lit 267,fO "joined" 29 (.none) "trueleaf.parts" 515 266) ::
 (nat_lit 273,cO "is_use" 535 536 537 62 1 3 268 181 269 270 271 272 539 62 540) ::
 (nat_lit 274,fO "is_use" 30 (.none) "trueleaf.parts" 515 273) ::
 (nat_lit 280,cO "is_good_use" 542 543 544 64 1 3 275 181 276 277 278 279 546 64 547) ::
 (nat_lit 281,fO "is_good_use" 31 (.none) "trueleaf.parts" 515 280) ::
 (nat_lit 287,cO "look_through" 549 550 551 66 3 3 282 181 283 284 285 286 559 66 560) ::
 (nat_lit 288,fO "look_through" 32 (.none) "trueleaf.parts" 515 287) ::
 (nat_lit 294,cO "used_part" 562 563 564 78 3 3 289 181 290 291 292 293 569 78 570) ::
 (nat_lit 295,fO "used_part" 33 (.none) "trueleaf.parts" 515 294) ::
 (nat_lit 301,cO "put_together" 572 573 574 87 2 3 296 181 297 298 299 300 581 87 582) ::
 (nat_lit 302,fO "put_together" 34 (.none) "trueleaf.parts" 515 301) ::
 (nat_lit 308,cO "_law_cell_at" 586 587 588 97 2 3 303 181 304 305 306 307 591 97 592) ::
 (nat_lit 309,fO "_law_cell_at" 36 (.none) "law_trueleaf_k07_parts_refused" 584 308) ::
 (nat_lit 315,cO "_law_draw" 594 595 596 101 3 3 310 181 311 312 313 314 601 101 602) ::
 (nat_lit 316,fO "_law_draw" 37 (.none) "law_trueleaf_k07_parts_refused" 584 315) ::
 (nat_lit 322,cO "_law_sign_by" 604 605 606 104 2 3 317 181 318 319 320 321 610 104 611) ::
 (nat_lit 323,fO "_law_sign_by" 38 (.none) "law_trueleaf_k07_parts_refused" 584 322) ::
 (nat_lit 327,⟨(.type "code"),none,(.fields #[.str (os "_law_names") 613,.str (os "_law_names") 614,.str (os "/claim/cut.py") 615,.int 107 0,.int 2 0,.int 0 0,.int 0 0,.int 3 0,.ref 324,.bool true,.int 181 0,.ref 325,.none,.none,.none,.ref 326,.int 616 0,.int 107 0,.str (os "/claim/cut.py") 617]),#[]⟩) ::
 (nat_lit 328,fO "_law_names" 39 (.none) "law_trueleaf_k07_parts_refused" 584 327) ::
 (nat_lit 332,⟨(.type "code"),none,(.fields #[.str (os "_law_plain_row") 619,.str (os "_law_plain_row") 620,.str (os "/claim/cut.py") 621,.int 123 0,.int 2 0,.int 0 0,.int 0 0,.int 3 0,.ref 329,.bool true,.int 181 0,.ref 330,.none,.none,.none,.ref 331,.int 622 0,.int 123 0,.str (os "/claim/cut.py") 623]),#[]⟩) ::
 (nat_lit 333,fO "_law_plain_row" 40 (.none) "law_trueleaf_k07_parts_refused" 584 332) ::
 (nat_lit 339,cO "_law_use_row" 625 626 627 134 2 3 334 181 335 336 337 338 631 134 632) ::
 (nat_lit 340,fO "_law_use_row" 41 (.none) "law_trueleaf_k07_parts_refused" 584 339) ::
 (nat_lit 346,cO "_law_bad_row" 634 635 636 137 2 3 341 181 342 343 344 345 640 137 641) ::
 (nat_lit 347,fO "_law_bad_row" 42 (.none) "law_trueleaf_k07_parts_refused" 584 346) ::
 (nat_lit 353,cO "_law_shelf_row" 643 644 645 141 4 3 348 181 349 350 351 352 654 141 655) ::
 (nat_lit 354,fO "_law_shelf_row" 43 (.none) "law_trueleaf_k07_parts_refused" 584 353) ::
 (nat_lit 358,⟨(.type "code"),none,(.fields #[.str (os "_law_shelf") 657,.str (os "_law_shelf") 658,.str (os "/claim/cut.py") 659,.int 156 0,.int 3 0,.int 0 0,.int 0 0,.int 3 0,.ref 355,.bool true,.int 181 0,.ref 356,.none,.none,.none,.ref 357,.int 660 0,.int 156 0,.str (os "/claim/cut.py") 661]),#[]⟩) ::
 (nat_lit 359,fO "_law_shelf" 44 (.none) "law_trueleaf_k07_parts_refused" 584 358) ::
 (nat_lit 363,⟨(.type "code"),none,(.fields #[.str (os "_law_parts") 663,.str (os "_law_parts") 664,.str (os "/claim/cut.py") 665,.int 166 0,.int 3 0,.int 0 0,.int 0 0,.int 3 0,.ref 360,.bool true,.int 181 0,.ref 361,.none,.none,.none,.ref 362,.int 666 0,.int 166 0,.str (os "/claim/cut.py") 667]),#[]⟩) ::
 (nat_lit 364,fO "_law_parts" 45 (.none) "law_trueleaf_k07_parts_refused" 584 363) ::
 (nat_lit 370,cO "_law_met" 669 670 671 173 3 3 365 181 366 367 368 369 677 173 678) ::
 (nat_lit 371,fO "_law_met" 46 (.none) "law_trueleaf_k07_parts_refused" 584 370) ::
 (nat_lit 377,cO "_law_count" 680 681 682 188 3 3 372 181 373 374 375 376 688 188 689) ::
 (nat_lit 378,fO "_law_count" 47 (.none) "law_trueleaf_k07_parts_refused" 584 377) ::
 (nat_lit 384,cO "_law_refusal" 691 692 693 198 2 3 379 181 380 381 382 383 698 198 699) ::
 (nat_lit 385,fO "_law_refusal" 48 (.none) "law_trueleaf_k07_parts_refused" 584 384) ::
 (nat_lit 391,cO "_law_asked" 701 702 703 205 3 3 386 181 387 388 389 390 708 205 709) ::
 (nat_lit 392,fO "_law_asked" 49 (.none) "law_trueleaf_k07_parts_refused" 584 391) ::
 (nat_lit 398,cO "law" 711 712 713 210 1 3 393 181 394 395 396 397 724 210 725) ::
 (nat_lit 399,fO "law" 50 (.none) "law_trueleaf_k07_parts_refused" 584 398) :: []
noncomputable def vw:Program:={ PySem.Challenge.pw_trueleaf_k07_parts_refused with main:={ PySem.Challenge.pw_trueleaf_k07_parts_refused.main with body:=top 1 :: top 2 :: top 3 :: top 4 :: top 5 :: top 6 :: top 7 :: top 8 :: top 9 :: top 10 :: top 11 :: top 12 :: top 13 :: top 14 :: top 15 :: top 16 :: top 17 :: top 18 :: top 19 :: top 21 :: top 22 :: top 23 :: top 24 :: top 25 :: top 27 :: top 28 :: top 29 :: top 30 :: top 31 :: top 32 :: top 33 :: top 34 :: top 36 :: top 37 :: top 38 :: top 39 :: top 40 :: top 41 :: top 42 :: top 43 :: top 44 :: top 45 :: top 46 :: top 47 :: top 48 :: top 49 :: top 50 :: [] } }
noncomputable abbrev ls:List Str:=[]
noncomputable abbrev hk:Hook:=kHook kk (nat_lit 2 :: nat_lit 3 :: nat_lit 15 :: nat_lit 22 :: nat_lit 23 :: nat_lit 24 :: nat_lit 25 :: nat_lit 28 :: nat_lit 35 :: nat_lit 36 :: nat_lit 37 :: nat_lit 40 :: nat_lit 47 :: nat_lit 48 :: nat_lit 49 :: nat_lit 52 :: nat_lit 59 :: nat_lit 60 :: nat_lit 61 :: nat_lit 64 :: nat_lit 71 :: nat_lit 72 :: nat_lit 73 :: nat_lit 76 :: nat_lit 83 :: nat_lit 84 :: nat_lit 85 :: nat_lit 88 :: nat_lit 95 :: nat_lit 96 :: nat_lit 97 :: nat_lit 100 :: nat_lit 107 :: nat_lit 108 :: nat_lit 109 :: nat_lit 112 :: nat_lit 119 :: nat_lit 120 :: nat_lit 121 :: nat_lit 124 :: nat_lit 131 :: nat_lit 132 :: nat_lit 133 :: nat_lit 136 :: nat_lit 143 :: nat_lit 144 :: nat_lit 145 :: nat_lit 148 :: nat_lit 155 :: nat_lit 156 :: nat_lit 157 :: nat_lit 160 :: nat_lit 167 :: nat_lit 168 :: nat_lit 169 :: nat_lit 172 :: nat_lit 179 :: nat_lit 180 :: nat_lit 181 :: nat_lit 184 :: nat_lit 191 :: nat_lit 192 :: nat_lit 193 :: nat_lit 196 :: nat_lit 203 :: nat_lit 204 :: nat_lit 205 :: nat_lit 208 :: nat_lit 215 :: nat_lit 216 :: nat_lit 217 :: nat_lit 220 :: nat_lit 227 :: nat_lit 228 :: nat_lit 229 :: nat_lit 232 :: nat_lit 239 :: nat_lit 240 :: nat_lit 241 :: nat_lit 247 :: nat_lit 248 :: nat_lit 252 :: nat_lit 253 :: nat_lit 259 :: nat_lit 260 :: nat_lit 266 :: nat_lit 267 :: nat_lit 273 :: nat_lit 274 :: nat_lit 280 :: nat_lit 281 :: nat_lit 287 :: nat_lit 288 :: nat_lit 294 :: nat_lit 295 :: nat_lit 301 :: nat_lit 302 :: nat_lit 308 :: nat_lit 309 :: nat_lit 315 :: nat_lit 316 :: nat_lit 322 :: nat_lit 323 :: nat_lit 327 :: nat_lit 328 :: nat_lit 332 :: nat_lit 333 :: nat_lit 339 :: nat_lit 340 :: nat_lit 346 :: nat_lit 347 :: nat_lit 353 :: nat_lit 354 :: nat_lit 358 :: nat_lit 359 :: nat_lit 363 :: nat_lit 364 :: nat_lit 370 :: nat_lit 371 :: nat_lit 377 :: nat_lit 378 :: nat_lit 384 :: nat_lit 385 :: nat_lit 391 :: nat_lit 392 :: nat_lit 398 :: nat_lit 399 :: []) (fun _=>by kernel_rfl)
noncomputable abbrev rr:RowW:=OpenRow.toRowW (OpenLaw.row PySem.Challenge.rw_trueleaf_k07_parts_refused)
noncomputable abbrev xt:Shared→Bool:=fun s=>xlAt vw [] s && recOk (RowW.records rr) s
noncomputable def zzqA_11 (P:Params) : Obj:=⟨(.type "tuple"),none,(.seq #[]),#[]⟩
noncomputable def zzqA_12 (P:Params) : Obj:=⟨(.none),none,(.fields #[]),#[]⟩
noncomputable def zzqA_13 (P:Params) : Obj:=⟨(.type "code"),none,(.fields #[.str (os "<module>") 182,.str (os "<module>") 183,.str (os "/claim/cut.py") 184,.int 1 0,.int 0 0,.int 0 0,.int 0 0,.int 0 0,.ref 11,.bool false,.int 181 0,.ref 12,.none,.none,.none,.none,.int 185 0,.int 1 0,.str (os "/claim/cut.py") 186]),#[]⟩
noncomputable def zzqA_14 (P:Params) : Obj:=⟨(.type "frame"),none,(.plain),#[Option.some (.ref 13),Option.some (.ref 3),Option.some (.ref 3),none,Option.some (.str (os "__main__") 164),none,Option.some (.ref 0)]⟩
noncomputable def zzhA (P:Params) : Heap:=⟨⟨PySem.W.boot_o_0 P :: PySem.W.boot_o_1 P :: PySem.W.boot_o_2 P :: PySem.W.boot_o_3 P :: PySem.W.boot_o_4 P :: PySem.W.boot_o_5 P :: PySem.W.boot_o_6 P :: PySem.W.boot_o_7 P :: PySem.W.boot_o_8 P :: PySem.W.boot_o_9 P :: PySem.W.boot_o_10 P :: zzqA_11 P :: zzqA_12 P :: zzqA_13 P :: zzqA_14 P :: []⟩,{}⟩
noncomputable def zzhB (P:Params) : Heap:=⟨⟨PySem.W.boot_o_0 P :: PySem.W.boot_o_1 P :: PySem.W.boot_o_2 P :: PySem.W.boot_o_3 P :: PySem.W.boot_o_4 P :: PySem.W.boot_o_5 P :: PySem.W.boot_o_6 P :: PySem.W.boot_o_7 P :: PySem.W.boot_o_8 P :: PySem.W.boot_o_9 P :: PySem.W.boot_o_10 P :: zzqA_11 P :: zzqA_12 P :: zzqA_13 P :: zzqA_14 P :: []⟩,{}⟩
noncomputable def zzq1_3 (P:Params) : Obj:=⟨(.type "dict"),none,.dict (List.toArray (⟨kh P (os "__name__"),(.str (os "__name__") 165),(.str (os "trueleaf.errors") 187)⟩ :: ⟨kh P (os "__doc__"),(.str (os "__doc__") 166),(.none)⟩ :: ⟨kh P (os "__package__"),(.str (os "__package__") 167),(.none)⟩ :: ⟨kh P (os "__loader__"),(.str (os "__loader__") 168),(.builtin "__main__.__loader__#opaque")⟩ :: ⟨kh P (os "__spec__"),(.str (os "__spec__") 169),(.none)⟩ :: ⟨kh P (os "__annotations__"),(.str (os "__annotations__") 170),(.ref 6)⟩ :: ⟨kh P (os "__builtins__"),(.str (os "__builtins__") 171),(.ref 4)⟩ :: ⟨kh P (os "__file__"),(.str (os "__file__") 173),(.str (os "/claim/cut.py") 172)⟩ :: ⟨kh P (os "__cached__"),(.str (os "__cached__") 174),(.none)⟩ :: ⟨kh P (os "TrueleafError"),(.str (os "TrueleafError") 206),(.ref 24)⟩ :: ⟨kh P (os "BadRow"),(.str (os "BadRow") 222),(.ref 37)⟩ :: ⟨kh P (os "NoPart"),(.str (os "NoPart") 238),(.ref 49)⟩ :: ⟨kh P (os "Ring"),(.str (os "Ring") 254),(.ref 61)⟩ :: ⟨kh P (os "TooLong"),(.str (os "TooLong") 270),(.ref 73)⟩ :: ⟨kh P (os "BadCall"),(.str (os "BadCall") 286),(.ref 85)⟩ :: ⟨kh P (os "Deep"),(.str (os "Deep") 302),(.ref 97)⟩ :: ⟨kh P (os "NoShort"),(.str (os "NoShort") 318),(.ref 109)⟩ :: [])) 17,#[]⟩
noncomputable def zzq1_12 (P:Params) : Obj:=⟨(.none),none,(.fields #[.int 2 0,.int 0 0,.ref 20,.int 4 0,.int 0 0,.ref 33,.int 6 0,.int 0 0,.ref 45,.int 8 0,.int 0 0,.ref 57,.int 10 0,.int 0 0,.ref 69,.int 12 0,.int 0 0,.ref 81,.int 14 0,.int 0 0,.ref 93,.int 16 0,.int 0 0,.ref 105]),#[]⟩
noncomputable def zzq1_15 (P:Params) : Obj:=⟨(.type "tuple"),none,(.seq #[.type "ValueError"]),#[]⟩
noncomputable def zzq1_16 (P:Params) : Obj:=⟨(.type "builtin_function_or_method"),none,(.fields #[.builtin "type.__prepare__",.type "type"]),#[]⟩
noncomputable def zzq1_17 (P:Params) : Obj:=⟨(.type "dict"),none,.dict (List.toArray (⟨kh P (os "__module__"),(.str (os "__module__") 196),(.str (os "trueleaf.errors") 187)⟩ :: ⟨kh P (os "__qualname__"),(.str (os "__qualname__") 198),(.str (os "TrueleafError") 197)⟩ :: ⟨kh P (os "__firstlineno__"),(.str (os "__firstlineno__") 200),(.int 2 199)⟩ :: ⟨kh P (os "__static_attributes__"),(.str (os "__static_attributes__") 201),(.ref 22)⟩ :: [])) 4,#[]⟩
noncomputable def zzq1_18 (P:Params) : Obj:=⟨(.type "tuple"),none,(.seq #[]),#[]⟩
noncomputable def zzq1_19 (P:Params) : Obj:=⟨(.none),none,(.fields #[]),#[]⟩
noncomputable def zzq1_20 (P:Params) : Obj:=⟨(.type "code"),none,(.fields #[.str (os "TrueleafError") 191,.str (os "TrueleafError") 192,.str (os "/claim/cut.py") 193,.int 2 0,.int 0 0,.int 0 0,.int 0 0,.int 0 0,.ref 18,.bool false,.int 181 0,.ref 19,.none,.none,.none,.none,.int 194 0,.int 2 0,.str (os "/claim/cut.py") 195]),#[]⟩
noncomputable def zzq1_21 (P:Params) : Obj:=⟨(.type "frame"),none,(.plain),#[Option.some (.ref 20),Option.some (.ref 3),Option.some (.ref 17),none,Option.some (.str (os "trueleaf.errors") 187),none,Option.some (.ref 0)]⟩
noncomputable def zzq1_22 (P:Params) : Obj:=⟨(.type "tuple"),none,(.seq #[]),#[]⟩
noncomputable def zzq1_23 (P:Params) : Obj:=⟨(.type "dict"),none,.dict (List.toArray (⟨kh P (os "__module__"),(.str (os "__module__") 196),(.str (os "trueleaf.errors") 187)⟩ :: ⟨kh P (os "__firstlineno__"),(.str (os "__firstlineno__") 200),(.int 2 199)⟩ :: ⟨kh P (os "__static_attributes__"),(.str (os "__static_attributes__") 201),(.ref 22)⟩ :: ⟨kh P (os "__weakref__"),(.str (os "__weakref__") 203),(.ref 25)⟩ :: ⟨kh P (os "__doc__"),(.str (os "__doc__") 204),(.none)⟩ :: [])) 3,#[]⟩
noncomputable def zzq1_24 (P:Params) : Obj:=⟨(.type "type"),none,(.cls (PySem.ClassData.mk (os "TrueleafError") [.type "ValueError"] [.ref 24,.type "ValueError",.type "Exception",.type "BaseException",.type "object"] 23 (os "TrueleafError") true [] [.ref 37,.ref 49,.ref 61,.ref 73,.ref 85,.ref 97,.ref 109] false none false)),#[Option.some (.ref 15),none,Option.some (.str (os "TrueleafError") 189),Option.some (.str (os "TrueleafError") 197),Option.some (.builtin "ValueError.__new__"),Option.some (.bool true)]⟩
noncomputable def zzq1_25 (P:Params) : Obj:=⟨(.type "getset_descriptor"),none,(.fields #[.str (os "__weakref__") 202,.ref 24,.builtin "ExceptionGroup.__weakref__",.none]),#[]⟩
noncomputable def zzq1_26 (P:Params) : Obj:=⟨(.type "super"),none,(.fields #[.ref 24,.ref 24,.ref 24]),#[]⟩
noncomputable def zzq1_27 (P:Params) : Obj:=⟨(.type "builtin_function_or_method"),none,(.fields #[.builtin "object.__init_subclass__",.ref 24]),#[]⟩
noncomputable def zzq1_28 (P:Params) : Obj:=⟨(.type "tuple"),none,(.seq #[.ref 24]),#[]⟩
noncomputable def zzq1_29 (P:Params) : Obj:=⟨(.type "builtin_function_or_method"),none,(.fields #[.builtin "type.__prepare__",.type "type"]),#[]⟩
noncomputable def zzq1_30 (P:Params) : Obj:=⟨(.type "dict"),none,.dict (List.toArray (⟨kh P (os "__module__"),(.str (os "__module__") 214),(.str (os "trueleaf.errors") 187)⟩ :: ⟨kh P (os "__qualname__"),(.str (os "__qualname__") 216),(.str (os "BadRow") 215)⟩ :: ⟨kh P (os "__firstlineno__"),(.str (os "__firstlineno__") 218),(.int 4 217)⟩ :: ⟨kh P (os "__static_attributes__"),(.str (os "__static_attributes__") 219),(.ref 35)⟩ :: [])) 4,#[]⟩
noncomputable def zzq1_31 (P:Params) : Obj:=⟨(.type "tuple"),none,(.seq #[]),#[]⟩
noncomputable def zzq1_32 (P:Params) : Obj:=⟨(.none),none,(.fields #[]),#[]⟩
noncomputable def zzq1_33 (P:Params) : Obj:=⟨(.type "code"),none,(.fields #[.str (os "BadRow") 209,.str (os "BadRow") 210,.str (os "/claim/cut.py") 211,.int 4 0,.int 0 0,.int 0 0,.int 0 0,.int 0 0,.ref 31,.bool false,.int 181 0,.ref 32,.none,.none,.none,.none,.int 212 0,.int 4 0,.str (os "/claim/cut.py") 213]),#[]⟩
noncomputable def zzq1_34 (P:Params) : Obj:=⟨(.type "frame"),none,(.plain),#[Option.some (.ref 33),Option.some (.ref 3),Option.some (.ref 30),none,Option.some (.str (os "trueleaf.errors") 187),none,Option.some (.ref 0)]⟩
noncomputable def zzq1_35 (P:Params) : Obj:=⟨(.type "tuple"),none,(.seq #[]),#[]⟩
noncomputable def zzq1_36 (P:Params) : Obj:=⟨(.type "dict"),none,.dict (List.toArray (⟨kh P (os "__module__"),(.str (os "__module__") 214),(.str (os "trueleaf.errors") 187)⟩ :: ⟨kh P (os "__firstlineno__"),(.str (os "__firstlineno__") 218),(.int 4 217)⟩ :: ⟨kh P (os "__static_attributes__"),(.str (os "__static_attributes__") 219),(.ref 35)⟩ :: ⟨kh P (os "__doc__"),(.str (os "__doc__") 220),(.none)⟩ :: [])) 2,#[]⟩
noncomputable def zzq1_37 (P:Params) : Obj:=⟨(.type "type"),none,(.cls (PySem.ClassData.mk (os "BadRow") [.ref 24] [.ref 37,.ref 24,.type "ValueError",.type "Exception",.type "BaseException",.type "object"] 36 (os "BadRow") true [] [] false none false)),#[Option.some (.ref 28),none,Option.some (.str (os "BadRow") 207),Option.some (.str (os "BadRow") 215),Option.some (.builtin "ValueError.__new__"),Option.some (.bool true)]⟩
noncomputable def zzq1_38 (P:Params) : Obj:=⟨(.type "super"),none,(.fields #[.ref 37,.ref 37,.ref 37]),#[]⟩
noncomputable def zzq1_39 (P:Params) : Obj:=⟨(.type "builtin_function_or_method"),none,(.fields #[.builtin "object.__init_subclass__",.ref 37]),#[]⟩
noncomputable def zzq1_40 (P:Params) : Obj:=⟨(.type "tuple"),none,(.seq #[.ref 24]),#[]⟩
noncomputable def zzq1_41 (P:Params) : Obj:=⟨(.type "builtin_function_or_method"),none,(.fields #[.builtin "type.__prepare__",.type "type"]),#[]⟩
noncomputable def zzq1_42 (P:Params) : Obj:=⟨(.type "dict"),none,.dict (List.toArray (⟨kh P (os "__module__"),(.str (os "__module__") 230),(.str (os "trueleaf.errors") 187)⟩ :: ⟨kh P (os "__qualname__"),(.str (os "__qualname__") 232),(.str (os "NoPart") 231)⟩ :: ⟨kh P (os "__firstlineno__"),(.str (os "__firstlineno__") 234),(.int 6 233)⟩ :: ⟨kh P (os "__static_attributes__"),(.str (os "__static_attributes__") 235),(.ref 47)⟩ :: [])) 4,#[]⟩
noncomputable def zzq1_43 (P:Params) : Obj:=⟨(.type "tuple"),none,(.seq #[]),#[]⟩
noncomputable def zzq1_44 (P:Params) : Obj:=⟨(.none),none,(.fields #[]),#[]⟩
noncomputable def zzq1_45 (P:Params) : Obj:=⟨(.type "code"),none,(.fields #[.str (os "NoPart") 225,.str (os "NoPart") 226,.str (os "/claim/cut.py") 227,.int 6 0,.int 0 0,.int 0 0,.int 0 0,.int 0 0,.ref 43,.bool false,.int 181 0,.ref 44,.none,.none,.none,.none,.int 228 0,.int 6 0,.str (os "/claim/cut.py") 229]),#[]⟩
noncomputable def zzq1_46 (P:Params) : Obj:=⟨(.type "frame"),none,(.plain),#[Option.some (.ref 45),Option.some (.ref 3),Option.some (.ref 42),none,Option.some (.str (os "trueleaf.errors") 187),none,Option.some (.ref 0)]⟩
noncomputable def zzq1_47 (P:Params) : Obj:=⟨(.type "tuple"),none,(.seq #[]),#[]⟩
noncomputable def zzq1_48 (P:Params) : Obj:=⟨(.type "dict"),none,.dict (List.toArray (⟨kh P (os "__module__"),(.str (os "__module__") 230),(.str (os "trueleaf.errors") 187)⟩ :: ⟨kh P (os "__firstlineno__"),(.str (os "__firstlineno__") 234),(.int 6 233)⟩ :: ⟨kh P (os "__static_attributes__"),(.str (os "__static_attributes__") 235),(.ref 47)⟩ :: ⟨kh P (os "__doc__"),(.str (os "__doc__") 236),(.none)⟩ :: [])) 2,#[]⟩
noncomputable def zzq1_49 (P:Params) : Obj:=⟨(.type "type"),none,(.cls (PySem.ClassData.mk (os "NoPart") [.ref 24] [.ref 49,.ref 24,.type "ValueError",.type "Exception",.type "BaseException",.type "object"] 48 (os "NoPart") true [] [] false none false)),#[Option.some (.ref 40),none,Option.some (.str (os "NoPart") 223),Option.some (.str (os "NoPart") 231),Option.some (.builtin "ValueError.__new__"),Option.some (.bool true)]⟩
noncomputable def zzq1_50 (P:Params) : Obj:=⟨(.type "super"),none,(.fields #[.ref 49,.ref 49,.ref 49]),#[]⟩
noncomputable def zzq1_51 (P:Params) : Obj:=⟨(.type "builtin_function_or_method"),none,(.fields #[.builtin "object.__init_subclass__",.ref 49]),#[]⟩
noncomputable def zzq1_52 (P:Params) : Obj:=⟨(.type "tuple"),none,(.seq #[.ref 24]),#[]⟩
noncomputable def zzq1_53 (P:Params) : Obj:=⟨(.type "builtin_function_or_method"),none,(.fields #[.builtin "type.__prepare__",.type "type"]),#[]⟩
noncomputable def zzq1_54 (P:Params) : Obj:=⟨(.type "dict"),none,.dict (List.toArray (⟨kh P (os "__module__"),(.str (os "__module__") 246),(.str (os "trueleaf.errors") 187)⟩ :: ⟨kh P (os "__qualname__"),(.str (os "__qualname__") 248),(.str (os "Ring") 247)⟩ :: ⟨kh P (os "__firstlineno__"),(.str (os "__firstlineno__") 250),(.int 8 249)⟩ :: ⟨kh P (os "__static_attributes__"),(.str (os "__static_attributes__") 251),(.ref 59)⟩ :: [])) 4,#[]⟩
noncomputable def zzq1_55 (P:Params) : Obj:=⟨(.type "tuple"),none,(.seq #[]),#[]⟩
noncomputable def zzq1_56 (P:Params) : Obj:=⟨(.none),none,(.fields #[]),#[]⟩
noncomputable def zzq1_57 (P:Params) : Obj:=⟨(.type "code"),none,(.fields #[.str (os "Ring") 241,.str (os "Ring") 242,.str (os "/claim/cut.py") 243,.int 8 0,.int 0 0,.int 0 0,.int 0 0,.int 0 0,.ref 55,.bool false,.int 181 0,.ref 56,.none,.none,.none,.none,.int 244 0,.int 8 0,.str (os "/claim/cut.py") 245]),#[]⟩
noncomputable def zzq1_58 (P:Params) : Obj:=⟨(.type "frame"),none,(.plain),#[Option.some (.ref 57),Option.some (.ref 3),Option.some (.ref 54),none,Option.some (.str (os "trueleaf.errors") 187),none,Option.some (.ref 0)]⟩
noncomputable def zzq1_59 (P:Params) : Obj:=⟨(.type "tuple"),none,(.seq #[]),#[]⟩
noncomputable def zzq1_60 (P:Params) : Obj:=⟨(.type "dict"),none,.dict (List.toArray (⟨kh P (os "__module__"),(.str (os "__module__") 246),(.str (os "trueleaf.errors") 187)⟩ :: ⟨kh P (os "__firstlineno__"),(.str (os "__firstlineno__") 250),(.int 8 249)⟩ :: ⟨kh P (os "__static_attributes__"),(.str (os "__static_attributes__") 251),(.ref 59)⟩ :: ⟨kh P (os "__doc__"),(.str (os "__doc__") 252),(.none)⟩ :: [])) 2,#[]⟩
noncomputable def zzq1_61 (P:Params) : Obj:=⟨(.type "type"),none,(.cls (PySem.ClassData.mk (os "Ring") [.ref 24] [.ref 61,.ref 24,.type "ValueError",.type "Exception",.type "BaseException",.type "object"] 60 (os "Ring") true [] [] false none false)),#[Option.some (.ref 52),none,Option.some (.str (os "Ring") 239),Option.some (.str (os "Ring") 247),Option.some (.builtin "ValueError.__new__"),Option.some (.bool true)]⟩
noncomputable def zzq1_62 (P:Params) : Obj:=⟨(.type "super"),none,(.fields #[.ref 61,.ref 61,.ref 61]),#[]⟩
noncomputable def zzq1_63 (P:Params) : Obj:=⟨(.type "builtin_function_or_method"),none,(.fields #[.builtin "object.__init_subclass__",.ref 61]),#[]⟩
noncomputable def zzq1_64 (P:Params) : Obj:=⟨(.type "tuple"),none,(.seq #[.ref 24]),#[]⟩
noncomputable def zzq1_65 (P:Params) : Obj:=⟨(.type "builtin_function_or_method"),none,(.fields #[.builtin "type.__prepare__",.type "type"]),#[]⟩
noncomputable def zzq1_66 (P:Params) : Obj:=⟨(.type "dict"),none,.dict (List.toArray (⟨kh P (os "__module__"),(.str (os "__module__") 262),(.str (os "trueleaf.errors") 187)⟩ :: ⟨kh P (os "__qualname__"),(.str (os "__qualname__") 264),(.str (os "TooLong") 263)⟩ :: ⟨kh P (os "__firstlineno__"),(.str (os "__firstlineno__") 266),(.int 10 265)⟩ :: ⟨kh P (os "__static_attributes__"),(.str (os "__static_attributes__") 267),(.ref 71)⟩ :: [])) 4,#[]⟩
noncomputable def zzq1_67 (P:Params) : Obj:=⟨(.type "tuple"),none,(.seq #[]),#[]⟩
noncomputable def zzq1_68 (P:Params) : Obj:=⟨(.none),none,(.fields #[]),#[]⟩
noncomputable def zzq1_69 (P:Params) : Obj:=⟨(.type "code"),none,(.fields #[.str (os "TooLong") 257,.str (os "TooLong") 258,.str (os "/claim/cut.py") 259,.int 10 0,.int 0 0,.int 0 0,.int 0 0,.int 0 0,.ref 67,.bool false,.int 181 0,.ref 68,.none,.none,.none,.none,.int 260 0,.int 10 0,.str (os "/claim/cut.py") 261]),#[]⟩
noncomputable def zzq1_70 (P:Params) : Obj:=⟨(.type "frame"),none,(.plain),#[Option.some (.ref 69),Option.some (.ref 3),Option.some (.ref 66),none,Option.some (.str (os "trueleaf.errors") 187),none,Option.some (.ref 0)]⟩
noncomputable def zzq1_71 (P:Params) : Obj:=⟨(.type "tuple"),none,(.seq #[]),#[]⟩
noncomputable def zzq1_72 (P:Params) : Obj:=⟨(.type "dict"),none,.dict (List.toArray (⟨kh P (os "__module__"),(.str (os "__module__") 262),(.str (os "trueleaf.errors") 187)⟩ :: ⟨kh P (os "__firstlineno__"),(.str (os "__firstlineno__") 266),(.int 10 265)⟩ :: ⟨kh P (os "__static_attributes__"),(.str (os "__static_attributes__") 267),(.ref 71)⟩ :: ⟨kh P (os "__doc__"),(.str (os "__doc__") 268),(.none)⟩ :: [])) 2,#[]⟩
noncomputable def zzq1_73 (P:Params) : Obj:=⟨(.type "type"),none,(.cls (PySem.ClassData.mk (os "TooLong") [.ref 24] [.ref 73,.ref 24,.type "ValueError",.type "Exception",.type "BaseException",.type "object"] 72 (os "TooLong") true [] [] false none false)),#[Option.some (.ref 64),none,Option.some (.str (os "TooLong") 255),Option.some (.str (os "TooLong") 263),Option.some (.builtin "ValueError.__new__"),Option.some (.bool true)]⟩
noncomputable def zzq1_74 (P:Params) : Obj:=⟨(.type "super"),none,(.fields #[.ref 73,.ref 73,.ref 73]),#[]⟩
noncomputable def zzq1_75 (P:Params) : Obj:=⟨(.type "builtin_function_or_method"),none,(.fields #[.builtin "object.__init_subclass__",.ref 73]),#[]⟩
noncomputable def zzq1_76 (P:Params) : Obj:=⟨(.type "tuple"),none,(.seq #[.ref 24]),#[]⟩
noncomputable def zzq1_77 (P:Params) : Obj:=⟨(.type "builtin_function_or_method"),none,(.fields #[.builtin "type.__prepare__",.type "type"]),#[]⟩
noncomputable def zzq1_78 (P:Params) : Obj:=⟨(.type "dict"),none,.dict (List.toArray (⟨kh P (os "__module__"),(.str (os "__module__") 278),(.str (os "trueleaf.errors") 187)⟩ :: ⟨kh P (os "__qualname__"),(.str (os "__qualname__") 280),(.str (os "BadCall") 279)⟩ :: ⟨kh P (os "__firstlineno__"),(.str (os "__firstlineno__") 282),(.int 12 281)⟩ :: ⟨kh P (os "__static_attributes__"),(.str (os "__static_attributes__") 283),(.ref 83)⟩ :: [])) 4,#[]⟩
noncomputable def zzq1_79 (P:Params) : Obj:=⟨(.type "tuple"),none,(.seq #[]),#[]⟩
noncomputable def zzq1_80 (P:Params) : Obj:=⟨(.none),none,(.fields #[]),#[]⟩
noncomputable def zzq1_81 (P:Params) : Obj:=⟨(.type "code"),none,(.fields #[.str (os "BadCall") 273,.str (os "BadCall") 274,.str (os "/claim/cut.py") 275,.int 12 0,.int 0 0,.int 0 0,.int 0 0,.int 0 0,.ref 79,.bool false,.int 181 0,.ref 80,.none,.none,.none,.none,.int 276 0,.int 12 0,.str (os "/claim/cut.py") 277]),#[]⟩
noncomputable def zzq1_82 (P:Params) : Obj:=⟨(.type "frame"),none,(.plain),#[Option.some (.ref 81),Option.some (.ref 3),Option.some (.ref 78),none,Option.some (.str (os "trueleaf.errors") 187),none,Option.some (.ref 0)]⟩
noncomputable def zzq1_83 (P:Params) : Obj:=⟨(.type "tuple"),none,(.seq #[]),#[]⟩
noncomputable def zzq1_84 (P:Params) : Obj:=⟨(.type "dict"),none,.dict (List.toArray (⟨kh P (os "__module__"),(.str (os "__module__") 278),(.str (os "trueleaf.errors") 187)⟩ :: ⟨kh P (os "__firstlineno__"),(.str (os "__firstlineno__") 282),(.int 12 281)⟩ :: ⟨kh P (os "__static_attributes__"),(.str (os "__static_attributes__") 283),(.ref 83)⟩ :: ⟨kh P (os "__doc__"),(.str (os "__doc__") 284),(.none)⟩ :: [])) 2,#[]⟩
noncomputable def zzq1_85 (P:Params) : Obj:=⟨(.type "type"),none,(.cls (PySem.ClassData.mk (os "BadCall") [.ref 24] [.ref 85,.ref 24,.type "ValueError",.type "Exception",.type "BaseException",.type "object"] 84 (os "BadCall") true [] [] false none false)),#[Option.some (.ref 76),none,Option.some (.str (os "BadCall") 271),Option.some (.str (os "BadCall") 279),Option.some (.builtin "ValueError.__new__"),Option.some (.bool true)]⟩
noncomputable def zzq1_86 (P:Params) : Obj:=⟨(.type "super"),none,(.fields #[.ref 85,.ref 85,.ref 85]),#[]⟩
noncomputable def zzq1_87 (P:Params) : Obj:=⟨(.type "builtin_function_or_method"),none,(.fields #[.builtin "object.__init_subclass__",.ref 85]),#[]⟩
noncomputable def zzq1_88 (P:Params) : Obj:=⟨(.type "tuple"),none,(.seq #[.ref 24]),#[]⟩
noncomputable def zzq1_89 (P:Params) : Obj:=⟨(.type "builtin_function_or_method"),none,(.fields #[.builtin "type.__prepare__",.type "type"]),#[]⟩
noncomputable def zzq1_90 (P:Params) : Obj:=⟨(.type "dict"),none,.dict (List.toArray (⟨kh P (os "__module__"),(.str (os "__module__") 294),(.str (os "trueleaf.errors") 187)⟩ :: ⟨kh P (os "__qualname__"),(.str (os "__qualname__") 296),(.str (os "Deep") 295)⟩ :: ⟨kh P (os "__firstlineno__"),(.str (os "__firstlineno__") 298),(.int 14 297)⟩ :: ⟨kh P (os "__static_attributes__"),(.str (os "__static_attributes__") 299),(.ref 95)⟩ :: [])) 4,#[]⟩
noncomputable def zzq1_91 (P:Params) : Obj:=⟨(.type "tuple"),none,(.seq #[]),#[]⟩
noncomputable def zzq1_92 (P:Params) : Obj:=⟨(.none),none,(.fields #[]),#[]⟩
noncomputable def zzq1_93 (P:Params) : Obj:=⟨(.type "code"),none,(.fields #[.str (os "Deep") 289,.str (os "Deep") 290,.str (os "/claim/cut.py") 291,.int 14 0,.int 0 0,.int 0 0,.int 0 0,.int 0 0,.ref 91,.bool false,.int 181 0,.ref 92,.none,.none,.none,.none,.int 292 0,.int 14 0,.str (os "/claim/cut.py") 293]),#[]⟩
noncomputable def zzq1_94 (P:Params) : Obj:=⟨(.type "frame"),none,(.plain),#[Option.some (.ref 93),Option.some (.ref 3),Option.some (.ref 90),none,Option.some (.str (os "trueleaf.errors") 187),none,Option.some (.ref 0)]⟩
noncomputable def zzq1_95 (P:Params) : Obj:=⟨(.type "tuple"),none,(.seq #[]),#[]⟩
noncomputable def zzq1_96 (P:Params) : Obj:=⟨(.type "dict"),none,.dict (List.toArray (⟨kh P (os "__module__"),(.str (os "__module__") 294),(.str (os "trueleaf.errors") 187)⟩ :: ⟨kh P (os "__firstlineno__"),(.str (os "__firstlineno__") 298),(.int 14 297)⟩ :: ⟨kh P (os "__static_attributes__"),(.str (os "__static_attributes__") 299),(.ref 95)⟩ :: ⟨kh P (os "__doc__"),(.str (os "__doc__") 300),(.none)⟩ :: [])) 2,#[]⟩
noncomputable def zzq1_97 (P:Params) : Obj:=⟨(.type "type"),none,(.cls (PySem.ClassData.mk (os "Deep") [.ref 24] [.ref 97,.ref 24,.type "ValueError",.type "Exception",.type "BaseException",.type "object"] 96 (os "Deep") true [] [] false none false)),#[Option.some (.ref 88),none,Option.some (.str (os "Deep") 287),Option.some (.str (os "Deep") 295),Option.some (.builtin "ValueError.__new__"),Option.some (.bool true)]⟩
noncomputable def zzq1_98 (P:Params) : Obj:=⟨(.type "super"),none,(.fields #[.ref 97,.ref 97,.ref 97]),#[]⟩
noncomputable def zzq1_99 (P:Params) : Obj:=⟨(.type "builtin_function_or_method"),none,(.fields #[.builtin "object.__init_subclass__",.ref 97]),#[]⟩
noncomputable def zzq1_100 (P:Params) : Obj:=⟨(.type "tuple"),none,(.seq #[.ref 24]),#[]⟩
noncomputable def zzq1_101 (P:Params) : Obj:=⟨(.type "builtin_function_or_method"),none,(.fields #[.builtin "type.__prepare__",.type "type"]),#[]⟩
noncomputable def zzq1_102 (P:Params) : Obj:=⟨(.type "dict"),none,.dict (List.toArray (⟨kh P (os "__module__"),(.str (os "__module__") 310),(.str (os "trueleaf.errors") 187)⟩ :: ⟨kh P (os "__qualname__"),(.str (os "__qualname__") 312),(.str (os "NoShort") 311)⟩ :: ⟨kh P (os "__firstlineno__"),(.str (os "__firstlineno__") 314),(.int 16 313)⟩ :: ⟨kh P (os "__static_attributes__"),(.str (os "__static_attributes__") 315),(.ref 107)⟩ :: [])) 4,#[]⟩
noncomputable def zzq1_103 (P:Params) : Obj:=⟨(.type "tuple"),none,(.seq #[]),#[]⟩
noncomputable def zzq1_104 (P:Params) : Obj:=⟨(.none),none,(.fields #[]),#[]⟩
noncomputable def zzq1_105 (P:Params) : Obj:=⟨(.type "code"),none,(.fields #[.str (os "NoShort") 305,.str (os "NoShort") 306,.str (os "/claim/cut.py") 307,.int 16 0,.int 0 0,.int 0 0,.int 0 0,.int 0 0,.ref 103,.bool false,.int 181 0,.ref 104,.none,.none,.none,.none,.int 308 0,.int 16 0,.str (os "/claim/cut.py") 309]),#[]⟩
noncomputable def zzq1_106 (P:Params) : Obj:=⟨(.type "frame"),none,(.plain),#[Option.some (.ref 105),Option.some (.ref 3),Option.some (.ref 102),none,Option.some (.str (os "trueleaf.errors") 187),none,Option.some (.ref 0)]⟩
noncomputable def zzq1_107 (P:Params) : Obj:=⟨(.type "tuple"),none,(.seq #[]),#[]⟩
noncomputable def zzq1_108 (P:Params) : Obj:=⟨(.type "dict"),none,.dict (List.toArray (⟨kh P (os "__module__"),(.str (os "__module__") 310),(.str (os "trueleaf.errors") 187)⟩ :: ⟨kh P (os "__firstlineno__"),(.str (os "__firstlineno__") 314),(.int 16 313)⟩ :: ⟨kh P (os "__static_attributes__"),(.str (os "__static_attributes__") 315),(.ref 107)⟩ :: ⟨kh P (os "__doc__"),(.str (os "__doc__") 316),(.none)⟩ :: [])) 2,#[]⟩
noncomputable def zzq1_109 (P:Params) : Obj:=⟨(.type "type"),none,(.cls (PySem.ClassData.mk (os "NoShort") [.ref 24] [.ref 109,.ref 24,.type "ValueError",.type "Exception",.type "BaseException",.type "object"] 108 (os "NoShort") true [] [] false none false)),#[Option.some (.ref 100),none,Option.some (.str (os "NoShort") 303),Option.some (.str (os "NoShort") 311),Option.some (.builtin "ValueError.__new__"),Option.some (.bool true)]⟩
noncomputable def zzq1_110 (P:Params) : Obj:=⟨(.type "super"),none,(.fields #[.ref 109,.ref 109,.ref 109]),#[]⟩
noncomputable def zzq1_111 (P:Params) : Obj:=⟨(.type "builtin_function_or_method"),none,(.fields #[.builtin "object.__init_subclass__",.ref 109]),#[]⟩
noncomputable def zzh1 (P:Params) : Heap:=⟨⟨PySem.W.boot_o_0 P :: PySem.W.boot_o_1 P :: PySem.W.boot_o_2 P :: zzq1_3 P :: PySem.W.boot_o_4 P :: PySem.W.boot_o_5 P :: PySem.W.boot_o_6 P :: PySem.W.boot_o_7 P :: PySem.W.boot_o_8 P :: PySem.W.boot_o_9 P :: PySem.W.boot_o_10 P :: zzqA_11 P :: zzq1_12 P :: zzqA_13 P :: zzqA_14 P :: zzq1_15 P :: zzq1_16 P :: zzq1_17 P :: zzq1_18 P :: zzq1_19 P :: zzq1_20 P :: zzq1_21 P :: zzq1_22 P :: zzq1_23 P :: zzq1_24 P :: zzq1_25 P :: zzq1_26 P :: zzq1_27 P :: zzq1_28 P :: zzq1_29 P :: zzq1_30 P :: zzq1_31 P :: zzq1_32 P :: zzq1_33 P :: zzq1_34 P :: zzq1_35 P :: zzq1_36 P :: zzq1_37 P :: zzq1_38 P :: zzq1_39 P :: zzq1_40 P :: zzq1_41 P :: zzq1_42 P :: zzq1_43 P :: zzq1_44 P :: zzq1_45 P :: zzq1_46 P :: zzq1_47 P :: zzq1_48 P :: zzq1_49 P :: zzq1_50 P :: zzq1_51 P :: zzq1_52 P :: zzq1_53 P :: zzq1_54 P :: zzq1_55 P :: zzq1_56 P :: zzq1_57 P :: zzq1_58 P :: zzq1_59 P :: zzq1_60 P :: zzq1_61 P :: zzq1_62 P :: zzq1_63 P :: zzq1_64 P :: zzq1_65 P :: zzq1_66 P :: zzq1_67 P :: zzq1_68 P :: zzq1_69 P :: zzq1_70 P :: zzq1_71 P :: zzq1_72 P :: zzq1_73 P :: zzq1_74 P :: zzq1_75 P :: zzq1_76 P :: zzq1_77 P :: zzq1_78 P :: zzq1_79 P :: zzq1_80 P :: zzq1_81 P :: zzq1_82 P :: zzq1_83 P :: zzq1_84 P :: zzq1_85 P :: zzq1_86 P :: zzq1_87 P :: zzq1_88 P :: zzq1_89 P :: zzq1_90 P :: zzq1_91 P :: zzq1_92 P :: zzq1_93 P :: zzq1_94 P :: zzq1_95 P :: zzq1_96 P :: zzq1_97 P :: zzq1_98 P :: zzq1_99 P :: zzq1_100 P :: zzq1_101 P :: zzq1_102 P :: zzq1_103 P :: zzq1_104 P :: zzq1_105 P :: zzq1_106 P :: zzq1_107 P :: zzq1_108 P :: zzq1_109 P :: zzq1_110 P :: zzq1_111 P :: []⟩,{}⟩
noncomputable def zzq2_3 (P:Params) : Obj:=⟨(.type "dict"),none,.dict (List.toArray (⟨kh P (os "__name__"),(.str (os "__name__") 165),(.str (os "trueleaf.errors") 187)⟩ :: ⟨kh P (os "__doc__"),(.str (os "__doc__") 166),(.none)⟩ :: ⟨kh P (os "__package__"),(.str (os "__package__") 167),(.none)⟩ :: ⟨kh P (os "__loader__"),(.str (os "__loader__") 168),(.builtin "__main__.__loader__#opaque")⟩ :: ⟨kh P (os "__spec__"),(.str (os "__spec__") 169),(.none)⟩ :: ⟨kh P (os "__annotations__"),(.str (os "__annotations__") 170),(.ref 6)⟩ :: ⟨kh P (os "__builtins__"),(.str (os "__builtins__") 171),(.ref 4)⟩ :: ⟨kh P (os "__file__"),(.str (os "__file__") 173),(.str (os "/claim/cut.py") 172)⟩ :: ⟨kh P (os "__cached__"),(.str (os "__cached__") 174),(.none)⟩ :: ⟨kh P (os "TrueleafError"),(.str (os "TrueleafError") 206),(.ref 24)⟩ :: ⟨kh P (os "BadRow"),(.str (os "BadRow") 222),(.ref 37)⟩ :: ⟨kh P (os "NoPart"),(.str (os "NoPart") 238),(.ref 49)⟩ :: ⟨kh P (os "Ring"),(.str (os "Ring") 254),(.ref 61)⟩ :: ⟨kh P (os "TooLong"),(.str (os "TooLong") 270),(.ref 73)⟩ :: ⟨kh P (os "BadCall"),(.str (os "BadCall") 286),(.ref 85)⟩ :: ⟨kh P (os "Deep"),(.str (os "Deep") 302),(.ref 97)⟩ :: ⟨kh P (os "NoShort"),(.str (os "NoShort") 318),(.ref 109)⟩ :: ⟨kh P (os "BadForm"),(.str (os "BadForm") 334),(.ref 121)⟩ :: ⟨kh P (os "BadWord"),(.str (os "BadWord") 350),(.ref 133)⟩ :: ⟨kh P (os "BadPaper"),(.str (os "BadPaper") 366),(.ref 145)⟩ :: ⟨kh P (os "NoGrowth"),(.str (os "NoGrowth") 382),(.ref 157)⟩ :: ⟨kh P (os "Twice"),(.str (os "Twice") 398),(.ref 169)⟩ :: ⟨kh P (os "NoFoot"),(.str (os "NoFoot") 414),(.ref 181)⟩ :: ⟨kh P (os "NoMark"),(.str (os "NoMark") 430),(.ref 193)⟩ :: ⟨kh P (os "NoLaying"),(.str (os "NoLaying") 446),(.ref 205)⟩ :: [])) 25,#[]⟩
noncomputable def zzq2_12 (P:Params) : Obj:=⟨(.none),none,(.fields #[.int 2 0,.int 0 0,.ref 20,.int 4 0,.int 0 0,.ref 33,.int 6 0,.int 0 0,.ref 45,.int 8 0,.int 0 0,.ref 57,.int 10 0,.int 0 0,.ref 69,.int 12 0,.int 0 0,.ref 81,.int 14 0,.int 0 0,.ref 93,.int 16 0,.int 0 0,.ref 105,.int 18 0,.int 0 0,.ref 117,.int 20 0,.int 0 0,.ref 129,.int 22 0,.int 0 0,.ref 141,.int 24 0,.int 0 0,.ref 153,.int 26 0,.int 0 0,.ref 165,.int 28 0,.int 0 0,.ref 177,.int 30 0,.int 0 0,.ref 189,.int 32 0,.int 0 0,.ref 201]),#[]⟩
noncomputable def zzq2_24 (P:Params) : Obj:=⟨(.type "type"),none,(.cls (PySem.ClassData.mk (os "TrueleafError") [.type "ValueError"] [.ref 24,.type "ValueError",.type "Exception",.type "BaseException",.type "object"] 23 (os "TrueleafError") true [] [.ref 37,.ref 49,.ref 61,.ref 73,.ref 85,.ref 97,.ref 109,.ref 121,.ref 133,.ref 145,.ref 157,.ref 169,.ref 181,.ref 193,.ref 205] false none false)),#[Option.some (.ref 15),none,Option.some (.str (os "TrueleafError") 189),Option.some (.str (os "TrueleafError") 197),Option.some (.builtin "ValueError.__new__"),Option.some (.bool true)]⟩
noncomputable def zzq2_112 (P:Params) : Obj:=⟨(.type "tuple"),none,(.seq #[.ref 24]),#[]⟩
noncomputable def zzq2_113 (P:Params) : Obj:=⟨(.type "builtin_function_or_method"),none,(.fields #[.builtin "type.__prepare__",.type "type"]),#[]⟩
noncomputable def zzq2_114 (P:Params) : Obj:=⟨(.type "dict"),none,.dict (List.toArray (⟨kh P (os "__module__"),(.str (os "__module__") 326),(.str (os "trueleaf.errors") 187)⟩ :: ⟨kh P (os "__qualname__"),(.str (os "__qualname__") 328),(.str (os "BadForm") 327)⟩ :: ⟨kh P (os "__firstlineno__"),(.str (os "__firstlineno__") 330),(.int 18 329)⟩ :: ⟨kh P (os "__static_attributes__"),(.str (os "__static_attributes__") 331),(.ref 119)⟩ :: [])) 4,#[]⟩
noncomputable def zzq2_115 (P:Params) : Obj:=⟨(.type "tuple"),none,(.seq #[]),#[]⟩
noncomputable def zzq2_116 (P:Params) : Obj:=⟨(.none),none,(.fields #[]),#[]⟩
noncomputable def zzq2_117 (P:Params) : Obj:=⟨(.type "code"),none,(.fields #[.str (os "BadForm") 321,.str (os "BadForm") 322,.str (os "/claim/cut.py") 323,.int 18 0,.int 0 0,.int 0 0,.int 0 0,.int 0 0,.ref 115,.bool false,.int 181 0,.ref 116,.none,.none,.none,.none,.int 324 0,.int 18 0,.str (os "/claim/cut.py") 325]),#[]⟩
noncomputable def zzq2_118 (P:Params) : Obj:=⟨(.type "frame"),none,(.plain),#[Option.some (.ref 117),Option.some (.ref 3),Option.some (.ref 114),none,Option.some (.str (os "trueleaf.errors") 187),none,Option.some (.ref 0)]⟩
noncomputable def zzq2_119 (P:Params) : Obj:=⟨(.type "tuple"),none,(.seq #[]),#[]⟩
noncomputable def zzq2_120 (P:Params) : Obj:=⟨(.type "dict"),none,.dict (List.toArray (⟨kh P (os "__module__"),(.str (os "__module__") 326),(.str (os "trueleaf.errors") 187)⟩ :: ⟨kh P (os "__firstlineno__"),(.str (os "__firstlineno__") 330),(.int 18 329)⟩ :: ⟨kh P (os "__static_attributes__"),(.str (os "__static_attributes__") 331),(.ref 119)⟩ :: ⟨kh P (os "__doc__"),(.str (os "__doc__") 332),(.none)⟩ :: [])) 2,#[]⟩
noncomputable def zzq2_121 (P:Params) : Obj:=⟨(.type "type"),none,(.cls (PySem.ClassData.mk (os "BadForm") [.ref 24] [.ref 121,.ref 24,.type "ValueError",.type "Exception",.type "BaseException",.type "object"] 120 (os "BadForm") true [] [] false none false)),#[Option.some (.ref 112),none,Option.some (.str (os "BadForm") 319),Option.some (.str (os "BadForm") 327),Option.some (.builtin "ValueError.__new__"),Option.some (.bool true)]⟩
noncomputable def zzq2_122 (P:Params) : Obj:=⟨(.type "super"),none,(.fields #[.ref 121,.ref 121,.ref 121]),#[]⟩
noncomputable def zzq2_123 (P:Params) : Obj:=⟨(.type "builtin_function_or_method"),none,(.fields #[.builtin "object.__init_subclass__",.ref 121]),#[]⟩
noncomputable def zzq2_124 (P:Params) : Obj:=⟨(.type "tuple"),none,(.seq #[.ref 24]),#[]⟩
noncomputable def zzq2_125 (P:Params) : Obj:=⟨(.type "builtin_function_or_method"),none,(.fields #[.builtin "type.__prepare__",.type "type"]),#[]⟩
noncomputable def zzq2_126 (P:Params) : Obj:=⟨(.type "dict"),none,.dict (List.toArray (⟨kh P (os "__module__"),(.str (os "__module__") 342),(.str (os "trueleaf.errors") 187)⟩ :: ⟨kh P (os "__qualname__"),(.str (os "__qualname__") 344),(.str (os "BadWord") 343)⟩ :: ⟨kh P (os "__firstlineno__"),(.str (os "__firstlineno__") 346),(.int 20 345)⟩ :: ⟨kh P (os "__static_attributes__"),(.str (os "__static_attributes__") 347),(.ref 131)⟩ :: [])) 4,#[]⟩
noncomputable def zzq2_127 (P:Params) : Obj:=⟨(.type "tuple"),none,(.seq #[]),#[]⟩
noncomputable def zzq2_128 (P:Params) : Obj:=⟨(.none),none,(.fields #[]),#[]⟩
noncomputable def zzq2_129 (P:Params) : Obj:=⟨(.type "code"),none,(.fields #[.str (os "BadWord") 337,.str (os "BadWord") 338,.str (os "/claim/cut.py") 339,.int 20 0,.int 0 0,.int 0 0,.int 0 0,.int 0 0,.ref 127,.bool false,.int 181 0,.ref 128,.none,.none,.none,.none,.int 340 0,.int 20 0,.str (os "/claim/cut.py") 341]),#[]⟩
noncomputable def zzq2_130 (P:Params) : Obj:=⟨(.type "frame"),none,(.plain),#[Option.some (.ref 129),Option.some (.ref 3),Option.some (.ref 126),none,Option.some (.str (os "trueleaf.errors") 187),none,Option.some (.ref 0)]⟩
noncomputable def zzq2_131 (P:Params) : Obj:=⟨(.type "tuple"),none,(.seq #[]),#[]⟩
noncomputable def zzq2_132 (P:Params) : Obj:=⟨(.type "dict"),none,.dict (List.toArray (⟨kh P (os "__module__"),(.str (os "__module__") 342),(.str (os "trueleaf.errors") 187)⟩ :: ⟨kh P (os "__firstlineno__"),(.str (os "__firstlineno__") 346),(.int 20 345)⟩ :: ⟨kh P (os "__static_attributes__"),(.str (os "__static_attributes__") 347),(.ref 131)⟩ :: ⟨kh P (os "__doc__"),(.str (os "__doc__") 348),(.none)⟩ :: [])) 2,#[]⟩
noncomputable def zzq2_133 (P:Params) : Obj:=⟨(.type "type"),none,(.cls (PySem.ClassData.mk (os "BadWord") [.ref 24] [.ref 133,.ref 24,.type "ValueError",.type "Exception",.type "BaseException",.type "object"] 132 (os "BadWord") true [] [] false none false)),#[Option.some (.ref 124),none,Option.some (.str (os "BadWord") 335),Option.some (.str (os "BadWord") 343),Option.some (.builtin "ValueError.__new__"),Option.some (.bool true)]⟩
noncomputable def zzq2_134 (P:Params) : Obj:=⟨(.type "super"),none,(.fields #[.ref 133,.ref 133,.ref 133]),#[]⟩
noncomputable def zzq2_135 (P:Params) : Obj:=⟨(.type "builtin_function_or_method"),none,(.fields #[.builtin "object.__init_subclass__",.ref 133]),#[]⟩
noncomputable def zzq2_136 (P:Params) : Obj:=⟨(.type "tuple"),none,(.seq #[.ref 24]),#[]⟩
noncomputable def zzq2_137 (P:Params) : Obj:=⟨(.type "builtin_function_or_method"),none,(.fields #[.builtin "type.__prepare__",.type "type"]),#[]⟩
noncomputable def zzq2_138 (P:Params) : Obj:=⟨(.type "dict"),none,.dict (List.toArray (⟨kh P (os "__module__"),(.str (os "__module__") 358),(.str (os "trueleaf.errors") 187)⟩ :: ⟨kh P (os "__qualname__"),(.str (os "__qualname__") 360),(.str (os "BadPaper") 359)⟩ :: ⟨kh P (os "__firstlineno__"),(.str (os "__firstlineno__") 362),(.int 22 361)⟩ :: ⟨kh P (os "__static_attributes__"),(.str (os "__static_attributes__") 363),(.ref 143)⟩ :: [])) 4,#[]⟩
noncomputable def zzq2_139 (P:Params) : Obj:=⟨(.type "tuple"),none,(.seq #[]),#[]⟩
noncomputable def zzq2_140 (P:Params) : Obj:=⟨(.none),none,(.fields #[]),#[]⟩
noncomputable def zzq2_141 (P:Params) : Obj:=⟨(.type "code"),none,(.fields #[.str (os "BadPaper") 353,.str (os "BadPaper") 354,.str (os "/claim/cut.py") 355,.int 22 0,.int 0 0,.int 0 0,.int 0 0,.int 0 0,.ref 139,.bool false,.int 181 0,.ref 140,.none,.none,.none,.none,.int 356 0,.int 22 0,.str (os "/claim/cut.py") 357]),#[]⟩
noncomputable def zzq2_142 (P:Params) : Obj:=⟨(.type "frame"),none,(.plain),#[Option.some (.ref 141),Option.some (.ref 3),Option.some (.ref 138),none,Option.some (.str (os "trueleaf.errors") 187),none,Option.some (.ref 0)]⟩
noncomputable def zzq2_143 (P:Params) : Obj:=⟨(.type "tuple"),none,(.seq #[]),#[]⟩
noncomputable def zzq2_144 (P:Params) : Obj:=⟨(.type "dict"),none,.dict (List.toArray (⟨kh P (os "__module__"),(.str (os "__module__") 358),(.str (os "trueleaf.errors") 187)⟩ :: ⟨kh P (os "__firstlineno__"),(.str (os "__firstlineno__") 362),(.int 22 361)⟩ :: ⟨kh P (os "__static_attributes__"),(.str (os "__static_attributes__") 363),(.ref 143)⟩ :: ⟨kh P (os "__doc__"),(.str (os "__doc__") 364),(.none)⟩ :: [])) 2,#[]⟩
noncomputable def zzq2_145 (P:Params) : Obj:=⟨(.type "type"),none,(.cls (PySem.ClassData.mk (os "BadPaper") [.ref 24] [.ref 145,.ref 24,.type "ValueError",.type "Exception",.type "BaseException",.type "object"] 144 (os "BadPaper") true [] [] false none false)),#[Option.some (.ref 136),none,Option.some (.str (os "BadPaper") 351),Option.some (.str (os "BadPaper") 359),Option.some (.builtin "ValueError.__new__"),Option.some (.bool true)]⟩
noncomputable def zzq2_146 (P:Params) : Obj:=⟨(.type "super"),none,(.fields #[.ref 145,.ref 145,.ref 145]),#[]⟩
noncomputable def zzq2_147 (P:Params) : Obj:=⟨(.type "builtin_function_or_method"),none,(.fields #[.builtin "object.__init_subclass__",.ref 145]),#[]⟩
noncomputable def zzq2_148 (P:Params) : Obj:=⟨(.type "tuple"),none,(.seq #[.ref 24]),#[]⟩
noncomputable def zzq2_149 (P:Params) : Obj:=⟨(.type "builtin_function_or_method"),none,(.fields #[.builtin "type.__prepare__",.type "type"]),#[]⟩
noncomputable def zzq2_150 (P:Params) : Obj:=⟨(.type "dict"),none,.dict (List.toArray (⟨kh P (os "__module__"),(.str (os "__module__") 374),(.str (os "trueleaf.errors") 187)⟩ :: ⟨kh P (os "__qualname__"),(.str (os "__qualname__") 376),(.str (os "NoGrowth") 375)⟩ :: ⟨kh P (os "__firstlineno__"),(.str (os "__firstlineno__") 378),(.int 24 377)⟩ :: ⟨kh P (os "__static_attributes__"),(.str (os "__static_attributes__") 379),(.ref 155)⟩ :: [])) 4,#[]⟩
noncomputable def zzq2_151 (P:Params) : Obj:=⟨(.type "tuple"),none,(.seq #[]),#[]⟩
noncomputable def zzq2_152 (P:Params) : Obj:=⟨(.none),none,(.fields #[]),#[]⟩
noncomputable def zzq2_153 (P:Params) : Obj:=⟨(.type "code"),none,(.fields #[.str (os "NoGrowth") 369,.str (os "NoGrowth") 370,.str (os "/claim/cut.py") 371,.int 24 0,.int 0 0,.int 0 0,.int 0 0,.int 0 0,.ref 151,.bool false,.int 181 0,.ref 152,.none,.none,.none,.none,.int 372 0,.int 24 0,.str (os "/claim/cut.py") 373]),#[]⟩
noncomputable def zzq2_154 (P:Params) : Obj:=⟨(.type "frame"),none,(.plain),#[Option.some (.ref 153),Option.some (.ref 3),Option.some (.ref 150),none,Option.some (.str (os "trueleaf.errors") 187),none,Option.some (.ref 0)]⟩
noncomputable def zzq2_155 (P:Params) : Obj:=⟨(.type "tuple"),none,(.seq #[]),#[]⟩
noncomputable def zzq2_156 (P:Params) : Obj:=⟨(.type "dict"),none,.dict (List.toArray (⟨kh P (os "__module__"),(.str (os "__module__") 374),(.str (os "trueleaf.errors") 187)⟩ :: ⟨kh P (os "__firstlineno__"),(.str (os "__firstlineno__") 378),(.int 24 377)⟩ :: ⟨kh P (os "__static_attributes__"),(.str (os "__static_attributes__") 379),(.ref 155)⟩ :: ⟨kh P (os "__doc__"),(.str (os "__doc__") 380),(.none)⟩ :: [])) 2,#[]⟩
noncomputable def zzq2_157 (P:Params) : Obj:=⟨(.type "type"),none,(.cls (PySem.ClassData.mk (os "NoGrowth") [.ref 24] [.ref 157,.ref 24,.type "ValueError",.type "Exception",.type "BaseException",.type "object"] 156 (os "NoGrowth") true [] [] false none false)),#[Option.some (.ref 148),none,Option.some (.str (os "NoGrowth") 367),Option.some (.str (os "NoGrowth") 375),Option.some (.builtin "ValueError.__new__"),Option.some (.bool true)]⟩
noncomputable def zzq2_158 (P:Params) : Obj:=⟨(.type "super"),none,(.fields #[.ref 157,.ref 157,.ref 157]),#[]⟩
noncomputable def zzq2_159 (P:Params) : Obj:=⟨(.type "builtin_function_or_method"),none,(.fields #[.builtin "object.__init_subclass__",.ref 157]),#[]⟩
noncomputable def zzq2_160 (P:Params) : Obj:=⟨(.type "tuple"),none,(.seq #[.ref 24]),#[]⟩
noncomputable def zzq2_161 (P:Params) : Obj:=⟨(.type "builtin_function_or_method"),none,(.fields #[.builtin "type.__prepare__",.type "type"]),#[]⟩
noncomputable def zzq2_162 (P:Params) : Obj:=⟨(.type "dict"),none,.dict (List.toArray (⟨kh P (os "__module__"),(.str (os "__module__") 390),(.str (os "trueleaf.errors") 187)⟩ :: ⟨kh P (os "__qualname__"),(.str (os "__qualname__") 392),(.str (os "Twice") 391)⟩ :: ⟨kh P (os "__firstlineno__"),(.str (os "__firstlineno__") 394),(.int 26 393)⟩ :: ⟨kh P (os "__static_attributes__"),(.str (os "__static_attributes__") 395),(.ref 167)⟩ :: [])) 4,#[]⟩
noncomputable def zzq2_163 (P:Params) : Obj:=⟨(.type "tuple"),none,(.seq #[]),#[]⟩
noncomputable def zzq2_164 (P:Params) : Obj:=⟨(.none),none,(.fields #[]),#[]⟩
noncomputable def zzq2_165 (P:Params) : Obj:=⟨(.type "code"),none,(.fields #[.str (os "Twice") 385,.str (os "Twice") 386,.str (os "/claim/cut.py") 387,.int 26 0,.int 0 0,.int 0 0,.int 0 0,.int 0 0,.ref 163,.bool false,.int 181 0,.ref 164,.none,.none,.none,.none,.int 388 0,.int 26 0,.str (os "/claim/cut.py") 389]),#[]⟩
noncomputable def zzq2_166 (P:Params) : Obj:=⟨(.type "frame"),none,(.plain),#[Option.some (.ref 165),Option.some (.ref 3),Option.some (.ref 162),none,Option.some (.str (os "trueleaf.errors") 187),none,Option.some (.ref 0)]⟩
noncomputable def zzq2_167 (P:Params) : Obj:=⟨(.type "tuple"),none,(.seq #[]),#[]⟩
noncomputable def zzq2_168 (P:Params) : Obj:=⟨(.type "dict"),none,.dict (List.toArray (⟨kh P (os "__module__"),(.str (os "__module__") 390),(.str (os "trueleaf.errors") 187)⟩ :: ⟨kh P (os "__firstlineno__"),(.str (os "__firstlineno__") 394),(.int 26 393)⟩ :: ⟨kh P (os "__static_attributes__"),(.str (os "__static_attributes__") 395),(.ref 167)⟩ :: ⟨kh P (os "__doc__"),(.str (os "__doc__") 396),(.none)⟩ :: [])) 2,#[]⟩
noncomputable def zzq2_169 (P:Params) : Obj:=⟨(.type "type"),none,(.cls (PySem.ClassData.mk (os "Twice") [.ref 24] [.ref 169,.ref 24,.type "ValueError",.type "Exception",.type "BaseException",.type "object"] 168 (os "Twice") true [] [] false none false)),#[Option.some (.ref 160),none,Option.some (.str (os "Twice") 383),Option.some (.str (os "Twice") 391),Option.some (.builtin "ValueError.__new__"),Option.some (.bool true)]⟩
noncomputable def zzq2_170 (P:Params) : Obj:=⟨(.type "super"),none,(.fields #[.ref 169,.ref 169,.ref 169]),#[]⟩
noncomputable def zzq2_171 (P:Params) : Obj:=⟨(.type "builtin_function_or_method"),none,(.fields #[.builtin "object.__init_subclass__",.ref 169]),#[]⟩
noncomputable def zzq2_172 (P:Params) : Obj:=⟨(.type "tuple"),none,(.seq #[.ref 24]),#[]⟩
noncomputable def zzq2_173 (P:Params) : Obj:=⟨(.type "builtin_function_or_method"),none,(.fields #[.builtin "type.__prepare__",.type "type"]),#[]⟩
noncomputable def zzq2_174 (P:Params) : Obj:=⟨(.type "dict"),none,.dict (List.toArray (⟨kh P (os "__module__"),(.str (os "__module__") 406),(.str (os "trueleaf.errors") 187)⟩ :: ⟨kh P (os "__qualname__"),(.str (os "__qualname__") 408),(.str (os "NoFoot") 407)⟩ :: ⟨kh P (os "__firstlineno__"),(.str (os "__firstlineno__") 410),(.int 28 409)⟩ :: ⟨kh P (os "__static_attributes__"),(.str (os "__static_attributes__") 411),(.ref 179)⟩ :: [])) 4,#[]⟩
noncomputable def zzq2_175 (P:Params) : Obj:=⟨(.type "tuple"),none,(.seq #[]),#[]⟩
noncomputable def zzq2_176 (P:Params) : Obj:=⟨(.none),none,(.fields #[]),#[]⟩
noncomputable def zzq2_177 (P:Params) : Obj:=⟨(.type "code"),none,(.fields #[.str (os "NoFoot") 401,.str (os "NoFoot") 402,.str (os "/claim/cut.py") 403,.int 28 0,.int 0 0,.int 0 0,.int 0 0,.int 0 0,.ref 175,.bool false,.int 181 0,.ref 176,.none,.none,.none,.none,.int 404 0,.int 28 0,.str (os "/claim/cut.py") 405]),#[]⟩
noncomputable def zzq2_178 (P:Params) : Obj:=⟨(.type "frame"),none,(.plain),#[Option.some (.ref 177),Option.some (.ref 3),Option.some (.ref 174),none,Option.some (.str (os "trueleaf.errors") 187),none,Option.some (.ref 0)]⟩
noncomputable def zzq2_179 (P:Params) : Obj:=⟨(.type "tuple"),none,(.seq #[]),#[]⟩
noncomputable def zzq2_180 (P:Params) : Obj:=⟨(.type "dict"),none,.dict (List.toArray (⟨kh P (os "__module__"),(.str (os "__module__") 406),(.str (os "trueleaf.errors") 187)⟩ :: ⟨kh P (os "__firstlineno__"),(.str (os "__firstlineno__") 410),(.int 28 409)⟩ :: ⟨kh P (os "__static_attributes__"),(.str (os "__static_attributes__") 411),(.ref 179)⟩ :: ⟨kh P (os "__doc__"),(.str (os "__doc__") 412),(.none)⟩ :: [])) 2,#[]⟩
noncomputable def zzq2_181 (P:Params) : Obj:=⟨(.type "type"),none,(.cls (PySem.ClassData.mk (os "NoFoot") [.ref 24] [.ref 181,.ref 24,.type "ValueError",.type "Exception",.type "BaseException",.type "object"] 180 (os "NoFoot") true [] [] false none false)),#[Option.some (.ref 172),none,Option.some (.str (os "NoFoot") 399),Option.some (.str (os "NoFoot") 407),Option.some (.builtin "ValueError.__new__"),Option.some (.bool true)]⟩
noncomputable def zzq2_182 (P:Params) : Obj:=⟨(.type "super"),none,(.fields #[.ref 181,.ref 181,.ref 181]),#[]⟩
noncomputable def zzq2_183 (P:Params) : Obj:=⟨(.type "builtin_function_or_method"),none,(.fields #[.builtin "object.__init_subclass__",.ref 181]),#[]⟩
noncomputable def zzq2_184 (P:Params) : Obj:=⟨(.type "tuple"),none,(.seq #[.ref 24]),#[]⟩
noncomputable def zzq2_185 (P:Params) : Obj:=⟨(.type "builtin_function_or_method"),none,(.fields #[.builtin "type.__prepare__",.type "type"]),#[]⟩
noncomputable def zzq2_186 (P:Params) : Obj:=⟨(.type "dict"),none,.dict (List.toArray (⟨kh P (os "__module__"),(.str (os "__module__") 422),(.str (os "trueleaf.errors") 187)⟩ :: ⟨kh P (os "__qualname__"),(.str (os "__qualname__") 424),(.str (os "NoMark") 423)⟩ :: ⟨kh P (os "__firstlineno__"),(.str (os "__firstlineno__") 426),(.int 30 425)⟩ :: ⟨kh P (os "__static_attributes__"),(.str (os "__static_attributes__") 427),(.ref 191)⟩ :: [])) 4,#[]⟩
noncomputable def zzq2_187 (P:Params) : Obj:=⟨(.type "tuple"),none,(.seq #[]),#[]⟩
noncomputable def zzq2_188 (P:Params) : Obj:=⟨(.none),none,(.fields #[]),#[]⟩
noncomputable def zzq2_189 (P:Params) : Obj:=⟨(.type "code"),none,(.fields #[.str (os "NoMark") 417,.str (os "NoMark") 418,.str (os "/claim/cut.py") 419,.int 30 0,.int 0 0,.int 0 0,.int 0 0,.int 0 0,.ref 187,.bool false,.int 181 0,.ref 188,.none,.none,.none,.none,.int 420 0,.int 30 0,.str (os "/claim/cut.py") 421]),#[]⟩
noncomputable def zzq2_190 (P:Params) : Obj:=⟨(.type "frame"),none,(.plain),#[Option.some (.ref 189),Option.some (.ref 3),Option.some (.ref 186),none,Option.some (.str (os "trueleaf.errors") 187),none,Option.some (.ref 0)]⟩
noncomputable def zzq2_191 (P:Params) : Obj:=⟨(.type "tuple"),none,(.seq #[]),#[]⟩
noncomputable def zzq2_192 (P:Params) : Obj:=⟨(.type "dict"),none,.dict (List.toArray (⟨kh P (os "__module__"),(.str (os "__module__") 422),(.str (os "trueleaf.errors") 187)⟩ :: ⟨kh P (os "__firstlineno__"),(.str (os "__firstlineno__") 426),(.int 30 425)⟩ :: ⟨kh P (os "__static_attributes__"),(.str (os "__static_attributes__") 427),(.ref 191)⟩ :: ⟨kh P (os "__doc__"),(.str (os "__doc__") 428),(.none)⟩ :: [])) 2,#[]⟩
noncomputable def zzq2_193 (P:Params) : Obj:=⟨(.type "type"),none,(.cls (PySem.ClassData.mk (os "NoMark") [.ref 24] [.ref 193,.ref 24,.type "ValueError",.type "Exception",.type "BaseException",.type "object"] 192 (os "NoMark") true [] [] false none false)),#[Option.some (.ref 184),none,Option.some (.str (os "NoMark") 415),Option.some (.str (os "NoMark") 423),Option.some (.builtin "ValueError.__new__"),Option.some (.bool true)]⟩
noncomputable def zzq2_194 (P:Params) : Obj:=⟨(.type "super"),none,(.fields #[.ref 193,.ref 193,.ref 193]),#[]⟩
noncomputable def zzq2_195 (P:Params) : Obj:=⟨(.type "builtin_function_or_method"),none,(.fields #[.builtin "object.__init_subclass__",.ref 193]),#[]⟩
noncomputable def zzq2_196 (P:Params) : Obj:=⟨(.type "tuple"),none,(.seq #[.ref 24]),#[]⟩
noncomputable def zzq2_197 (P:Params) : Obj:=⟨(.type "builtin_function_or_method"),none,(.fields #[.builtin "type.__prepare__",.type "type"]),#[]⟩
noncomputable def zzq2_198 (P:Params) : Obj:=⟨(.type "dict"),none,.dict (List.toArray (⟨kh P (os "__module__"),(.str (os "__module__") 438),(.str (os "trueleaf.errors") 187)⟩ :: ⟨kh P (os "__qualname__"),(.str (os "__qualname__") 440),(.str (os "NoLaying") 439)⟩ :: ⟨kh P (os "__firstlineno__"),(.str (os "__firstlineno__") 442),(.int 32 441)⟩ :: ⟨kh P (os "__static_attributes__"),(.str (os "__static_attributes__") 443),(.ref 203)⟩ :: [])) 4,#[]⟩
noncomputable def zzq2_199 (P:Params) : Obj:=⟨(.type "tuple"),none,(.seq #[]),#[]⟩
noncomputable def zzq2_200 (P:Params) : Obj:=⟨(.none),none,(.fields #[]),#[]⟩
noncomputable def zzq2_201 (P:Params) : Obj:=⟨(.type "code"),none,(.fields #[.str (os "NoLaying") 433,.str (os "NoLaying") 434,.str (os "/claim/cut.py") 435,.int 32 0,.int 0 0,.int 0 0,.int 0 0,.int 0 0,.ref 199,.bool false,.int 181 0,.ref 200,.none,.none,.none,.none,.int 436 0,.int 32 0,.str (os "/claim/cut.py") 437]),#[]⟩
noncomputable def zzq2_202 (P:Params) : Obj:=⟨(.type "frame"),none,(.plain),#[Option.some (.ref 201),Option.some (.ref 3),Option.some (.ref 198),none,Option.some (.str (os "trueleaf.errors") 187),none,Option.some (.ref 0)]⟩
noncomputable def zzq2_203 (P:Params) : Obj:=⟨(.type "tuple"),none,(.seq #[]),#[]⟩
noncomputable def zzq2_204 (P:Params) : Obj:=⟨(.type "dict"),none,.dict (List.toArray (⟨kh P (os "__module__"),(.str (os "__module__") 438),(.str (os "trueleaf.errors") 187)⟩ :: ⟨kh P (os "__firstlineno__"),(.str (os "__firstlineno__") 442),(.int 32 441)⟩ :: ⟨kh P (os "__static_attributes__"),(.str (os "__static_attributes__") 443),(.ref 203)⟩ :: ⟨kh P (os "__doc__"),(.str (os "__doc__") 444),(.none)⟩ :: [])) 2,#[]⟩
noncomputable def zzq2_205 (P:Params) : Obj:=⟨(.type "type"),none,(.cls (PySem.ClassData.mk (os "NoLaying") [.ref 24] [.ref 205,.ref 24,.type "ValueError",.type "Exception",.type "BaseException",.type "object"] 204 (os "NoLaying") true [] [] false none false)),#[Option.some (.ref 196),none,Option.some (.str (os "NoLaying") 431),Option.some (.str (os "NoLaying") 439),Option.some (.builtin "ValueError.__new__"),Option.some (.bool true)]⟩
noncomputable def zzq2_206 (P:Params) : Obj:=⟨(.type "super"),none,(.fields #[.ref 205,.ref 205,.ref 205]),#[]⟩
noncomputable def zzq2_207 (P:Params) : Obj:=⟨(.type "builtin_function_or_method"),none,(.fields #[.builtin "object.__init_subclass__",.ref 205]),#[]⟩
noncomputable def zzh2 (P:Params) : Heap:=⟨⟨PySem.W.boot_o_0 P :: PySem.W.boot_o_1 P :: PySem.W.boot_o_2 P :: zzq2_3 P :: PySem.W.boot_o_4 P :: PySem.W.boot_o_5 P :: PySem.W.boot_o_6 P :: PySem.W.boot_o_7 P :: PySem.W.boot_o_8 P :: PySem.W.boot_o_9 P :: PySem.W.boot_o_10 P :: zzqA_11 P :: zzq2_12 P :: zzqA_13 P :: zzqA_14 P :: zzq1_15 P :: zzq1_16 P :: zzq1_17 P :: zzq1_18 P :: zzq1_19 P :: zzq1_20 P :: zzq1_21 P :: zzq1_22 P :: zzq1_23 P :: zzq2_24 P :: zzq1_25 P :: zzq1_26 P :: zzq1_27 P :: zzq1_28 P :: zzq1_29 P :: zzq1_30 P :: zzq1_31 P :: zzq1_32 P :: zzq1_33 P :: zzq1_34 P :: zzq1_35 P :: zzq1_36 P :: zzq1_37 P :: zzq1_38 P :: zzq1_39 P :: zzq1_40 P :: zzq1_41 P :: zzq1_42 P :: zzq1_43 P :: zzq1_44 P :: zzq1_45 P :: zzq1_46 P :: zzq1_47 P :: zzq1_48 P :: zzq1_49 P :: zzq1_50 P :: zzq1_51 P :: zzq1_52 P :: zzq1_53 P :: zzq1_54 P :: zzq1_55 P :: zzq1_56 P :: zzq1_57 P :: zzq1_58 P :: zzq1_59 P :: zzq1_60 P :: zzq1_61 P :: zzq1_62 P :: zzq1_63 P :: zzq1_64 P :: zzq1_65 P :: zzq1_66 P :: zzq1_67 P :: zzq1_68 P :: zzq1_69 P :: zzq1_70 P :: zzq1_71 P :: zzq1_72 P :: zzq1_73 P :: zzq1_74 P :: zzq1_75 P :: zzq1_76 P :: zzq1_77 P :: zzq1_78 P :: zzq1_79 P :: zzq1_80 P :: zzq1_81 P :: zzq1_82 P :: zzq1_83 P :: zzq1_84 P :: zzq1_85 P :: zzq1_86 P :: zzq1_87 P :: zzq1_88 P :: zzq1_89 P :: zzq1_90 P :: zzq1_91 P :: zzq1_92 P :: zzq1_93 P :: zzq1_94 P :: zzq1_95 P :: zzq1_96 P :: zzq1_97 P :: zzq1_98 P :: zzq1_99 P :: zzq1_100 P :: zzq1_101 P :: zzq1_102 P :: zzq1_103 P :: zzq1_104 P :: zzq1_105 P :: zzq1_106 P :: zzq1_107 P :: zzq1_108 P :: zzq1_109 P :: zzq1_110 P :: zzq1_111 P :: zzq2_112 P :: zzq2_113 P :: zzq2_114 P :: zzq2_115 P :: zzq2_116 P :: zzq2_117 P :: zzq2_118 P :: zzq2_119 P :: zzq2_120 P :: zzq2_121 P :: zzq2_122 P :: zzq2_123 P :: zzq2_124 P :: zzq2_125 P :: zzq2_126 P :: zzq2_127 P :: zzq2_128 P :: zzq2_129 P :: zzq2_130 P :: zzq2_131 P :: zzq2_132 P :: zzq2_133 P :: zzq2_134 P :: zzq2_135 P :: zzq2_136 P :: zzq2_137 P :: zzq2_138 P :: zzq2_139 P :: zzq2_140 P :: zzq2_141 P :: zzq2_142 P :: zzq2_143 P :: zzq2_144 P :: zzq2_145 P :: zzq2_146 P :: zzq2_147 P :: zzq2_148 P :: zzq2_149 P :: zzq2_150 P :: zzq2_151 P :: zzq2_152 P :: zzq2_153 P :: zzq2_154 P :: zzq2_155 P :: zzq2_156 P :: zzq2_157 P :: zzq2_158 P :: zzq2_159 P :: zzq2_160 P :: zzq2_161 P :: zzq2_162 P :: zzq2_163 P :: zzq2_164 P :: zzq2_165 P :: zzq2_166 P :: zzq2_167 P :: zzq2_168 P :: zzq2_169 P :: zzq2_170 P :: zzq2_171 P :: zzq2_172 P :: zzq2_173 P :: zzq2_174 P :: zzq2_175 P :: zzq2_176 P :: zzq2_177 P :: zzq2_178 P :: zzq2_179 P :: zzq2_180 P :: zzq2_181 P :: zzq2_182 P :: zzq2_183 P :: zzq2_184 P :: zzq2_185 P :: zzq2_186 P :: zzq2_187 P :: zzq2_188 P :: zzq2_189 P :: zzq2_190 P :: zzq2_191 P :: zzq2_192 P :: zzq2_193 P :: zzq2_194 P :: zzq2_195 P :: zzq2_196 P :: zzq2_197 P :: zzq2_198 P :: zzq2_199 P :: zzq2_200 P :: zzq2_201 P :: zzq2_202 P :: zzq2_203 P :: zzq2_204 P :: zzq2_205 P :: zzq2_206 P :: zzq2_207 P :: []⟩,{}⟩
noncomputable def zzq3_3 (P:Params) : Obj:=⟨(.type "dict"),none,.dict (List.toArray (⟨kh P (os "__name__"),(.str (os "__name__") 165),(.str (os "law_trueleaf_k07_parts_refused") 584)⟩ :: ⟨kh P (os "__doc__"),(.str (os "__doc__") 166),(.none)⟩ :: ⟨kh P (os "__package__"),(.str (os "__package__") 167),(.none)⟩ :: ⟨kh P (os "__loader__"),(.str (os "__loader__") 168),(.builtin "__main__.__loader__#opaque")⟩ :: ⟨kh P (os "__spec__"),(.str (os "__spec__") 169),(.none)⟩ :: ⟨kh P (os "__annotations__"),(.str (os "__annotations__") 170),(.ref 6)⟩ :: ⟨kh P (os "__builtins__"),(.str (os "__builtins__") 171),(.ref 4)⟩ :: ⟨kh P (os "__file__"),(.str (os "__file__") 173),(.str (os "/claim/cut.py") 172)⟩ :: ⟨kh P (os "__cached__"),(.str (os "__cached__") 174),(.none)⟩ :: ⟨kh P (os "TrueleafError"),(.str (os "TrueleafError") 206),(.ref 24)⟩ :: ⟨kh P (os "BadRow"),(.str (os "BadRow") 222),(.ref 37)⟩ :: ⟨kh P (os "NoPart"),(.str (os "NoPart") 238),(.ref 49)⟩ :: ⟨kh P (os "Ring"),(.str (os "Ring") 254),(.ref 61)⟩ :: ⟨kh P (os "TooLong"),(.str (os "TooLong") 270),(.ref 73)⟩ :: ⟨kh P (os "BadCall"),(.str (os "BadCall") 286),(.ref 85)⟩ :: ⟨kh P (os "Deep"),(.str (os "Deep") 302),(.ref 97)⟩ :: ⟨kh P (os "NoShort"),(.str (os "NoShort") 318),(.ref 109)⟩ :: ⟨kh P (os "BadForm"),(.str (os "BadForm") 334),(.ref 121)⟩ :: ⟨kh P (os "BadWord"),(.str (os "BadWord") 350),(.ref 133)⟩ :: ⟨kh P (os "BadPaper"),(.str (os "BadPaper") 366),(.ref 145)⟩ :: ⟨kh P (os "NoGrowth"),(.str (os "NoGrowth") 382),(.ref 157)⟩ :: ⟨kh P (os "Twice"),(.str (os "Twice") 398),(.ref 169)⟩ :: ⟨kh P (os "NoFoot"),(.str (os "NoFoot") 414),(.ref 181)⟩ :: ⟨kh P (os "NoMark"),(.str (os "NoMark") 430),(.ref 193)⟩ :: ⟨kh P (os "NoLaying"),(.str (os "NoLaying") 446),(.ref 205)⟩ :: ⟨kh P (os "BadName"),(.str (os "BadName") 462),(.ref 217)⟩ :: ⟨kh P (os "NoRow"),(.str (os "NoRow") 478),(.ref 229)⟩ :: ⟨kh P (os "NothingDone"),(.str (os "NothingDone") 494),(.ref 241)⟩ :: ⟨kh P (os "LETTERS"),(.str (os "LETTERS") 498),(.str (os "abcdefghijklmnopqrstuvwxyz") 497)⟩ :: ⟨kh P (os "FIGURES"),(.str (os "FIGURES") 500),(.str (os "0123456789") 499)⟩ :: ⟨kh P (os "LONGEST_NAME"),(.str (os "LONGEST_NAME") 502),(.int 12 501)⟩ :: ⟨kh P (os "words_in"),(.str (os "words_in") 508),(.ref 248)⟩ :: ⟨kh P (os "is_name"),(.str (os "is_name") 514),(.ref 253)⟩ :: ⟨kh P (os "MOST_ROWS"),(.str (os "MOST_ROWS") 518),(.int 400 517)⟩ :: ⟨kh P (os "rows_in"),(.str (os "rows_in") 525),(.ref 260)⟩ :: ⟨kh P (os "joined"),(.str (os "joined") 534),(.ref 267)⟩ :: ⟨kh P (os "is_use"),(.str (os "is_use") 541),(.ref 274)⟩ :: ⟨kh P (os "is_good_use"),(.str (os "is_good_use") 548),(.ref 281)⟩ :: ⟨kh P (os "look_through"),(.str (os "look_through") 561),(.ref 288)⟩ :: ⟨kh P (os "used_part"),(.str (os "used_part") 571),(.ref 295)⟩ :: ⟨kh P (os "put_together"),(.str (os "put_together") 583),(.ref 302)⟩ :: ⟨kh P (os "_law_cell_at"),(.str (os "_law_cell_at") 593),(.ref 309)⟩ :: ⟨kh P (os "_law_draw"),(.str (os "_law_draw") 603),(.ref 316)⟩ :: ⟨kh P (os "_law_sign_by"),(.str (os "_law_sign_by") 612),(.ref 323)⟩ :: ⟨kh P (os "_law_names"),(.str (os "_law_names") 618),(.ref 328)⟩ :: ⟨kh P (os "_law_plain_row"),(.str (os "_law_plain_row") 624),(.ref 333)⟩ :: ⟨kh P (os "_law_use_row"),(.str (os "_law_use_row") 633),(.ref 340)⟩ :: ⟨kh P (os "_law_bad_row"),(.str (os "_law_bad_row") 642),(.ref 347)⟩ :: ⟨kh P (os "_law_shelf_row"),(.str (os "_law_shelf_row") 656),(.ref 354)⟩ :: ⟨kh P (os "_law_shelf"),(.str (os "_law_shelf") 662),(.ref 359)⟩ :: ⟨kh P (os "_law_parts"),(.str (os "_law_parts") 668),(.ref 364)⟩ :: ⟨kh P (os "_law_met"),(.str (os "_law_met") 679),(.ref 371)⟩ :: ⟨kh P (os "_law_count"),(.str (os "_law_count") 690),(.ref 378)⟩ :: ⟨kh P (os "_law_refusal"),(.str (os "_law_refusal") 700),(.ref 385)⟩ :: ⟨kh P (os "_law_asked"),(.str (os "_law_asked") 710),(.ref 392)⟩ :: ⟨kh P (os "law"),(.str (os "law") 726),(.ref 399)⟩ :: [])) 56,#[]⟩
noncomputable def zzq3_12 (P:Params) : Obj:=⟨(.none),none,(.fields #[.int 2 0,.int 0 0,.ref 20,.int 4 0,.int 0 0,.ref 33,.int 6 0,.int 0 0,.ref 45,.int 8 0,.int 0 0,.ref 57,.int 10 0,.int 0 0,.ref 69,.int 12 0,.int 0 0,.ref 81,.int 14 0,.int 0 0,.ref 93,.int 16 0,.int 0 0,.ref 105,.int 18 0,.int 0 0,.ref 117,.int 20 0,.int 0 0,.ref 129,.int 22 0,.int 0 0,.ref 141,.int 24 0,.int 0 0,.ref 153,.int 26 0,.int 0 0,.ref 165,.int 28 0,.int 0 0,.ref 177,.int 30 0,.int 0 0,.ref 189,.int 32 0,.int 0 0,.ref 201,.int 34 0,.int 0 0,.ref 213,.int 36 0,.int 0 0,.ref 225,.int 38 0,.int 0 0,.ref 237,.int 44 0,.int 0 0,.ref 247,.int 46 0,.int 0 0,.ref 252,.int 52 0,.int 0 0,.ref 259,.int 54 0,.int 0 0,.ref 266,.int 62 0,.int 0 0,.ref 273,.int 64 0,.int 0 0,.ref 280,.int 66 0,.int 0 0,.ref 287,.int 78 0,.int 0 0,.ref 294,.int 87 0,.int 0 0,.ref 301,.int 97 0,.int 0 0,.ref 308,.int 101 0,.int 0 0,.ref 315,.int 104 0,.int 0 0,.ref 322,.int 107 0,.int 0 0,.ref 327,.int 123 0,.int 0 0,.ref 332,.int 134 0,.int 0 0,.ref 339,.int 137 0,.int 0 0,.ref 346,.int 141 0,.int 0 0,.ref 353,.int 156 0,.int 0 0,.ref 358,.int 166 0,.int 0 0,.ref 363,.int 173 0,.int 0 0,.ref 370,.int 188 0,.int 0 0,.ref 377,.int 198 0,.int 0 0,.ref 384,.int 205 0,.int 0 0,.ref 391,.int 210 0,.int 0 0,.ref 398]),#[]⟩
noncomputable def zzq3_24 (P:Params) : Obj:=⟨(.type "type"),none,(.cls (PySem.ClassData.mk (os "TrueleafError") [.type "ValueError"] [.ref 24,.type "ValueError",.type "Exception",.type "BaseException",.type "object"] 23 (os "TrueleafError") true [] [.ref 37,.ref 49,.ref 61,.ref 73,.ref 85,.ref 97,.ref 109,.ref 121,.ref 133,.ref 145,.ref 157,.ref 169,.ref 181,.ref 193,.ref 205,.ref 217,.ref 229,.ref 241] false none false)),#[Option.some (.ref 15),none,Option.some (.str (os "TrueleafError") 189),Option.some (.str (os "TrueleafError") 197),Option.some (.builtin "ValueError.__new__"),Option.some (.bool true)]⟩
noncomputable def zzq3_208 (P:Params) : Obj:=⟨(.type "tuple"),none,(.seq #[.ref 24]),#[]⟩
noncomputable def zzq3_209 (P:Params) : Obj:=⟨(.type "builtin_function_or_method"),none,(.fields #[.builtin "type.__prepare__",.type "type"]),#[]⟩
noncomputable def zzq3_210 (P:Params) : Obj:=⟨(.type "dict"),none,.dict (List.toArray (⟨kh P (os "__module__"),(.str (os "__module__") 454),(.str (os "trueleaf.errors") 187)⟩ :: ⟨kh P (os "__qualname__"),(.str (os "__qualname__") 456),(.str (os "BadName") 455)⟩ :: ⟨kh P (os "__firstlineno__"),(.str (os "__firstlineno__") 458),(.int 34 457)⟩ :: ⟨kh P (os "__static_attributes__"),(.str (os "__static_attributes__") 459),(.ref 215)⟩ :: [])) 4,#[]⟩
noncomputable def zzq3_211 (P:Params) : Obj:=⟨(.type "tuple"),none,(.seq #[]),#[]⟩
noncomputable def zzq3_212 (P:Params) : Obj:=⟨(.none),none,(.fields #[]),#[]⟩
noncomputable def zzq3_213 (P:Params) : Obj:=⟨(.type "code"),none,(.fields #[.str (os "BadName") 449,.str (os "BadName") 450,.str (os "/claim/cut.py") 451,.int 34 0,.int 0 0,.int 0 0,.int 0 0,.int 0 0,.ref 211,.bool false,.int 181 0,.ref 212,.none,.none,.none,.none,.int 452 0,.int 34 0,.str (os "/claim/cut.py") 453]),#[]⟩
noncomputable def zzq3_214 (P:Params) : Obj:=⟨(.type "frame"),none,(.plain),#[Option.some (.ref 213),Option.some (.ref 3),Option.some (.ref 210),none,Option.some (.str (os "trueleaf.errors") 187),none,Option.some (.ref 0)]⟩
noncomputable def zzq3_215 (P:Params) : Obj:=⟨(.type "tuple"),none,(.seq #[]),#[]⟩
noncomputable def zzq3_216 (P:Params) : Obj:=⟨(.type "dict"),none,.dict (List.toArray (⟨kh P (os "__module__"),(.str (os "__module__") 454),(.str (os "trueleaf.errors") 187)⟩ :: ⟨kh P (os "__firstlineno__"),(.str (os "__firstlineno__") 458),(.int 34 457)⟩ :: ⟨kh P (os "__static_attributes__"),(.str (os "__static_attributes__") 459),(.ref 215)⟩ :: ⟨kh P (os "__doc__"),(.str (os "__doc__") 460),(.none)⟩ :: [])) 2,#[]⟩
noncomputable def zzq3_217 (P:Params) : Obj:=⟨(.type "type"),none,(.cls (PySem.ClassData.mk (os "BadName") [.ref 24] [.ref 217,.ref 24,.type "ValueError",.type "Exception",.type "BaseException",.type "object"] 216 (os "BadName") true [] [] false none false)),#[Option.some (.ref 208),none,Option.some (.str (os "BadName") 447),Option.some (.str (os "BadName") 455),Option.some (.builtin "ValueError.__new__"),Option.some (.bool true)]⟩
noncomputable def zzq3_218 (P:Params) : Obj:=⟨(.type "super"),none,(.fields #[.ref 217,.ref 217,.ref 217]),#[]⟩
noncomputable def zzq3_219 (P:Params) : Obj:=⟨(.type "builtin_function_or_method"),none,(.fields #[.builtin "object.__init_subclass__",.ref 217]),#[]⟩
noncomputable def zzq3_220 (P:Params) : Obj:=⟨(.type "tuple"),none,(.seq #[.ref 24]),#[]⟩
noncomputable def zzq3_221 (P:Params) : Obj:=⟨(.type "builtin_function_or_method"),none,(.fields #[.builtin "type.__prepare__",.type "type"]),#[]⟩
noncomputable def zzq3_222 (P:Params) : Obj:=⟨(.type "dict"),none,.dict (List.toArray (⟨kh P (os "__module__"),(.str (os "__module__") 470),(.str (os "trueleaf.errors") 187)⟩ :: ⟨kh P (os "__qualname__"),(.str (os "__qualname__") 472),(.str (os "NoRow") 471)⟩ :: ⟨kh P (os "__firstlineno__"),(.str (os "__firstlineno__") 474),(.int 36 473)⟩ :: ⟨kh P (os "__static_attributes__"),(.str (os "__static_attributes__") 475),(.ref 227)⟩ :: [])) 4,#[]⟩
noncomputable def zzq3_223 (P:Params) : Obj:=⟨(.type "tuple"),none,(.seq #[]),#[]⟩
noncomputable def zzq3_224 (P:Params) : Obj:=⟨(.none),none,(.fields #[]),#[]⟩
noncomputable def zzq3_225 (P:Params) : Obj:=⟨(.type "code"),none,(.fields #[.str (os "NoRow") 465,.str (os "NoRow") 466,.str (os "/claim/cut.py") 467,.int 36 0,.int 0 0,.int 0 0,.int 0 0,.int 0 0,.ref 223,.bool false,.int 181 0,.ref 224,.none,.none,.none,.none,.int 468 0,.int 36 0,.str (os "/claim/cut.py") 469]),#[]⟩
noncomputable def zzq3_226 (P:Params) : Obj:=⟨(.type "frame"),none,(.plain),#[Option.some (.ref 225),Option.some (.ref 3),Option.some (.ref 222),none,Option.some (.str (os "trueleaf.errors") 187),none,Option.some (.ref 0)]⟩
noncomputable def zzq3_227 (P:Params) : Obj:=⟨(.type "tuple"),none,(.seq #[]),#[]⟩
noncomputable def zzq3_228 (P:Params) : Obj:=⟨(.type "dict"),none,.dict (List.toArray (⟨kh P (os "__module__"),(.str (os "__module__") 470),(.str (os "trueleaf.errors") 187)⟩ :: ⟨kh P (os "__firstlineno__"),(.str (os "__firstlineno__") 474),(.int 36 473)⟩ :: ⟨kh P (os "__static_attributes__"),(.str (os "__static_attributes__") 475),(.ref 227)⟩ :: ⟨kh P (os "__doc__"),(.str (os "__doc__") 476),(.none)⟩ :: [])) 2,#[]⟩
noncomputable def zzq3_229 (P:Params) : Obj:=⟨(.type "type"),none,(.cls (PySem.ClassData.mk (os "NoRow") [.ref 24] [.ref 229,.ref 24,.type "ValueError",.type "Exception",.type "BaseException",.type "object"] 228 (os "NoRow") true [] [] false none false)),#[Option.some (.ref 220),none,Option.some (.str (os "NoRow") 463),Option.some (.str (os "NoRow") 471),Option.some (.builtin "ValueError.__new__"),Option.some (.bool true)]⟩
noncomputable def zzq3_230 (P:Params) : Obj:=⟨(.type "super"),none,(.fields #[.ref 229,.ref 229,.ref 229]),#[]⟩
noncomputable def zzq3_231 (P:Params) : Obj:=⟨(.type "builtin_function_or_method"),none,(.fields #[.builtin "object.__init_subclass__",.ref 229]),#[]⟩
noncomputable def zzq3_232 (P:Params) : Obj:=⟨(.type "tuple"),none,(.seq #[.ref 24]),#[]⟩
noncomputable def zzq3_233 (P:Params) : Obj:=⟨(.type "builtin_function_or_method"),none,(.fields #[.builtin "type.__prepare__",.type "type"]),#[]⟩
noncomputable def zzq3_234 (P:Params) : Obj:=⟨(.type "dict"),none,.dict (List.toArray (⟨kh P (os "__module__"),(.str (os "__module__") 486),(.str (os "trueleaf.errors") 187)⟩ :: ⟨kh P (os "__qualname__"),(.str (os "__qualname__") 488),(.str (os "NothingDone") 487)⟩ :: ⟨kh P (os "__firstlineno__"),(.str (os "__firstlineno__") 490),(.int 38 489)⟩ :: ⟨kh P (os "__static_attributes__"),(.str (os "__static_attributes__") 491),(.ref 239)⟩ :: [])) 4,#[]⟩
noncomputable def zzq3_235 (P:Params) : Obj:=⟨(.type "tuple"),none,(.seq #[]),#[]⟩
noncomputable def zzq3_236 (P:Params) : Obj:=⟨(.none),none,(.fields #[]),#[]⟩
noncomputable def zzq3_237 (P:Params) : Obj:=⟨(.type "code"),none,(.fields #[.str (os "NothingDone") 481,.str (os "NothingDone") 482,.str (os "/claim/cut.py") 483,.int 38 0,.int 0 0,.int 0 0,.int 0 0,.int 0 0,.ref 235,.bool false,.int 181 0,.ref 236,.none,.none,.none,.none,.int 484 0,.int 38 0,.str (os "/claim/cut.py") 485]),#[]⟩
noncomputable def zzq3_238 (P:Params) : Obj:=⟨(.type "frame"),none,(.plain),#[Option.some (.ref 237),Option.some (.ref 3),Option.some (.ref 234),none,Option.some (.str (os "trueleaf.errors") 187),none,Option.some (.ref 0)]⟩
noncomputable def zzq3_239 (P:Params) : Obj:=⟨(.type "tuple"),none,(.seq #[]),#[]⟩
noncomputable def zzq3_240 (P:Params) : Obj:=⟨(.type "dict"),none,.dict (List.toArray (⟨kh P (os "__module__"),(.str (os "__module__") 486),(.str (os "trueleaf.errors") 187)⟩ :: ⟨kh P (os "__firstlineno__"),(.str (os "__firstlineno__") 490),(.int 38 489)⟩ :: ⟨kh P (os "__static_attributes__"),(.str (os "__static_attributes__") 491),(.ref 239)⟩ :: ⟨kh P (os "__doc__"),(.str (os "__doc__") 492),(.none)⟩ :: [])) 2,#[]⟩
noncomputable def zzq3_241 (P:Params) : Obj:=⟨(.type "type"),none,(.cls (PySem.ClassData.mk (os "NothingDone") [.ref 24] [.ref 241,.ref 24,.type "ValueError",.type "Exception",.type "BaseException",.type "object"] 240 (os "NothingDone") true [] [] false none false)),#[Option.some (.ref 232),none,Option.some (.str (os "NothingDone") 479),Option.some (.str (os "NothingDone") 487),Option.some (.builtin "ValueError.__new__"),Option.some (.bool true)]⟩
noncomputable def zzq3_242 (P:Params) : Obj:=⟨(.type "super"),none,(.fields #[.ref 241,.ref 241,.ref 241]),#[]⟩
noncomputable def zzq3_243 (P:Params) : Obj:=⟨(.type "builtin_function_or_method"),none,(.fields #[.builtin "object.__init_subclass__",.ref 241]),#[]⟩
noncomputable def zzq3_244 (P:Params) : Obj:=⟨(.type "tuple"),none,(.seq #[]),#[]⟩
noncomputable def zzq3_245 (P:Params) : Obj:=⟨(.none),none,(.fields #[]),#[]⟩
noncomputable def zzq3_246 (P:Params) : Obj:=⟨(.none),none,.func (PySem.FuncData.mk (os "words_in") (os "words_in") (defArgs (top 24)) (PySem.FuncBody.stmts (defBody (top 24))) (defScope (top 24)) 0 [] (.none) (.none) (.none) (.none) (none) (.none) (.none) 0),#[]⟩
noncomputable def zzq3_247 (P:Params) : Obj:=⟨(.type "code"),none,(.fields #[.str (os "words_in") 503,.str (os "words_in") 504,.str (os "/claim/cut.py") 505,.int 44 0,.int 1 0,.int 0 0,.int 0 0,.int 3 0,.ref 244,.bool true,.int 181 0,.ref 245,.none,.none,.none,.ref 246,.int 506 0,.int 44 0,.str (os "/claim/cut.py") 507]),#[]⟩
noncomputable def zzq3_248 (P:Params) : Obj:=⟨(.type "function"),none,.func (PySem.FuncData.mk (os "words_in") (os "words_in") (defArgs (top 24)) (PySem.FuncBody.stmts (defBody (top 24))) (defScope (top 24)) 3 [] (.none) (.none) (.none) (.str (os "trueleaf.signs") 495) (none) (.ref 247) (.none) 0),#[]⟩
noncomputable def zzq3_249 (P:Params) : Obj:=⟨(.type "tuple"),none,(.seq #[]),#[]⟩
noncomputable def zzq3_250 (P:Params) : Obj:=⟨(.none),none,(.fields #[]),#[]⟩
noncomputable def zzq3_251 (P:Params) : Obj:=⟨(.none),none,.func (PySem.FuncData.mk (os "is_name") (os "is_name") (defArgs (top 25)) (PySem.FuncBody.stmts (defBody (top 25))) (defScope (top 25)) 0 [] (.none) (.none) (.none) (.none) (none) (.none) (.none) 0),#[]⟩
noncomputable def zzq3_252 (P:Params) : Obj:=⟨(.type "code"),none,(.fields #[.str (os "is_name") 509,.str (os "is_name") 510,.str (os "/claim/cut.py") 511,.int 46 0,.int 1 0,.int 0 0,.int 0 0,.int 3 0,.ref 249,.bool true,.int 181 0,.ref 250,.none,.none,.none,.ref 251,.int 512 0,.int 46 0,.str (os "/claim/cut.py") 513]),#[]⟩
noncomputable def zzq3_253 (P:Params) : Obj:=⟨(.type "function"),none,.func (PySem.FuncData.mk (os "is_name") (os "is_name") (defArgs (top 25)) (PySem.FuncBody.stmts (defBody (top 25))) (defScope (top 25)) 3 [] (.none) (.none) (.none) (.str (os "trueleaf.signs") 495) (none) (.ref 252) (.none) 0),#[]⟩
noncomputable def zzq3_254 (P:Params) : Obj:=⟨(.type "tuple"),none,(.seq #[]),#[]⟩
noncomputable def zzq3_255 (P:Params) : Obj:=⟨(.none),none,(.fields #[]),#[]⟩
noncomputable def zzq3_256 (P:Params) : Obj:=⟨(.type "tuple"),none,(.seq #[.str (os "text") 522]),#[]⟩
noncomputable def zzq3_257 (P:Params) : Obj:=⟨(.type "tuple"),none,(.seq #[]),#[]⟩
noncomputable def zzq3_258 (P:Params) : Obj:=⟨(.none),none,.func (PySem.FuncData.mk (os "rows_in") (os "rows_in") (defArgs (top 28)) (PySem.FuncBody.stmts (defBody (top 28))) (defScope (top 28)) 0 [] (.none) (.none) (.none) (.none) (none) (.none) (.none) 0),#[]⟩
noncomputable def zzq3_259 (P:Params) : Obj:=cO "rows_in" 519 520 521 52 1 3 254 181 255 256 257 258 523 52 524
noncomputable def zzq3_260 (P:Params) : Obj:=⟨(.type "function"),none,.func (PySem.FuncData.mk (os "rows_in") (os "rows_in") (defArgs (top 28)) (PySem.FuncBody.stmts (defBody (top 28))) (defScope (top 28)) 3 [] (.none) (.none) (.none) (.str (os "trueleaf.parts") 515) (none) (.ref 259) (.none) 0),#[]⟩
noncomputable def zzq3_261 (P:Params) : Obj:=⟨(.type "tuple"),none,(.seq #[]),#[]⟩
noncomputable def zzq3_262 (P:Params) : Obj:=⟨(.none),none,(.fields #[]),#[]⟩
noncomputable def zzq3_263 (P:Params) : Obj:=⟨(.type "tuple"),none,(.seq #[.str (os "parts") 529,.str (os "name") 530,.str (os "counts") 531]),#[]⟩
noncomputable def zzq3_264 (P:Params) : Obj:=⟨(.type "tuple"),none,(.seq #[]),#[]⟩
noncomputable def zzq3_265 (P:Params) : Obj:=⟨(.none),none,.func (PySem.FuncData.mk (os "joined") (os "joined") (defArgs (top 29)) (PySem.FuncBody.stmts (defBody (top 29))) (defScope (top 29)) 0 [] (.none) (.none) (.none) (.none) (none) (.none) (.none) 0),#[]⟩
noncomputable def zzq3_266 (P:Params) : Obj:=cO "joined" 526 527 528 54 2 3 261 181 262 263 264 265 532 54 533
noncomputable def zzq3_267 (P:Params) : Obj:=⟨(.type "function"),none,.func (PySem.FuncData.mk (os "joined") (os "joined") (defArgs (top 29)) (PySem.FuncBody.stmts (defBody (top 29))) (defScope (top 29)) 3 [] (.none) (.none) (.none) (.str (os "trueleaf.parts") 515) (none) (.ref 266) (.none) 0),#[]⟩
noncomputable def zzq3_268 (P:Params) : Obj:=⟨(.type "tuple"),none,(.seq #[]),#[]⟩
noncomputable def zzq3_269 (P:Params) : Obj:=⟨(.none),none,(.fields #[]),#[]⟩
noncomputable def zzq3_270 (P:Params) : Obj:=⟨(.type "tuple"),none,(.seq #[.str (os "words") 538]),#[]⟩
noncomputable def zzq3_271 (P:Params) : Obj:=⟨(.type "tuple"),none,(.seq #[]),#[]⟩
noncomputable def zzq3_272 (P:Params) : Obj:=⟨(.none),none,.func (PySem.FuncData.mk (os "is_use") (os "is_use") (defArgs (top 30)) (PySem.FuncBody.stmts (defBody (top 30))) (defScope (top 30)) 0 [] (.none) (.none) (.none) (.none) (none) (.none) (.none) 0),#[]⟩
noncomputable def zzq3_273 (P:Params) : Obj:=cO "is_use" 535 536 537 62 1 3 268 181 269 270 271 272 539 62 540
noncomputable def zzq3_274 (P:Params) : Obj:=⟨(.type "function"),none,.func (PySem.FuncData.mk (os "is_use") (os "is_use") (defArgs (top 30)) (PySem.FuncBody.stmts (defBody (top 30))) (defScope (top 30)) 3 [] (.none) (.none) (.none) (.str (os "trueleaf.parts") 515) (none) (.ref 273) (.none) 0),#[]⟩
noncomputable def zzq3_275 (P:Params) : Obj:=⟨(.type "tuple"),none,(.seq #[]),#[]⟩
noncomputable def zzq3_276 (P:Params) : Obj:=⟨(.none),none,(.fields #[]),#[]⟩
noncomputable def zzq3_277 (P:Params) : Obj:=⟨(.type "tuple"),none,(.seq #[.str (os "words") 545]),#[]⟩
noncomputable def zzq3_278 (P:Params) : Obj:=⟨(.type "tuple"),none,(.seq #[]),#[]⟩
noncomputable def zzq3_279 (P:Params) : Obj:=⟨(.none),none,.func (PySem.FuncData.mk (os "is_good_use") (os "is_good_use") (defArgs (top 31)) (PySem.FuncBody.stmts (defBody (top 31))) (defScope (top 31)) 0 [] (.none) (.none) (.none) (.none) (none) (.none) (.none) 0),#[]⟩
noncomputable def zzq3_280 (P:Params) : Obj:=cO "is_good_use" 542 543 544 64 1 3 275 181 276 277 278 279 546 64 547
noncomputable def zzq3_281 (P:Params) : Obj:=⟨(.type "function"),none,.func (PySem.FuncData.mk (os "is_good_use") (os "is_good_use") (defArgs (top 31)) (PySem.FuncBody.stmts (defBody (top 31))) (defScope (top 31)) 3 [] (.none) (.none) (.none) (.str (os "trueleaf.parts") 515) (none) (.ref 280) (.none) 0),#[]⟩
noncomputable def zzq3_282 (P:Params) : Obj:=⟨(.type "tuple"),none,(.seq #[]),#[]⟩
noncomputable def zzq3_283 (P:Params) : Obj:=⟨(.none),none,(.fields #[]),#[]⟩
noncomputable def zzq3_284 (P:Params) : Obj:=⟨(.type "tuple"),none,(.seq #[.str (os "parts") 552,.str (os "path") 553,.str (os "counts") 554,.str (os "rows") 555,.str (os "row") 556,.str (os "words") 557,.str (os "used") 558]),#[]⟩
noncomputable def zzq3_285 (P:Params) : Obj:=⟨(.type "tuple"),none,(.seq #[]),#[]⟩
noncomputable def zzq3_286 (P:Params) : Obj:=⟨(.none),none,.func (PySem.FuncData.mk (os "look_through") (os "look_through") (defArgs (top 32)) (PySem.FuncBody.stmts (defBody (top 32))) (defScope (top 32)) 0 [] (.none) (.none) (.none) (.none) (none) (.none) (.none) 0),#[]⟩
noncomputable def zzq3_287 (P:Params) : Obj:=cO "look_through" 549 550 551 66 3 3 282 181 283 284 285 286 559 66 560
noncomputable def zzq3_288 (P:Params) : Obj:=⟨(.type "function"),none,.func (PySem.FuncData.mk (os "look_through") (os "look_through") (defArgs (top 32)) (PySem.FuncBody.stmts (defBody (top 32))) (defScope (top 32)) 3 [] (.none) (.none) (.none) (.str (os "trueleaf.parts") 515) (none) (.ref 287) (.none) 0),#[]⟩
noncomputable def zzq3_289 (P:Params) : Obj:=⟨(.type "tuple"),none,(.seq #[]),#[]⟩
noncomputable def zzq3_290 (P:Params) : Obj:=⟨(.none),none,(.fields #[]),#[]⟩
noncomputable def zzq3_291 (P:Params) : Obj:=⟨(.type "tuple"),none,(.seq #[.str (os "parts") 565,.str (os "words") 566,.str (os "path") 567,.str (os "used") 568]),#[]⟩
noncomputable def zzq3_292 (P:Params) : Obj:=⟨(.type "tuple"),none,(.seq #[]),#[]⟩
noncomputable def zzq3_293 (P:Params) : Obj:=⟨(.none),none,.func (PySem.FuncData.mk (os "used_part") (os "used_part") (defArgs (top 33)) (PySem.FuncBody.stmts (defBody (top 33))) (defScope (top 33)) 0 [] (.none) (.none) (.none) (.none) (none) (.none) (.none) 0),#[]⟩
noncomputable def zzq3_294 (P:Params) : Obj:=cO "used_part" 562 563 564 78 3 3 289 181 290 291 292 293 569 78 570
noncomputable def zzq3_295 (P:Params) : Obj:=⟨(.type "function"),none,.func (PySem.FuncData.mk (os "used_part") (os "used_part") (defArgs (top 33)) (PySem.FuncBody.stmts (defBody (top 33))) (defScope (top 33)) 3 [] (.none) (.none) (.none) (.str (os "trueleaf.parts") 515) (none) (.ref 294) (.none) 0),#[]⟩
noncomputable def zzq3_296 (P:Params) : Obj:=⟨(.type "tuple"),none,(.seq #[]),#[]⟩
noncomputable def zzq3_297 (P:Params) : Obj:=⟨(.none),none,(.fields #[]),#[]⟩
noncomputable def zzq3_298 (P:Params) : Obj:=⟨(.type "tuple"),none,(.seq #[.str (os "parts") 575,.str (os "name") 576,.str (os "told") 577,.str (os "k") 578,.str (os "row") 579,.str (os "words") 580]),#[]⟩
noncomputable def zzq3_299 (P:Params) : Obj:=⟨(.type "tuple"),none,(.seq #[]),#[]⟩
noncomputable def zzq3_300 (P:Params) : Obj:=⟨(.none),none,.func (PySem.FuncData.mk (os "put_together") (os "put_together") (defArgs (top 34)) (PySem.FuncBody.stmts (defBody (top 34))) (defScope (top 34)) 0 [] (.none) (.none) (.none) (.none) (none) (.none) (.none) 0),#[]⟩
noncomputable def zzq3_301 (P:Params) : Obj:=cO "put_together" 572 573 574 87 2 3 296 181 297 298 299 300 581 87 582
noncomputable def zzq3_302 (P:Params) : Obj:=⟨(.type "function"),none,.func (PySem.FuncData.mk (os "put_together") (os "put_together") (defArgs (top 34)) (PySem.FuncBody.stmts (defBody (top 34))) (defScope (top 34)) 3 [] (.none) (.none) (.none) (.str (os "trueleaf.parts") 515) (none) (.ref 301) (.none) 0),#[]⟩
noncomputable def zzq3_303 (P:Params) : Obj:=⟨(.type "tuple"),none,(.seq #[]),#[]⟩
noncomputable def zzq3_304 (P:Params) : Obj:=⟨(.none),none,(.fields #[]),#[]⟩
noncomputable def zzq3_305 (P:Params) : Obj:=⟨(.type "tuple"),none,(.seq #[.str (os "script") 589,.str (os "k") 590]),#[]⟩
noncomputable def zzq3_306 (P:Params) : Obj:=⟨(.type "tuple"),none,(.seq #[]),#[]⟩
noncomputable def zzq3_307 (P:Params) : Obj:=⟨(.none),none,.func (PySem.FuncData.mk (os "_law_cell_at") (os "_law_cell_at") (defArgs (top 36)) (PySem.FuncBody.stmts (defBody (top 36))) (defScope (top 36)) 0 [] (.none) (.none) (.none) (.none) (none) (.none) (.none) 0),#[]⟩
noncomputable def zzq3_308 (P:Params) : Obj:=cO "_law_cell_at" 586 587 588 97 2 3 303 181 304 305 306 307 591 97 592
noncomputable def zzq3_309 (P:Params) : Obj:=⟨(.type "function"),none,.func (PySem.FuncData.mk (os "_law_cell_at") (os "_law_cell_at") (defArgs (top 36)) (PySem.FuncBody.stmts (defBody (top 36))) (defScope (top 36)) 3 [] (.none) (.none) (.none) (.str (os "law_trueleaf_k07_parts_refused") 584) (none) (.ref 308) (.none) 0),#[]⟩
noncomputable def zzq3_310 (P:Params) : Obj:=⟨(.type "tuple"),none,(.seq #[]),#[]⟩
noncomputable def zzq3_311 (P:Params) : Obj:=⟨(.none),none,(.fields #[]),#[]⟩
noncomputable def zzq3_312 (P:Params) : Obj:=⟨(.type "tuple"),none,(.seq #[.str (os "cell") 597,.str (os "k") 598,.str (os "many") 599,.str (os "number") 600]),#[]⟩
noncomputable def zzq3_313 (P:Params) : Obj:=⟨(.type "tuple"),none,(.seq #[]),#[]⟩
noncomputable def zzq3_314 (P:Params) : Obj:=⟨(.none),none,.func (PySem.FuncData.mk (os "_law_draw") (os "_law_draw") (defArgs (top 37)) (PySem.FuncBody.stmts (defBody (top 37))) (defScope (top 37)) 0 [] (.none) (.none) (.none) (.none) (none) (.none) (.none) 0),#[]⟩
noncomputable def zzq3_315 (P:Params) : Obj:=cO "_law_draw" 594 595 596 101 3 3 310 181 311 312 313 314 601 101 602
noncomputable def zzq3_316 (P:Params) : Obj:=⟨(.type "function"),none,.func (PySem.FuncData.mk (os "_law_draw") (os "_law_draw") (defArgs (top 37)) (PySem.FuncBody.stmts (defBody (top 37))) (defScope (top 37)) 3 [] (.none) (.none) (.none) (.str (os "law_trueleaf_k07_parts_refused") 584) (none) (.ref 315) (.none) 0),#[]⟩
noncomputable def zzq3_317 (P:Params) : Obj:=⟨(.type "tuple"),none,(.seq #[]),#[]⟩
noncomputable def zzq3_318 (P:Params) : Obj:=⟨(.none),none,(.fields #[]),#[]⟩
noncomputable def zzq3_319 (P:Params) : Obj:=⟨(.type "tuple"),none,(.seq #[.str (os "cell") 607,.str (os "k") 608,.str (os "some") 609]),#[]⟩
noncomputable def zzq3_320 (P:Params) : Obj:=⟨(.type "tuple"),none,(.seq #[]),#[]⟩
noncomputable def zzq3_321 (P:Params) : Obj:=⟨(.none),none,.func (PySem.FuncData.mk (os "_law_sign_by") (os "_law_sign_by") (defArgs (top 38)) (PySem.FuncBody.stmts (defBody (top 38))) (defScope (top 38)) 0 [] (.none) (.none) (.none) (.none) (none) (.none) (.none) 0),#[]⟩
noncomputable def zzq3_322 (P:Params) : Obj:=cO "_law_sign_by" 604 605 606 104 2 3 317 181 318 319 320 321 610 104 611
noncomputable def zzq3_323 (P:Params) : Obj:=⟨(.type "function"),none,.func (PySem.FuncData.mk (os "_law_sign_by") (os "_law_sign_by") (defArgs (top 38)) (PySem.FuncBody.stmts (defBody (top 38))) (defScope (top 38)) 3 [] (.none) (.none) (.none) (.str (os "law_trueleaf_k07_parts_refused") 584) (none) (.ref 322) (.none) 0),#[]⟩
noncomputable def zzq3_324 (P:Params) : Obj:=⟨(.type "tuple"),none,(.seq #[]),#[]⟩
noncomputable def zzq3_325 (P:Params) : Obj:=⟨(.none),none,(.fields #[]),#[]⟩
noncomputable def zzq3_326 (P:Params) : Obj:=⟨(.none),none,.func (PySem.FuncData.mk (os "_law_names") (os "_law_names") (defArgs (top 39)) (PySem.FuncBody.stmts (defBody (top 39))) (defScope (top 39)) 0 [] (.none) (.none) (.none) (.none) (none) (.none) (.none) 0),#[]⟩
noncomputable def zzq3_327 (P:Params) : Obj:=⟨(.type "code"),none,(.fields #[.str (os "_law_names") 613,.str (os "_law_names") 614,.str (os "/claim/cut.py") 615,.int 107 0,.int 2 0,.int 0 0,.int 0 0,.int 3 0,.ref 324,.bool true,.int 181 0,.ref 325,.none,.none,.none,.ref 326,.int 616 0,.int 107 0,.str (os "/claim/cut.py") 617]),#[]⟩
noncomputable def zzq3_328 (P:Params) : Obj:=⟨(.type "function"),none,.func (PySem.FuncData.mk (os "_law_names") (os "_law_names") (defArgs (top 39)) (PySem.FuncBody.stmts (defBody (top 39))) (defScope (top 39)) 3 [] (.none) (.none) (.none) (.str (os "law_trueleaf_k07_parts_refused") 584) (none) (.ref 327) (.none) 0),#[]⟩
noncomputable def zzq3_329 (P:Params) : Obj:=⟨(.type "tuple"),none,(.seq #[]),#[]⟩
noncomputable def zzq3_330 (P:Params) : Obj:=⟨(.none),none,(.fields #[]),#[]⟩
noncomputable def zzq3_331 (P:Params) : Obj:=⟨(.none),none,.func (PySem.FuncData.mk (os "_law_plain_row") (os "_law_plain_row") (defArgs (top 40)) (PySem.FuncBody.stmts (defBody (top 40))) (defScope (top 40)) 0 [] (.none) (.none) (.none) (.none) (none) (.none) (.none) 0),#[]⟩
noncomputable def zzq3_332 (P:Params) : Obj:=⟨(.type "code"),none,(.fields #[.str (os "_law_plain_row") 619,.str (os "_law_plain_row") 620,.str (os "/claim/cut.py") 621,.int 123 0,.int 2 0,.int 0 0,.int 0 0,.int 3 0,.ref 329,.bool true,.int 181 0,.ref 330,.none,.none,.none,.ref 331,.int 622 0,.int 123 0,.str (os "/claim/cut.py") 623]),#[]⟩
noncomputable def zzq3_333 (P:Params) : Obj:=⟨(.type "function"),none,.func (PySem.FuncData.mk (os "_law_plain_row") (os "_law_plain_row") (defArgs (top 40)) (PySem.FuncBody.stmts (defBody (top 40))) (defScope (top 40)) 3 [] (.none) (.none) (.none) (.str (os "law_trueleaf_k07_parts_refused") 584) (none) (.ref 332) (.none) 0),#[]⟩
noncomputable def zzq3_334 (P:Params) : Obj:=⟨(.type "tuple"),none,(.seq #[]),#[]⟩
noncomputable def zzq3_335 (P:Params) : Obj:=⟨(.none),none,(.fields #[]),#[]⟩
noncomputable def zzq3_336 (P:Params) : Obj:=⟨(.type "tuple"),none,(.seq #[.str (os "cell") 628,.str (os "name") 629,.str (os "ahead") 630]),#[]⟩
noncomputable def zzq3_337 (P:Params) : Obj:=⟨(.type "tuple"),none,(.seq #[]),#[]⟩
noncomputable def zzq3_338 (P:Params) : Obj:=⟨(.none),none,.func (PySem.FuncData.mk (os "_law_use_row") (os "_law_use_row") (defArgs (top 41)) (PySem.FuncBody.stmts (defBody (top 41))) (defScope (top 41)) 0 [] (.none) (.none) (.none) (.none) (none) (.none) (.none) 0),#[]⟩
noncomputable def zzq3_339 (P:Params) : Obj:=cO "_law_use_row" 625 626 627 134 2 3 334 181 335 336 337 338 631 134 632
noncomputable def zzq3_340 (P:Params) : Obj:=⟨(.type "function"),none,.func (PySem.FuncData.mk (os "_law_use_row") (os "_law_use_row") (defArgs (top 41)) (PySem.FuncBody.stmts (defBody (top 41))) (defScope (top 41)) 3 [] (.none) (.none) (.none) (.str (os "law_trueleaf_k07_parts_refused") 584) (none) (.ref 339) (.none) 0),#[]⟩
noncomputable def zzq3_341 (P:Params) : Obj:=⟨(.type "tuple"),none,(.seq #[]),#[]⟩
noncomputable def zzq3_342 (P:Params) : Obj:=⟨(.none),none,(.fields #[]),#[]⟩
noncomputable def zzq3_343 (P:Params) : Obj:=⟨(.type "tuple"),none,(.seq #[.str (os "cell") 637,.str (os "name") 638,.str (os "some") 639]),#[]⟩
noncomputable def zzq3_344 (P:Params) : Obj:=⟨(.type "tuple"),none,(.seq #[]),#[]⟩
noncomputable def zzq3_345 (P:Params) : Obj:=⟨(.none),none,.func (PySem.FuncData.mk (os "_law_bad_row") (os "_law_bad_row") (defArgs (top 42)) (PySem.FuncBody.stmts (defBody (top 42))) (defScope (top 42)) 0 [] (.none) (.none) (.none) (.none) (none) (.none) (.none) 0),#[]⟩
noncomputable def zzq3_346 (P:Params) : Obj:=cO "_law_bad_row" 634 635 636 137 2 3 341 181 342 343 344 345 640 137 641
noncomputable def zzq3_347 (P:Params) : Obj:=⟨(.type "function"),none,.func (PySem.FuncData.mk (os "_law_bad_row") (os "_law_bad_row") (defArgs (top 42)) (PySem.FuncBody.stmts (defBody (top 42))) (defScope (top 42)) 3 [] (.none) (.none) (.none) (.str (os "law_trueleaf_k07_parts_refused") 584) (none) (.ref 346) (.none) 0),#[]⟩
noncomputable def zzq3_348 (P:Params) : Obj:=⟨(.type "tuple"),none,(.seq #[]),#[]⟩
noncomputable def zzq3_349 (P:Params) : Obj:=⟨(.none),none,(.fields #[]),#[]⟩
noncomputable def zzq3_350 (P:Params) : Obj:=⟨(.type "tuple"),none,(.seq #[.str (os "cell") 646,.str (os "j") 647,.str (os "names") 648,.str (os "faults") 649,.str (os "many") 650,.str (os "way") 651,.str (os "name") 652,.str (os "other") 653]),#[]⟩
noncomputable def zzq3_351 (P:Params) : Obj:=⟨(.type "tuple"),none,(.seq #[]),#[]⟩
noncomputable def zzq3_352 (P:Params) : Obj:=⟨(.none),none,.func (PySem.FuncData.mk (os "_law_shelf_row") (os "_law_shelf_row") (defArgs (top 43)) (PySem.FuncBody.stmts (defBody (top 43))) (defScope (top 43)) 0 [] (.none) (.none) (.none) (.none) (none) (.none) (.none) 0),#[]⟩
noncomputable def zzq3_353 (P:Params) : Obj:=cO "_law_shelf_row" 643 644 645 141 4 3 348 181 349 350 351 352 654 141 655
noncomputable def zzq3_354 (P:Params) : Obj:=⟨(.type "function"),none,.func (PySem.FuncData.mk (os "_law_shelf_row") (os "_law_shelf_row") (defArgs (top 43)) (PySem.FuncBody.stmts (defBody (top 43))) (defScope (top 43)) 3 [] (.none) (.none) (.none) (.str (os "law_trueleaf_k07_parts_refused") 584) (none) (.ref 353) (.none) 0),#[]⟩
noncomputable def zzq3_355 (P:Params) : Obj:=⟨(.type "tuple"),none,(.seq #[]),#[]⟩
noncomputable def zzq3_356 (P:Params) : Obj:=⟨(.none),none,(.fields #[]),#[]⟩
noncomputable def zzq3_357 (P:Params) : Obj:=⟨(.none),none,.func (PySem.FuncData.mk (os "_law_shelf") (os "_law_shelf") (defArgs (top 44)) (PySem.FuncBody.stmts (defBody (top 44))) (defScope (top 44)) 0 [] (.none) (.none) (.none) (.none) (none) (.none) (.none) 0),#[]⟩
noncomputable def zzq3_358 (P:Params) : Obj:=⟨(.type "code"),none,(.fields #[.str (os "_law_shelf") 657,.str (os "_law_shelf") 658,.str (os "/claim/cut.py") 659,.int 156 0,.int 3 0,.int 0 0,.int 0 0,.int 3 0,.ref 355,.bool true,.int 181 0,.ref 356,.none,.none,.none,.ref 357,.int 660 0,.int 156 0,.str (os "/claim/cut.py") 661]),#[]⟩
noncomputable def zzq3_359 (P:Params) : Obj:=⟨(.type "function"),none,.func (PySem.FuncData.mk (os "_law_shelf") (os "_law_shelf") (defArgs (top 44)) (PySem.FuncBody.stmts (defBody (top 44))) (defScope (top 44)) 3 [] (.none) (.none) (.none) (.str (os "law_trueleaf_k07_parts_refused") 584) (none) (.ref 358) (.none) 0),#[]⟩
noncomputable def zzq3_360 (P:Params) : Obj:=⟨(.type "tuple"),none,(.seq #[]),#[]⟩
noncomputable def zzq3_361 (P:Params) : Obj:=⟨(.none),none,(.fields #[]),#[]⟩
noncomputable def zzq3_362 (P:Params) : Obj:=⟨(.none),none,.func (PySem.FuncData.mk (os "_law_parts") (os "_law_parts") (defArgs (top 45)) (PySem.FuncBody.stmts (defBody (top 45))) (defScope (top 45)) 0 [] (.none) (.none) (.none) (.none) (none) (.none) (.none) 0),#[]⟩
noncomputable def zzq3_363 (P:Params) : Obj:=⟨(.type "code"),none,(.fields #[.str (os "_law_parts") 663,.str (os "_law_parts") 664,.str (os "/claim/cut.py") 665,.int 166 0,.int 3 0,.int 0 0,.int 0 0,.int 3 0,.ref 360,.bool true,.int 181 0,.ref 361,.none,.none,.none,.ref 362,.int 666 0,.int 166 0,.str (os "/claim/cut.py") 667]),#[]⟩
noncomputable def zzq3_364 (P:Params) : Obj:=⟨(.type "function"),none,.func (PySem.FuncData.mk (os "_law_parts") (os "_law_parts") (defArgs (top 45)) (PySem.FuncBody.stmts (defBody (top 45))) (defScope (top 45)) 3 [] (.none) (.none) (.none) (.str (os "law_trueleaf_k07_parts_refused") 584) (none) (.ref 363) (.none) 0),#[]⟩
noncomputable def zzq3_365 (P:Params) : Obj:=⟨(.type "tuple"),none,(.seq #[]),#[]⟩
noncomputable def zzq3_366 (P:Params) : Obj:=⟨(.none),none,(.fields #[]),#[]⟩
noncomputable def zzq3_367 (P:Params) : Obj:=⟨(.type "tuple"),none,(.seq #[.str (os "shelf") 672,.str (os "path") 673,.str (os "done") 674,.str (os "row") 675,.str (os "met") 676]),#[]⟩
noncomputable def zzq3_368 (P:Params) : Obj:=⟨(.type "tuple"),none,(.seq #[]),#[]⟩
noncomputable def zzq3_369 (P:Params) : Obj:=⟨(.none),none,.func (PySem.FuncData.mk (os "_law_met") (os "_law_met") (defArgs (top 46)) (PySem.FuncBody.stmts (defBody (top 46))) (defScope (top 46)) 0 [] (.none) (.none) (.none) (.none) (none) (.none) (.none) 0),#[]⟩
noncomputable def zzq3_370 (P:Params) : Obj:=cO "_law_met" 669 670 671 173 3 3 365 181 366 367 368 369 677 173 678
noncomputable def zzq3_371 (P:Params) : Obj:=⟨(.type "function"),none,.func (PySem.FuncData.mk (os "_law_met") (os "_law_met") (defArgs (top 46)) (PySem.FuncBody.stmts (defBody (top 46))) (defScope (top 46)) 3 [] (.none) (.none) (.none) (.str (os "law_trueleaf_k07_parts_refused") 584) (none) (.ref 370) (.none) 0),#[]⟩
noncomputable def zzq3_372 (P:Params) : Obj:=⟨(.type "tuple"),none,(.seq #[]),#[]⟩
noncomputable def zzq3_373 (P:Params) : Obj:=⟨(.none),none,(.fields #[]),#[]⟩
noncomputable def zzq3_374 (P:Params) : Obj:=⟨(.type "tuple"),none,(.seq #[.str (os "shelf") 683,.str (os "i") 684,.str (os "counts") 685,.str (os "many") 686,.str (os "row") 687]),#[]⟩
noncomputable def zzq3_375 (P:Params) : Obj:=⟨(.type "tuple"),none,(.seq #[]),#[]⟩
noncomputable def zzq3_376 (P:Params) : Obj:=⟨(.none),none,.func (PySem.FuncData.mk (os "_law_count") (os "_law_count") (defArgs (top 47)) (PySem.FuncBody.stmts (defBody (top 47))) (defScope (top 47)) 0 [] (.none) (.none) (.none) (.none) (none) (.none) (.none) 0),#[]⟩
noncomputable def zzq3_377 (P:Params) : Obj:=cO "_law_count" 680 681 682 188 3 3 372 181 373 374 375 376 688 188 689
noncomputable def zzq3_378 (P:Params) : Obj:=⟨(.type "function"),none,.func (PySem.FuncData.mk (os "_law_count") (os "_law_count") (defArgs (top 47)) (PySem.FuncBody.stmts (defBody (top 47))) (defScope (top 47)) 3 [] (.none) (.none) (.none) (.str (os "law_trueleaf_k07_parts_refused") 584) (none) (.ref 377) (.none) 0),#[]⟩
noncomputable def zzq3_379 (P:Params) : Obj:=⟨(.type "tuple"),none,(.seq #[]),#[]⟩
noncomputable def zzq3_380 (P:Params) : Obj:=⟨(.none),none,(.fields #[]),#[]⟩
noncomputable def zzq3_381 (P:Params) : Obj:=⟨(.type "tuple"),none,(.seq #[.str (os "parts") 694,.str (os "name") 695,.str (os "which") 696,.str (os "e") 697]),#[]⟩
noncomputable def zzq3_382 (P:Params) : Obj:=⟨(.type "tuple"),none,(.seq #[]),#[]⟩
noncomputable def zzq3_383 (P:Params) : Obj:=⟨(.none),none,.func (PySem.FuncData.mk (os "_law_refusal") (os "_law_refusal") (defArgs (top 48)) (PySem.FuncBody.stmts (defBody (top 48))) (defScope (top 48)) 0 [] (.none) (.none) (.none) (.none) (none) (.none) (.none) 0),#[]⟩
noncomputable def zzq3_384 (P:Params) : Obj:=cO "_law_refusal" 691 692 693 198 2 3 379 181 380 381 382 383 698 198 699
noncomputable def zzq3_385 (P:Params) : Obj:=⟨(.type "function"),none,.func (PySem.FuncData.mk (os "_law_refusal") (os "_law_refusal") (defArgs (top 48)) (PySem.FuncBody.stmts (defBody (top 48))) (defScope (top 48)) 3 [] (.none) (.none) (.none) (.str (os "law_trueleaf_k07_parts_refused") 584) (none) (.ref 384) (.none) 0),#[]⟩
noncomputable def zzq3_386 (P:Params) : Obj:=⟨(.type "tuple"),none,(.seq #[]),#[]⟩
noncomputable def zzq3_387 (P:Params) : Obj:=⟨(.none),none,(.fields #[]),#[]⟩
noncomputable def zzq3_388 (P:Params) : Obj:=⟨(.type "tuple"),none,(.seq #[.str (os "parts") 704,.str (os "name") 705,.str (os "due") 706,.str (os "which") 707]),#[]⟩
noncomputable def zzq3_389 (P:Params) : Obj:=⟨(.type "tuple"),none,(.seq #[]),#[]⟩
noncomputable def zzq3_390 (P:Params) : Obj:=⟨(.none),none,.func (PySem.FuncData.mk (os "_law_asked") (os "_law_asked") (defArgs (top 49)) (PySem.FuncBody.stmts (defBody (top 49))) (defScope (top 49)) 0 [] (.none) (.none) (.none) (.none) (none) (.none) (.none) 0),#[]⟩
noncomputable def zzq3_391 (P:Params) : Obj:=cO "_law_asked" 701 702 703 205 3 3 386 181 387 388 389 390 708 205 709
noncomputable def zzq3_392 (P:Params) : Obj:=⟨(.type "function"),none,.func (PySem.FuncData.mk (os "_law_asked") (os "_law_asked") (defArgs (top 49)) (PySem.FuncBody.stmts (defBody (top 49))) (defScope (top 49)) 3 [] (.none) (.none) (.none) (.str (os "law_trueleaf_k07_parts_refused") 584) (none) (.ref 391) (.none) 0),#[]⟩
noncomputable def zzq3_393 (P:Params) : Obj:=⟨(.type "tuple"),none,(.seq #[]),#[]⟩
noncomputable def zzq3_394 (P:Params) : Obj:=⟨(.none),none,(.fields #[]),#[]⟩
noncomputable def zzq3_395 (P:Params) : Obj:=⟨(.type "tuple"),none,(.seq #[.str (os "script") 714,.str (os "first") 715,.str (os "many") 716,.str (os "names") 717,.str (os "shelf") 718,.str (os "parts") 719,.str (os "handed") 720,.str (os "i") 721,.str (os "due") 722,.str (os "total") 723]),#[]⟩
noncomputable def zzq3_396 (P:Params) : Obj:=⟨(.type "tuple"),none,(.seq #[]),#[]⟩
noncomputable def zzq3_397 (P:Params) : Obj:=⟨(.none),none,.func (PySem.FuncData.mk (os "law") (os "law") (defArgs (top 50)) (PySem.FuncBody.stmts (defBody (top 50))) (defScope (top 50)) 0 [] (.none) (.none) (.none) (.none) (none) (.none) (.none) 0),#[]⟩
noncomputable def zzq3_398 (P:Params) : Obj:=cO "law" 711 712 713 210 1 3 393 181 394 395 396 397 724 210 725
noncomputable def zzq3_399 (P:Params) : Obj:=⟨(.type "function"),none,.func (PySem.FuncData.mk (os "law") (os "law") (defArgs (top 50)) (PySem.FuncBody.stmts (defBody (top 50))) (defScope (top 50)) 3 [] (.none) (.none) (.none) (.str (os "law_trueleaf_k07_parts_refused") 584) (none) (.ref 398) (.none) 0),#[]⟩
noncomputable def zzh3 (P:Params) : Heap:=⟨⟨PySem.W.boot_o_0 P :: PySem.W.boot_o_1 P :: PySem.W.boot_o_2 P :: zzq3_3 P :: PySem.W.boot_o_4 P :: PySem.W.boot_o_5 P :: PySem.W.boot_o_6 P :: PySem.W.boot_o_7 P :: PySem.W.boot_o_8 P :: PySem.W.boot_o_9 P :: PySem.W.boot_o_10 P :: zzqA_11 P :: zzq3_12 P :: zzqA_13 P :: zzqA_14 P :: zzq1_15 P :: zzq1_16 P :: zzq1_17 P :: zzq1_18 P :: zzq1_19 P :: zzq1_20 P :: zzq1_21 P :: zzq1_22 P :: zzq1_23 P :: zzq3_24 P :: zzq1_25 P :: zzq1_26 P :: zzq1_27 P :: zzq1_28 P :: zzq1_29 P :: zzq1_30 P :: zzq1_31 P :: zzq1_32 P :: zzq1_33 P :: zzq1_34 P :: zzq1_35 P :: zzq1_36 P :: zzq1_37 P :: zzq1_38 P :: zzq1_39 P :: zzq1_40 P :: zzq1_41 P :: zzq1_42 P :: zzq1_43 P :: zzq1_44 P :: zzq1_45 P :: zzq1_46 P :: zzq1_47 P :: zzq1_48 P :: zzq1_49 P :: zzq1_50 P :: zzq1_51 P :: zzq1_52 P :: zzq1_53 P :: zzq1_54 P :: zzq1_55 P :: zzq1_56 P :: zzq1_57 P :: zzq1_58 P :: zzq1_59 P :: zzq1_60 P :: zzq1_61 P :: zzq1_62 P :: zzq1_63 P :: zzq1_64 P :: zzq1_65 P :: zzq1_66 P :: zzq1_67 P :: zzq1_68 P :: zzq1_69 P :: zzq1_70 P :: zzq1_71 P :: zzq1_72 P :: zzq1_73 P :: zzq1_74 P :: zzq1_75 P :: zzq1_76 P :: zzq1_77 P :: zzq1_78 P :: zzq1_79 P :: zzq1_80 P :: zzq1_81 P :: zzq1_82 P :: zzq1_83 P :: zzq1_84 P :: zzq1_85 P :: zzq1_86 P :: zzq1_87 P :: zzq1_88 P :: zzq1_89 P :: zzq1_90 P :: zzq1_91 P :: zzq1_92 P :: zzq1_93 P :: zzq1_94 P :: zzq1_95 P :: zzq1_96 P :: zzq1_97 P :: zzq1_98 P :: zzq1_99 P :: zzq1_100 P :: zzq1_101 P :: zzq1_102 P :: zzq1_103 P :: zzq1_104 P :: zzq1_105 P :: zzq1_106 P :: zzq1_107 P :: zzq1_108 P :: zzq1_109 P :: zzq1_110 P :: zzq1_111 P :: zzq2_112 P :: zzq2_113 P :: zzq2_114 P :: zzq2_115 P :: zzq2_116 P :: zzq2_117 P :: zzq2_118 P :: zzq2_119 P :: zzq2_120 P :: zzq2_121 P :: zzq2_122 P :: zzq2_123 P :: zzq2_124 P :: zzq2_125 P :: zzq2_126 P :: zzq2_127 P :: zzq2_128 P :: zzq2_129 P :: zzq2_130 P :: zzq2_131 P :: zzq2_132 P :: zzq2_133 P :: zzq2_134 P :: zzq2_135 P :: zzq2_136 P :: zzq2_137 P :: zzq2_138 P :: zzq2_139 P :: zzq2_140 P :: zzq2_141 P :: zzq2_142 P :: zzq2_143 P :: zzq2_144 P :: zzq2_145 P :: zzq2_146 P :: zzq2_147 P :: zzq2_148 P :: zzq2_149 P :: zzq2_150 P :: zzq2_151 P :: zzq2_152 P :: zzq2_153 P :: zzq2_154 P :: zzq2_155 P :: zzq2_156 P :: zzq2_157 P :: zzq2_158 P :: zzq2_159 P :: zzq2_160 P :: zzq2_161 P :: zzq2_162 P :: zzq2_163 P :: zzq2_164 P :: zzq2_165 P :: zzq2_166 P :: zzq2_167 P :: zzq2_168 P :: zzq2_169 P :: zzq2_170 P :: zzq2_171 P :: zzq2_172 P :: zzq2_173 P :: zzq2_174 P :: zzq2_175 P :: zzq2_176 P :: zzq2_177 P :: zzq2_178 P :: zzq2_179 P :: zzq2_180 P :: zzq2_181 P :: zzq2_182 P :: zzq2_183 P :: zzq2_184 P :: zzq2_185 P :: zzq2_186 P :: zzq2_187 P :: zzq2_188 P :: zzq2_189 P :: zzq2_190 P :: zzq2_191 P :: zzq2_192 P :: zzq2_193 P :: zzq2_194 P :: zzq2_195 P :: zzq2_196 P :: zzq2_197 P :: zzq2_198 P :: zzq2_199 P :: zzq2_200 P :: zzq2_201 P :: zzq2_202 P :: zzq2_203 P :: zzq2_204 P :: zzq2_205 P :: zzq2_206 P :: zzq2_207 P :: zzq3_208 P :: zzq3_209 P :: zzq3_210 P :: zzq3_211 P :: zzq3_212 P :: zzq3_213 P :: zzq3_214 P :: zzq3_215 P :: zzq3_216 P :: zzq3_217 P :: zzq3_218 P :: zzq3_219 P :: zzq3_220 P :: zzq3_221 P :: zzq3_222 P :: zzq3_223 P :: zzq3_224 P :: zzq3_225 P :: zzq3_226 P :: zzq3_227 P :: zzq3_228 P :: zzq3_229 P :: zzq3_230 P :: zzq3_231 P :: zzq3_232 P :: zzq3_233 P :: zzq3_234 P :: zzq3_235 P :: zzq3_236 P :: zzq3_237 P :: zzq3_238 P :: zzq3_239 P :: zzq3_240 P :: zzq3_241 P :: zzq3_242 P :: zzq3_243 P :: zzq3_244 P :: zzq3_245 P :: zzq3_246 P :: zzq3_247 P :: zzq3_248 P :: zzq3_249 P :: zzq3_250 P :: zzq3_251 P :: zzq3_252 P :: zzq3_253 P :: zzq3_254 P :: zzq3_255 P :: zzq3_256 P :: zzq3_257 P :: zzq3_258 P :: zzq3_259 P :: zzq3_260 P :: zzq3_261 P :: zzq3_262 P :: zzq3_263 P :: zzq3_264 P :: zzq3_265 P :: zzq3_266 P :: zzq3_267 P :: zzq3_268 P :: zzq3_269 P :: zzq3_270 P :: zzq3_271 P :: zzq3_272 P :: zzq3_273 P :: zzq3_274 P :: zzq3_275 P :: zzq3_276 P :: zzq3_277 P :: zzq3_278 P :: zzq3_279 P :: zzq3_280 P :: zzq3_281 P :: zzq3_282 P :: zzq3_283 P :: zzq3_284 P :: zzq3_285 P :: zzq3_286 P :: zzq3_287 P :: zzq3_288 P :: zzq3_289 P :: zzq3_290 P :: zzq3_291 P :: zzq3_292 P :: zzq3_293 P :: zzq3_294 P :: zzq3_295 P :: zzq3_296 P :: zzq3_297 P :: zzq3_298 P :: zzq3_299 P :: zzq3_300 P :: zzq3_301 P :: zzq3_302 P :: zzq3_303 P :: zzq3_304 P :: zzq3_305 P :: zzq3_306 P :: zzq3_307 P :: zzq3_308 P :: zzq3_309 P :: zzq3_310 P :: zzq3_311 P :: zzq3_312 P :: zzq3_313 P :: zzq3_314 P :: zzq3_315 P :: zzq3_316 P :: zzq3_317 P :: zzq3_318 P :: zzq3_319 P :: zzq3_320 P :: zzq3_321 P :: zzq3_322 P :: zzq3_323 P :: zzq3_324 P :: zzq3_325 P :: zzq3_326 P :: zzq3_327 P :: zzq3_328 P :: zzq3_329 P :: zzq3_330 P :: zzq3_331 P :: zzq3_332 P :: zzq3_333 P :: zzq3_334 P :: zzq3_335 P :: zzq3_336 P :: zzq3_337 P :: zzq3_338 P :: zzq3_339 P :: zzq3_340 P :: zzq3_341 P :: zzq3_342 P :: zzq3_343 P :: zzq3_344 P :: zzq3_345 P :: zzq3_346 P :: zzq3_347 P :: zzq3_348 P :: zzq3_349 P :: zzq3_350 P :: zzq3_351 P :: zzq3_352 P :: zzq3_353 P :: zzq3_354 P :: zzq3_355 P :: zzq3_356 P :: zzq3_357 P :: zzq3_358 P :: zzq3_359 P :: zzq3_360 P :: zzq3_361 P :: zzq3_362 P :: zzq3_363 P :: zzq3_364 P :: zzq3_365 P :: zzq3_366 P :: zzq3_367 P :: zzq3_368 P :: zzq3_369 P :: zzq3_370 P :: zzq3_371 P :: zzq3_372 P :: zzq3_373 P :: zzq3_374 P :: zzq3_375 P :: zzq3_376 P :: zzq3_377 P :: zzq3_378 P :: zzq3_379 P :: zzq3_380 P :: zzq3_381 P :: zzq3_382 P :: zzq3_383 P :: zzq3_384 P :: zzq3_385 P :: zzq3_386 P :: zzq3_387 P :: zzq3_388 P :: zzq3_389 P :: zzq3_390 P :: zzq3_391 P :: zzq3_392 P :: zzq3_393 P :: zzq3_394 P :: zzq3_395 P :: zzq3_396 P :: zzq3_397 P :: zzq3_398 P :: zzq3_399 P :: []⟩,{}⟩
noncomputable def zzhF (P:Params) : Heap:=⟨⟨PySem.W.boot_o_0 P :: PySem.W.boot_o_1 P :: PySem.W.boot_o_2 P :: zzq3_3 P :: PySem.W.boot_o_4 P :: PySem.W.boot_o_5 P :: PySem.W.boot_o_6 P :: PySem.W.boot_o_7 P :: PySem.W.boot_o_8 P :: PySem.W.boot_o_9 P :: PySem.W.boot_o_10 P :: zzqA_11 P :: zzq3_12 P :: zzqA_13 P :: zzqA_14 P :: zzq1_15 P :: zzq1_16 P :: zzq1_17 P :: zzq1_18 P :: zzq1_19 P :: zzq1_20 P :: zzq1_21 P :: zzq1_22 P :: zzq1_23 P :: zzq3_24 P :: zzq1_25 P :: zzq1_26 P :: zzq1_27 P :: zzq1_28 P :: zzq1_29 P :: zzq1_30 P :: zzq1_31 P :: zzq1_32 P :: zzq1_33 P :: zzq1_34 P :: zzq1_35 P :: zzq1_36 P :: zzq1_37 P :: zzq1_38 P :: zzq1_39 P :: zzq1_40 P :: zzq1_41 P :: zzq1_42 P :: zzq1_43 P :: zzq1_44 P :: zzq1_45 P :: zzq1_46 P :: zzq1_47 P :: zzq1_48 P :: zzq1_49 P :: zzq1_50 P :: zzq1_51 P :: zzq1_52 P :: zzq1_53 P :: zzq1_54 P :: zzq1_55 P :: zzq1_56 P :: zzq1_57 P :: zzq1_58 P :: zzq1_59 P :: zzq1_60 P :: zzq1_61 P :: zzq1_62 P :: zzq1_63 P :: zzq1_64 P :: zzq1_65 P :: zzq1_66 P :: zzq1_67 P :: zzq1_68 P :: zzq1_69 P :: zzq1_70 P :: zzq1_71 P :: zzq1_72 P :: zzq1_73 P :: zzq1_74 P :: zzq1_75 P :: zzq1_76 P :: zzq1_77 P :: zzq1_78 P :: zzq1_79 P :: zzq1_80 P :: zzq1_81 P :: zzq1_82 P :: zzq1_83 P :: zzq1_84 P :: zzq1_85 P :: zzq1_86 P :: zzq1_87 P :: zzq1_88 P :: zzq1_89 P :: zzq1_90 P :: zzq1_91 P :: zzq1_92 P :: zzq1_93 P :: zzq1_94 P :: zzq1_95 P :: zzq1_96 P :: zzq1_97 P :: zzq1_98 P :: zzq1_99 P :: zzq1_100 P :: zzq1_101 P :: zzq1_102 P :: zzq1_103 P :: zzq1_104 P :: zzq1_105 P :: zzq1_106 P :: zzq1_107 P :: zzq1_108 P :: zzq1_109 P :: zzq1_110 P :: zzq1_111 P :: zzq2_112 P :: zzq2_113 P :: zzq2_114 P :: zzq2_115 P :: zzq2_116 P :: zzq2_117 P :: zzq2_118 P :: zzq2_119 P :: zzq2_120 P :: zzq2_121 P :: zzq2_122 P :: zzq2_123 P :: zzq2_124 P :: zzq2_125 P :: zzq2_126 P :: zzq2_127 P :: zzq2_128 P :: zzq2_129 P :: zzq2_130 P :: zzq2_131 P :: zzq2_132 P :: zzq2_133 P :: zzq2_134 P :: zzq2_135 P :: zzq2_136 P :: zzq2_137 P :: zzq2_138 P :: zzq2_139 P :: zzq2_140 P :: zzq2_141 P :: zzq2_142 P :: zzq2_143 P :: zzq2_144 P :: zzq2_145 P :: zzq2_146 P :: zzq2_147 P :: zzq2_148 P :: zzq2_149 P :: zzq2_150 P :: zzq2_151 P :: zzq2_152 P :: zzq2_153 P :: zzq2_154 P :: zzq2_155 P :: zzq2_156 P :: zzq2_157 P :: zzq2_158 P :: zzq2_159 P :: zzq2_160 P :: zzq2_161 P :: zzq2_162 P :: zzq2_163 P :: zzq2_164 P :: zzq2_165 P :: zzq2_166 P :: zzq2_167 P :: zzq2_168 P :: zzq2_169 P :: zzq2_170 P :: zzq2_171 P :: zzq2_172 P :: zzq2_173 P :: zzq2_174 P :: zzq2_175 P :: zzq2_176 P :: zzq2_177 P :: zzq2_178 P :: zzq2_179 P :: zzq2_180 P :: zzq2_181 P :: zzq2_182 P :: zzq2_183 P :: zzq2_184 P :: zzq2_185 P :: zzq2_186 P :: zzq2_187 P :: zzq2_188 P :: zzq2_189 P :: zzq2_190 P :: zzq2_191 P :: zzq2_192 P :: zzq2_193 P :: zzq2_194 P :: zzq2_195 P :: zzq2_196 P :: zzq2_197 P :: zzq2_198 P :: zzq2_199 P :: zzq2_200 P :: zzq2_201 P :: zzq2_202 P :: zzq2_203 P :: zzq2_204 P :: zzq2_205 P :: zzq2_206 P :: zzq2_207 P :: zzq3_208 P :: zzq3_209 P :: zzq3_210 P :: zzq3_211 P :: zzq3_212 P :: zzq3_213 P :: zzq3_214 P :: zzq3_215 P :: zzq3_216 P :: zzq3_217 P :: zzq3_218 P :: zzq3_219 P :: zzq3_220 P :: zzq3_221 P :: zzq3_222 P :: zzq3_223 P :: zzq3_224 P :: zzq3_225 P :: zzq3_226 P :: zzq3_227 P :: zzq3_228 P :: zzq3_229 P :: zzq3_230 P :: zzq3_231 P :: zzq3_232 P :: zzq3_233 P :: zzq3_234 P :: zzq3_235 P :: zzq3_236 P :: zzq3_237 P :: zzq3_238 P :: zzq3_239 P :: zzq3_240 P :: zzq3_241 P :: zzq3_242 P :: zzq3_243 P :: zzq3_244 P :: zzq3_245 P :: zzq3_246 P :: zzq3_247 P :: zzq3_248 P :: zzq3_249 P :: zzq3_250 P :: zzq3_251 P :: zzq3_252 P :: zzq3_253 P :: zzq3_254 P :: zzq3_255 P :: zzq3_256 P :: zzq3_257 P :: zzq3_258 P :: zzq3_259 P :: zzq3_260 P :: zzq3_261 P :: zzq3_262 P :: zzq3_263 P :: zzq3_264 P :: zzq3_265 P :: zzq3_266 P :: zzq3_267 P :: zzq3_268 P :: zzq3_269 P :: zzq3_270 P :: zzq3_271 P :: zzq3_272 P :: zzq3_273 P :: zzq3_274 P :: zzq3_275 P :: zzq3_276 P :: zzq3_277 P :: zzq3_278 P :: zzq3_279 P :: zzq3_280 P :: zzq3_281 P :: zzq3_282 P :: zzq3_283 P :: zzq3_284 P :: zzq3_285 P :: zzq3_286 P :: zzq3_287 P :: zzq3_288 P :: zzq3_289 P :: zzq3_290 P :: zzq3_291 P :: zzq3_292 P :: zzq3_293 P :: zzq3_294 P :: zzq3_295 P :: zzq3_296 P :: zzq3_297 P :: zzq3_298 P :: zzq3_299 P :: zzq3_300 P :: zzq3_301 P :: zzq3_302 P :: zzq3_303 P :: zzq3_304 P :: zzq3_305 P :: zzq3_306 P :: zzq3_307 P :: zzq3_308 P :: zzq3_309 P :: zzq3_310 P :: zzq3_311 P :: zzq3_312 P :: zzq3_313 P :: zzq3_314 P :: zzq3_315 P :: zzq3_316 P :: zzq3_317 P :: zzq3_318 P :: zzq3_319 P :: zzq3_320 P :: zzq3_321 P :: zzq3_322 P :: zzq3_323 P :: zzq3_324 P :: zzq3_325 P :: zzq3_326 P :: zzq3_327 P :: zzq3_328 P :: zzq3_329 P :: zzq3_330 P :: zzq3_331 P :: zzq3_332 P :: zzq3_333 P :: zzq3_334 P :: zzq3_335 P :: zzq3_336 P :: zzq3_337 P :: zzq3_338 P :: zzq3_339 P :: zzq3_340 P :: zzq3_341 P :: zzq3_342 P :: zzq3_343 P :: zzq3_344 P :: zzq3_345 P :: zzq3_346 P :: zzq3_347 P :: zzq3_348 P :: zzq3_349 P :: zzq3_350 P :: zzq3_351 P :: zzq3_352 P :: zzq3_353 P :: zzq3_354 P :: zzq3_355 P :: zzq3_356 P :: zzq3_357 P :: zzq3_358 P :: zzq3_359 P :: zzq3_360 P :: zzq3_361 P :: zzq3_362 P :: zzq3_363 P :: zzq3_364 P :: zzq3_365 P :: zzq3_366 P :: zzq3_367 P :: zzq3_368 P :: zzq3_369 P :: zzq3_370 P :: zzq3_371 P :: zzq3_372 P :: zzq3_373 P :: zzq3_374 P :: zzq3_375 P :: zzq3_376 P :: zzq3_377 P :: zzq3_378 P :: zzq3_379 P :: zzq3_380 P :: zzq3_381 P :: zzq3_382 P :: zzq3_383 P :: zzq3_384 P :: zzq3_385 P :: zzq3_386 P :: zzq3_387 P :: zzq3_388 P :: zzq3_389 P :: zzq3_390 P :: zzq3_391 P :: zzq3_392 P :: zzq3_393 P :: zzq3_394 P :: zzq3_395 P :: zzq3_396 P :: zzq3_397 P :: zzq3_398 P :: zzq3_399 P :: []⟩,{}⟩
noncomputable abbrev zzbE:List Stmt:=behindTheImports PySem.Challenge.pw_trueleaf_k07_parts_refused
noncomputable abbrev zzev:Env:={ scope:=PySem.Challenge.pw_trueleaf_k07_parts_refused.main.scope,locals:=mainNs,globals:=mainNs,cells:=[],code:=.ref 13,frame:=some 14 }
noncomputable abbrev zzcE:Code:=.body zzbE zzev
noncomputable abbrev zzbF:List Frame:=[topFrame (PySem.Pos.mk 0 0 0 0)]
set_option maxHeartbeats 0 in
theorem zzpreL (w:World) (os:OsState) : topGo PySem.treeTable PySem.Challenge.pw_trueleaf_k07_parts_refused w 11 (some (.ref 6)) 12 ⟨boot_heap w.params,Array.mk [],boot_drawn,boot_toks,os⟩ (topStub PySem.Challenge.pw_trueleaf_k07_parts_refused)=some (⟨zzhA w.params,Array.mk [],⟨0,0,0,0⟩,187,os⟩,⟨denote PySem.treeTable zzcE,zzcE,PySem.Pos.mk 0 0 0 0,zzbF⟩):=by kernel_rfl
set_option maxHeartbeats 0 in
theorem zzblkL (w:World) (os:OsState) : segRun PySem.treeTable PySem.Challenge.pw_trueleaf_k07_parts_refused w 11 (some (.ref 6)) 1 1 ⟨zzhA w.params,Array.mk [],⟨0,0,0,0⟩,187,os⟩ (blockOf zzbE zzev zzcE (PySem.Pos.mk 0 0 0 0) zzbF)=some (.next,⟨zzhB w.params,Array.mk [],⟨0,0,0,0⟩,187,os⟩,zzcE,PySem.Pos.mk 0 0 0 0):=by kernel_rfl
set_option maxHeartbeats 0 in
theorem zzseg0 (w:World) (os:OsState) : segRun PySem.treeTable PySem.Challenge.pw_trueleaf_k07_parts_refused w 11 (some (.ref 6)) 1 1687 ⟨zzhB w.params,Array.mk [],⟨0,0,0,0⟩,187,os⟩ (piecesOf ((zzbE.drop 0).take 9) zzev zzcE (PySem.Pos.mk 0 0 0 0) zzbF)=some (.next,⟨zzh1 w.params,Array.mk [],⟨0,0,0,0⟩,319,os⟩,zzcE,PySem.Pos.mk 16 0 17 8):=by kernel_rfl
set_option maxHeartbeats 0 in
theorem zzseg1 (w:World) (os:OsState) : segRun PySem.treeTable PySem.Challenge.pw_trueleaf_k07_parts_refused w 11 (some (.ref 6)) 1 1705 ⟨zzh1 w.params,Array.mk [],⟨0,0,0,0⟩,319,os⟩ (piecesOf ((zzbE.drop 9).take 8) zzev zzcE (PySem.Pos.mk 16 0 17 8) zzbF)=some (.next,⟨zzh2 w.params,Array.mk [],⟨0,0,0,0⟩,447,os⟩,zzcE,PySem.Pos.mk 32 0 33 8):=by kernel_rfl
set_option maxHeartbeats 0 in
theorem zzseg2 (w:World) (os:OsState) : segRun PySem.treeTable PySem.Challenge.pw_trueleaf_k07_parts_refused w 11 (some (.ref 6)) 1 1437 ⟨zzh2 w.params,Array.mk [],⟨0,0,0,0⟩,447,os⟩ (piecesOf ((zzbE.drop 17).take 34) zzev zzcE (PySem.Pos.mk 32 0 33 8) zzbF)=some (.next,⟨zzh3 w.params,Array.mk [],⟨0,0,0,0⟩,727,os⟩,zzcE,PySem.Pos.mk 210 0 228 72):=by kernel_rfl
set_option maxHeartbeats 0 in
theorem zzfinL (w:World) (os:OsState) : topRun PySem.treeTable PySem.Challenge.pw_trueleaf_k07_parts_refused w 11 (some (.ref 6)) 2 ⟨zzh3 w.params,Array.mk [],⟨0,0,0,0⟩,727,os⟩ ⟨doneF .next,zzcE,PySem.Pos.mk 210 0 228 72,zzbF⟩=some ⟨zzhF w.params,Array.mk [],⟨0,0,0,0⟩,727,os⟩:=by kernel_rfl
set_option maxHeartbeats 0 in
theorem zzbodyE:zzbE=(((zzbE.drop 0).take 9)++(((zzbE.drop 9).take 8)++(((zzbE.drop 17).take 34)++[]))):=by kernel_rfl
theorem zzrunL (w:World) (os:OsState) : topRun PySem.treeTable PySem.Challenge.pw_trueleaf_k07_parts_refused w 11 (some (.ref 6)) (12+(1+(1687+(1705+(1437+2))))) ⟨boot_heap w.params,Array.mk [],boot_drawn,boot_toks,os⟩ (topStub PySem.Challenge.pw_trueleaf_k07_parts_refused)=some ⟨zzhF w.params,Array.mk [],⟨0,0,0,0⟩,727,os⟩:=by
 have k0:topRun PySem.treeTable PySem.Challenge.pw_trueleaf_k07_parts_refused w 11 (some (.ref 6)) (1687+(1705+(1437+2))) ⟨zzhB w.params,Array.mk [],⟨0,0,0,0⟩,187,os⟩ (restOf (((zzbE.drop 0).take 9)++(((zzbE.drop 9).take 8)++(((zzbE.drop 17).take 34)++[]))) zzev zzcE (PySem.Pos.mk 0 0 0 0) zzbF)=some ⟨zzhF w.params,Array.mk [],⟨0,0,0,0⟩,727,os⟩:=piece_app (zzseg0 w os) (piece_app (zzseg1 w os) (piece_app (zzseg2 w os) (piece_nil (env:=zzev) (q:=PySem.Pos.mk 0 0 0 0) (zzfinL w os))))
 have k1:topRun PySem.treeTable PySem.Challenge.pw_trueleaf_k07_parts_refused w 11 (some (.ref 6)) (1687+(1705+(1437+2))) ⟨zzhB w.params,Array.mk [],⟨0,0,0,0⟩,187,os⟩ (restOf zzbE zzev zzcE (PySem.Pos.mk 0 0 0 0) zzbF)=some ⟨zzhF w.params,Array.mk [],⟨0,0,0,0⟩,727,os⟩:=(congrArg (fun b=>topRun PySem.treeTable PySem.Challenge.pw_trueleaf_k07_parts_refused w 11 (some (.ref 6)) (1687+(1705+(1437+2))) ⟨zzhB w.params,Array.mk [],⟨0,0,0,0⟩,187,os⟩ (restOf b zzev zzcE (PySem.Pos.mk 0 0 0 0) zzbF)) zzbodyE).trans k0
 exact go_top (zzpreL w os) (piece_block (zzblkL w os) k1)
set_option maxHeartbeats 0 in
theorem zzopE:opening PySem.Challenge.pw_trueleaf_k07_parts_refused=plainProg PySem.Challenge.pw_trueleaf_k07_parts_refused.main.scope.names:=by kernel_rfl
set_option maxHeartbeats 0 in
theorem zzszL (w:World) : ((boot_heap w.params).isNs mainGlobals && (Array.mk [] : Array GenState).size == 0,(boot_heap w.params).objs.size,(boot_heap w.params).nsMap mainGlobals "__annotations__")=(true,11,some (.ref 6)):=by kernel_rfl
set_option maxHeartbeats 0 in
theorem left:LeftO PySem.Challenge.pw_trueleaf_k07_parts_refused vw ls xt (Hook.obs hk) (Hook.val hk) 9778:=by
 refine LeftO.of_pieces (boot_open zzopE (by decide) (fun s=>rfl)) zzszL zzrunL (by decide) ?_
 intro w
 kernel_rfl

end K07
set_option maxHeartbeats 4000000
namespace L2
open PySem PySem.Spec PyProof.Rows

abbrev Key:=Sum Int Str
def keyIs:Key→Value→Bool
 | .inl k,v=>Value.isInt k v
 | .inr x,v=>Value.isStrOf x v
def keyH (w:World) : Key→Int
 | .inl k=>hashInt k
 | .inr x=>hashStr w x
theorem keyIs_shape:∀ {k:Key} {v:Value},keyIs k v=true→(∃ i t,k=Sum.inl i∧v=Value.int i t)∨(∃ x t,k=Sum.inr x∧v=Value.str x t)
 | .inl i,v,h=>by
  obtain ⟨t,e⟩:=Value.isInt_shape (k:=i) (v:=v) h
  exact .inl ⟨i,t,rfl,e⟩
 | .inr x,v,h=>by
  obtain ⟨t,e⟩:=Value.isStrOf_shape (x:=x) (v:=v) h
  exact .inr ⟨x,t,rfl,e⟩
theorem keyIs_int (i:Int) (t:Tok) : keyIs (.inl i) (.int i t)=true:=by simp [keyIs,Value.isInt]
theorem keyIs_str (x:Str) (t:Tok) : keyIs (.inr x) (.str x t)=true:=by simp [keyIs,Value.isStrOf]
theorem key_ll (a b:Int) : decide ((Sum.inl a:Key)=Sum.inl b)=(a == b):=by
 by_cases e:a=b
 ·subst e; simp
 ·have h:¬ (Sum.inl a:Key)=Sum.inl b:=fun q=>e (Sum.inl.inj q)
  rw [decide_eq_false h]
  exact (beq_eq_false_iff_ne.mpr e).symm
theorem key_rr (a b:Str) : decide ((Sum.inr a:Key)=Sum.inr b)=decide (a=b):=by
 by_cases e:a=b
 ·subst e; simp
 ·have h:¬ (Sum.inr a:Key)=Sum.inr b:=fun q=>e (Sum.inr.inj q)
  rw [decide_eq_false h,decide_eq_false e]
theorem key_lr (a:Int) (b:Str) : decide ((Sum.inl a:Key)=Sum.inr b)=false:=decide_eq_false (fun q=>nomatch q)
theorem key_rl (a:Str) (b:Int) : decide ((Sum.inr a:Key)=Sum.inl b)=false:=decide_eq_false (fun q=>nomatch q)

def mixKind (prog:Program) (w:World) : PySem.KeyKind prog w Key where
 is:=keyIs
 hash:=keyH w
 inj:=fun v a b ha hb=>by
  rcases keyIs_shape ha with ⟨i,t,rfl,rfl⟩ | ⟨x,t,rfl,rfl⟩
  ·rcases keyIs_shape hb with ⟨j,u,rfl,e⟩ | ⟨y,u,rfl,e⟩
   ·injection e with e1 _; rw [e1]
   ·exact nomatch e
  ·rcases keyIs_shape hb with ⟨j,u,rfl,e⟩ | ⟨y,u,rfl,e⟩
   ·exact nomatch e
   ·injection e with e1 _; rw [e1]
 byValue:=fun k v h=>by
  rcases keyIs_shape h with ⟨i,t,rfl,rfl⟩ | ⟨x,t,rfl,rfl⟩ <;> rfl
 pyHash:=fun hv h=>by
  rcases keyIs_shape hv with ⟨i,t,rfl,rfl⟩ | ⟨x,t,rfl,rfl⟩
  ·exact wpAny_pyHash_int h
  ·exact wpAny_pyHash_str h
 eqBool:=fun hu hv h=>by
  rcases keyIs_shape hu with ⟨i,t,rfl,rfl⟩ | ⟨x,t,rfl,rfl⟩
  ·rcases keyIs_shape hv with ⟨j,u,rfl,rfl⟩ | ⟨y,u,rfl,rfl⟩
   ·rw [key_ll] at h; exact wpAny_eqBool_int h
   ·rw [key_lr] at h; exact SeqAt.EqAt.int_str i t y u _ _ _ _ h
  ·rcases keyIs_shape hv with ⟨j,u,rfl,rfl⟩ | ⟨y,u,rfl,rfl⟩
   ·rw [key_rl] at h; exact SeqAt.EqAt.str_int x t j u _ _ _ _ h
   ·rw [key_rr] at h; exact wpAny_eqBool_str h
 «strs»:=fun k x t v h=>by
  rcases keyIs_shape h with ⟨i,u,rfl,e⟩ | ⟨y,u,rfl,e⟩
  ·exact nomatch e
  ·injection e with e1 _
   subst e1
   cases v <;> rfl

theorem mixKind_int (prog:Program) (w:World) (i:Int) (t:Tok) : (mixKind prog w).is (.inl i) (.int i t)=true:=keyIs_int i t
theorem mixKind_str (prog:Program) (w:World) (x:Str) (t:Tok) : (mixKind prog w).is (.inr x) (.str x t)=true:=keyIs_str x t

inductive V where
 | non | bl (b:Bool) | int (i:Int) | str (x:Str) | byt (b:Array UInt8) | flt (b:UInt64) | ref (a:Addr) | ty (n:String)
 deriving DecidableEq

def RelV:V→Value→Prop
 | .non,u=>u=Value.none
 | .bl b,u=>u=Value.bool b
 | .int i,u=>∃ t,u=Value.int i t
 | .str x,u=>∃ t,u=Value.str x t
 | .byt b,u=>∃ t,u=Value.bytes b t
 | .flt b,u=>∃ t,u=Value.float b t
 | .ref a,u=>u=Value.ref a
 | .ty n,u=>u=Value.type n

abbrev Vals:List V→List Value→Prop:=Paired RelV
theorem Vals.length {xs:List V} {us:List Value} (r:Vals xs us) : xs.length=us.length:=Paired.length r
theorem Vals.get:∀ {xs:List V} {us:List Value} {i:Nat} {x:V},Vals xs us→xs[i]? = some x→∃ u,us[i]? = some u∧RelV x u
 | _,_,_,_,.nil,e=>by simp at e
 | _,_,0,_,.cons r _,e=>by simp at e; subst e; exact ⟨_,rfl,r⟩
 | _,_,i+1,x,.cons _ t,e=>by
  obtain ⟨u,h1,h2⟩:=Vals.get (i:=i) (x:=x) t (by simpa using e)
  exact ⟨u,by simpa using h1,h2⟩
theorem Vals.set {x:V} {u:Value} (r:RelV x u) : ∀ {xs:List V} {us:List Value} (i:Nat),Vals xs us→Vals (xs.set i x) (us.set i u)
 | _,_,_,.nil=>.nil
 | _,_,0,.cons _ t=>.cons r t
 | _,_,i+1,.cons q t=>.cons q (Vals.set r i t)
theorem Vals.append:∀ {xs ys:List V} {us ws:List Value},Vals xs us→Vals ys ws→Vals (xs++ys) (us++ws)
 | _,_,_,_,.nil,s=>s
 | _,_,_,_,.cons r t,s=>.cons r (Vals.append t s)
theorem Vals.take:∀ {xs:List V} {us:List Value} (n:Nat),Vals xs us→Vals (xs.take n) (us.take n)
 | _,_,0,_=>.nil
 | _,_,_+1,.nil=>.nil
 | _,_,n+1,.cons r t=>.cons r (Vals.take n t)
theorem Vals.drop:∀ {xs:List V} {us:List Value} (n:Nat),Vals xs us→Vals (xs.drop n) (us.drop n)
 | _,_,0,r=>r
 | _,_,_+1,.nil=>.nil
 | _,_,n+1,.cons _ t=>Vals.drop n t
def RelO:Option V→Option Value→Prop
 | some v,some u=>RelV v u
 | none,none=>True
 | _,_=>False
def KV {κ:Type} : List (κ × V)→List (κ × Value)→Prop:=Paired fun (p:κ × V) (q:κ × Value)=>p.1=q.1∧RelV p.2 q.2

def kV:Key→V
 | .inl i=>.int i
 | .inr x=>.str x

inductive HO where
  | lst (xs:List V)
  | tup (xs:List V)
  | dK (kvs:List (Key × V)) | dT (kvs:List (List Key × V))
  | set (S:Int→Bool) (n:Nat)
  | ins (C dx:Addr) (fs:List (Str × V))
  | own (x:Addr)
  | xd (fs:List (Str × V))
  | met (f x:Addr)
  | rng (lo hi:Int)
  | frz (o:Obj) (u:HO)
  | tbl (ps:Array Value)
  | ext (φ:Heap→Prop)

abbrev Hp:=Addr→Option HO
def upd (H:Hp) (a:Addr) (o:HO) : Hp:=fun b=>if b=a then some o else H b
theorem upd_same {H:Hp} {a:Addr} {o:HO} : upd H a o a=some o:=by unfold upd; rw [if_pos rfl]
theorem upd_ne {H:Hp} {a b:Addr} {o:HO} (h:b≠a) : upd H a o b=H b:=by unfold upd; rw [if_neg h]
theorem upd_upd {H:Hp} {a:Addr} {o u:HO} : upd (upd H a o) a u=upd H a u:=by
 funext b; unfold upd; split <;> rfl
theorem ne_of {H:Hp} {a b:Addr} {o u:HO} (h:H a=some o) (h':H b=some u) (d:o≠u) : a≠b:=by
 intro e; subst e; rw [h] at h'; exact d (Option.some.inj h')
theorem ne_of_none {H:Hp} {a b:Addr} {o:HO} (h:H a=some o) (h':H b=none) : a≠b:=by
 intro e; subst e; rw [h] at h'; cases h'

section
variable (P:Program) (w:World)
def ObjOk (H:Hp) (h:Heap) (a:Addr) : HO→Prop
 | .lst xs=>xs.length≤sizeLine∧∃ (its:List Value) (n:Nat),Vals xs its∧h.get? a=some { cls:=.type "list",data:=.seq its.toArray n }
 | .tup xs=>xs.length≤sizeLine∧∃ its:List Value,Vals xs its∧IsTup h a its.toArray
 | .dK kvs=>kvs.length≤sizeLine∧(a == sysModules)=false∧∃ vs,KV kvs vs∧h.DictOf (mixKind P w) a vs
 | .dT kvs=>kvs.length≤sizeLine∧(a == sysModules)=false∧∃ xs:List (List Key × Addr × Value),
   Paired (fun (p:List Key × V) (q:List Key × Addr × Value)=>p.1=q.1∧H q.2.1=some (.tup (p.1.map kV))∧RelV p.2 q.2.2) kvs xs ∧
   ∃ o es ep,h.get? a=some o∧o.ExactDict∧o.data = .dict es ep∧es.toList=xs.map (entryOfKey (tupleKind (mixKind P w)))∧(xs.map (·.1)).Nodup
 | .set S n=>h.SetOf (intKind P w) a S n
 | .ins C dx fs=>H dx=some (.own a)∧fs.length≤1000∧dx≠a∧h.get? a=some (PySem.W.instObj C dx) ∧
   ∃ mA,h.Ns1 dx mA∧(∀ f,RelO (fs.lookup f) (mA f))∧PySem.Within mA (fs.map (·.1))
 | .own _=>∃ o,h.get? a=some o
 | .xd fs=>∃ mA,h.Ns1 a mA∧∀ f,RelO (fs.lookup f) (mA f)
 | .rng lo hi=>∃ t u v,h.get? a=some { cls:=.type "range",data:=.fields #[.int lo t,.int hi u,.int 1 v] }
 | .frz o u=>h.get? a=some o∧ObjOk H h a u
 | .tbl ps=>h.get? a=some { cls:=.none,data:=.fields ps }
 | .met f x=>h.get? a=some (PySem.W.methodObj (.ref f) (.ref x))
 | .ext φ=>φ h∧(∃ o,h.get? a=some o)∧∀ h1 h2:Heap,φ h1→(∀ o,h1.get? a=some o→h2.get? a=some o)→φ h2
def HOk (H:Hp) (h:Heap) : Prop:=∀ a o,H a=some o→ObjOk P w H h a o
end

section
variable {P:Program} {w:World} {H H':Hp} {h h':Heap} {a:Addr} {o:HO}
theorem ObjOk.lt (x:ObjOk P w H h a o) : a < h.objs.size:=by
 cases o with
 | lst xs=>obtain ⟨_,_,_,_,e⟩:=x; exact Heap.lt_size e
 | tup xs=>obtain ⟨_,_,_,p⟩:=x; exact p.lt
 | dK kvs=>obtain ⟨_,_,_,_,o,_,_,e,_⟩:=x; exact Heap.lt_size e
 | dT kvs=>obtain ⟨_,_,_,_,o,_,_,e,_⟩:=x; exact Heap.lt_size e
 | set S n=>obtain ⟨o,_,_,_,e,_⟩:=x; exact Heap.lt_size e
 | ins C dx fs=>obtain ⟨_,_,_,e,_⟩:=x; exact Heap.lt_size e
 | own y=>obtain ⟨_,e⟩:=x; exact Heap.lt_size e
 | xd fs=>obtain ⟨_,⟨_,_,_,e,_⟩,_⟩:=x; exact Heap.lt_size e
 | rng lo hi=>obtain ⟨_,_,_,e⟩:=x; exact Heap.lt_size e
 | frz ob u=>obtain ⟨e,_⟩:=x; exact Heap.lt_size e
 | tbl ps=>exact Heap.lt_size (show h.get? a=some _ from x)
 | met f y=>exact Heap.lt_size (show h.get? a=some _ from x)
 | ext φ=>obtain ⟨_,⟨_,e⟩,_⟩:=x; exact Heap.lt_size e
theorem Paired.mapP {α β:Type} {F G:α→β→Prop} : ∀ {l₁:List α} {l₂:List β},Paired F l₁ l₂→(∀ a b,F a b→G a b)→Paired G l₁ l₂
 | _,_,.nil,_=>.nil
 | _,_,.cons r t,f=>.cons (f _ _ r) (Paired.mapP t f)
theorem ObjOk.stay (x:ObjOk P w H h a o) (k:∀ b u,(b=a∨H b=some (.own a))→h.get? b=some u→h'.get? b=some u)
  (ho:∀ b,H b=some (.own a)→H' b=some (.own a)) (ht:∀ b xs,H b=some (.tup xs)→H' b=some (.tup xs)) : ObjOk P w H' h' a o:=by
 induction o with
 | lst xs=>obtain ⟨z,its,n,r,e⟩:=x; exact ⟨z,its,n,r,k _ _ (.inl rfl) e⟩
 | tup xs=>obtain ⟨z,its,r,ob,e,c⟩:=x; exact ⟨z,its,r,ob,k _ _ (.inl rfl) e,c⟩
 | dK kvs=>obtain ⟨z,y,vs,r,ob,es,ep,e,c⟩:=x; exact ⟨z,y,vs,r,ob,es,ep,k _ _ (.inl rfl) e,c⟩
 | dT kvs =>
  obtain ⟨z,y,xs,r,ob,es,ep,e,c⟩:=x
  exact ⟨z,y,xs,Paired.mapP r fun p q z=>⟨z.1,ht _ _ z.2.1,z.2.2⟩,ob,es,ep,k _ _ (.inl rfl) e,c⟩
 | set S n=>obtain ⟨ob,es,ep,t,e,c⟩:=x; exact ⟨ob,es,ep,t,k _ _ (.inl rfl) e,c⟩
 | ins C dx fs =>
  obtain ⟨d,z,ne,e,mA,⟨od,es,ep,e2,c⟩,r⟩:=x
  exact ⟨ho _ d,z,ne,k _ _ (.inl rfl) e,mA,⟨od,es,ep,k _ _ (.inr d) e2,c⟩,r⟩
 | own y=>obtain ⟨ob,e⟩:=x; exact ⟨ob,k _ _ (.inl rfl) e⟩
 | xd fs=>obtain ⟨mA,⟨od,es,ep,e,c⟩,r⟩:=x; exact ⟨mA,⟨od,es,ep,k _ _ (.inl rfl) e,c⟩,r⟩
 | rng lo hi=>obtain ⟨t,u,v,e⟩:=x; exact ⟨t,u,v,k _ _ (.inl rfl) e⟩
 | frz ob u ih=>obtain ⟨e,q⟩:=x; exact ⟨k _ _ (.inl rfl) e,ih q⟩
 | tbl ps =>
  have e:h.get? a=some { cls:=.none,data:=.fields ps }:=x
  show h'.get? a=some { cls:=.none,data:=.fields ps }
  exact k a _ (.inl rfl) e
 | met f y =>
  have e:h.get? a=some (PySem.W.methodObj (.ref f) (.ref y)):=x
  show h'.get? a=some (PySem.W.methodObj (.ref f) (.ref y))
  exact k a _ (.inl rfl) e
 | ext φ=>obtain ⟨p,⟨o,e⟩,st⟩:=x; exact ⟨st _ _ p fun o q=>k _ _ (.inl rfl) q,⟨o,k _ _ (.inl rfl) e⟩,st⟩
theorem HOk.lt (x:HOk P w H h) (e:H a=some o) : a < h.objs.size:=(x a o e).lt
theorem HOk.fresh (x:HOk P w H h) (e:h.objs.size≤a) : H a=none:=by
 cases q:H a with
 | none=>rfl
 | some u=>exact absurd (Nat.lt_of_lt_of_le (x.lt q) e) (Nat.lt_irrefl _)
theorem HOk.kept (x:HOk P w H h) (k:∀ b u,h.get? b=some u→h'.get? b=some u) : HOk P w H h':=fun a o e =>
 (x a o e).stay (fun b u _ q=>k b u q) (fun _ q=>q) fun _ _ q=>q
theorem HOk.laid (x:HOk P w H h) (k:∀ b u,h.get? b=some u→h'.get? b=some u) (hp:h.objs.size≤a) (new:ObjOk P w (upd H a o) h' a o) : HOk P w (upd H a o) h':=fun b u e=>by
 have hn:=x.fresh hp
 by_cases hb:b=a
 ·subst hb; rw [upd_same] at e; cases e; exact new
 ·rw [upd_ne hb] at e
  exact (x b u e).stay (fun c v _ q=>k c v q) (fun c q=>by rw [upd_ne (ne_of_none q hn)]; exact q) fun c xs q=>by rw [upd_ne (ne_of_none q hn)]; exact q
end

def Rd (H:Hp) (a:Addr) (u:HO) : Prop:=H a=some u∨∃ o,H a=some (.frz o u)
theorem Rd.of {H:Hp} {a:Addr} {u:HO} (h:H a=some u) : Rd H a u:=.inl h
theorem Rd.ok {P:Program} {w:World} {H:Hp} {h:Heap} {a:Addr} {u:HO} (r:Rd H a u) (x:HOk P w H h) : ObjOk P w H h a u:=by
 rcases r with r | ⟨o,r⟩
 ·exact x a u r
 ·obtain ⟨_,q⟩:=x a _ r
  exact q
def Mut:Option HO→Prop
 | some (.lst _)=>True
 | some (.dK _)=>True
 | some (.dT _)=>True
 | some (.set _ _)=>True
 | some (.ins _ _ _)=>True
 | some (.ext _)=>True
 | _=>False
section
variable {P:Program} {w:World} {H:Hp} {h h':Heap} {x e:Addr} {o':HO}
theorem HOk.write (ok:HOk P w H h) (mu:Mut (H x)) (he:e=x∨H e=some (.own x)) (k:∀ b u,b≠e→h.get? b=some u→h'.get? b=some u) (heo:∃ u,h'.get? e=some u)
  (new:ObjOk P w (upd H x o') h' x o') : HOk P w (upd H x o') h':=fun b u q=>by
 have nown:∀ c y,H c=some (.own y)→c≠x:=fun c y r z=>by subst z; rw [r] at mu; exact mu
 have ntup:∀ c xs,H c=some (.tup xs)→c≠x:=fun c xs r z=>by subst z; rw [r] at mu; exact mu
 by_cases hb:b=x
 ·subst hb; rw [upd_same] at q; cases q; exact new
 ·rw [upd_ne hb] at q
  by_cases hbe:b=e
  ·have q':H b=some (.own x):=by
    rcases he with z | z
    ·exact absurd (hbe.trans z) hb
    ·rw [hbe]; exact z
   rw [q] at q'; cases q'
   obtain ⟨v,hv⟩:=heo
   exact ⟨v,by rw [hbe]; exact hv⟩
  ·refine (ok b u q).stay (fun c v hc r=>k c v ?_ r) (fun c r=>by rw [upd_ne (nown c b r)]; exact r) fun c xs r=>by rw [upd_ne (ntup c xs r)]; exact r
   rcases hc with rfl | hc
   ·exact hbe
   ·rintro rfl
    rcases he with z | z
    ·exact nown c b hc z
    ·rw [hc] at z; cases z; exact hb rfl
end

structure Un (fs ex:List Addr) (H H':Hp) (h h':Heap) : Prop where
 keep:∀ b o,h.get? b=some o→H b=none→b ∉ fs→b ∉ ex→h'.get? b=some o
 slot:∀ b o,h.get? b=some o→H b=none→b ∈ fs→b ∉ ex→∃ sl,h'.get? b=some { o with slots:=sl }
 free:∀ b o,h.get? b=some o→H b=none→b ∉ ex→H' b=none
 there:∀ b o,h.get? b=some o→b ∉ ex→∃ o',h'.get? b=some o'
 tups:∀ b xs,H b=some (.tup xs)→H' b=some (.tup xs)
 frzs:∀ b o u,H b=some (.frz o u)→H' b=some (.frz o u)
 tbls:∀ b ps,H b=some (.tbl ps)→∃ more,H' b=some (.tbl (ps++more))
section
variable {fs fs' ex ex':List Addr} {H H1 H2:Hp} {h h1 h2 h':Heap} {a x e:Addr} {o:HO}
theorem Un.any (u:Un fs ex H H1 h h1) {b:Addr} {ob:Obj} (q:h.get? b=some ob) (n:H b=none) (hx:b ∉ ex) : ∃ sl,h1.get? b=some { ob with slots:=sl }:=by
 by_cases hb:b ∈ fs
 ·exact u.slot b ob q n hb hx
 ·exact ⟨ob.slots,u.keep b ob q n hb hx⟩
theorem Un.trans (a:Un fs ex H H1 h h1) (b:Un fs ex H1 H2 h1 h2) : Un fs ex H H2 h h2 where
 keep:=fun c ob q n hc hx=>b.keep c ob (a.keep c ob q n hc hx) (a.free c ob q n hx) hc hx
 slot:=fun c ob q n hc hx=>by
  obtain ⟨sl,e1⟩:=a.slot c ob q n hc hx
  obtain ⟨sl',e2⟩:=b.slot c _ e1 (a.free c ob q n hx) hc hx
  exact ⟨sl',e2⟩
 free:=fun c ob q n hx=>by
  obtain ⟨o',e1⟩:=a.there c ob q hx
  exact b.free c o' e1 (a.free c ob q n hx) hx
 there:=fun c ob q hx=>by
  obtain ⟨o',e1⟩:=a.there c ob q hx
  exact b.there c o' e1 hx
 tups:=fun c xs q=>b.tups c xs (a.tups c xs q)
 frzs:=fun c ob xs q=>b.frzs c ob xs (a.frzs c ob xs q)
 tbls:=fun c ps q=>by
  obtain ⟨m1,e1⟩:=a.tbls c ps q
  obtain ⟨m2,e2⟩:=b.tbls c _ e1
  exact ⟨m1++m2,by rw [e2,Array.append_assoc]⟩
theorem Un.kept (k:∀ b u,h.get? b=some u→h'.get? b=some u) : Un fs ex H H h h':=
 ⟨fun b ob q _ _ _=>k b ob q,fun b ob q _ _ _=>⟨ob.slots,k b ob q⟩,fun _ _ _ n _=>n,fun b ob q _=>⟨ob,k b ob q⟩,fun _ _ q=>q,fun _ _ _ q=>q,fun _ ps q=>⟨#[],by rw [q]; simp⟩⟩
theorem Un.refl:Un fs ex H H h h:=Un.kept fun _ _ q=>q
theorem Un.laid (k:∀ b u,h.get? b=some u→h'.get? b=some u) (hp:h.objs.size≤a) (hn:H a=none) : Un fs ex H (upd H a o) h h' where
 keep:=fun b u q _ _ _=>k b u q
 slot:=fun b u q _ _ _=>⟨u.slots,k b u q⟩
 free:=fun b u q n _=>by rw [upd_ne (Nat.ne_of_lt (Nat.lt_of_lt_of_le (Heap.lt_size q) hp))]; exact n
 there:=fun b u q _=>⟨u,k b u q⟩
 tups:=fun b xs q=>by rw [upd_ne (ne_of_none q hn)]; exact q
 frzs:=fun b u xs q=>by rw [upd_ne (ne_of_none q hn)]; exact q
 tbls:=fun b ps q=>⟨#[],by rw [upd_ne (ne_of_none q hn),q]; simp⟩
theorem Un.write (mu:Mut (H x)) (he:e=x∨H e=some (.own x)) (k:∀ b u,b≠e→h.get? b=some u→h'.get? b=some u) (heo:∃ u,h'.get? e=some u) : Un fs ex H (upd H x o) h h':=by
 have hx:∀ b,H b=none→b≠x:=fun b n z=>by subst z; rw [n] at mu; exact mu
 have hb:∀ b,H b=none→b≠e:=fun b n z=>by
  subst z
  rcases he with r | r
  ·exact hx b n r
  ·rw [n] at r; cases r
 have hm:∀ b u,H b=some u→¬ Mut (some u)→b≠x:=fun b u q nm z=>by subst z; rw [q] at mu; exact nm mu
 refine ⟨fun b u q n _ _=>k b u (hb b n) q,fun b u q n _ _=>⟨u.slots,k b u (hb b n) q⟩,fun b u q n _=>by rw [upd_ne (hx b n)]; exact n,fun b u q _=>?_,
  fun b xs q=>by rw [upd_ne (hm b _ q fun z=>z)]; exact q,fun b u xs q=>by rw [upd_ne (hm b _ q fun z=>z)]; exact q,fun b ps q=>⟨#[],by rw [upd_ne (hm b _ q fun z=>z),q]; simp⟩⟩
 by_cases hbe:b=e
 ·subst hbe; exact heo
 ·exact ⟨u,k b u hbe q⟩
theorem Un.mono (u:Un fs ex H H1 h h1) (hs:∀ b ∈ fs,b ∈ fs') (hx:∀ b ∈ ex,b ∈ ex') : Un fs' ex' H H1 h h1:=
 ⟨fun b ob q n hb he=>u.keep b ob q n (fun z=>hb (hs b z)) fun z=>he (hx b z),fun _ _ q n _ he=>u.any q n fun z=>he (hx _ z),fun b ob q n he=>u.free b ob q n fun z=>he (hx b z),fun b ob q he=>u.there b ob q fun z=>he (hx b z),u.tups,u.frzs,u.tbls⟩
end

def trk (h:Heap) (H:Hp) : List Addr:=(List.range h.objs.size).filter fun a=>(H a).isSome
def hidT (h:Heap) (H:Hp) : Heap:=PySem.W.hideAll h (trk h H)
theorem hidT_size (h:Heap) (H:Hp) : (hidT h H).objs.size=h.objs.size:=PySem.W.hideAll_size _ _
theorem hidT_get {h:Heap} {H:Hp} {b:Addr} {o:Obj} (e:h.get? b=some o) (n:H b=none) : (hidT h H).get? b=some o:=
 PySem.W.hideAll_get _ e fun hm=>by
  have q:(H b).isSome=true:=(List.mem_filter.mp hm).2
  rw [n] at q; simp at q
theorem of_hidT {h:Heap} {H:Hp} {b:Addr} {o:Obj} (e:(hidT h H).get? b=some o) : h.get? b=some o∧H b=none:=by
 have e':h.get? b=some o:=PySem.W.of_hideAll (trk h H) e
 refine ⟨e',?_⟩
 cases q:H b with
 | none=>rfl
 | some x =>
  have hm:b ∈ trk h H:=List.mem_filter.mpr ⟨List.mem_range.mpr (Heap.lt_size e'),by simp [q]⟩
  have z:(hidT h H).get? b=none:=PySem.W.hideAll_none (trk h H) hm
  rw [z] at e; cases e

def allNews (g h:Heap) (L:Addr) : List (Addr × Obj):=(List.range h.objs.size).filterMap fun a=>if a=L∨(g.get? a).isSome=true then none else (h.get? a).map fun o=>(a,o)
def rest (g h:Heap) (L d:Addr) : List (Addr × Obj):=(allNews g h L).filter fun p=>decide (p.1≠d)

structure Mod (K:PySem.W.Frag) (mg:Str→Option Value) (base:Heap) : Prop where
 kin:K.In base
 glob:base.Ns mainGlobals mg
 blt:∃ mb,base.Ns builtinsNs mb∧∀ x:Str,x≠"__name__"→mb x=bootBuiltins x
 nolimit:base.NoLimit

structure Cx where
 prog:Program
 w:World
 K:PySem.W.Frag
 mg:Str→Option Value
 base:Heap
 A:Around
 N:List Str
 s₀:Shared
 H₀:Hp
 env:Env
 outer:List Env
 stack:List Env
 ex:List Addr
 fn:Str→Bool
 calm:Bool
 pn:List (Addr × Obj)
 xe:Value→Shared→Prop
def frs (l:List Env) : List Addr:=l.filterMap (·.frame)
abbrev Cx.fs (X:Cx) : List Addr:=frs X.outer

def Vis (sc:Scope) (x:Str) : Prop:=sc.names.lookup x=some .local∨sc.names.lookup x=some .cell∨sc.names.lookup x=some .free
def Loc (sc:Scope) (x:Str) : Prop:=sc.names.lookup x=some .local∨sc.names.lookup x=some .cell
def Look (env:Env) (h:Heap) (m:Str→Option Value) (x:Str) (u:Value) : Prop:=
 (env.kindOf x=some .local∧m x=some u)∨((env.kindOf x=some .cell∨env.kindOf x=some .free)∧∃ c,env.cells.lookup x=some c∧h.IsCell c (some u))

structure Cx.Ok (X:Cx) : Prop where
 mod:Mod X.K X.mg X.base
 kind:X.env.scope.kind = .function
 glob:X.env.globals=mainGlobals
 blt:X.env.builtins=builtinsNs
 above:X.s₀.heap.objs.size≤X.env.locals
 inj:∀ x y c,X.env.cells.lookup x=some c→X.env.cells.lookup y=some c→x=y
 has:∀ x,(X.env.kindOf x=some .cell∨X.env.kindOf x=some .free)→∃ c,X.env.cells.lookup x=some c
 cab:∀ x c,X.fn x=true→X.env.cells.lookup x=some c→X.s₀.heap.objs.size≤c
 hd:X.calm=true→X.A.handled=none
 frames:X.A.frames=some X.stack
 stk:X.stack=X.outer∨(X.stack=X.env :: X.outer∧X.env.frame=some X.env.locals)
 exf:∀ b ∈ X.ex,b≠X.env.locals∧∀ x c,X.env.cells.lookup x=some c→c≠b
 bs:∀ b o,X.base.get? b=some o→X.s₀.heap.get? b=some o∧X.H₀ b=none
 bsz:X.base.objs.size≤X.s₀.heap.objs.size
 noex:∀ b o,X.base.get? b=some o→b ∉ X.ex
 exfs:∀ b ∈ X.ex,b ∉ X.fs
 funs:X.s₀.heap.FunFrames X.base X.outer
 frf:∀ b ∈ X.fs,X.H₀ b=none

structure Inv (X:Cx) (pins:List (Addr × Obj)) (σ:List (Option V)) (H:Hp) (s:Shared) : Prop where
 ok:X.Ok
 os:s.os=X.s₀.os
 bare:AllBare s.gens
 base:Un X.fs X.ex X.H₀ H X.s₀.heap s.heap
 loc:∃ m,s.heap.Ns X.env.locals m∧∀ (i:Nat) (x:Str) (v:V),X.N[i]? = some x→σ[i]? = some (some v)→Vis X.env.scope x→∃ u,RelV v u∧Look X.env s.heap m x u
 cell:∀ x c,X.env.cells.lookup x=some c→∃ v,s.heap.IsCell c v
 free:H X.env.locals=none
 freeC:∀ x c,X.env.cells.lookup x=some c→H c=none
 pin:∀ p ∈ X.pn++pins,s.heap.get? p.1=some p.2∧H p.1=none∧p.1≠X.env.locals∧p.1 ∉ X.fs∧∀ v,p.2.data≠.cell v
 hok:HOk X.prog X.w H s.heap
 len:σ.length=X.N.length

section
variable {X:Cx} {pins:List (Addr × Obj)} {σ:List (Option V)} {H H':Hp} {s:Shared} {h':Heap}

theorem Cx.Ok.nofr (ok:X.Ok) {b:Addr} {o:Obj} (e:X.base.get? b=some o) : b ∉ X.fs:=fun hb=>by
 have:=(ok.funs.mem hb).1
 rw [e] at this; cases this
theorem Inv.bs (I:Inv X pins σ H s) : ∀ b o,X.base.get? b=some o→s.heap.get? b=some o∧H b=none:=fun b o e =>
 ⟨I.base.keep b o (I.ok.bs b o e).1 (I.ok.bs b o e).2 (I.ok.nofr e) (I.ok.noex b o e),I.base.free b o (I.ok.bs b o e).1 (I.ok.bs b o e).2 (I.ok.noex b o e)⟩
theorem Inv.bk (I:Inv X pins σ H s) : ∀ b o,X.base.get? b=some o→s.heap.get? b=some o:=fun b o e=>(I.bs b o e).1
theorem Inv.mod (I:Inv X pins σ H s) : Mod X.K X.mg X.base:=I.ok.mod
theorem Inv.kIn (I:Inv X pins σ H s) : X.K.In s.heap:=I.ok.mod.kin.keeps I.bk
theorem Inv.nolimit (I:Inv X pins σ H s) : s.heap.NoLimit:=I.ok.mod.nolimit.keeps I.bk
theorem Inv.fr (I:Inv X pins σ H s) : ∃ m,Fr X.base X.env.locals s.heap m:=
 let ⟨m,hn,_⟩:=I.loc
 ⟨m,hn,I.bk,Nat.le_trans I.ok.bsz I.ok.above⟩
theorem Inv.lt (I:Inv X pins σ H s) : X.env.locals < s.heap.objs.size:=let ⟨_,hn,_⟩:=I.loc; hn.lt
theorem Inv.sz (I:Inv X pins σ H s) : X.s₀.heap.objs.size≤s.heap.objs.size:=Nat.le_trans I.ok.above (Nat.le_of_lt I.lt)
theorem Inv.nofs (I:Inv X pins σ H s) {a:Addr} (h:s.heap.objs.size≤a) : a ∉ X.fs:=fun hb=>by
 obtain ⟨_,o,ho,_⟩:=I.ok.funs.mem hb
 exact absurd (Nat.lt_of_lt_of_le (Heap.lt_size ho) (Nat.le_trans I.sz h)) (Nat.lt_irrefl _)
theorem Inv.cne (I:Inv X pins σ H s) : ∀ x c,X.env.cells.lookup x=some c→c≠X.env.locals:=fun x c e z=>by
 obtain ⟨v,o,ho,hd⟩:=I.cell x c e
 obtain ⟨m,⟨o',es,ep,ho',hd',_⟩,_⟩:=I.loc
 rw [z,ho'] at ho; cases ho; rw [hd'] at hd; cases hd
theorem Inv.funs (I:Inv X pins σ H s) : s.heap.FunFrames X.base X.outer:=by
 have all:∀ (l:List Env),(∀ b ∈ frs l,b ∈ X.fs)→X.s₀.heap.FunFrames X.base l→s.heap.FunFrames X.base l:=by
  intro l
  induction l with
  | nil=>intro _ _; trivial
  | cons env r ih =>
   intro hs hl
   obtain ⟨hk,⟨L,o,hf,hn,ho,hd⟩,hr⟩:=hl
   have hL:L ∈ X.fs:=hs L (by unfold frs; rw [List.filterMap_cons,hf]; exact List.mem_cons_self)
   obtain ⟨sl,e⟩:=I.base.slot L o ho (I.ok.frf L hL) hL fun z=>I.ok.exfs L z hL
   exact ⟨hk,⟨L,_,hf,hn,e,hd⟩,ih (fun b hb=>hs b (by unfold frs; rw [List.filterMap_cons,hf]; exact List.mem_cons_of_mem _ hb)) hr⟩
 exact all X.outer (fun _ hb=>hb) I.ok.funs

theorem Inv.stack (I:Inv X pins σ H s) : s.heap.FunFrames X.base X.stack:=by
 rcases I.ok.stk with e | ⟨e,hf⟩
 ·rw [e]; exact I.funs
 ·rw [e]
  obtain ⟨m,hn,_⟩:=I.loc
  refine .cons (by rw [I.ok.kind]; decide) hf hn ?_ I.funs
  exact Heap.get?_none_of_le (Nat.le_trans I.ok.bsz I.ok.above)
theorem Inv.stkSub (I:Inv X pins σ H s) : ∀ b ∈ frs X.stack,b ∈ X.env.locals :: X.fs:=fun b hb=>by
 rcases I.ok.stk with e | ⟨e,hf⟩
 ·rw [e] at hb; exact List.mem_cons_of_mem _ hb
 ·rw [e] at hb
  unfold frs at hb
  rw [List.filterMap_cons,hf] at hb
  exact hb
theorem Inv.stkFree (I:Inv X pins σ H s) : ∀ b ∈ frs X.stack,H b=none:=fun b hb=>by
 rcases List.mem_cons.mp (I.stkSub b hb) with e | hb
 ·rw [e]; exact I.free
 ·obtain ⟨_,o,ho,_⟩:=I.ok.funs.mem hb
  exact I.base.free b o ho (I.ok.frf b hb) fun z=>I.ok.exfs b z hb

theorem Inv.step {g':Array GenState} {t':Nat} {d':Drawn} {ch:List Addr} (I:Inv X pins σ H s)
  (hch:∀ b ∈ ch,(b ∈ X.ex∨X.s₀.heap.objs.size≤b)∧b≠X.env.locals∧(∀ x c,X.env.cells.lookup x=some c→c≠b)∧∀ p ∈ X.pn++pins,p.1≠b)
  (keep:∀ b o,b≠X.env.locals→b ∉ X.fs→b ∉ ch→s.heap.get? b=some o→H b=none→h'.get? b=some o)
  (slot:∀ b o,b≠X.env.locals→b ∈ X.fs→b ∉ ch→s.heap.get? b=some o→H b=none→∃ sl,h'.get? b=some { o with slots:=sl }) (free:∀ b o,b ∉ ch→s.heap.get? b=some o→H b=none→H' b=none)
  (there:∀ b o,b ∉ ch→s.heap.get? b=some o→∃ o',h'.get? b=some o')
  (tups:∀ b xs,H b=some (.tup xs)→H' b=some (.tup xs)) (frzs:∀ b o u,H b=some (.frz o u)→H' b=some (.frz o u)) (tbls:∀ b ps,H b=some (.tbl ps)→∃ more,H' b=some (.tbl (ps++more)))
  (ns:∀ m,s.heap.Ns X.env.locals m→h'.Ns X.env.locals m) (hok:HOk X.prog X.w H' h') (hg:AllBare g') :
  Inv X pins σ H' { s with heap:=h',gens:=g',drawn:=d',toks:=t' }:=by
 have neL:∀ b o,X.s₀.heap.get? b=some o→b≠X.env.locals:=fun b o e=>Nat.ne_of_lt (Nat.lt_of_lt_of_le (Heap.lt_size e) I.ok.above)
 have neC:∀ b o,X.s₀.heap.get? b=some o→b ∉ X.ex→b ∉ ch:=fun b o e hx hb=>by
  rcases (hch b hb).1 with z | z
  ·exact hx z
  ·exact absurd (Nat.lt_of_lt_of_le (Heap.lt_size e) z) (Nat.lt_irrefl _)
 have cellK:∀ x c,X.env.cells.lookup x=some c→∀ v,s.heap.IsCell c v→h'.IsCell c v:=fun x c e v ⟨o,ho,hd⟩=>by
  have nch:c ∉ ch:=fun z=>(hch c z).2.2.1 x c e rfl
  by_cases hc:c ∈ X.fs
  ·obtain ⟨sl,q⟩:=slot c o (I.cne x c e) hc nch ho (I.freeC x c e)
   exact ⟨_,q,hd⟩
  ·exact ⟨o,keep c o (I.cne x c e) hc nch ho (I.freeC x c e),hd⟩
 refine ⟨I.ok,I.os,hg,⟨fun b o e n hb hx=>?_,fun b o e n hb hx=>?_,fun b o e n hx=>?_,fun b o e hx=>?_,fun b xs e=>tups b xs (I.base.tups b xs e),fun b o xs e=>frzs b o xs (I.base.frzs b o xs e),fun b ps e=>?_⟩,?_,fun x c e=>?_,?_,fun x c e=>?_,fun p hp=>?_,hok,I.len⟩
 ·exact keep b o (neL b o e) hb (neC b o e hx) (I.base.keep b o e n hb hx) (I.base.free b o e n hx)
 ·obtain ⟨sl,e1⟩:=I.base.slot b o e n hb hx
  obtain ⟨sl',e2⟩:=slot b _ (neL b o e) hb (neC b o e hx) e1 (I.base.free b o e n hx)
  exact ⟨sl',e2⟩
 ·obtain ⟨o',e1⟩:=I.base.there b o e hx
  exact free b o' (neC b o e hx) e1 (I.base.free b o e n hx)
 ·obtain ⟨o',e1⟩:=I.base.there b o e hx
  exact there b o' (neC b o e hx) e1
 ·obtain ⟨m1,e1⟩:=I.base.tbls b ps e
  obtain ⟨m2,e2⟩:=tbls b _ e1
  exact ⟨m1++m2,by rw [e2,Array.append_assoc]⟩
 ·obtain ⟨m,hn,hl⟩:=I.loc
  refine ⟨m,ns m hn,fun i x v e1 e2 e3=>?_⟩
  obtain ⟨u,r,l⟩:=hl i x v e1 e2 e3
  refine ⟨u,r,?_⟩
  rcases l with l | ⟨k,c,e,z⟩
  ·exact .inl l
  ·exact .inr ⟨k,c,e,cellK x c e _ z⟩
 ·obtain ⟨v,z⟩:=I.cell x c e
  exact ⟨v,cellK x c e v z⟩
 ·obtain ⟨m,⟨o,_,_,ho,_⟩,_⟩:=I.loc
  exact free _ o (fun z=>(hch _ z).2.1 rfl) ho I.free
 ·obtain ⟨v,o,ho,hd⟩:=I.cell x c e
  exact free c o (fun z=>(hch c z).2.2.1 x c e rfl) ho (I.freeC x c e)
 ·obtain ⟨e,n,ne,nf,d⟩:=I.pin p hp
  have nch:p.1 ∉ ch:=fun z=>(hch p.1 z).2.2.2 p hp rfl
  exact ⟨keep p.1 p.2 ne nf nch e n,free p.1 p.2 nch e n,ne,nf,d⟩
theorem Inv.un {t':Nat} (I:Inv X pins σ H s) (u:Un X.fs [] H H' s.heap h') (hok:HOk X.prog X.w H' h') : Inv X pins σ H' { s with heap:=h',toks:=t' }:=by
 obtain ⟨m,⟨o,es,ep,ho,r⟩,_⟩:=id I.loc
 obtain ⟨sl,hL⟩:=u.any ho I.free (by simp)
 exact I.step (g':=s.gens) (d':=s.drawn) (ch:=[]) (fun _ z=>nomatch z) (fun b o _ hb _ e n=>u.keep b o e n hb (by simp)) (fun b o _ hb _ e n=>u.slot b o e n hb (by simp)) (fun b o _ e n=>u.free b o e n (by simp)) (fun b o _ e=>u.there b o e (by simp)) u.tups u.frzs u.tbls (fun m' hm=>by
  obtain ⟨o',es',ep',ho',r'⟩:=hm
  rw [ho] at ho'; cases ho'
  exact ⟨_,es',ep',hL,r'⟩) hok I.bare
theorem Inv.call {g':Array GenState} {t':Nat} {d':Drawn} {ch:List Addr} (I:Inv X pins σ H s) (u:Un (frs X.stack) ch H H' s.heap h') (hok:HOk X.prog X.w H' h') (hg:AllBare g')
  (hch:∀ b ∈ ch,(b ∈ X.ex∨X.s₀.heap.objs.size≤b)∧b≠X.env.locals∧(∀ x c,X.env.cells.lookup x=some c→c≠b)∧∀ p ∈ X.pn++pins,p.1≠b) :
  Inv X pins σ H' { s with heap:=h',gens:=g',drawn:=d',toks:=t' }:=by
 obtain ⟨m,⟨o,es,ep,ho,r⟩,_⟩:=id I.loc
 obtain ⟨sl,hL⟩:=u.any ho I.free fun z=>(hch _ z).2.1 rfl
 exact I.step (ch:=ch) hch (fun b o hL hb hc e n=>u.keep b o e n (fun z=>(List.mem_cons.mp (I.stkSub b z)).elim hL hb) hc) (fun b o _ _ hc e n=>u.any e n hc) (fun b o hc e n=>u.free b o e n hc) (fun b o hc e=>u.there b o e hc) u.tups u.frzs u.tbls (fun m' hm=>by
  obtain ⟨o',es',ep',ho',r'⟩:=hm
  rw [ho] at ho'; cases ho'
  exact ⟨_,es',ep',hL,r'⟩) hok hg
theorem Inv.turned {t':Nat} {it:Addr} (I:Inv X pins σ H s) (k:∀ b o,b≠it→s.heap.get? b=some o→h'.get? b=some o) (hn:H it=none) (hL:it≠X.env.locals)
  (h1:it ∈ X.ex∨X.s₀.heap.objs.size≤it) (h2:∀ x c,X.env.cells.lookup x=some c→c≠it) (h3:∀ p ∈ X.pn++pins,p.1≠it) : Inv X pins σ H { s with heap:=h',toks:=t' }:=by
 have nit:∀ b u,H b=some u→b≠it:=fun b u e z=>by rw [z,hn] at e; cases e
 refine I.step (g':=s.gens) (d':=s.drawn) (ch:=[it]) (fun b hb=>?_) (fun b o _ _ hc e _=>k b o (fun z=>hc (by simp [z])) e) (fun b o _ _ hc e _=>⟨o.slots,k b o (fun z=>hc (by simp [z])) e⟩) (fun _ _ _ _ n=>n)
  (fun b o hc e=>⟨o,k b o (fun z=>hc (by simp [z])) e⟩) (fun _ _ e=>e) (fun _ _ _ e=>e) (fun b ps e=>⟨#[],by rw [e]; simp⟩) (fun m hm=>?_) (fun b u e=>?_) I.bare
 ·have e:b=it:=by simpa using hb
  subst e
  exact ⟨h1,hL,h2,h3⟩
 ·obtain ⟨o,es,ep,ho,r⟩:=hm
  exact ⟨o,es,ep,k _ o (Ne.symm hL) ho,r⟩
 ·refine (I.hok b u e).stay (fun c v hc q=>k c v ?_ q) (fun _ q=>q) fun _ _ q=>q
  rcases hc with z | z
  ·rw [z]; exact nit b u e
  ·exact nit c _ z
theorem Inv.tok (I:Inv X pins σ H s) (t:Nat) : Inv X pins σ H { s with toks:=t }:=I.un (h':=s.heap) (t':=t) Un.refl I.hok
theorem Inv.kept {t':Nat} (I:Inv X pins σ H s) (k:∀ b u,s.heap.get? b=some u→h'.get? b=some u) : Inv X pins σ H { s with heap:=h',toks:=t' }:=I.un (Un.kept k) (I.hok.kept k)
theorem Inv.laid {a:Addr} {o:HO} {t':Nat} (I:Inv X pins σ H s) (k:∀ b u,s.heap.get? b=some u→h'.get? b=some u) (hp:s.heap.objs.size≤a) (new:ObjOk X.prog X.w (upd H a o) h' a o) :
  Inv X pins σ (upd H a o) { s with heap:=h',toks:=t' }:=I.un (Un.laid k hp (I.hok.fresh hp)) (I.hok.laid k hp new)
theorem Inv.write {x e:Addr} {o:HO} {t':Nat} (I:Inv X pins σ H s) (mu:Mut (H x)) (he:e=x∨H e=some (.own x)) (k:∀ b u,b≠e→s.heap.get? b=some u→h'.get? b=some u) (heo:∃ u,h'.get? e=some u)
  (new:ObjOk X.prog X.w (upd H x o) h' x o) : Inv X pins σ (upd H x o) { s with heap:=h',toks:=t' }:=I.un (Un.write mu he k heo) (I.hok.write mu he k heo new)
theorem Inv.pins_of {pins':List (Addr × Obj)} (I:Inv X pins σ H s) (h:∀ p ∈ pins',s.heap.get? p.1=some p.2∧H p.1=none∧p.1≠X.env.locals∧p.1 ∉ X.fs∧∀ v,p.2.data≠.cell v) : Inv X pins' σ H s:=
 ⟨I.ok,I.os,I.bare,I.base,I.loc,I.cell,I.free,I.freeC,fun p hp=>(List.mem_append.mp hp).elim (fun z=>I.pin p (List.mem_append_left _ z)) (h p),I.hok,I.len⟩

theorem nodup_ix {N:List Str} (hN:N.Nodup) {i j:Nat} {x:Str} (a:N[i]? = some x) (b:N[j]? = some x) : i=j:=by
 obtain ⟨h1,e1⟩:=List.getElem?_eq_some_iff.mp a
 obtain ⟨h2,e2⟩:=List.getElem?_eq_some_iff.mp b
 exact (List.getElem_inj hN).mp (e1.trans e2.symm)

theorem store_ok2 {M:Model} {A:Around} {E:Value→Shared→Prop} {i:Nat} {x:Str} {v:V} {u:Value} {Q:Unit→Shared→Prop} (I:Inv X pins σ H s) (hN:X.N.Nodup) (hi:X.N[i]? = some x) (hx:Loc X.env.scope x) (r:RelV v u)
  (h:∀ s',Inv X pins (σ.set i (some v)) H s'→(∃ a,Heap.SameBut a s.heap s'.heap∧(a=X.env.locals∨X.env.cells.lookup x=some a))→Q () s') (hf:X.fn x=true∨X.env.scope.names.lookup x=some .local:=by first | exact .inl rfl | exact .inr rfl | assumption) : wpAny M A (storeName X.env x u) Q E s:=by
 obtain ⟨m,hn,hl⟩:=id I.loc
 have hcls:(X.env.scope.kind == .class || (X.env.scope.kind == .module && X.env.locals != X.env.globals))=false:=by rw [I.ok.kind]; rfl
 have hiσ:i < σ.length:=by rw [I.len]; exact (List.getElem?_eq_some_iff.mp hi).1
 have cne:=I.cne
 have tracked:∀ {a:Addr} {h':Heap},(∃ o,s.heap.get? a=some o∧H a=none)→Heap.SameBut a s.heap h'→HOk X.prog X.w H h':=fun {a h'} ha hs b ob e=>by
  obtain ⟨_,_,hfree⟩:=ha
  refine (I.hok b ob e).stay (fun c w' hc q=>(hs.2 c ?_).trans q) (fun _ q=>q) fun _ _ q=>q
  rintro rfl
  rcases hc with rfl | hc
  ·rw [hfree] at e; cases e
  ·rw [hfree] at hc; cases hc
 rcases hx with hk | hk
 ·refine wpAny_storeName_local hk hn (fun h' hn' hs=>?_) hcls
  obtain ⟨oL,_,_,hoL,_⟩:=id hn
  refine h _ ⟨I.ok,I.os,I.bare,⟨fun b o e n hb hx=>?_,fun b o e n hb hx=>?_,I.base.free,fun b o e hx=>?_,I.base.tups,I.base.frzs,I.base.tbls⟩,⟨_,hn',fun j y v' e1 e2 e3=>?_⟩,fun y c e=>?_,I.free,I.freeC,fun p hp=>?_,tracked ⟨oL,hoL,I.free⟩ hs,by simpa using I.len⟩ ⟨_,hs,.inl rfl⟩
  ·exact (hs.2 b (Nat.ne_of_lt (Nat.lt_of_lt_of_le (Heap.lt_size e) I.ok.above))).trans (I.base.keep b o e n hb hx)
  ·obtain ⟨sl,e1⟩:=I.base.slot b o e n hb hx
   exact ⟨sl,(hs.2 b (Nat.ne_of_lt (Nat.lt_of_lt_of_le (Heap.lt_size e) I.ok.above))).trans e1⟩
  ·obtain ⟨o',e1⟩:=I.base.there b o e hx
   exact ⟨o',(hs.2 b (Nat.ne_of_lt (Nat.lt_of_lt_of_le (Heap.lt_size e) I.ok.above))).trans e1⟩
  ·by_cases hj:j=i
   ·subst hj
    rw [hi] at e1; cases e1
    rw [List.getElem?_set_self hiσ] at e2
    cases e2
    exact ⟨u,r,.inl ⟨hk,by simp⟩⟩
   ·rw [List.getElem?_set_ne (Ne.symm hj)] at e2
    obtain ⟨u',r',q⟩:=hl j y v' e1 e2 e3
    refine ⟨u',r',?_⟩
    rcases q with ⟨k,e⟩ | ⟨k,c,e,z⟩
    ·refine .inl ⟨k,?_⟩
     have:y≠x:=fun e=>hj (nodup_ix hN e1 (e ▸ hi))
     simp [this,e]
    ·exact .inr ⟨k,c,e,z.sameBut hs (cne y c e)⟩
  ·obtain ⟨w',z⟩:=I.cell y c e
   exact ⟨w',z.sameBut hs (cne y c e)⟩
  ·obtain ⟨e,n,ne,nf,d⟩:=I.pin p hp
   exact ⟨(hs.2 p.1 ne).trans e,n,ne,nf,d⟩
 ·have hfn:X.fn x=true:=by
   rcases hf with z | z
   ·exact z
   ·rw [z] at hk; cases hk
  obtain ⟨c,hc⟩:=I.ok.has x (.inl hk)
  obtain ⟨w',z⟩:=I.cell x c hc
  refine wpAny_storeName_cell I.ok.kind hk hc z (fun h' hc' hs=>?_)
  obtain ⟨oc,hoc,hocd⟩:=id z
  refine h { s with heap:=h' } ⟨I.ok,I.os,I.bare,⟨fun b o e n hb hx=>?_,fun b o e n hb hx=>?_,I.base.free,fun b o e hx=>?_,I.base.tups,I.base.frzs,I.base.tbls⟩,⟨m,hn.sameBut hs (Ne.symm (cne x c hc)),fun j y v' e1 e2 e3=>?_⟩,fun y c' e=>?_,I.free,I.freeC,fun p hp=>?_,tracked ⟨oc,hoc,I.freeC x c hc⟩ hs,by simpa using I.len⟩ ⟨c,hs,.inr hc⟩
  ·exact (hs.2 b (Nat.ne_of_lt (Nat.lt_of_lt_of_le (Heap.lt_size e) (I.ok.cab x c hfn hc)))).trans (I.base.keep b o e n hb hx)
  ·obtain ⟨sl,e1⟩:=I.base.slot b o e n hb hx
   exact ⟨sl,(hs.2 b (Nat.ne_of_lt (Nat.lt_of_lt_of_le (Heap.lt_size e) (I.ok.cab x c hfn hc)))).trans e1⟩
  ·obtain ⟨o',e1⟩:=I.base.there b o e hx
   exact ⟨o',(hs.2 b (Nat.ne_of_lt (Nat.lt_of_lt_of_le (Heap.lt_size e) (I.ok.cab x c hfn hc)))).trans e1⟩
  ·by_cases hj:j=i
   ·subst hj
    rw [hi] at e1; cases e1
    rw [List.getElem?_set_self hiσ] at e2
    cases e2
    exact ⟨u,r,.inr ⟨.inl hk,c,hc,hc'⟩⟩
   ·rw [List.getElem?_set_ne (Ne.symm hj)] at e2
    obtain ⟨u',r',q⟩:=hl j y v' e1 e2 e3
    refine ⟨u',r',?_⟩
    rcases q with q | ⟨k,c',e,z'⟩
    ·exact .inl q
    ·refine .inr ⟨k,c',e,z'.sameBut hs ?_⟩
     rintro rfl
     exact hj (nodup_ix hN e1 (I.ok.inj _ _ _ e hc ▸ hi))
  ·by_cases hcc:c' = c
   ·subst hcc; exact ⟨_,hc'⟩
   ·obtain ⟨w2,z2⟩:=I.cell y c' e
    exact ⟨w2,z2.sameBut hs hcc⟩
  ·obtain ⟨e,n,ne,nf,d⟩:=I.pin p hp
   refine ⟨(hs.2 p.1 ?_).trans e,n,ne,nf,d⟩
   intro q
   rw [q,hoc] at e
   have q':oc=p.2:=Option.some.inj e
   exact d w' (by rw [← q']; exact hocd)
theorem store_ok {M:Model} {A:Around} {E:Value→Shared→Prop} {i:Nat} {x:Str} {v:V} {u:Value} {Q:Unit→Shared→Prop} (I:Inv X pins σ H s) (hN:X.N.Nodup) (hi:X.N[i]? = some x) (hx:Loc X.env.scope x) (r:RelV v u)
  (h:∀ s',Inv X pins (σ.set i (some v)) H s'→Q () s') (hf:X.fn x=true∨X.env.scope.names.lookup x=some .local:=by first | exact .inl rfl | exact .inr rfl | assumption) : wpAny M A (storeName X.env x u) Q E s:=
 store_ok2 I hN hi hx r (fun s' I' _=>h s' I') hf
theorem Inv.call' {s':Shared} {ch:List Addr} (I:Inv X pins σ H s) (ho:s'.os=s.os) (u:Un (frs X.stack) ch H H' s.heap s'.heap) (hok:HOk X.prog X.w H' s'.heap) (hg:AllBare s'.gens)
  (hch:∀ b ∈ ch,(b ∈ X.ex∨X.s₀.heap.objs.size≤b)∧b≠X.env.locals∧(∀ x c,X.env.cells.lookup x=some c→c≠b)∧∀ p ∈ X.pn++pins,p.1≠b) : Inv X pins σ H' s':=by
 obtain ⟨h',g',d',t',o'⟩:=s'
 have e:o' = s.os:=ho
 subst e
 exact I.call (g':=g') (t':=t') (d':=d') u hok hg hch
end

abbrev XK:=Value→Option Addr→Hp→Prop
abbrev St:=List (Option V)
abbrev VK:=V→Hp→Prop
abbrev TE:=St→Hp→VK→Prop
abbrev TT:=St→Hp→(Bool→Hp→Prop)→Prop
abbrev TA:=St→Hp→(List V→Hp→Prop)→Prop
structure Ends where
 nx:St→Hp→Prop
 rt:VK
 bk:St→Hp→Prop:=fun _ _=>False
 ct:St→Hp→Prop:=fun _ _=>False
abbrev TS:=Ends→St→Hp→Prop

def EP (X:Cx) (pins:List (Addr × Obj)) (σ:St) (Q:VK) (u:Value) (s':Shared) : Prop:=∃ v H',Inv X pins σ H' s'∧RelV v u∧Q v H'
def TP (X:Cx) (pins:List (Addr × Obj)) (σ:St) (Q:Bool→Hp→Prop) (b:Bool) (s':Shared) : Prop:=∃ H',Inv X pins σ H' s'∧Q b H'
def AP (X:Cx) (pins:List (Addr × Obj)) (σ:St) (Q:List V→Hp→Prop) (us:List Value) (s':Shared) : Prop:=∃ vs H',Inv X pins σ H' s'∧Vals vs us∧Q vs H'
def SP (X:Cx) (pins:List (Addr × Obj)) (D:Ends) (f:Flow) (s':Shared) : Prop:=
 match f with
 | .next=>∃ σ' H',Inv X pins σ' H' s'∧D.nx σ' H'
 | .brk=>∃ σ' H',Inv X pins σ' H' s'∧D.bk σ' H'
 | .cont=>∃ σ' H',Inv X pins σ' H' s'∧D.ct σ' H'
 | .ret u=>∃ v σ' H',Inv X pins σ' H' s'∧RelV v u∧D.rt v H'

def PE (X:Cx) (e:Expr) (t:TE) : Prop:=
 ∀ (pins:List (Addr × Obj)) (s:Shared) (σ:St) (H:Hp) (Q:VK),Inv X pins σ H s→t σ H Q→wpAny (model X.prog X.w) X.A (eval e X.env) (EP X pins σ Q) X.xe s
def PT (X:Cx) (e:Expr) (t:TT) : Prop:=
 ∀ (pins:List (Addr × Obj)) (s:Shared) (σ:St) (H:Hp) (Q:Bool→Hp→Prop),Inv X pins σ H s→t σ H Q→wpAny (model X.prog X.w) X.A (isTrue e X.env (eval e X.env)) (TP X pins σ Q) X.xe s
def PW (X:Cx) (e:Expr) (t:TT) : Prop:=
 ∀ (whole:Sem Value) (pins:List (Addr × Obj)) (s:Shared) (σ:St) (H:Hp) (Q:Bool→Hp→Prop),Inv X pins σ H s→t σ H Q→wpAny (model X.prog X.w) X.A (isTrue e X.env whole) (TP X pins σ Q) X.xe s
theorem PW.pt {X:Cx} {e:Expr} {t:TT} (h:PW X e t) : PT X e t:=h _
def PA (X:Cx) (es:List Expr) (t:TA) : Prop:=
 ∀ (pos:Pos) (pins:List (Addr × Obj)) (s:Shared) (σ:St) (H:Hp) (Q:List V→Hp→Prop),Inv X pins σ H s→t σ H Q→wpAny (model X.prog X.w) X.A (spliced (backTo pos (starEach es X.env))) (AP X pins σ Q) X.xe s
def PS (X:Cx) (st:Stmt) (t:TS) : Prop:=
 ∀ (pins:List (Addr × Obj)) (s:Shared) (σ:St) (H:Hp) (D:Ends),Inv X pins σ H s→t D σ H→wpAny (model X.prog X.w) X.A (exec st X.env) (SP X pins D) X.xe s
def PSs (X:Cx) (st:List Stmt) (t:TS) : Prop:=
 ∀ (pins:List (Addr × Obj)) (s:Shared) (σ:St) (H:Hp) (D:Ends),Inv X pins σ H s→t D σ H→wpAny (model X.prog X.w) X.A (execs st X.env) (SP X pins D) X.xe s
theorem thn {α:Type} {t:Sem α} {Q Q':α→Shared→Prop} {M:Model} {A:Around} {E:Value→Shared→Prop} {s:Shared} (h:wpAny M A t Q E s) (hQ:∀ a s,Q a s→Q' a s) : wpAny M A t Q' E s:=wpAny_mono h hQ fun _ _ x=>x
section
variable {X:Cx}

def tVar (i:Nat) : TE:=fun σ H Q=>∃ v,σ[i]? = some (some v)∧Q v H
def tC (v:V) : TE:=fun _ H Q=>Q v H
theorem pe_var {i:Nat} {x:Str} {pos:Pos} (hN:X.N[i]? = some x) (hv:Vis X.env.scope x) (hd:(x == ("__debug__" : Str))=false:=by decide) (hcd:(x == ("__classdict__" : Str))=false:=by decide) : PE X (.Name x pos) (tVar i):=by
 intro pins s σ H Q I h
 obtain ⟨v,e,h⟩:=h
 obtain ⟨m,hn,hl⟩:=I.loc
 obtain ⟨u,r,l⟩:=hl i x v hN e hv
 have fin:EP X pins σ Q u s:=⟨v,H,I,r,h⟩
 rcases l with ⟨hk,hm⟩ | ⟨hk,c,hc,hcell⟩
 ·exact wpAny_Name (wpAny_loadName_local I.ok.kind hk hn hm fin) hd
 ·rcases hk with hk | hk
  ·exact wpAny_Name (wpAny_loadName_cell I.ok.kind hk hc hcell fin) hd
  ·exact wpAny_Name (wpAny_loadName_free I.ok.kind hk hc hcell fin hcd) hd
theorem pe_int {i j pos} : PE X (.Constant (.int i) j pos) (tC (.int i)):=fun _ _ _ H _ I h=>wpAny_Constant_int ⟨.int i,H,I.tok _,⟨_,rfl⟩,h⟩
theorem pe_bl {b j pos} : PE X (.Constant (.bool b) j pos) (tC (.bl b)):=fun _ _ _ H _ I h=>Constant_bool ⟨.bl b,H,I,rfl,h⟩
theorem pe_str {x j pos} : PE X (.Constant (.str x) j pos) (tC (.str x)):=fun _ _ _ H _ I h=>Calls.Constant_str ⟨.str x,H,I.tok _,⟨_,rfl⟩,h⟩

def Gl (X:Cx) (x:Str) : Prop:=X.env.kindOf x=some .globalImplicit
theorem ld_glob {E:Value→Shared→Prop} {pins:List (Addr × Obj)} {s:Shared} {σ:St} {H:Hp} {x:Str} {u:Value} {pos:Pos} {Q:Value→Shared→Prop} (I:Inv X pins σ H s) (hg:Gl X x) (hm:X.mg x=some u) (h:Q u s)
  (hd:(x == ("__debug__" : Str))=false:=by decide) : wpAny (model X.prog X.w) X.A (eval (.Name x pos) X.env) Q E s:=
 Calls.Name_function_global I.ok.kind hg (Calls.loadGlobal_global (by rw [I.ok.glob]; exact I.mod.glob.keeps I.bk) hm h) hd
theorem ld_blt {E:Value→Shared→Prop} {pins:List (Addr × Obj)} {s:Shared} {σ:St} {H:Hp} {x:Str} {u:Value} {pos:Pos} {Q:Value→Shared→Prop} (I:Inv X pins σ H s) (hg:Gl X x) (hm:X.mg x=none) (hv:bootBuiltins x=some u) (h:Q u s)
  (hn:x≠"__name__":=by decide) (hd:(x == ("__debug__" : Str))=false:=by decide) : wpAny (model X.prog X.w) X.A (eval (.Name x pos) X.env) Q E s:=by
 obtain ⟨mb,h1,h2⟩:=I.mod.blt
 exact Calls.Name_function_global I.ok.kind hg (Calls.loadGlobal_builtin (by rw [I.ok.glob]; exact I.mod.glob.keeps I.bk) hm (by rw [I.ok.blt]; exact h1.keeps I.bk) ((h2 x hn).trans hv) h) hd
theorem pe_glob {x:Str} {v:V} {u:Value} {pos:Pos} (hg:Gl X x) (hm:X.mg x=some u) (r:RelV v u) (hd:(x == ("__debug__" : Str))=false:=by decide) : PE X (.Name x pos) (tC v):=
 fun _ _ _ H _ I h=>ld_glob I hg hm ⟨v,H,I,r,h⟩ hd
theorem pe_bltn {x:Str} {v:V} {u:Value} {pos:Pos} (hg:Gl X x) (hm:X.mg x=none) (hv:bootBuiltins x=some u) (r:RelV v u) (hn:x≠"__name__":=by decide) (hd:(x == ("__debug__" : Str))=false:=by decide) : PE X (.Name x pos) (tC v):=
 fun _ _ _ H _ I h=>ld_blt I hg hm hv ⟨v,H,I,r,h⟩ hn hd

variable {a b:Expr} {ta tb:TE} {pos:Pos}
def tB (t:TE) : TT:=fun σ H Q=>t σ H fun x H1=>∃ c,x = .bl c∧Q c H1
theorem pt_val {e:Expr} {t:TE} (h:PE X e t) (he:∀ whole,isTrue e X.env whole=(do let v ← whole; standAt e.pos; holding [v] (truthy v)):=by intro _; rfl) : PT X e (tB t):=by
 intro pins s σ H Q I hw
 refine isTrue_plain (thn (h pins s σ H _ I hw) fun v s1 ⟨x,H1,I1,r1,q1⟩=>?_) (he _)
 obtain ⟨d,rfl,q⟩:=q1
 cases r1
 exact wpAny_truthy_bool ⟨H1,I1,q⟩

variable {tA tB':TT} {rest:List Expr}
def tAnd (t u:TT) : TT:=fun σ H Q=>t σ H fun c H1=>if c=true then u σ H1 Q else Q false H1
def tOr (t u:TT) : TT:=fun σ H Q=>t σ H fun c H1=>if c=true then Q true H1 else u σ H1 Q
def tNot (t:TT) : TT:=fun σ H Q=>t σ H fun c H1=>Q (!c) H1
theorem pw_and1 (ha:PT X a tA) : PW X (.BoolOp .And [a] pos) tA:=by
 intro wh pins s σ H Q I h
 refine isTrue_and (thn (ha pins s σ H Q I h) fun c s1 e=>?_)
 cases c with
 | true=>exact isTrue_and_nil e
 | false=>exact e
theorem pw_or1 (ha:PT X a tA) : PW X (.BoolOp .Or [a] pos) tA:=by
 intro wh pins s σ H Q I h
 refine isTrue_or (thn (ha pins s σ H Q I h) fun c s1 e=>?_)
 cases c with
 | false=>exact isTrue_or_nil e
 | true=>exact e
theorem pw_and (ha:PT X a tA) (hb:PW X (.BoolOp .And (b :: rest) pos) tB') : PW X (.BoolOp .And (a :: b :: rest) pos) (tAnd tA tB'):=by
 intro wh pins s σ H Q I h
 refine isTrue_and (thn (ha pins s σ H _ I h) fun c s1 ⟨H1,I1,q1⟩=>?_)
 cases c with
 | true=>exact hb wh pins s1 σ H1 Q I1 q1
 | false=>exact ⟨H1,I1,q1⟩
theorem pw_or (ha:PT X a tA) (hb:PW X (.BoolOp .Or (b :: rest) pos) tB') : PW X (.BoolOp .Or (a :: b :: rest) pos) (tOr tA tB'):=by
 intro wh pins s σ H Q I h
 refine isTrue_or (thn (ha pins s σ H _ I h) fun c s1 ⟨H1,I1,q1⟩=>?_)
 cases c with
 | true=>exact ⟨H1,I1,q1⟩
 | false=>exact hb wh pins s1 σ H1 Q I1 q1
theorem pt_not (ha:PT X a tA) : PT X (.UnaryOp .Not a pos) (tNot tA):=by
 intro pins s σ H Q I h
 exact isTrue_not (ha pins s σ H (fun c H1=>Q (!c) H1) I h)
def tAndV (ta tb:TE) : TE:=fun σ H Q=>ta σ H fun x H1=>∃ c,x = .bl c∧if c=true then tb σ H1 Q else Q (.bl false) H1
def tOrV (ta tb:TE) : TE:=fun σ H Q=>ta σ H fun x H1=>∃ c,x = .bl c∧if c=true then Q (.bl true) H1 else tb σ H1 Q
theorem pe_one {op} {t:TE} (h:PE X a t) : PE X (.BoolOp op [a] pos) t:=fun pins s σ H Q I hw=>BoolOp_one (h pins s σ H Q I hw)
theorem pe_and (ha:PE X a ta) (hb:PE X (.BoolOp .And (b :: rest) pos) tb) : PE X (.BoolOp .And (a :: b :: rest) pos) (tAndV ta tb):=by
 intro pins s σ H Q I h
 refine BoolOp_and (thn (ha pins s σ H _ I h) fun v s1 ⟨x,H1,I1,r1,q1⟩=>?_)
 obtain ⟨c,rfl,q1⟩:=q1
 cases r1
 refine wpAny_truthy_bool ?_
 cases c with
 | true=>exact hb pins s1 σ H1 Q I1 q1
 | false=>exact ⟨.bl false,H1,I1,rfl,q1⟩
theorem pe_or (ha:PE X a ta) (hb:PE X (.BoolOp .Or (b :: rest) pos) tb) : PE X (.BoolOp .Or (a :: b :: rest) pos) (tOrV ta tb):=by
 intro pins s σ H Q I h
 refine BoolOp_or (thn (ha pins s σ H _ I h) fun v s1 ⟨x,H1,I1,r1,q1⟩=>?_)
 obtain ⟨c,rfl,q1⟩:=q1
 cases r1
 refine wpAny_truthy_bool ?_
 cases c with
 | false=>exact hb pins s1 σ H1 Q I1 q1
 | true=>exact ⟨.bl true,H1,I1,rfl,q1⟩
end

def SqL (K:PySem.W.Frag) (H:Hp) (a:Addr) (xs:List V) : Prop:=
 Rd H a (.lst xs) ∨
  ∃ (o:Obj) (its:Array Value) (n:Nat),K.lookup a=some o∧o.cls = .type "list"∧o.dict=none∧o.data = .seq its n∧its.size≤sizeLine∧Vals xs its.toList
def SqT (K:PySem.W.Frag) (H:Hp) (a:Addr) (xs:List V) : Prop:=
 Rd H a (.tup xs) ∨
  ∃ (o:Obj) (its:Array Value) (n:Nat),K.lookup a=some o∧o.cls = .type "tuple"∧o.data = .seq its n∧its.size≤sizeLine∧Vals xs its.toList
def absV:Value→Option V
 | .none=>some .non
 | .bool b=>some (.bl b)
 | .int i _=>some (.int i)
 | .str x _=>some (.str x)
 | .bytes b _=>some (.byt b)
 | .float b _=>some (.flt b)
 | .ref a=>some (.ref a)
 | .type n=>some (.ty n)
 | _=>none
theorem RelV.abs {x:V} {u:Value} (r:RelV x u) : absV u=some x:=by
 cases x with
 | non=>cases r; rfl
 | bl _=>cases r; rfl
 | int _=>obtain ⟨t,rfl⟩:=r; rfl
 | str _=>obtain ⟨t,rfl⟩:=r; rfl
 | byt _=>obtain ⟨t,rfl⟩:=r; rfl
 | flt _=>obtain ⟨t,rfl⟩:=r; rfl
 | ref _=>cases r; rfl
 | ty _=>cases r; rfl
theorem RelV.inj {x y:V} {u:Value} (r:RelV x u) (q:RelV y u) : x=y:=Option.some.inj (r.abs.symm.trans q.abs)
theorem Vals.inj:∀ {xs ys:List V} {us:List Value},Vals xs us→Vals ys us→xs=ys
 | _,_,_,.nil,.nil=>rfl
 | _,_,_,.cons r t,.cons r' t'=>by rw [r.inj r',Vals.inj t t']
section
variable {X:Cx} {pins:List (Addr × Obj)} {σ:St} {H:Hp} {s:Shared} {a:Addr} {xs ys:List V}
theorem SqL.of {K:PySem.W.Frag} (h:H a=some (.lst xs)) : SqL K H a xs:=.inl (.inl h)
theorem SqT.of {K:PySem.W.Frag} (h:H a=some (.tup xs)) : SqT K H a xs:=.inl (.inl h)
theorem Inv.list (I:Inv X pins σ H s) (h:SqL X.K H a xs) : ∃ its:List Value,Vals xs its∧PlainL s.heap a its.toArray∧xs.length≤sizeLine:=by
 rcases h with h | ⟨o,its,n,hk,hc,hd,hs,hz,r⟩
 ·obtain ⟨z,its,n,r,e⟩:=h.ok I.hok
  exact ⟨its,r,⟨_,n,e,rfl,rfl,rfl⟩,z⟩
 ·refine ⟨its.toList,r,⟨o,n,I.kIn a o hk,hc,hd,by simpa using hs⟩,?_⟩
  have e:=r.length
  simp only [Array.length_toList] at e
  omega
theorem Inv.tuple (I:Inv X pins σ H s) (h:SqT X.K H a xs) : ∃ its:List Value,Vals xs its∧IsTup s.heap a its.toArray∧xs.length≤sizeLine:=by
 rcases h with h | ⟨o,its,n,hk,hc,hs,hz,r⟩
 ·obtain ⟨z,its,r,p⟩:=h.ok I.hok
  exact ⟨its,r,p,z⟩
 ·refine ⟨its.toList,r,⟨o,I.kIn a o hk,hc,n,by simpa using hs⟩,?_⟩
  have e:=r.length
  simp only [Array.length_toList] at e
  omega
theorem Inv.list_inj (I:Inv X pins σ H s) (h:SqL X.K H a xs) (h':SqL X.K H a ys) : xs=ys:=by
 obtain ⟨its,r,⟨o,n,e,_,_,d⟩,_⟩:=I.list h
 obtain ⟨its',r',⟨o',n',e',_,_,d'⟩,_⟩:=I.list h'
 rw [e] at e'; cases e'
 rw [d] at d'
 injection d' with d1 _
 have:its=its':=by simpa using congrArg Array.toList d1
 subst this
 exact r.inj r'
end

abbrev Cx.wish (X:Cx) (E:Value→Shared→Prop) : Cx:={ X with xe:=E }
abbrev Cx.nox (X:Cx) : Cx:=X.wish fun _ _=>False
theorem Cx.Ok.wish {X:Cx} (ok:X.Ok) (E:Value→Shared→Prop) : (X.wish E).Ok:=
 ⟨ok.mod,ok.kind,ok.glob,ok.blt,ok.above,ok.inj,ok.has,ok.cab,ok.hd,ok.frames,ok.stk,ok.exf,ok.bs,ok.bsz,ok.noex,ok.exfs,ok.funs,ok.frf⟩
theorem Cx.Ok.unwish {X:Cx} {E:Value→Shared→Prop} (ok:(X.wish E).Ok) : X.Ok:=
 ⟨ok.mod,ok.kind,ok.glob,ok.blt,ok.above,ok.inj,ok.has,ok.cab,ok.hd,ok.frames,ok.stk,ok.exf,ok.bs,ok.bsz,ok.noex,ok.exfs,ok.funs,ok.frf⟩
section
variable {X:Cx} {pins:List (Addr × Obj)} {σ:St} {H:Hp} {s:Shared} {E:Value→Shared→Prop}
theorem Inv.wish (I:Inv X pins σ H s) (E:Value→Shared→Prop) : Inv (X.wish E) pins σ H s:=⟨I.ok.wish E,I.os,I.bare,I.base,I.loc,I.cell,I.free,I.freeC,I.pin,I.hok,I.len⟩
theorem Inv.unwish (I:Inv (X.wish E) pins σ H s) : Inv X pins σ H s:=⟨I.ok.unwish,I.os,I.bare,I.base,I.loc,I.cell,I.free,I.freeC,I.pin,I.hok,I.len⟩
theorem SP.unwish {D:Ends} {f:Flow} {s':Shared} (h:SP (X.wish E) pins D f s') : SP X pins D f s':=by
 cases f with
 | next=>obtain ⟨σ',H',I,q⟩:=h; exact ⟨σ',H',I.unwish,q⟩
 | brk=>obtain ⟨σ',H',I,q⟩:=h; exact ⟨σ',H',I.unwish,q⟩
 | cont=>obtain ⟨σ',H',I,q⟩:=h; exact ⟨σ',H',I.unwish,q⟩
 | ret u=>obtain ⟨v,σ',H',I,r,q⟩:=h; exact ⟨v,σ',H',I.unwish,r,q⟩
theorem PE.nox {e:Expr} {t:TE} (h:PE X.nox e t) : PE X e t:=fun pins s σ H Q I hw =>
 wpAny_mono (h pins s σ H Q (I.wish _) hw) (fun _ _ ⟨v,H',I',r,q⟩=>⟨v,H',I'.unwish,r,q⟩) fun _ _ z=>False.elim z
theorem PT.nox {e:Expr} {t:TT} (h:PT X.nox e t) : PT X e t:=fun pins s σ H Q I hw =>
 wpAny_mono (h pins s σ H Q (I.wish _) hw) (fun _ _ ⟨H',I',q⟩=>⟨H',I'.unwish,q⟩) fun _ _ z=>False.elim z
theorem PSs.nox {st:List Stmt} {t:TS} (h:PSs X.nox st t) : PSs X st t:=fun pins s σ H D I hw =>
 wpAny_mono (h pins s σ H D (I.wish _) hw) (fun _ _ q=>q.unwish) fun _ _ z=>False.elim z
end

section
variable {X:Cx} {st:Stmt} {rest:List Stmt} {t u:TS} {e:Expr} {te:TE} {pos:Pos}
def tNext:TS:=fun D σ H=>D.nx σ H
def tSeq (t u:TS) : TS:=fun D σ H=>t { D with nx:=u D } σ H
theorem pss_nil:PSs X [] tNext:=fun _ _ σ H _ I h=>wpAny_execs_nil ⟨σ,H,I,h⟩
theorem pss_cons (h1:PS X st t) (h2:PSs X rest u) : PSs X (st :: rest) (tSeq t u):=by
 intro pins s σ H D I h
 refine wpAny_execs_cons (thn (h1 pins s σ H { D with nx:=u D } I h) fun f s1 q=>?_)
 cases f with
 | next =>
  obtain ⟨σ',H',I',q⟩:=q
  exact h2 pins s1 σ' H' D I' q
 | ret v=>exact q
 | brk=>exact q
 | cont=>exact q
theorem pss_one (h1:PS X st t) : PSs X [st] t:=by
 intro pins s σ H D I h
 refine wpAny_execs_cons (thn (h1 pins s σ H D I h) fun f s1 q=>?_)
 cases f with
 | next=>exact wpAny_execs_nil q
 | ret v=>exact q
 | brk=>exact q
 | cont=>exact q
theorem Inv.quiet {pins:List (Addr × Obj)} {σ:St} {H:Hp} {s:Shared} (I:Inv X pins σ H s) : interactive X.env=false:=by simp [interactive,I.ok.kind]
def tDrop (te:TE) : TS:=fun D σ H=>te σ H fun _ H1=>D.nx σ H1
theorem ps_expr (he:PE X e te) (hs:swapsWith e none pos.line X.env=pure false:=by rfl) : PS X (.Expr e pos) (tDrop te):=by
 intro pins s σ H D I h
 exact wpAny_Expr_any (thn (he pins s σ H _ I h) fun v s1 ⟨x,H1,I1,r1,q1⟩=>⟨σ,H1,I1,q1⟩) I.quiet hs
def tRet (te:TE) : TS:=fun D σ H=>te σ H D.rt
theorem ps_ret (he:PE X e te) : PS X (.Return (some e) pos) (tRet te):=by
 intro pins s σ H D I h
 exact wpAny_Return_some (thn (he pins s σ H _ I h) fun v s1 ⟨x,H1,I1,r1,q1⟩=>⟨x,σ,H1,I1,r1,q1⟩)
def tIfS (c:TT) (t u:TS) : TS:=fun D σ H=>c σ H fun b H1=>if b=true then t D σ H1 else u D σ H1
theorem ps_if {c:Expr} {a b:List Stmt} {tc:TT} (hc:PT X c tc) (ha:PSs X a t) (hb:PSs X b u) : PS X (.If c a b pos) (tIfS tc t u):=by
 intro pins s σ H D I h
 refine wpAny_If (thn (hc pins s σ H _ I h) fun d s1 ⟨H1,I1,q1⟩=>?_)
 cases d with
 | true=>exact ha pins s1 σ H1 D I1 q1
 | false=>exact hb pins s1 σ H1 D I1 q1
end

abbrev TG:=V→St→Hp→(St→Hp→Prop)→Prop
abbrev TGs:=List V→St→Hp→(St→Hp→Prop)→Prop
def PG (X:Cx) (target:Expr) (t:TG) : Prop:=
 ∀ (pins:List (Addr × Obj)) (s:Shared) (σ:St) (H:Hp) (v:V) (u:Value) (Q:St→Hp→Prop),Inv X pins σ H s→RelV v u→t v σ H Q →
  wpAny (model X.prog X.w) X.A (assign target X.env u) (fun _ s'=>∃ σ' H',Inv X pins σ' H' s'∧Q σ' H') X.xe s
def PGs (X:Cx) (ts:List Expr) (t:TGs) : Prop:=
 ∀ (pins:List (Addr × Obj)) (s:Shared) (σ:St) (H:Hp) (vs:List V) (us:List Value) (Q:St→Hp→Prop),Inv X pins σ H s→Vals vs us→t vs σ H Q →
  wpAny (model X.prog X.w) X.A (assignInOrder ((assignEach ts X.env).map (·.2)) us) (fun _ s'=>∃ σ' H',Inv X pins σ' H' s'∧Q σ' H') X.xe s
section
variable {X:Cx} {pos:Pos}
def gName (i:Nat) : TG:=fun v σ H Q=>Q (σ.set i (some v)) H
theorem pg_name {i:Nat} {x:Str} (hN:X.N.Nodup) (hi:X.N[i]? = some x) (hx:Loc X.env.scope x) (hf:X.fn x=true∨X.env.scope.names.lookup x=some .local:=by first | exact .inl rfl | exact .inr rfl | assumption) : PG X (.Name x pos) (gName i):=by
 intro pins s σ H v u Q I r h
 exact wpAny_assign_Name (store_ok I hN hi hx r (fun s' I'=>⟨_,H,I',h⟩) hf)
def gNil:TGs:=fun vs σ H Q=>vs=[]∧Q σ H
def gCons (t:TG) (u:TGs) : TGs:=fun vs σ H Q=>∃ v r,vs=v :: r∧t v σ H fun σ' H'=>u r σ' H' Q
theorem pgs_nil:PGs X [] gNil:=by
 intro pins s σ H vs us Q I r h
 obtain ⟨e,h⟩:=h
 subst e
 cases r
 exact assignInOrder_nil ⟨σ,H,I,h⟩
theorem pgs_cons {e:Expr} {es:List Expr} {t:TG} {u:TGs} (h1:PG X e t) (h2:PGs X es u)
  (hs:(assignEach (e :: es) X.env).map (·.2)=assign e X.env :: (assignEach es X.env).map (·.2):=by rfl) : PGs X (e :: es) (gCons t u):=by
 intro pins s σ H vs us Q I r h
 obtain ⟨v,vr,e1,h⟩:=h
 subst e1
 cases r with
 | cons r rr =>
  rw [hs]
  refine assignInOrder_cons (thn (h1 pins s σ H _ _ _ I r h) fun _ s1 ⟨σ1,H1,I1,q1⟩=>?_)
  exact h2 pins s1 σ1 H1 _ _ Q I1 rr q1
def gTup (K:PySem.W.Frag) (n:Nat) (t:TGs) : TG:=fun v σ H Q=>∃ a xs,v = .ref a∧SqT K H a xs∧xs.length=n∧t xs σ H Q
theorem pg_tup {es:List Expr} {k:Nat} {t:TGs} {n:Nat} (hc:X.calm=true) (h:PGs X es t)
  (hn:(assignEach es X.env).length=n:=by rfl) (hst:(assignEach es X.env).findIdx? (·.1)=none:=by rfl) : PG X (.Tuple es k pos) (gTup X.K n t):=by
 intro pins s σ H v u Q I r hw
 obtain ⟨a,xs,e1,hq,hl,hw⟩:=hw
 subst e1
 cases r
 obtain ⟨its,rv,ht,hz⟩:=I.tuple hq
 refine assign_Tuple_tuple (I.ok.hd hc) ht (by simp [hn,← hl,rv.length]) hst fun h' hx=>?_
 have I1:Inv X pins σ H { s with heap:=h' }:=I.kept (t':=s.toks) fun b o e=>hx b o (Nat.ne_of_lt (Heap.lt_size e)) e
 exact h pins _ σ H xs _ Q I1 (by simpa using rv) hw
def tAsg (te:TE) (g:TG) : TS:=fun D σ H=>te σ H fun x H1=>g x σ H1 D.nx
theorem ps_set {i:Nat} {x:Str} {e:Expr} {te:TE} {pos':Pos} (hN:X.N.Nodup) (hi:X.N[i]? = some x) (hx:Loc X.env.scope x) (he:PE X e te) (hs:swapsWith e (some (.Name x pos')) pos.line X.env=pure false:=by rfl) (hf:X.fn x=true∨X.env.scope.names.lookup x=some .local:=by first | exact .inl rfl | exact .inr rfl | assumption) :
  PS X (.Assign [.Name x pos'] e pos) (tAsg te (gName i)):=by
 intro pins s σ H D I h
 refine wpAny_Assign_Name (thn (he pins s σ H _ I h) fun v s1 ⟨y,H1,I1,r1,q1⟩=>?_) hs
 exact store_ok I1 hN hi hx r1 (fun s2 I2=>⟨_,H1,I2,q1⟩) hf
end

section
variable {X:Cx} {pos:Pos}
end

structure It where
 go:Nat→Hp→Prop
 yld:Nat→Hp→V→Hp→Prop
 stop:Nat→Hp→Prop
def FpOk (X:Cx) (pins:List (Addr × Obj)) (H:Hp) (b:Addr) : Prop:=
 H b=none∧b≠X.env.locals∧b ∉ X.fs∧(b ∈ X.ex∨X.s₀.heap.objs.size≤b)∧(∀ x c,X.env.cells.lookup x=some c→c≠b)∧∀ p ∈ X.pn++pins,p.1≠b
theorem Inv.fpOk {X:Cx} {pins:List (Addr × Obj)} {σ:St} {H H':Hp} {s:Shared} {b:Addr} (I:Inv X pins σ H s) (hb:s.heap.objs.size≤b) (hn:H' b=none) : FpOk X pins H' b:=by
 refine ⟨hn,Nat.ne_of_gt (Nat.lt_of_lt_of_le I.lt hb),I.nofs hb,.inr (Nat.le_trans I.sz hb),fun x c e z=>?_,fun p hp z=>?_⟩
 ·obtain ⟨v,q⟩:=I.cell x c e
  exact absurd (Nat.lt_of_lt_of_le q.lt (by rw [z]; exact hb)) (Nat.lt_irrefl _)
 ·exact absurd (Nat.lt_of_lt_of_le (Heap.lt_size (I.pin p hp).1) (by rw [z]; exact hb)) (Nat.lt_irrefl _)
structure Turn (P:Program) (w:World) (K:PySem.W.Frag) (tg:Expr) (J:It) (fp:List Addr) (it:Addr) (tn:Nat→Heap→Prop) : Prop where
 mem:it ∈ fp
 obj:∀ i h,tn i h→∀ b ∈ fp,∃ o,h.get? b=some o∧∀ v,o.data≠.cell v
 keep:∀ i h h',tn i h→(∀ b ∈ fp,∀ o,h.get? b=some o→h'.get? b=some o)→tn i h'
 item:∀ (X:Cx),X.prog=P→X.w=w→X.K=K→X.calm=true→∀ (i:Nat) (pins:List (Addr × Obj)) (s:Shared) (σ:St) (H:Hp) (E:Value→Shared→Prop),Inv X pins σ H s→(∀ b ∈ fp,FpOk X pins H b)→tn i s.heap→J.go i H →
  wpAny (model P w) X.A (pyNext (.ref it)) (fun r s1=>∃ u,r=some u ∧
   wpAny (model P w) X.A (letOwnedTupleGo tg (.ref it) u) (fun _ s2=>∃ x H',Inv X pins σ H' s2∧RelV x u∧J.yld i H x H'∧tn (i+1) s2.heap∧∀ b ∈ fp,H' b=none) E s1) E s
 done:∀ (X:Cx),X.prog=P→X.w=w→X.K=K→X.calm=true→∀ (i:Nat) (pins:List (Addr × Obj)) (s:Shared) (σ:St) (H:Hp) (E:Value→Shared→Prop),Inv X pins σ H s→(∀ b ∈ fp,FpOk X pins H b)→tn i s.heap→J.stop i H →
  wpAny (model P w) X.A (pyNext (.ref it)) (fun r s1=>r=none∧Inv X pins σ H s1) E s
 self:∀ (A:Around) (i:Nat) (s:Shared) (Q:Value→Shared→Prop) (E:Value→Shared→Prop),tn i s.heap→Q (.ref it) s→wpAny (model P w) A (pyIter (.ref it)) Q E s
abbrev TI:=St→Hp→(It→Hp→Prop)→Prop
def PIE (X:Cx) (pins:List (Addr × Obj)) (σ:St) (tg:Expr) (R:It→Hp→Prop) (itv:Value) (s2:Shared) : Prop:=
 ∃ (it:Addr) (fp:List Addr) (tn:Nat→Heap→Prop) (J:It) (H':Hp),itv = .ref it∧Inv X pins σ H' s2∧Turn X.prog X.w X.K tg J fp it tn∧tn 0 s2.heap∧(∀ b ∈ fp,FpOk X pins H' b)∧R J H'
def PI (X:Cx) (tg iter:Expr) (wi:TI) : Prop:=
 ∀ (pins:List (Addr × Obj)) (s:Shared) (σ:St) (H:Hp) (R:It→Hp→Prop),Inv X pins σ H s→wi σ H R →
  wpAny (model X.prog X.w) X.A (eval iter X.env) (fun v s1=>wpAny (model X.prog X.w) X.A (pyIter v) (PIE X pins σ tg R) X.xe s1) X.xe s

theorem go_of {M:Model} {A:Around} {E:Value→Shared→Prop} {s:Shared} {tg:Expr} {it:Addr} {u:Value} {o:Obj} {n:String} {vs:Array Value} {Q:Unit→Shared→Prop} (ho:s.heap.get? it=some o) (hc:o.cls = .type n) (hd:o.data = .fields vs)
  (hn:["enumerate","zip","dict_itemiterator","dict_reverseitemiterator","odict_iterator","itertools.zip_longest","itertools.pairwise"].contains n=false) (hQ:Q () s) : wpAny M A (letOwnedTupleGo tg (.ref it) u) Q E s:=by
 unfold letOwnedTupleGo
 cases tg <;> first
  | exact wpAny_pure hQ
  | (cases u <;> first
    | exact wpAny_pure hQ
    | (refine wpAny_bind (wpAny_load ho ?_)
       rw [hc,hd]
       show wpAny M A (if (["enumerate","zip","dict_itemiterator","dict_reverseitemiterator","odict_iterator","itertools.zip_longest","itertools.pairwise"].contains n && vs[0]? == some (rawInt _))=true then _ else _) Q E s
       rw [if_neg (by intro h; rw [hn,Bool.false_and] at h; cases h)]
       exact wpAny_pure hQ))

def Itl (K:PySem.W.Frag) (a:Addr) : It:=
 ⟨fun i H=>∃ xs x,SqL K H a xs∧xs[i]? = some x,fun i H x H'=>H' = H∧∀ xs,SqL K H a xs→xs[i]? = some x,fun i H=>∃ xs,SqL K H a xs∧xs.length≤i⟩
def Itr (lo:Int) (n:Nat) : It:=⟨fun i _=>i < n,fun i H x H'=>H' = H∧x = .int (lo+i),fun i _=>n≤i⟩
theorem turn_list {P:Program} {w:World} {K:PySem.W.Frag} {tg:Expr} (a it:Addr) : Turn P w K tg (Itl K a) [it] it (fun i h=>h.IsListIter it a i) where
 mem:=by simp
 obj:=fun i h st b hb=>by
  have e:b=it:=by simpa using hb
  subst e
  obtain ⟨o,e,c,d⟩:=st
  exact ⟨o,e,fun v z=>by rw [d] at z; cases z⟩
 keep:=fun i h h' st k=>st.at fun o e=>k it (by simp) o e
 item:=by
  intro X hP hw hK hc i pins s σ H E I hf st hg
  subst hP hw hK
  obtain ⟨xs,x,hq,hx⟩:=hg
  obtain ⟨its,rv,p,hz⟩:=I.list hq
  obtain ⟨u,hu,ru⟩:=rv.get hx
  obtain ⟨f0,f1,f2,f3,f4,f5⟩:=hf it (by simp)
  refine wpAny_pyNext_list_item st p.isList (x:=u) (by simpa using hu) fun h' st' sb=>?_
  have I1:Inv X pins σ H { s with heap:=h' }:=I.turned (t':=s.toks) (fun b o hb e=>(sb.2 b hb).trans e) f0 f1 f3 f4 f5
  obtain ⟨o,e,c,d⟩:=id st'
  exact ⟨u,rfl,go_of (s:={ s with heap:=h' }) e c d (by decide) ⟨x,H,I1,ru,⟨rfl,fun ys hy=>by rw [I.list_inj hy hq]; exact hx⟩,st',fun b hb=>(hf b hb).1⟩⟩
 done:=by
  intro X hP hw hK hc i pins s σ H E I hf st hg
  subst hP hw hK
  obtain ⟨xs,hq,hx⟩:=hg
  obtain ⟨its,rv,p,hz⟩:=I.list hq
  obtain ⟨f0,f1,f2,f3,f4,f5⟩:=hf it (by simp)
  have hl:=rv.length
  exact wpAny_pyNext_list_end (I.ok.hd hc) st p.isList (by simp; omega) fun h' eb=>⟨rfl,I.turned (t':=s.toks) (fun b o hb e=>eb b o hb e) f0 f1 f3 f4 f5⟩
 self:=fun _ _ _ _ _ st h=>wpAny_pyIter_listiter st h
theorem turn_range {P:Program} {w:World} {K:PySem.W.Frag} {tg:Expr} (it:Addr) (lo:Int) (n:Nat) : Turn P w K tg (Itr lo n) [it] it (fun i h=>IsRangeIter h it (lo+(i:Nat) * 1) ((n:Int) - (i:Nat)) 1) where
 mem:=by simp
 obj:=fun i h st b hb=>by
  have e:b=it:=by simpa using hb
  subst e
  exact ⟨_,st,fun v z=>by
   have z':Data.fields _=Data.cell v:=z
   cases z'⟩
 keep:=fun i h h' st k=>k it (by simp) _ st
 item:=by
  intro X hP hw hK hc i pins s σ H E I hf st hg
  subst hP hw hK
  obtain ⟨f0,f1,f2,f3,f4,f5⟩:=hf it (by simp)
  have W:=Walks.range (prog:=X.prog) (w:=X.w) (I.ok.hd hc) it lo 1 n
  refine W.item i s _ _ hg st fun v h' tk hv st' kk=>?_
  obtain ⟨t,rfl⟩:=hv
  have I1:Inv X pins σ H { s with heap:=h',toks:=tk }:=I.turned (fun b o hb e=>kk b o (by simpa using hb) e) f0 f1 f3 f4 f5
  refine ⟨_,rfl,go_of (s:={ s with heap:=h',toks:=tk }) (n := "range_iterator") st' rfl rfl (by decide) ⟨.int (lo+i),H,I1,⟨t,?_⟩,⟨rfl,rfl⟩,st',fun b hb=>(hf b hb).1⟩⟩
  rw [Int.mul_one]
 done:=by
  intro X hP hw hK hc i pins s σ H E I hf st hg
  subst hP hw hK
  obtain ⟨f0,f1,f2,f3,f4,f5⟩:=hf it (by simp)
  exact wpAny_pyNext_range_end (I.ok.hd hc) st (by have:n≤i:=hg; omega) fun h' eb=>⟨rfl,I.turned (t':=s.toks) (fun b o hb e=>eb b o hb e) f0 f1 f3 f4 f5⟩
 self:=fun _ _ _ _ _ st h=>wpAny_pyIter_rangeiter st h
section
variable {X:Cx} {tg:Expr}
def iList (K:PySem.W.Frag) (tl:TE) : TI:=fun σ H R=>tl σ H fun x H1=>∃ a,x = .ref a∧(∃ xs,SqL K H1 a xs)∧R (Itl K a) H1
theorem pi_list {l:Expr} {tl:TE} (hl:PE X l tl) : PI X tg l (iList X.K tl):=by
 intro pins s σ H R I h
 refine thn (hl pins s σ H _ I h) fun v s1 ⟨x,H1,I1,r1,q1⟩=>?_
 obtain ⟨a,e,⟨xs,hq⟩,q⟩:=q1
 subst e
 cases r1
 obtain ⟨its,rv,p,hz⟩:=I1.list hq
 refine wpAny_pyIter_list p.isList ?_
 refine ⟨s1.heap.objs.size,[s1.heap.objs.size],_,_,H1,rfl,I1.kept (t':=s1.toks) fun b o e=>Heap.get?_push_of_some _ e,turn_list a _,⟨_,Heap.get?_push_size _ rfl,rfl,rfl⟩,fun b hb=>?_,q⟩
 have e:b=s1.heap.objs.size:=by simpa using hb
 subst e
 exact I1.fpOk (Nat.le_refl _) (I1.hok.fresh (Nat.le_refl _))
theorem range_it {pins:List (Addr × Obj)} {σ:St} {H:Hp} {s:Shared} {R:It→Hp→Prop} {E:Value→Shared→Prop} {lo hi:Int} {t u v:Tok} {tk:Nat} (I:Inv X pins σ H s) (h1:-(2 ^ 62)≤lo) (h2:lo < 2 ^ 62) (h3:-(2 ^ 62)≤hi) (h4:hi < 2 ^ 62)
  (q:R (Itr lo (hi - lo).toNat) H) : wpAny (model X.prog X.w) X.A (pyIter (.ref s.heap.objs.size)) (PIE X pins σ tg R) E { s with heap:=s.heap.push { cls:=.type "range",data:=.fields #[.int lo t,.int hi u,.int 1 v] },toks:=tk }:=by
 refine wpAny_pyIter_range (IsRange.new ..) (small_one h1 h2 h3 h4) ?_
 have I1:Inv X pins σ H { s with heap:=s.heap.push { cls:=.type "range",data:=.fields #[.int lo t,.int hi u,.int 1 v] },toks:=tk }:=I.kept fun b o e=>Heap.get?_push_of_some _ e
 refine ⟨(s.heap.push { cls:=.type "range",data:=.fields #[.int lo t,.int hi u,.int 1 v] }).objs.size,[(s.heap.push { cls:=.type "range",data:=.fields #[.int lo t,.int hi u,.int 1 v] }).objs.size],_,_,H,rfl,
  I1.kept (t':=tk) fun b o e=>Heap.get?_push_of_some _ e,turn_range _ lo (hi - lo).toNat,?_,fun b hb=>?_,q⟩
 ·have e1:lo+((0:Nat) : Int) * 1=lo:=by simp
  have e2:(((hi - lo).toNat:Nat) : Int) - ((0:Nat) : Int)=Builtin.Range.rangeSize lo hi 1:=by rw [rangeSize_one]; split <;> omega
  show IsRangeIter _ _ (lo+((0:Nat) : Int) * 1) ((((hi - lo).toNat:Nat) : Int) - ((0:Nat) : Int)) 1
  rw [e1,e2]
  exact Heap.get?_push_size _ rfl
 ·have e:b=(s.heap.push { cls:=.type "range",data:=.fields #[.int lo t,.int hi u,.int 1 v] }).objs.size:=by simpa using hb
  subst e
  exact I1.fpOk (Nat.le_refl _) (I1.hok.fresh (Nat.le_refl _))
def iRng1 (ta:TA) : TI:=fun σ H R=>ta σ H fun vs H1=>∃ j:Int,vs=[.int j]∧-(2 ^ 62)≤j∧j < 2 ^ 62∧R (Itr 0 j.toNat) H1
theorem pi_range1 {a:Expr} {ta:TA} {p pos:Pos} (hg:Gl X "range") (hm:X.mg "range" = none) (ha:PA X [a] ta) (hs:starEach [a] X.env=[(false,eval a X.env)]:=by rfl) : PI X tg (.Call (.Name "range" p) [a] [] pos) (iRng1 ta):=by
 intro pins s σ H R I h
 refine Call_ (ld_blt I hg hm boot_range (PyProof.Rows.callWith_type1 (thn (ha pos pins s σ H _ I h) fun us s1 ⟨vs,H1,I1,r1,q1⟩=>?_) hs rfl))
 obtain ⟨j,e,q1,q2,q⟩:=q1
 subst e
 cases r1 with
 | cons r rr =>
  cases rr
  obtain ⟨t,rfl⟩:=r
  exact call_range_1 (range_it I1 (by omega) (by omega) q1 q2 (by simpa using q))
def tFor (wi:TI) (g:TG) (tb:TS) : TS:=fun D σ H=>wi σ H fun J H1=>∃ W:Nat→Nat→St→Hp→Prop,(∃ m,W 0 m σ H1)∧∀ i m σ H,W i m σ H →
 (J.stop i H∧D.nx σ H)∨(J.go i H∧∃ N:St→Hp→Prop,(∀ σ' H',N σ' H'→∃ m',m' < m∧W (i+1) m' σ' H')∧∀ x H',J.yld i H x H'→g x σ H' fun σ2 H2=>tb { D with nx:=N,ct:=N,bk:=D.nx } σ2 H2)
def pinsAt (fp:List Addr) (h:Heap) : List (Addr × Obj):=fp.filterMap fun b=>(h.get? b).map fun o=>(b,o)
theorem mem_pinsAt {fp:List Addr} {h:Heap} {b:Addr} {o:Obj} (hb:b ∈ fp) (e:h.get? b=some o) : (b,o) ∈ pinsAt fp h:=List.mem_filterMap.mpr ⟨b,hb,by rw [e]; rfl⟩
theorem of_pinsAt {fp:List Addr} {h:Heap} {p:Addr × Obj} (hp:p ∈ pinsAt fp h) : p.1 ∈ fp∧h.get? p.1=some p.2:=by
 obtain ⟨b,hb,e⟩:=List.mem_filterMap.mp hp
 cases q:h.get? b with
 | none=>rw [q] at e; cases e
 | some o =>
  rw [q] at e
  have e':(b,o)=p:=Option.some.inj e
  subst e'
  exact ⟨hb,q⟩
theorem Inv.pinned {pins:List (Addr × Obj)} {σ:St} {H:Hp} {s:Shared} {fp:List Addr} (I:Inv X pins σ H s) (hf:∀ b ∈ fp,FpOk X pins H b) (ho:∀ b ∈ fp,∃ o,s.heap.get? b=some o∧∀ v,o.data≠.cell v) : Inv X (pins++pinsAt fp s.heap) σ H s:=
 I.pins_of fun p hp=>(List.mem_append.mp hp).elim (fun z=>I.pin p (List.mem_append_right _ z)) fun z=>by
  obtain ⟨hb,e⟩:=of_pinsAt z
  obtain ⟨f0,f1,f2,_⟩:=hf p.1 hb
  obtain ⟨o,e',d⟩:=ho p.1 hb
  rw [e] at e'; cases e'
  exact ⟨e,f0,f1,f2,d⟩
theorem Inv.unpinned {pins pl:List (Addr × Obj)} {σ:St} {H:Hp} {s:Shared} (I:Inv X (pins++pl) σ H s) : Inv X pins σ H s:=I.pins_of fun p hp=>I.pin p (List.mem_append_right _ (List.mem_append_left _ hp))
theorem ps_for {iter:Expr} {body:List Stmt} {wi:TI} {g:TG} {tb:TS} {pos:Pos} (hp:PassesOwn (model X.prog X.w) X.A X.env X.xe) (hc:X.calm=true) (hi:PI X tg iter wi) (hg:PG X tg g) (hb:PSs X body tb)
  (hs:∀ x,foldedSetIterable iter X.env x=pure x:=by intro _; rfl) : PS X (.For tg iter body [] pos) (tFor wi g tb):=by
 intro pins s σ H D I h
 refine wpAny_For (thn (hi pins s σ H _ I h) fun v s1 h1=>thn h1 fun itv s2 h2=>?_) hs
 obtain ⟨it,fp,tn,J,H2,e,I2,T,st2,f2,W,⟨m0,w0⟩,turn⟩:=h2
 subst e
 -- what stays true of the iterator's objects through the loop
 have stat:∀ {H':Hp},(∀ b ∈ fp,H' b=none)→∀ b ∈ fp,FpOk X pins H' b:=fun hn b hb=>⟨hn b hb,(f2 b hb).2⟩
 refine codeAny_forLoop_any (fun n s'=>∃ i σ' H',Inv X pins σ' H' s'∧tn i s'.heap∧(∀ b ∈ fp,H' b=none)∧W i n σ' H') ?_ m0 ⟨0,σ,H2,I2,st2,fun b hb=>(f2 b hb).1,w0⟩
 rintro n s3 ⟨i,σ3,H3,I3,st3,fr3,w3⟩
 rcases turn i n σ3 H3 w3 with ⟨stop,qn⟩ | ⟨go,N,hN,step⟩
 ·refine wpAny_passesOwn hp (thn (T.done X rfl rfl rfl hc i pins s3 σ3 H3 X.xe I3 (stat fr3) st3 stop) fun r s4 ⟨hr,I4⟩=>?_)
  subst hr
  exact wpAny_execs_nil ⟨σ3,H3,I4,qn⟩
 ·refine wpAny_passesOwn hp (thn (T.item X rfl rfl rfl hc i pins s3 σ3 H3 X.xe I3 (stat fr3) st3 go) fun r s4 ⟨u,hr,h4⟩=>?_)
  subst hr
  refine wpAny_passesOwn hp (thn h4 fun _ s5 ⟨x,H5,I5,r5,y5,st5,fr5⟩=>?_)
  have I5':=I5.pinned (stat fr5) (T.obj _ _ st5)
  refine wpAny_passesOwn hp (thn (hg _ s5 σ3 H5 x u _ I5' r5 (step x H5 y5)) fun _ s6 ⟨σ6,H6,I6,q6⟩=>?_)
  refine wpAny_passesOwn hp (thn (hb _ s6 σ6 H6 _ I6 q6) fun f s7 q7=>?_)
  have again:∀ {σ7:St} {H7:Hp},Inv X (pins++pinsAt fp s5.heap) σ7 H7 s7→N σ7 H7→∃ m,m < n∧∃ i σ' H',Inv X pins σ' H' s7∧tn i s7.heap∧(∀ b ∈ fp,H' b=none)∧W i m σ' H':=fun {σ7 H7} I7 n7=>by
   obtain ⟨m',hm,w7⟩:=hN σ7 H7 n7
   refine ⟨m',hm,i+1,σ7,H7,I7.unpinned,T.keep _ _ _ st5 fun b hb o e=>(I7.pin (b,o) (List.mem_append_right _ (List.mem_append_right _ (mem_pinsAt hb e)))).1,fun b hb=>?_,w7⟩
   obtain ⟨o,e,d⟩:=T.obj _ _ st5 b hb
   exact (I7.pin (b,o) (List.mem_append_right _ (List.mem_append_right _ (mem_pinsAt hb e)))).2.1
  cases f with
  | next=>obtain ⟨σ7,H7,I7,n7⟩:=q7; exact again I7 n7
  | cont=>obtain ⟨σ7,H7,I7,n7⟩:=q7; exact again I7 n7
  | brk=>obtain ⟨σ7,H7,I7,q7⟩:=q7; exact ⟨σ7,H7,I7.unpinned,q7⟩
  | ret v=>obtain ⟨x7,σ7,H7,I7,r7,q7⟩:=q7; exact ⟨x7,σ7,H7,I7.unpinned,r7,q7⟩
end

theorem for_list {K:PySem.W.Frag} {a:Addr} {xs:List V} {g:TG} {tb:TS} {D:Ends} {σ:St} {H:Hp} (Pv:Nat→St→Hp→Prop) (h0:Pv 0 σ H) (hl:∀ i σ H,i≤xs.length→Pv i σ H→SqL K H a xs)
  (hs:∀ i x σ H,xs[i]? = some x→Pv i σ H→g x σ H fun σ2 H2=>tb { D with nx:=Pv (i+1),ct:=Pv (i+1),bk:=D.nx } σ2 H2) (hd:∀ σ H,Pv xs.length σ H→D.nx σ H) :
  ∃ W:Nat→Nat→St→Hp→Prop,(∃ m,W 0 m σ H)∧∀ i m σ H,W i m σ H →
   ((Itl K a).stop i H∧D.nx σ H)∨((Itl K a).go i H∧∃ N:St→Hp→Prop,(∀ σ' H',N σ' H'→∃ m',m' < m∧W (i+1) m' σ' H')∧∀ x H',(Itl K a).yld i H x H'→g x σ H' fun σ2 H2=>tb { D with nx:=N,ct:=N,bk:=D.nx } σ2 H2):=by
 refine ⟨fun i m σ H=>m=xs.length - i∧i≤xs.length∧Pv i σ H,⟨xs.length,by simp,Nat.zero_le _,h0⟩,?_⟩
 rintro i m σ H ⟨rfl,hi,p⟩
 have q:=hl i σ H hi p
 by_cases hlt:i < xs.length
 ·refine .inr ⟨⟨xs,xs[i],q,by simp [hlt]⟩,Pv (i+1),fun σ' H' p'=>⟨xs.length - (i+1),by omega,rfl,hlt,p'⟩,fun x H' y=>?_⟩
  obtain ⟨e,y⟩:=y
  subst e
  exact hs i x σ _ (y xs q) p
 ·have e:i=xs.length:=by omega
  subst e
  exact .inl ⟨⟨xs,q,Nat.le_refl _⟩,hd σ H p⟩
theorem for_range {lo:Int} {n:Nat} {g:TG} {tb:TS} {D:Ends} {σ:St} {H:Hp} (Pv:Nat→St→Hp→Prop) (h0:Pv 0 σ H)
  (hs:∀ i σ H,i < n→Pv i σ H→g (.int (lo+i)) σ H fun σ2 H2=>tb { D with nx:=Pv (i+1),ct:=Pv (i+1),bk:=D.nx } σ2 H2) (hd:∀ σ H,Pv n σ H→D.nx σ H) :
  ∃ W:Nat→Nat→St→Hp→Prop,(∃ m,W 0 m σ H)∧∀ i m σ H,W i m σ H →
   ((Itr lo n).stop i H∧D.nx σ H)∨((Itr lo n).go i H∧∃ N:St→Hp→Prop,(∀ σ' H',N σ' H'→∃ m',m' < m∧W (i+1) m' σ' H')∧∀ x H',(Itr lo n).yld i H x H'→g x σ H' fun σ2 H2=>tb { D with nx:=N,ct:=N,bk:=D.nx } σ2 H2):=by
 refine ⟨fun i m σ H=>m=n - i∧i≤n∧Pv i σ H,⟨n,by simp,Nat.zero_le _,h0⟩,?_⟩
 rintro i m σ H ⟨rfl,hi,p⟩
 by_cases hlt:i < n
 ·refine .inr ⟨hlt,Pv (i+1),fun σ' H' p'=>⟨n - (i+1),by omega,rfl,hlt,p'⟩,fun x H' y=>?_⟩
  obtain ⟨e,y⟩:=y
  subst e y
  exact hs i σ _ hlt p
 ·have e:i=n:=by omega
  subst e
  exact .inl ⟨Nat.le_refl _,hd σ H p⟩

abbrev R2:=V→V→Hp→VK→Prop
def OpR (X:Cx) (f:Value→Value→Sem Value) (r:R2) : Prop:=
 ∀ (pins:List (Addr × Obj)) (s:Shared) (σ:St) (H:Hp) (x y:V) (v u:Value) (Q:VK),Inv X pins σ H s→RelV x v→RelV y u→r x y H Q →
  wpAny (model X.prog X.w) X.A (f v u) (EP X pins σ Q) X.xe s
def UnR (X:Cx) (f:Value→Sem Value) (r:V→Hp→VK→Prop) : Prop:=
 ∀ (pins:List (Addr × Obj)) (s:Shared) (σ:St) (H:Hp) (x:V) (v:Value) (Q:VK),Inv X pins σ H s→RelV x v→r x H Q →
  wpAny (model X.prog X.w) X.A (f v) (EP X pins σ Q) X.xe s
def CallR (X:Cx) (f:Value) (r:List V→Hp→VK→Prop) : Prop:=
 ∀ (pins:List (Addr × Obj)) (s:Shared) (σ:St) (H:Hp) (xs:List V) (us:List Value) (Q:VK),Inv X pins σ H s→Vals xs us→r xs H Q →
  wpAny (model X.prog X.w) X.A (call f us) (EP X pins σ Q) X.xe s
def tOp (r:R2) (ta tb:TE) : TE:=fun σ H Q=>ta σ H fun x H1=>tb σ H1 fun y H2=>r x y H2 Q
def tUn (r:V→Hp→VK→Prop) (ta:TE) : TE:=fun σ H Q=>ta σ H fun x H1=>r x H1 Q
def rI (C:Int→Int→Prop) (g:Int→Int→V) : R2:=fun x y H Q=>∃ i j,x = .int i∧y = .int j∧C i j∧Q (g i j) H
def rI0 (g:Int→Int→V) : R2:=fun x y H Q=>∃ i j,x = .int i∧y = .int j∧Q (g i j) H
def rU (g:Int→V) : V→Hp→VK→Prop:=fun x H Q=>∃ i,x = .int i∧Q (g i) H

section
variable {X:Cx} {a b c:Expr} {ta tb tc:TE} {pos:Pos}

theorem binT (ha:PE X a ta) (hb:PE X b tb) {pins:List (Addr × Obj)} {s:Shared} {σ:St} {H:Hp} {R:V→V→Hp→Prop} (I:Inv X pins σ H s)
  (h:ta σ H fun x H1=>tb σ H1 fun y H2=>R x y H2) {Q:Value→Shared→Prop} {f:Value→Value→Sem Value}
  (hf:∀ v u s2 x y H2,Inv X pins σ H2 s2→RelV x v→RelV y u→R x y H2→wpAny (model X.prog X.w) X.A (f v u) Q X.xe s2) :
  wpAny (model X.prog X.w) X.A (eval a X.env) (fun v s₁=>wpAny (model X.prog X.w) X.A (eval b X.env) (fun u s₂=>wpAny (model X.prog X.w) X.A (f v u) Q X.xe s₂) X.xe s₁) X.xe s:=by
 refine thn (ha pins s σ H _ I h) fun v s1 ⟨x,H1,I1,r1,q1⟩=>?_
 refine thn (hb pins s1 σ H1 _ I1 q1) fun u s2 ⟨y,H2,I2,r2,q2⟩=>?_
 exact hf v u s2 x y H2 I2 r1 r2 q2

theorem pe_op {op:Operator} {r:R2} (ho:OpR X (binaryOp op) r) (ha:PE X a ta) (hb:PE X b tb) : PE X (.BinOp a op b pos) (tOp r ta tb):=by
 intro pins s σ H Q I h
 exact wpAny_BinOp (binT ha hb I h fun v u s2 x y H2 I2 rx ry q=>ho pins s2 σ H2 x y v u Q I2 rx ry q)
theorem pe_un {op:UnaryOp} {r:V→Hp→VK→Prop} (ho:UnR X (unaryOp op) r) (ha:PE X a ta) : PE X (.UnaryOp op a pos) (tUn r ta):=by
 intro pins s σ H Q I h
 exact UnaryOp_ (thn (ha pins s σ H _ I h) fun v s1 ⟨x,H1,I1,r1,q1⟩=>ho pins s1 σ H1 x v Q I1 r1 q1)
theorem opI {f:Value→Value→Sem Value} {C:Int→Int→Prop} {g:Int→Int→Int}
  (rule:∀ (i j:Int) (t u:Tok) (s:Shared) (Q:Value→Shared→Prop) (E:Value→Shared→Prop),C i j→Q (.int (g i j) s.toks) { s with toks:=s.toks+1 }→wpAny (model X.prog X.w) X.A (f (.int i t) (.int j u)) Q E s) :
  OpR X f (rI C fun i j=>.int (g i j)):=by
 intro pins s σ H x y v u Q I rx ry h
 obtain ⟨i,j,rfl,rfl,hc,q⟩:=h
 obtain ⟨t,rfl⟩:=rx
 obtain ⟨t',rfl⟩:=ry
 exact rule i j t t' s _ _ hc ⟨.int (g i j),H,I.tok _,⟨_,rfl⟩,q⟩
theorem opI0 {f:Value→Value→Sem Value} {g:Int→Int→Int}
  (rule:∀ (i j:Int) (t u:Tok) (s:Shared) (Q:Value→Shared→Prop) (E:Value→Shared→Prop),Q (.int (g i j) s.toks) { s with toks:=s.toks+1 }→wpAny (model X.prog X.w) X.A (f (.int i t) (.int j u)) Q E s) :
  OpR X f (rI0 fun i j=>.int (g i j)):=by
 intro pins s σ H x y v u Q I rx ry h
 obtain ⟨i,j,rfl,rfl,q⟩:=h
 obtain ⟨t,rfl⟩:=rx
 obtain ⟨t',rfl⟩:=ry
 exact rule i j t t' s _ _ ⟨.int (g i j),H,I.tok _,⟨_,rfl⟩,q⟩
theorem opB0 {f:Value→Value→Sem Value} {g:Int→Int→Bool}
  (rule:∀ (i j:Int) (t u:Tok) (s:Shared) (Q:Value→Shared→Prop) (E:Value→Shared→Prop),Q (.bool (g i j)) s→wpAny (model X.prog X.w) X.A (f (.int i t) (.int j u)) Q E s) :
  OpR X f (rI0 fun i j=>.bl (g i j)):=by
 intro pins s σ H x y v u Q I rx ry h
 obtain ⟨i,j,rfl,rfl,q⟩:=h
 obtain ⟨t,rfl⟩:=rx
 obtain ⟨t',rfl⟩:=ry
 exact rule i j t t' s _ _ ⟨.bl (g i j),H,I,rfl,q⟩

def CDiv (i j:Int) : Prop:=0 < j∧j < 1073741824
def CMul (i j:Int) : Prop:=(-(2 ^ 64) < i∧i < 2 ^ 64)∨(-(2 ^ 64) < j∧j < 2 ^ 64)
theorem CMul.ok {i j:Int} (h:CMul i j) : IntMulOk i j:=by
 rcases h with ⟨h1,h2⟩ | ⟨h1,h2⟩
 ·exact .of_left (intBits_le_64 h1 h2)
 ·exact .of_right (intBits_le_64 h1 h2)
theorem op_add:OpR X (binaryOp .Add) (rI0 fun i j=>.int (i+j)):=opI0 fun _ _ _ _ _ _ _ q=>add_int q
theorem op_sub:OpR X (binaryOp .Sub) (rI0 fun i j=>.int (i - j)):=opI0 fun _ _ _ _ _ _ _ q=>sub_int q
theorem op_mul:OpR X (binaryOp .Mult) (rI CMul fun i j=>.int (i * j)):=opI fun _ _ _ _ _ _ _ hc q=>mul_int q hc.ok
theorem op_fdiv:OpR X (binaryOp .FloorDiv) (rI CDiv fun i j=>.int (i / j)):=opI fun i j _ _ _ _ _ hc q=>by
 have h1:(0:Int) < j:=hc.1
 have h2:j < 1073741824:=hc.2
 exact floordiv_int (by omega) (by rw [Int.fdiv_eq_ediv_of_nonneg i (by omega)]; exact q) (.inl (PyProof.noPylong_small (by omega)))
theorem op_mod:OpR X (binaryOp .Mod) (rI (fun _ j=>0 < j) fun i j=>.int (i % j)):=opI fun i j _ _ _ _ _ hc q=>by
 have h1:(0:Int) < j:=hc
 exact mod_int' (by omega) (by rw [Int.fmod_eq_emod_of_nonneg i (by omega)]; exact q)
theorem unI {f:Value→Sem Value} {g:Int→Int}
  (rule:∀ (i:Int) (t:Tok) (s:Shared) (Q:Value→Shared→Prop) (E:Value→Shared→Prop),Q (.int (g i) s.toks) { s with toks:=s.toks+1 }→wpAny (model X.prog X.w) X.A (f (.int i t)) Q E s) :
  UnR X f (rU fun i=>.int (g i)):=by
 intro pins s σ H x v Q I rx h
 obtain ⟨i,rfl,q⟩:=h
 obtain ⟨t,rfl⟩:=rx
 exact rule i t s _ _ ⟨.int (g i),H,I.tok _,⟨_,rfl⟩,q⟩
theorem un_neg:UnR X (unaryOp .USub) (rU fun i=>.int (-i)):=unI fun _ _ _ _ _ q=>neg_int q
end

def scal:V→V→Bool
 | .non,.non=>true | .non,.int _=>true | .int _,.non=>true | .non,.bl _=>true | .bl _,.non=>true | .non,.str _=>true | .str _,.non=>true
 | .int _,.int _=>true | .bl _,.bl _=>true | .str _,.str _=>true | .byt _,.byt _=>true
 | .int _,.str _=>true | .str _,.int _=>true | .bl _,.str _=>true | .str _,.bl _=>true
 | _,_=>false
def rEq:R2:=fun x y H Q=>scal x y=true∧Q (.bl (decide (x=y))) H
def rNe:R2:=fun x y H Q=>scal x y=true∧Q (.bl (!decide (x=y))) H

theorem dec_int {i j:Int} : decide (V.int i=V.int j)=(i == j):=by
 rw [Bool.eq_iff_iff]
 simp
theorem dec_bl {i j:Bool} : decide (V.bl i=V.bl j)=(i == j):=by
 rw [Bool.eq_iff_iff]
 simp
theorem dec_str {i j:Str} : decide (V.str i=V.str j)=(i == j):=by
 rw [Bool.eq_iff_iff]
 simp
theorem dec_byt {i j:Array UInt8} : decide (V.byt i=V.byt j)=(i.toList == j.toList):=by
 rw [Bool.eq_iff_iff]
 cases i
 cases j
 simp

section
variable {X:Cx} {a b c:Expr} {ta tb tc:TE} {pos:Pos}
theorem fin_bl {pins:List (Addr × Obj)} {σ:St} {H:Hp} {s:Shared} {Q:VK} {k k':Bool} (I:Inv X pins σ H s) (q:Q (.bl k) H) (e:k=k') : EP X pins σ Q (.bool k') s:=by
 subst e
 exact ⟨.bl k,H,I,rfl,q⟩
theorem op_eq:OpR X (compareOp .Eq) rEq:=by
 intro pins s σ H x y v u Q I rx ry h
 obtain ⟨hs,q⟩:=h
 cases x with
 | non =>
  cases rx
  cases y with
  | non=>cases ry; exact PySem.EqNone.eq_none_none (fin_bl I q (by simp))
  | bl j=>cases ry; exact PySem.EqNone.eq_none_bool (fin_bl I q (by simp))
  | int j=>obtain ⟨t',rfl⟩:=ry; exact PySem.EqNone.eq_none_int (fin_bl I q (by simp))
  | str j=>obtain ⟨t',rfl⟩:=ry; exact PySem.EqNone.eq_none_str (fin_bl I q (by simp))
  | _=>exact absurd (show false=true from hs) Bool.false_ne_true
 | bl i =>
  cases rx
  cases y with
  | non=>cases ry; exact PySem.EqNone.eq_bool_none (fin_bl I q (by simp))
  | bl j=>cases ry; exact eq_bool (fin_bl I q dec_bl)
  | str j=>obtain ⟨t',rfl⟩:=ry; exact PySem.EqMixed.eq_bool_str (fin_bl I q (by simp))
  | _=>exact absurd (show false=true from hs) Bool.false_ne_true
 | int i =>
  obtain ⟨t,rfl⟩:=rx
  cases y with
  | non=>cases ry; exact PySem.EqNone.eq_int_none (fin_bl I q (by simp))
  | int j=>obtain ⟨t',rfl⟩:=ry; exact eq_int (fin_bl I q dec_int)
  | str j=>obtain ⟨t',rfl⟩:=ry; exact PySem.EqMixed.eq_int_str (fin_bl I q (by simp))
  | _=>exact absurd (show false=true from hs) Bool.false_ne_true
 | str i =>
  obtain ⟨t,rfl⟩:=rx
  cases y with
  | non=>cases ry; exact PySem.EqNone.eq_str_none (fin_bl I q (by simp))
  | bl j=>cases ry; exact PySem.EqMixed.eq_str_bool (fin_bl I q (by simp))
  | int j=>obtain ⟨t',rfl⟩:=ry; exact PySem.EqMixed.eq_str_int (fin_bl I q (by simp))
  | str j=>obtain ⟨t',rfl⟩:=ry; exact eq_str (fin_bl I q dec_str)
  | _=>exact absurd (show false=true from hs) Bool.false_ne_true
 | byt i =>
  obtain ⟨t,rfl⟩:=rx
  cases y with
  | byt j=>obtain ⟨t',rfl⟩:=ry; exact PySem.W.eq_bytes (fin_bl I q dec_byt)
  | _=>exact absurd (show false=true from hs) Bool.false_ne_true
 | _=>cases y <;> exact absurd (show false=true from hs) Bool.false_ne_true
theorem op_ne:OpR X (compareOp .NotEq) rNe:=by
 intro pins s σ H x y v u Q I rx ry h
 obtain ⟨hs,q⟩:=h
 cases x with
 | non =>
  cases rx
  cases y with
  | non=>cases ry; exact PySem.EqNone.ne_none_none (fin_bl I q (by simp))
  | bl j=>cases ry; exact PySem.EqNone.ne_none_bool (fin_bl I q (by simp))
  | int j=>obtain ⟨t',rfl⟩:=ry; exact PySem.EqNone.ne_none_int (fin_bl I q (by simp))
  | str j=>obtain ⟨t',rfl⟩:=ry; exact PySem.EqNone.ne_none_str (fin_bl I q (by simp))
  | _=>exact absurd (show false=true from hs) Bool.false_ne_true
 | bl i =>
  cases rx
  cases y with
  | non=>cases ry; exact PySem.EqNone.ne_bool_none (fin_bl I q (by simp))
  | bl j=>cases ry; exact ne_bool (fin_bl I q (congrArg not dec_bl))
  | str j=>obtain ⟨t',rfl⟩:=ry; exact PySem.EqMixed.ne_bool_str (fin_bl I q (by simp))
  | _=>exact absurd (show false=true from hs) Bool.false_ne_true
 | int i =>
  obtain ⟨t,rfl⟩:=rx
  cases y with
  | non=>cases ry; exact PySem.EqNone.ne_int_none (fin_bl I q (by simp))
  | int j=>obtain ⟨t',rfl⟩:=ry; exact ne_int (fin_bl I q (congrArg not dec_int))
  | str j=>obtain ⟨t',rfl⟩:=ry; exact PySem.EqMixed.ne_int_str (fin_bl I q (by simp))
  | _=>exact absurd (show false=true from hs) Bool.false_ne_true
 | str i =>
  obtain ⟨t,rfl⟩:=rx
  cases y with
  | non=>cases ry; exact PySem.EqNone.ne_str_none (fin_bl I q (by simp))
  | bl j=>cases ry; exact PySem.EqMixed.ne_str_bool (fin_bl I q (by simp))
  | int j=>obtain ⟨t',rfl⟩:=ry; exact PySem.EqMixed.ne_str_int (fin_bl I q (by simp))
  | str j=>obtain ⟨t',rfl⟩:=ry; exact ne_str (fin_bl I q (congrArg not dec_str))
  | _=>exact absurd (show false=true from hs) Bool.false_ne_true
 | byt i =>
  obtain ⟨t,rfl⟩:=rx
  cases y with
  | byt j=>obtain ⟨t',rfl⟩:=ry; exact PySem.W.ne_bytes (fin_bl I q (congrArg not dec_byt))
  | _=>exact absurd (show false=true from hs) Bool.false_ne_true
 | _=>cases y <;> exact absurd (show false=true from hs) Bool.false_ne_true

theorem op_lt:OpR X (compareOp .Lt) (rI0 fun i j=>.bl (decide (i < j))):=opB0 fun _ _ _ _ _ _ _ q=>lt_int q
theorem op_gt:OpR X (compareOp .Gt) (rI0 fun i j=>.bl (decide (j < i))):=opB0 fun _ _ _ _ _ _ _ q=>gt_int q
theorem op_in_str:OpR X (compareOp .In) (fun x y H Q=>∃ i j,x = .str i∧y = .str j∧Q (.bl (!(Builtin.Str.occurrences j i 0 j.length 1).isEmpty)) H):=by
 intro pins s σ H x y v u Q I rx ry h
 obtain ⟨i,j,rfl,rfl,q⟩:=h
 obtain ⟨t,rfl⟩:=rx
 obtain ⟨t',rfl⟩:=ry
 exact in_str (fin_bl I q rfl)

theorem nomark (b:Expr) {op:CmpOp} (h:op≠.In:=by decide) (h2:op≠.NotIn:=by decide) : behindInMarks op b=false:=by
 have e1:(op == CmpOp.In)=false:=by cases op <;> first | rfl | exact absurd rfl h
 have e2:(op == CmpOp.NotIn)=false:=by cases op <;> first | rfl | exact absurd rfl h2
 cases b <;> simp [behindInMarks,e1,e2]
theorem pe_cmpR {op:CmpOp} {r:R2} (ho:OpR X (compareOp op) r) (ha:PE X a ta) (hb:PE X b tb) (hm:behindInMarks op b=false) : PE X (.Compare a [op] [b] pos) (tOp r ta tb):=by
 intro pins s σ H Q I h
 exact wpAny_Compare1 (binT ha hb I h fun v u s2 x y H2 I2 rx ry q=>ho pins s2 σ H2 x y v u Q I2 rx ry q) hm
def tTest (t:TE) : TT:=fun σ H Q=>t σ H fun x H'=>∃ k,x = .bl k∧Q k H'
theorem pt_cmpR {op:CmpOp} {r:R2} (ho:OpR X (compareOp op) r) (ha:PE X a ta) (hb:PE X b tb) (hm:behindInMarks op b=false) : PT X (.Compare a [op] [b] pos) (tTest (tOp r ta tb)):=by
 intro pins s σ H Q I h
 refine wpAny_isTrue_Compare1 (thn (ha pins s σ H _ I h) fun v s1 ⟨x,H1,I1,r1,q1⟩=>thn (hb pins s1 σ H1 _ I1 q1) fun u s2 ⟨y,H2,I2,r2,q2⟩ =>
  thn (ho pins s2 σ H2 x y v u _ I2 r1 r2 q2) fun c s3 ⟨z,H3,I3,r3,k,e,q3⟩=>?_) hm
 subst e
 cases r3
 exact wpAny_truthy_bool ⟨H3,I3,q3⟩
theorem line63:(sizeLine:Nat) < 2 ^ 63:=by rw [sizeLine_eq]; decide
theorem op_add_str:OpR X (binaryOp .Add) (fun x y H Q=>∃ i j,x = .str i∧y = .str j∧i.length+j.length≤sizeLine∧Q (.str (i++j)) H):=by
 intro pins s σ H x y v u Q I rx ry h
 obtain ⟨i,j,rfl,rfl,hz,q⟩:=h
 obtain ⟨t,rfl⟩:=rx
 obtain ⟨t',rfl⟩:=ry
 exact add_str (fun t' tk=>⟨.str (i++j),H,I.tok _,⟨_,rfl⟩,q⟩) hz
theorem vals1 {x:V} {us:List Value} (r:Vals [x] us) : ∃ u,us=[u]∧RelV x u:=by
 cases r with
 | cons r1 r2=>cases r2; exact ⟨_,rfl,r1⟩
theorem call_int1:CallR X (.type "int") (fun xs H Q=>(∃ i,xs=[.int i]∧Q (.int i) H)∨∃ k,xs=[.bl k]∧Q (.int (if k then 1 else 0)) H):=by
 intro pins s σ H xs us Q I r h
 rcases h with ⟨i,rfl,q⟩ | ⟨k,rfl,q⟩
 ·obtain ⟨u,rfl,t,rfl⟩:=vals1 r
  exact call_int_int ⟨.int i,H,I,⟨_,rfl⟩,q⟩
 ·obtain ⟨u,rfl,r1⟩:=vals1 r
  cases r1
  exact call_int_bool ⟨.int (if k then 1 else 0),H,I.tok _,⟨_,rfl⟩,q⟩
end

structure ObjM (h:Heap) (x dx C:Addr) (mA:Str→Option Value) : Prop where
 obj:h.get? x=some (PySem.W.instObj C dx)
 ns:h.Ns1 dx mA
 ne:dx≠x

theorem lookIn_ns {h:Heap} {dx:Addr} {mA:Str→Option Value} (n:h.Ns1 dx mA) : ∃ od,h.get? dx=some od∧∀ name,PySem.W.lookIn name od=some (mA name):=by
 obtain ⟨o,es,ep,ho,hd,hk,_,hm⟩:=n
 refine ⟨o,ho,fun name=>?_⟩
 have e:=hm name
 unfold nsFind findBy at e
 rw [← Array.find?_toList] at e
 unfold PySem.W.lookIn
 rw [hd]
 dsimp only
 split
 ·rename_i y q
  rw [q] at e
  exact congrArg some e
 ·rename_i q
  rw [q] at e
  have a:es.toList.any (·.refKey)=false:=by
   rw [List.any_eq_false]
   intro y hy
   obtain ⟨z,t,hkey⟩:=hk y (Array.mem_toList_iff.mp hy)
   simp [DictEntry.refKey,hkey]
  have a':¬ es.toList.any (·.refKey)=true:=by rw [a]; exact Bool.false_ne_true
  rw [if_neg a']
  exact congrArg some e

theorem ObjM.look {h:Heap} {x dx C:Addr} {mA:Str→Option Value} (I:ObjM h x dx C mA) : ∃ od,PySem.W.InstAt h x (PySem.W.instObj C dx) C (some od)∧∀ name,PySem.W.lookIn name od=some (mA name):=
 let ⟨od,ho,hl⟩:=lookIn_ns I.ns
 ⟨od,⟨I.obj,rfl,rfl,ho⟩,hl⟩

section
variable {prog:Program} {w:World} {A:Around} {E:Value→Shared→Prop} {s:Shared} {K:PySem.W.Frag} {x dx C f:Addr} {mA:Str→Option Value} {name:Str} {v:Value}

theorem get_map {expr:Bool} {Q:Value→Shared→Prop} (X:K.In s.heap) (I:ObjM s.heap x dx C mA) (hg:PySem.W.plainGet K C name=true) (hh:PySem.W.hasDictIn K C=true)
  (ha:PySem.W.findIn K (.ref C) name=some none) (hv:mA name=some v) (hv':PySem.W.handedIn v=true) (h:Q v { s with toks:=s.toks+1 }) :
  wpAny (model prog w) A (getAttr (.ref x) name expr) Q E s:=by
 obtain ⟨od,J,hl⟩:=I.look
 exact PySem.W.get_value X J (PySem.W.plainGet_of hg).1 (PySem.W.findObj_own hh ha rfl (by rw [hl,hv])) hv' h

end

theorem RelO.some_of {v:V} {o:Option Value} (r:RelO (some v) o) : ∃ u,o=some u∧RelV v u:=by
 cases o with
 | none=>exact (show False from r).elim
 | some u=>exact ⟨u,rfl,r⟩
section
variable {P:Program} {w:World} {H H':Hp} {h h':Heap} {a C dx:Addr} {fs fs':List (Str × V)}
end

structure Cls (K:PySem.W.Frag) (C:Addr) : Prop where
 pg:PySem.W.plainGet K C Str.empty=true
 hd:PySem.W.hasDictIn K C=true
 po:PySem.W.plainOver K C=true
 sa:PySem.W.findIn K (.ref C) "__setattr__" = some (some (.builtin "object.__setattr__"))
theorem Cls.get {K:PySem.W.Frag} {C:Addr} (c:Cls K C) (f:Str) : PySem.W.plainGet K C f=true:=c.pg
section
variable {X:Cx} {pins:List (Addr × Obj)} {σ:St} {H:Hp} {s:Shared} {a C dx:Addr} {fs:List (Str × V)} {f:Str} {v:V} {A:Around} {E:Value→Shared→Prop}

end

section
variable {X:Cx} {o e value:Expr} {f:Str} {pos pos' tpos:Pos} {ta tv:TE}
end

section
variable {X:Cx} {pins:List (Addr × Obj)} {σ:St} {H:Hp} {s:Shared} {A:Around} {E:Value→Shared→Prop} {Q:Value→Shared→Prop} {c:Value} {b:Bool}
end

structure Room (k:Nat) (A:Around) : Prop where
 hd:A.handled=none
 dp:A.depth+3 * k+5 < recursionLimit
 un:A.units+16 * k+200 < cLine
theorem Room.mono {j k:Nat} {A:Around} (r:Room k A) (h:j≤k) : Room j A:=⟨r.hd,by have:=r.dp; omega,by have:=r.un; omega⟩
theorem Room.deeper {k:Nat} {A:Around} (r:Room (k+1) A) (env:Env) : Room k (A.deeper env):=
 ⟨r.hd,by have:=r.dp; show A.depth+1+3 * k+5 < _; omega,by have:=r.un; show A.units+3+16 * k+200 < _; omega⟩
theorem Room.in1 {k:Nat} {A:Around} (r:Room (k+1) A) : Room k A.in1:=
 ⟨r.hd,by have:=r.dp; show A.depth+3 * k+5 < _; omega,by have:=r.un; show A.units+1+16 * k+200 < _; omega⟩
theorem Room.depth {k:Nat} {A:Around} (r:Room k A) : A.depth < recursionLimit:=by have:=r.dp; omega
theorem Room.units {k:Nat} {A:Around} (r:Room k A) : A.units+64 < cLine:=by have:=r.un; omega
def tNil:TA:=fun _ H Q=>Q [] H
def tCons (ta:TE) (tr:TA) : TA:=fun σ H Q=>ta σ H fun x H1=>tr σ H1 fun xs H2=>Q (x :: xs) H2
section
variable {X:Cx} {e:Expr} {es:List Expr} {te:TE} {t:TA} {pos:Pos}
theorem pa_nil:PA X [] tNil:=fun _ _ _ _ H Q I h=>Calls.spliced_nil ⟨[],H,I,.nil,h⟩
theorem pa_cons (ha:PE X e te) (hr:PA X es t) (hs:starEach (e :: es) X.env=(false,eval e X.env) :: starEach es X.env:=by rfl) : PA X (e :: es) (tCons te t):=by
 intro pos pins s σ H Q I h
 rw [hs]
 show wpAny _ _ (spliced ((false,eval e X.env) :: backTo pos (starEach es X.env))) _ _ s
 refine Calls.spliced_cons (thn (ha pins s σ H _ I h) fun u s1 ⟨x,H1,I1,r1,q1⟩=>?_)
 exact thn (hr pos pins s1 σ H1 _ I1 q1) fun us s2 ⟨xs,H2,I2,r2,q2⟩=>⟨x :: xs,H2,I2,.cons r1 r2,q2⟩

def tTup (t:TA) : TE:=fun σ H Q=>t σ H fun xs H1=>xs.length≤sizeLine∧∀ p,H1 p=none→Q (.ref p) (upd H1 p (.tup xs))
def tLst (t:TA) : TE:=fun σ H Q=>t σ H fun xs H1=>xs.length≤sizeLine∧∀ p,H1 p=none→Q (.ref p) (upd H1 p (.lst xs))
theorem pe_tup {x1} (h:PA X es t) : PE X (.Tuple es x1 pos) (tTup t):=by
 intro pins s σ H Q I hq
 refine wpAny_Tuple_spliced (thn (h pos pins s σ H _ I hq) fun us s1 ⟨xs,H1,I1,r,z,q⟩=>⟨by rw [← r.length]; exact z,?_⟩)
 have hf:H1 s1.heap.objs.size=none:=I1.hok.fresh (Nat.le_refl _)
 refine ⟨.ref s1.heap.objs.size,upd H1 s1.heap.objs.size (.tup xs),I1.laid (t':=s1.toks) (fun b u e=>Heap.get?_push_of_some _ e) (Nat.le_refl _) ?_,rfl,q _ hf⟩
 exact ⟨z,us,r,⟨_,Heap.get?_push_size _ rfl,rfl,_,rfl⟩⟩
theorem pe_lst (h:PA X es t) : PE X (.List es pos) (tLst t):=by
 intro pins s σ H Q I hq
 refine wpAny_List_spliced (thn (h pos pins s σ H _ I hq) fun us s1 ⟨xs,H1,I1,r,z,q⟩=>⟨by rw [← r.length]; exact z,?_⟩)
 have hf:H1 s1.heap.objs.size=none:=I1.hok.fresh (Nat.le_refl _)
 refine ⟨.ref s1.heap.objs.size,upd H1 s1.heap.objs.size (.lst xs),I1.laid (t':=s1.toks) (fun b u e=>Heap.get?_push_of_some _ e) (Nat.le_refl _) ?_,rfl,q _ hf⟩
 exact ⟨z,us,0,r,Heap.get?_push_size _ rfl⟩
end

abbrev Sp:=List V→Hp→VK→XK→Prop
abbrev CXT:=List Env→Hp→Shared→XK→Value→Shared→Prop

structure Env0 (P:Program) (w:World) (K:PySem.W.Frag) (mg:Str→Option Value) (base:Heap) (A:Around) (outer:List Env) (s:Shared) (H:Hp) : Prop where
 frames:A.frames=some outer
 mod:Mod K mg base
 bs:∀ b o,base.get? b=some o→s.heap.get? b=some o∧H b=none
 bsz:base.objs.size≤s.heap.objs.size
 funs:s.heap.FunFrames base outer
 frf:∀ b ∈ frs outer,H b=none
 hok:HOk P w H s.heap
 bare:AllBare s.gens
def CE (outer:List Env) (P:Program) (w:World) (H:Hp) (s:Shared) (Q:VK) (u:Value) (s':Shared) : Prop:=
 ∃ v H',s'.os=s.os∧AllBare s'.gens∧Un (frs outer) [] H H' s.heap s'.heap∧HOk P w H' s'.heap∧RelV v u∧Q v H'
def CR (CX:CXT) (outer:List Env) (P:Program) (w:World) (H:Hp) (s:Shared) (Q:VK) (E:XK) (r:Result) (s':Shared) : Prop:=
 match r with
 | .ok (.ret u)=>CE outer P w H s Q u s'
 | .ok _=>False
 | .error e=>CX outer H s E e s'
structure FnOk (P:Program) (w:World) (K:PySem.W.Frag) (mg:Str→Option Value) (base:Heap) (CX:CXT) (k:Nat) (f:Addr) (fd:FuncData) (ps:List Str) (sp:Sp) : Prop where
 len:∀ vs H Q E,sp vs H Q E→vs.length=ps.length
 run:∀ (A:Around) (outer:List Env) (s:Shared) (H:Hp) (args:Args) (us:List Value) (vs:List V) (Q:VK) (E:XK),Room k A→Env0 P w K mg base A outer s H→BindsTo s fd args (ps.zip us)→Vals vs us→sp vs H Q E →
  codeAny (model P w) A (.call (.ref f) args) (CR CX outer P w H s Q E) s
theorem FnOk.mono {P:Program} {w:World} {K:PySem.W.Frag} {mg:Str→Option Value} {base:Heap} {CX:CXT} {j k:Nat} {f:Addr} {fd:FuncData} {ps:List Str} {sp:Sp} (F:FnOk P w K mg base CX j f fd ps sp) (h:j≤k) :
  FnOk P w K mg base CX k f fd ps sp:=⟨F.len,fun A outer s H args us vs Q E hr=>F.run A outer s H args us vs Q E (hr.mono h)⟩
theorem Env0.in1 {P:Program} {w:World} {K:PySem.W.Frag} {mg:Str→Option Value} {base:Heap} {A:Around} {outer:List Env} {s:Shared} {H:Hp} (e:Env0 P w K mg base A outer s H) :
  Env0 P w K mg base A.in1 outer s H:=⟨e.frames,e.mod,e.bs,e.bsz,e.funs,e.frf,e.hok,e.bare⟩

section
variable {X:Cx} {pins:List (Addr × Obj)} {σ:St} {H:Hp} {s s':Shared}
theorem Inv.env0 (I:Inv X pins σ H s) : Env0 X.prog X.w X.K X.mg X.base X.A X.stack s H:=
 ⟨I.ok.frames,I.ok.mod,I.bs,Nat.le_trans I.ok.bsz I.sz,I.stack,I.stkFree,I.hok,I.bare⟩
theorem Inv.after {Q:VK} {u:Value} (I:Inv X pins σ H s) (h:CE X.stack X.prog X.w H s Q u s') : EP X pins σ Q u s':=by
 obtain ⟨v,H',os,bare,un,hok,r,q⟩:=h
 obtain ⟨hh,g,d,t,os'⟩:=s'
 obtain rfl:os' = s.os:=os
 exact ⟨v,H',I.call (h':=hh) (g':=g) (d':=d) (t':=t) (ch:=[]) un hok bare (fun b z=>absurd z (by simp)),r,q⟩
end

def tCall (sp:Sp) (dvs:List V) (E:XK) (t:TA) : TE:=fun σ H Q=>t σ H fun vs H1=>sp (vs++dvs) H1 Q E
def Binds (K:PySem.W.Frag) (fd:FuncData) (ps:List Str) (ds:List Value) : Prop:=
 ∀ (s:Shared) (us:List Value),K.In s.heap→(us++ds).length=ps.length→BindsTo s fd ⟨us,[]⟩ (ps.zip (us++ds))
theorem Binds.all {K:PySem.W.Frag} {fd:FuncData} {ps:List Str} (h:∀ us:List Value,us.length=ps.length→bindArgs fd ⟨us,[]⟩=pure (ps.zip us)) : Binds K fd ps []:=fun s us _ hl=>by
 rw [List.append_nil] at hl ⊢
 exact .of_eq (h us hl)

def Passes (CX:CXT) (X:Cx) (E:XK) : Prop:=∀ (pins:List (Addr × Obj)) (σ:St) (H:Hp) (s:Shared) (e:Value) (s':Shared),Inv X pins σ H s→CX X.stack H s E e s'→X.xe e s'

section
variable {X:Cx} {CX:CXT} {k:Nat} {f C:Addr} {fd:FuncData} {ps:List Str} {sp:Sp} {dvs:List V} {ds:List Value} {E:XK} {x m:Str} {p pos apos:Pos} {e o:Expr} {es:List Expr} {ta:TE} {t:TA}

theorem run_fn {pins:List (Addr × Obj)} {σ:St} {H:Hp} {s:Shared} {Q:VK} {us:List Value} {vs:List V} (F:FnOk X.prog X.w X.K X.mg X.base CX k f fd ps sp) (hr:Room k X.A) (hb:Binds X.K fd ps ds) (hd:Vals dvs ds) (hx:Passes CX X E)
  (I:Inv X pins σ H s) (r:Vals vs us) (h:sp (vs++dvs) H Q E) : wpAny (model X.prog X.w) X.A (call (.ref f) us) (EP X pins σ Q) X.xe s:=by
 have r2:Vals (vs++dvs) (us++ds):=r.append hd
 have hl:(us++ds).length=ps.length:=by rw [← r2.length]; exact F.len _ _ _ _ h
 refine wpAny_call (codeAny_mono (F.run X.A X.stack s H ⟨us,[]⟩ (us++ds) (vs++dvs) Q E hr I.env0 (hb s us I.kIn hl) r2 h) fun r s' hq=>?_)
 cases r with
 | error e=>exact hx pins σ H s e s' I hq
 | ok fl =>
  cases fl with
  | ret u=>exact I.after hq
  | next=>exact False.elim hq
  | brk=>exact False.elim hq
  | cont=>exact False.elim hq

theorem pe_call (F:FnOk X.prog X.w X.K X.mg X.base CX k f fd ps sp) (hr:Room k X.A) (hg:Gl X x) (hm:X.mg x=some (.ref f)) (hk:PySem.W.keepIn X.K (.ref f)=true) (hb:Binds X.K fd ps ds) (hd:Vals dvs ds) (hx:Passes CX X E)
  (ha:PA X (e :: es) t) (hdb:(x == ("__debug__" : Str))=false:=by decide) (he:starEach (e :: es) X.env=(false,eval e X.env) :: starEach es X.env:=by rfl) (hpl:(backTo pos (starEach es X.env)).any (·.1)=false:=by rfl) :
  PE X (.Call (.Name x p) (e :: es) [] pos) (tCall sp dvs E t):=by
 intro pins s σ H Q I h
 refine wpAny_Call_Name_kw (ld_glob I hg hm ?_ hdb)
 refine PySem.W.callWith_K (h₀:=X.base) I.ok.mod.kin hk (thn (ha pos pins s σ H _ I h) fun us s1 ⟨vs,H1,I1,r,q⟩=>⟨I1.kIn,?_⟩) he hpl
 exact run_fn F hr hb hd hx I1 r q
end

section
variable {X:Cx} {CX:CXT} {k:Nat} {f C:Addr} {fd:FuncData} {ps ks:List Str} {sp:Sp} {E:XK} {x m:Str} {p pos apos kpos:Pos} {e o:Expr} {es:List Expr} {kws:List Keyword} {te ta:TE} {t tk:TA} {nm:Option Str}
variable {g:List Value→List Value→List Value} {gV:List V→List V→List V}
end

structure FnScope (N P:List Str) (sc:Scope) : Prop where
 kind:sc.kind = .function
 co:sc.isCoroutine=false
 gen:sc.isGenerator=false
 nd:N.Nodup
 pre:N.take P.length=P
 par:∀ x ∈ P,sc.names.lookup x=some .local∨sc.names.lookup x=some .cell
 nofree:∀ y ∈ sc.names,y.2≠.free

theorem bindL_out {kindOf:Str→Option NameKind} {x:Str} : ∀ {binds:List (Str × Value)} {m:Str→Option Value},(∀ v,(x,v) ∉ binds)→bindL kindOf binds m x=m x
 | [],_,_=>rfl
 | (n,v) :: r,m,h=>by
  unfold bindL
  rw [bindL_out fun w hw=>h w (List.mem_cons_of_mem _ hw)]
  split
  ·have:x≠n:=by rintro rfl; exact h v List.mem_cons_self
   simp [this]
  ·rfl
theorem bindC_out {kindOf:Str→Option NameKind} {x:Str} : ∀ {binds:List (Str × Value)} {m:Str→Option Value},(∀ v,(x,v) ∉ binds)→bindC kindOf binds m x=m x
 | [],_,_=>rfl
 | (n,v) :: r,m,h=>by
  unfold bindC
  rw [bindC_out fun w hw=>h w (List.mem_cons_of_mem _ hw)]
  split
  ·rfl
  ·have:x≠n:=by rintro rfl; exact h v List.mem_cons_self
   simp [this]
theorem bindL_get {kindOf:Str→Option NameKind} {x:Str} {v:Value} : ∀ {P:List Str} {vs:List Value} {i:Nat} {m:Str→Option Value},P.Nodup→P[i]? = some x→vs[i]? = some v→kindOf x=some .local →
  bindL kindOf (P.zip vs) m x=some v
 | [],_,_,_,_,h,_,_=>by simp at h
 | _ :: _,[],_,_,_,_,h,_=>by simp at h
 | p :: P,w :: vs,0,m,nd,h1,h2,hk=>by
  simp at h1 h2; subst h1; subst h2
  show bindL kindOf ((p,w) :: P.zip vs) m p=_
  unfold bindL
  rw [bindL_out fun v hv=>(List.nodup_cons.mp nd).1 (List.of_mem_zip hv).1,if_pos hk]
  simp
 | p :: P,w :: vs,i+1,m,nd,h1,h2,hk=>by
  show bindL kindOf ((p,w) :: P.zip vs) m x=_
  unfold bindL
  exact bindL_get (i:=i) (List.nodup_cons.mp nd).2 (by simpa using h1) (by simpa using h2) hk
theorem bindC_get {kindOf:Str→Option NameKind} {x:Str} {v:Value} : ∀ {P:List Str} {vs:List Value} {i:Nat} {m:Str→Option Value},P.Nodup→P[i]? = some x→vs[i]? = some v→kindOf x≠some .local →
  bindC kindOf (P.zip vs) m x=some v
 | [],_,_,_,_,h,_,_=>by simp at h
 | _ :: _,[],_,_,_,_,h,_=>by simp at h
 | p :: P,w :: vs,0,m,nd,h1,h2,hk=>by
  simp at h1 h2; subst h1; subst h2
  show bindC kindOf ((p,w) :: P.zip vs) m p=_
  unfold bindC
  rw [bindC_out fun v hv=>(List.nodup_cons.mp nd).1 (List.of_mem_zip hv).1,if_neg hk]
  simp
 | p :: P,w :: vs,i+1,m,nd,h1,h2,hk=>by
  show bindC kindOf ((p,w) :: P.zip vs) m x=_
  unfold bindC
  exact bindC_get (i:=i) (List.nodup_cons.mp nd).2 (by simpa using h1) (by simpa using h2) hk

def start (N:List Str) (vs:List V) : St:=vs.map some++List.replicate (N.length - vs.length) none

def cxOf (CX:CXT) (P:Program) (w:World) (K:PySem.W.Frag) (mg:Str→Option Value) (base:Heap) (N:List Str) (qual:Str) (scope:Scope) (f:Addr) (cd:Value) (A:Around) (outer:List Env) (s:Shared) (H:Hp) (E:XK) : Cx where
 prog:=P
 w:=w
 K:=K
 mg:=mg
 base:=base
 A:=A.deeper (envOfC qual scope s.heap.objs.size f cd)
 N:=N
 s₀:=s
 H₀:=H
 env:=envOfC qual scope s.heap.objs.size f cd
 outer:=outer
 stack:=envOfC qual scope s.heap.objs.size f cd :: outer
 ex:=[]
 calm:=true
 fn:=fun _=>true
 pn:=[]
 xe:=fun e s'=>wpAny (model P w) (A.deeper (envOfC qual scope s.heap.objs.size f cd)) (leaving (envOfC qual scope s.heap.objs.size f cd) e) (fun _ s''=>CX outer H s E e s'') (fun e' s''=>CX outer H s E e' s'') s'

theorem cell_has {sc:Scope} {n:Nat} {x:Str} (h:sc.names.lookup x=some .cell) : ∃ c,(cellsFrom n sc.names []).lookup x=some c:=by
 have q:=PySem.W.cellsFrom_some sc.names n [] (.inl h)
 exact Option.isSome_iff_exists.mp q

theorem inv_start {CX:CXT} {P:Program} {w:World} {K:PySem.W.Frag} {mg:Str→Option Value} {base:Heap} {N ps:List Str} {qual:Str} {scope:Scope} {f:Addr} {cd:Value} {A:Around} {outer:List Env} {s s1:Shared} {H:Hp} {E:XK} {us:List Value} {vs:List V}
  (S:FnScope N ps scope) (hd:A.handled=none) (e0:Env0 P w K mg base A outer s H) (hl:vs.length=ps.length) (r:Vals vs us)
  (x:InCallC s s.heap.objs.size (bindL (envOfC qual scope s.heap.objs.size f cd).kindOf (ps.zip us) fun _=>none) (cellsFrom (s.heap.objs.size+1) scope.names []) (bindC (envOfC qual scope s.heap.objs.size f cd).kindOf (ps.zip us) fun _=>none) s1) :
  Inv (cxOf CX P w K mg base N qual scope f cd A outer s H E) [] (start N vs) H s1:=by
 have hpl:ps.length≤N.length:=by have:=congrArg List.length S.pre; rw [List.length_take] at this; omega
 obtain ⟨h1,tk,rfl,hk⟩:=x.done
 have noA:∀ b:Addr,b ∉ (cxOf CX P w K mg base N qual scope f cd A outer s H E).ex:=fun b z=>absurd (show b ∈ ([] : List Addr) from z) (by simp)
 refine ⟨⟨e0.mod,S.kind,rfl,rfl,Nat.le_refl _,fun y z c h1 h2=>?_,fun y hy=>?_,fun y c _ h=>?_,fun _=>hd,Around.frames_deeper e0.frames,.inr ⟨rfl,rfl⟩,fun b z=>absurd z (noA b),e0.bs,e0.bsz,fun b _ _=>noA b,fun b z=>absurd z (noA b),e0.funs,e0.frf⟩,
  rfl,e0.bare,Un.kept hk,⟨_,x.toInCall.ns,fun i y v h1 h2 h3=>?_⟩,fun y c h=>⟨_,x.cell y c h⟩,e0.hok.fresh (Nat.le_refl _),fun y c h=>?_,fun p hp=>absurd (show p ∈ ([] : List (Addr × Obj)) from hp) (by simp),e0.hok.kept hk,?_⟩
 ·exact name_of_addr x.apart (PySem.mem_of_lookup h1) (PySem.mem_of_lookup h2)
 ·have hy:scope.names.lookup y=some .cell∨scope.names.lookup y=some .free:=hy
  rcases hy with hy | hy
  ·exact cell_has hy
  ·exact absurd rfl (S.nofree _ (PySem.mem_of_lookup hy))
 ·exact Nat.le_of_lt (x.above y c (PySem.mem_of_lookup h))
 ·have hi:i < vs.length:=by
   unfold start at h2
   by_cases hi:i < vs.length
   ·exact hi
   ·rw [List.getElem?_append_right (by simpa using hi)] at h2
    rw [List.getElem?_replicate] at h2
    split at h2 <;> cases h2
  have ha:vs[i]? = some v:=by
   unfold start at h2
   rw [List.getElem?_append_left (by simpa using hi),List.getElem?_map] at h2
   cases e:vs[i]? with
   | none=>rw [e] at h2; cases h2
   | some a=>rw [e] at h2; cases h2; rfl
  obtain ⟨u,hu,rv⟩:=r.get ha
  have hp:ps[i]? = some y:=by
   rw [← S.pre,List.getElem?_take_of_lt (by omega)]; exact h1
  have ndP:ps.Nodup:=by rw [← S.pre]; exact S.nd.sublist (List.take_sublist _ _)
  refine ⟨u,rv,?_⟩
  rcases S.par y (List.mem_of_getElem? hp) with k | k
  ·exact .inl ⟨k,bindL_get ndP hp hu k⟩
  ·obtain ⟨c,e⟩:=cell_has (n:=s.heap.objs.size+1) k
   refine .inr ⟨.inl k,c,e,?_⟩
   have q:=x.cell y c e
   rw [bindC_get ndP hp hu (by show scope.names.lookup y≠_; rw [k]; decide)] at q
   exact q
 ·exact e0.hok.fresh (Nat.le_of_lt (x.above y c (PySem.mem_of_lookup h)))
 ·unfold start
  show _=N.length
  rw [List.length_append,List.length_map,List.length_replicate]
  omega

theorem fn_of {CX:CXT} {P:Program} {w:World} {K:PySem.W.Frag} {mg:Str→Option Value} {base:Heap} {k:Nat} {f:Addr} {name qual:Str} {params:Arguments} {body:List Stmt} {scope:Scope} {dV kV doc pm cdv ct oc:Value} {an od:Option Addr}
  {osl:Array (Option Value)} {N ps:List Str} {sp:Sp} (lk:K.lookup f=some ⟨oc,od,.func (PySem.W.fnOf name qual params body scope dV kV doc pm an cdv ct),osl⟩) (hcd:PySem.W.codeIn K cdv qual=true) (S:FnScope N ps scope)
  (len:∀ vs H Q E,sp vs H Q E→vs.length=ps.length)
  (hbody:∀ (A:Around) (outer:List Env) (s:Shared) (H:Hp) (vs:List V) (Q:VK) (E:XK),Room k (A.deeper (envOfC qual scope s.heap.objs.size f cdv))→sp vs H Q E →
   ∃ t,PSs (cxOf CX P w K mg base N qual scope f cdv A outer s H E) body t∧t { nx:=fun _ H'=>Q .non H',rt:=Q } (start N vs) H) :
  FnOk P w K mg base CX (k+1) f (PySem.W.fnOf name qual params body scope dV kV doc pm an cdv ct) ps sp:=by
 refine ⟨len,fun A outer s H args us vs Q E hr e0 hb r hsp=>?_⟩
 have hl:=len _ _ _ _ hsp
 have KX:K.In s.heap:=e0.mod.kin.keeps fun b o e=>(e0.bs b o e).1
 have lim:s.heap.NoLimit:=e0.mod.nolimit.keeps fun b o e=>(e0.bs b o e).1
 have hkind:∀ y ∈ ps.zip us,scope.names.lookup y.1=some .local∨(scope.names.lookup y.1=some .cell∧((cellsFrom (s.heap.objs.size+1) scope.names []).lookup y.1).isSome=true):=fun ⟨n,v⟩ hy=>by
  rcases S.par n (List.of_mem_zip hy).1 with q | q
  ·exact .inl q
  ·exact .inr ⟨q,PySem.W.cellsFrom_some _ _ _ (.inl q)⟩
 refine codeAny_call_function hr.depth (KX _ _ lk) rfl S.co S.gen rfl (PySem.W.codeRec_of KX hcd) (hb _ _ _ _ ?_)
 refine wpAny_newFunctionEnv_cells S.kind hkind fun env he s1 x=>?_
 subst he
 refine ⟨lim.keeps x.toInCall.keep,codeAny_func ?_⟩
 obtain ⟨t,ht,hq⟩:=hbody A outer s H vs Q E (hr.deeper _) hsp
 have I:Inv (cxOf CX P w K mg base N qual scope f cdv A outer s H E) [] (start N vs) H s1:=inv_start S hr.hd e0 hl r x
 refine wpAny_mono (ht [] s1 (start N vs) H _ I hq) (fun fl s' hs=>?_) fun e s' hs=>hs
 have fin:∀ {σ':St} {H':Hp} {v:V} {u:Value},Inv (cxOf CX P w K mg base N qual scope f cdv A outer s H E) [] σ' H' s'→RelV v u→Q v H'→CE outer P w H s Q u s':=
  fun {σ' H' v u} J rv q=>⟨v,H',J.os,J.bare,J.base,J.hok,rv,q⟩
 cases fl with
 | ret u =>
  obtain ⟨v,σ',H',J,rv,q⟩:=hs
  exact fin J rv q
 | next =>
  obtain ⟨σ',H',J,q⟩:=hs
  exact fin (v:=V.non) (u:=Value.none) J rfl q
 | brk =>
  obtain ⟨_,_,_,q⟩:=hs
  exact False.elim q
 | cont =>
  obtain ⟨_,_,_,q⟩:=hs
  exact False.elim q
section
variable {X:Cx} {x:Str} {p pos:Pos} {e:Expr} {es:List Expr} {t:TA} {id T:String} {r:List V→Hp→VK→Prop}

def tCB (r:List V→Hp→VK→Prop) (t:TA) : TE:=fun σ H Q=>t σ H fun vs H1=>r vs H1 Q
theorem pe_callB (hc:CallR X (.builtin id) r) (hg:Gl X x) (hm:X.mg x=none) (hv:bootBuiltins x=some (.builtin id)) (ha:PA X (e :: es) t) (hn:x≠"__name__":=by decide) (hdb:(x == ("__debug__" : Str))=false:=by decide)
  (he:starEach (e :: es) X.env=(false,eval e X.env) :: starEach es X.env:=by rfl) (hpl:(backTo pos (starEach es X.env)).any (·.1)=false:=by rfl) : PE X (.Call (.Name x p) (e :: es) [] pos) (tCB r t):=by
 intro pins s σ H Q I h
 refine wpAny_Call_Name_kw (ld_blt I hg hm hv ?_ hn hdb)
 exact PyProof.Rows.callWith_builtin1 (thn (ha pos pins s σ H _ I h) fun us s1 ⟨vs,H1,I1,r1,q1⟩=>hc pins s1 σ H1 vs us Q I1 r1 q1) he hpl
theorem pe_callTy (hc:CallR X (.type T) r) (hg:Gl X x) (hm:X.mg x=none) (hv:bootBuiltins x=some (.type T)) (ha:PA X (e :: es) t) (hn:x≠"__name__":=by decide) (hdb:(x == ("__debug__" : Str))=false:=by decide)
  (he:starEach (e :: es) X.env=(false,eval e X.env) :: starEach es X.env:=by rfl) (hpl:(backTo pos (starEach es X.env)).any (·.1)=false:=by rfl) : PE X (.Call (.Name x p) (e :: es) [] pos) (tCB r t):=by
 intro pins s σ H Q I h
 refine wpAny_Call_Name_kw (ld_blt I hg hm hv ?_ hn hdb)
 exact PyProof.Rows.callWith_type1 (thn (ha pos pins s σ H _ I h) fun us s1 ⟨vs,H1,I1,r1,q1⟩=>hc pins s1 σ H1 vs us Q I1 r1 q1) he hpl
end
end L2

namespace HT
open PySem PyProof.Rows

section
open PySem.SeqAt
open PySem.AutoSeq1 (wpAny_loadPart')
open PySem.MeetsSeq PySem.MeetsSeq2 PySem.MeetsSeq3

end

section
variable {prog:Program} {w:World} {A:Around} {E:Value→Shared→Prop} {s:Shared}

def sIx (n d:Nat) : Option Int→Nat
 | none=>d
 | some v=>if v < 0 then (v+(n:Int)).toNat else min v.toNat n
theorem sIx_none (n d:Nat) : sIx n d none=d:=rfl
theorem sIx_nat (n d k:Nat) : sIx n d (some (k:Int))=min k n:=by
 show (if (k:Int) < 0 then ((k:Int)+(n:Int)).toNat else min (k:Int).toNat n)=min k n
 rw [if_neg (by omega),Int.toNat_natCast]
theorem sIx_le (n d:Nat) (hd:d≤n) (o:Option Int) : sIx n d o≤n:=by
 cases o with
 | none=>exact hd
 | some v =>
  show (if v < 0 then (v+(n:Int)).toNat else min v.toNat n)≤n
  by_cases hv:v < 0
  ·rw [if_pos hv]; omega
  ·rw [if_neg hv]; exact Nat.min_le_right _ _
theorem clip_eq (v:Int) (n d:Nat) : (if v < 0 then max (v+(n:Int)) 0 else min v (n:Int))=((sIx n d (some v) : Nat) : Int):=by
 show (if v < 0 then max (v+(n:Int)) 0 else min v (n:Int))=(((if v < 0 then (v+(n:Int)).toNat else min v.toNat n) : Nat) : Int)
 by_cases hv:v < 0
 ·simp only [if_pos hv]; omega
 ·simp only [if_neg hv]; omega
end
end HT

namespace L2
open PySem PySem.Spec PyProof.Rows

abbrev TO:=St→Hp→(Option Int→Hp→Prop)→Prop
def PO (X:Cx) (e:Option Expr) (t:TO) : Prop:=
 ∀ (pins:List (Addr × Obj)) (s:Shared) (σ:St) (H:Hp) (Q:Option Int→Hp→Prop),Inv X pins σ H s→t σ H Q →
  wpAny (model X.prog X.w) X.A (evalPart e X.env) (fun u s'=>∃ o H',Inv X pins σ H' s'∧IsPart u o∧Q o H') X.xe s
def tNoPart:TO:=fun _ H Q=>Q none H
def tPart (t:TE) : TO:=fun σ H Q=>t σ H fun x H1=>∃ i,x = .int i∧Q (some i) H1

section
variable {X:Cx} {e:Expr} {te:TE} {lo hi:Option Expr} {tl th:TO} {pos p2:Pos}

theorem po_none:PO X none tNoPart:=by
 intro pins s σ H Q I h
 rw [evalPart_none]
 exact wpAny_pure ⟨none,H,I,.none,h⟩
theorem po_some (h:PE X e te) : PO X (some e) (tPart te):=by
 intro pins s σ H Q I hw
 rw [evalPart_some]
 refine thn (h pins s σ H _ I hw) fun u s1 ⟨x,H1,I1,r1,q1⟩=>?_
 obtain ⟨i,rfl,q⟩:=q1
 obtain ⟨t,rfl⟩:=r1
 exact ⟨some i,H1,I1,.int i t,q⟩

def SlR (X:Cx) (r:V→Option Int→Option Int→Hp→VK→Prop) : Prop:=
 ∀ (pins:List (Addr × Obj)) (s:Shared) (σ:St) (H:Hp) (x:V) (v vl vu:Value) (lo hi:Option Int) (sl:Addr) (Q:VK),Inv X pins σ H s→RelV x v→s.heap.IsSliceOf sl vl vu .none→IsPart vl lo→IsPart vu hi→r x lo hi H Q →
  ∃ T id,typeLookup (.type T) "__getitem__" = pure (some (.builtin id))∧s.TypeIs v T∧wpAny (model X.prog X.w) X.A (getItem v (.ref sl)) (EP X pins σ Q) X.xe s
def tSl (r:V→Option Int→Option Int→Hp→VK→Prop) (te:TE) (tl th:TO) : TE:=fun σ H Q=>te σ H fun x H1=>tl σ H1 fun l H2=>th σ H2 fun u H3=>r x l u H3 Q
theorem pe_slice {r:V→Option Int→Option Int→Hp→VK→Prop} (hr:SlR X r) (he:PE X e te) (hl:PO X lo tl) (hu:PO X hi th) : PE X (.Subscript e (.Slice lo hi none p2) pos) (tSl r te tl th):=by
 intro pins s σ H Q I h
 refine Subscript_ (thn (he pins s σ H _ I h) fun v s1 ⟨x,H1,I1,r1,q1⟩=>?_)
 refine wpAny_Slice (thn (hl pins s1 σ H1 _ I1 q1) fun vl s2 ⟨l,H2,I2,pl,q2⟩=>thn (hu pins s2 σ H2 _ I2 q2) fun vu s3 ⟨u,H3,I3,pu,q3⟩=>?_)
 rw [evalPart_none]
 refine wpAny_pure ?_
 have I4:Inv X pins σ H3 { s3 with heap:=s3.heap.push { cls:=.type "slice",data:=.fields #[vl,vu,.none] } }:=I3.kept (t':=s3.toks) fun b ob q=>Heap.get?_push_of_some _ q
 obtain ⟨T,id,hT,ht,hg⟩:=hr pins { s3 with heap:=s3.heap.push { cls:=.type "slice",data:=.fields #[vl,vu,.none] } } σ H3 x v vl vu l u s3.heap.objs.size Q I4 r1 (Heap.IsSliceOf.new ..) pl pu q3
 show wpAny (model X.prog X.w) X.A (subscriptTail e (.Slice lo hi none p2) v (.ref s3.heap.objs.size)) (EP X pins σ Q) X.xe { s3 with heap:=s3.heap.push { cls:=.type "slice",data:=.fields #[vl,vu,.none] } }
 exact tail_any (ops:=[.ref s3.heap.objs.size,v]) ht hT hg (by with_unfolding_all rfl)

def cutV (xs:List V) (lo hi:Option Int) : List V:=(xs.drop (HT.sIx xs.length 0 lo)).take (HT.sIx xs.length xs.length hi - HT.sIx xs.length 0 lo)
theorem cutV_length (xs:List V) (lo hi:Option Int) : (cutV xs lo hi).length≤xs.length:=by
 unfold cutV
 rw [List.length_take,List.length_drop]
 omega
end

def ixN (n:Nat) (i:Int) : Option Nat:=if 0≤i then (if i < n then some i.toNat else none) else if -(n:Int)≤i then some (i+n).toNat else none
def atI {α:Type} (xs:List α) (i:Int) : Option α:=(ixN xs.length i).bind fun j=>xs[j]?
theorem ixN_seq {n:Nat} {i:Int} {j:Nat} (h:ixN n i=some j) : seqIndex? i n=some j∧j < n∧-(n:Int)≤i∧i < n:=by
 unfold ixN at h
 by_cases h0:0≤i
 ·rw [if_pos h0] at h
  by_cases h1:i < n
  ·rw [if_pos h1] at h
   have e:i.toNat=j:=Option.some.inj h
   exact ⟨by rw [seqIndex_of h0 h1,e],by omega,by omega,h1⟩
  ·rw [if_neg h1] at h; cases h
 ·rw [if_neg h0] at h
  by_cases h1:-(n:Int)≤i
  ·rw [if_pos h1] at h
   have e:(i+n).toNat=j:=Option.some.inj h
   exact ⟨by rw [seqIndex_neg (by omega) h1,e],by omega,h1,by omega⟩
  ·rw [if_neg h1] at h; cases h
theorem atI_get {α:Type} {xs:List α} {i:Int} {v:α} (h:atI xs i=some v) : ∃ j,seqIndex? i xs.length=some j∧xs[j]? = some v∧j < xs.length∧-(xs.length:Int)≤i∧i < xs.length:=by
 unfold atI at h
 cases e:ixN xs.length i with
 | none=>rw [e] at h; cases h
 | some j =>
  rw [e] at h
  obtain ⟨h1,h2,h3,h4⟩:=ixN_seq e
  exact ⟨j,h1,h,h2,h3,h4⟩
theorem atI_nat {α:Type} {xs:List α} {j:Nat} {v:α} (h:xs[j]? = some v) : atI xs (j:Int)=some v:=by
 have hj:j < xs.length:=(List.getElem?_eq_some_iff.mp h).1
 have e:ixN xs.length (j:Int)=some j:=by
  unfold ixN
  rw [if_pos (by omega),if_pos (by omega)]; simp
 unfold atI; rw [e]; exact h
theorem atI_last {α:Type} (xs:List α) (v:α) : atI (xs++[v]) (-1)=some v:=by
 have hl:(xs++[v]).length=xs.length+1:=by simp
 have e:ixN (xs++[v]).length (-1)=some xs.length:=by
  unfold ixN
  rw [hl,if_neg (by decide),if_pos (by omega)]
  congr 1
  omega
 unfold atI
 rw [e]
 show (xs++[v])[xs.length]? = some v
 simp

def PlainIx (b:Expr) : Prop:=∀ o i,subscripted b false o i=operate [o,i] (getItem o i)
def IxR (X:Cx) (r:R2) : Prop:=
 ∀ (value slice:Expr) (pins:List (Addr × Obj)) (s:Shared) (σ:St) (H:Hp) (x y:V) (v u:Value) (Q:VK),Inv X pins σ H s→RelV x v→RelV y u→r x y H Q →
  subscripted slice false v u=operate [v,u] (getItem v u)→wpAny (model X.prog X.w) X.A (subscriptTail value slice v u) (EP X pins σ Q) X.xe s
def MtR (X:Cx) (id:String) (r:V→List V→Hp→VK→Prop) : Prop:=
 ∀ (pins:List (Addr × Obj)) (s:Shared) (σ:St) (H:Hp) (x:V) (xs:List V) (v:Value) (us:List Value) (Q:VK),Inv X pins σ H s→RelV x v→Vals xs us→r x xs H Q →
  wpAny (model X.prog X.w) X.A (call (.builtin id) (v :: us)) (EP X pins σ Q) X.xe s
section
variable {X:Cx} {a b:Expr} {ta tb:TE} {pos:Pos}
theorem pe_ix {r:R2} (hr:IxR X r) (ha:PE X a ta) (hb:PE X b tb) (hs:PlainIx b) : PE X (.Subscript a b pos) (tOp r ta tb):=by
 intro pins s σ H Q I h
 exact Subscript_ (binT ha hb I h fun v u s2 x y H2 I2 rx ry q=>hr a b pins s2 σ H2 x y v u Q I2 rx ry q (hs _ _))

def rIxL (K:PySem.W.Frag) : R2:=fun x y H Q=>∃ p xs i v,x = .ref p∧y = .int i∧SqL K H p xs∧atI xs i=some v∧Q v H
def rIxT (K:PySem.W.Frag) : R2:=fun x y H Q=>∃ p xs i v,x = .ref p∧y = .int i∧SqT K H p xs∧atI xs i=some v∧Q v H
def rIxS:R2:=fun x y H Q=>∃ z i c,x = .str z∧y = .int i∧z.length≤sizeLine∧atI z.cps.toList i=some c∧Q (.str ⟨#[c]⟩) H
theorem ix_list:IxR X (rIxL X.K):=by
 intro value slice pins s σ H x y v u Q I rx ry h hs
 obtain ⟨p,xs,i,z,rfl,rfl,hq,he,q⟩:=h
 cases rx
 obtain ⟨t,rfl⟩:=ry
 obtain ⟨its,r,pl,hz⟩:=I.list hq
 obtain ⟨j,h1,h2,h3,h4,h5⟩:=atI_get he
 obtain ⟨w,ew,rw'⟩:=r.get h2
 have hl:=r.length
 have hn:=line63
 have fin:EP X pins σ Q w s:=⟨z,H,I,rw',q⟩
 by_cases h0:0≤i
 ·have hj:i.toNat=j:=by
   rw [seqIndex_of h0 h5] at h1
   exact Option.some.inj h1
  exact item_listR pl.isList h0 (by omega) (by rw [hj]; simpa using ew) fin hs
 ·have hj:(i+(its.toArray.size:Int)).toNat=j:=by
   rw [seqIndex_neg (by omega) h4] at h1
   rw [List.size_toArray,← hl]
   exact Option.some.inj h1
  exact subscriptTail_builtinR (x:=w) pl.isList.typeIs slot_list_getitem.lookup
   (wpAny_getItem_list_neg (Q:=fun r s'=>r=w∧EP X pins σ Q r s') pl.isList (by omega) (by rw [List.size_toArray] <;> omega) (by omega) (by rw [hj]; simpa using ew) ⟨rfl,fin⟩) hs
theorem ix_tup:IxR X (rIxT X.K):=by
 intro value slice pins s σ H x y v u Q I rx ry h hs
 obtain ⟨p,xs,i,z,rfl,rfl,hq,he,q⟩:=h
 cases rx
 obtain ⟨t,rfl⟩:=ry
 obtain ⟨its,r,pl,hz⟩:=I.tuple hq
 obtain ⟨j,h1,h2,h3,h4,h5⟩:=atI_get he
 obtain ⟨w,ew,rw'⟩:=r.get h2
 have hl:=r.length
 have hn:=line63
 have fin:EP X pins σ Q w s:=⟨z,H,I,rw',q⟩
 exact subscriptTail_builtinR (x:=w) pl.typeIs slot_tuple_getitem.lookup
  (getItem_tuple (j:=j) (Q:=fun r s'=>r=w∧EP X pins σ Q r s') pl (by omega) (by omega) (by rw [List.size_toArray,← hl]; exact h1) (by simpa using ew) ⟨rfl,fin⟩) hs
theorem ix_str:IxR X rIxS:=by
 intro value slice pins s σ H x y v u Q I rx ry h hs
 obtain ⟨z,i,c,rfl,rfl,hz,he,q⟩:=h
 obtain ⟨t,rfl⟩:=rx
 obtain ⟨t',rfl⟩:=ry
 obtain ⟨j,h1,h2,h3,h4,h5⟩:=atI_get he
 have hl:z.cps.toList.length=z.length:=by simp [Str.length]
 rw [hl] at h1 h4 h5
 have hn:=line63
 exact tail_any (typeIs_str s z t) slot_str_getitem.lookup (getItem_str (c:=c) (by
  have e1:decide (i < -(2 ^ 63:Int))=false:=decide_eq_false (by omega)
  have e2:decide (i ≥ 2 ^ 63)=false:=decide_eq_false (by omega)
  rw [e1,e2,Bool.or_false]) (by rw [h1]; simpa using h2) ⟨.str ⟨#[c]⟩,H,I.tok _,⟨_,rfl⟩,q⟩) hs
theorem Inv.lst {pins:List (Addr × Obj)} {σ:St} {H:Hp} {s:Shared} {p:Addr} {xs:List V} (I:Inv X pins σ H s) (h:H p=some (.lst xs)) :
  ∃ (its:List Value) (n:Nat),Vals xs its∧s.heap.get? p=some { cls:=.type "list",data:=.seq its.toArray n }∧xs.length≤sizeLine:=by
 obtain ⟨z,its,n,r,e⟩:=I.hok p _ h
 exact ⟨its,n,r,e,z⟩
theorem slice_bounds (lo hi:Option Int) (n:Nat) : (sliceBounds lo hi none n).1=((HT.sIx n 0 lo:Nat) : Int)∧(sliceBounds lo hi none n).2.1=((HT.sIx n n hi:Nat) : Int)∧(sliceBounds lo hi none n).2.2=1:=by
 refine ⟨?_,?_,rfl⟩
 ·cases lo with
  | none=>simp [sliceBounds,HT.sIx]
  | some i =>
   simp only [sliceBounds,HT.sIx,Option.getD_none,show (1:Int) > 0 by decide,if_true]
   by_cases h:i < 0
   ·simp only [h,if_true] <;> omega
   ·simp only [h,if_false] <;> omega
 ·cases hi with
  | none=>simp [sliceBounds,HT.sIx]
  | some i =>
   simp only [sliceBounds,HT.sIx,Option.getD_none,show (1:Int) > 0 by decide,if_true]
   by_cases h:i < 0
   ·simp only [h,if_true] <;> omega
   ·simp only [h,if_false] <;> omega
theorem slicePick_cut (its:List Value) (lo hi:Option Int) : slicePick its.toArray lo hi none=((its.drop (HT.sIx its.length 0 lo)).take (HT.sIx its.length its.length hi - HT.sIx its.length 0 lo)).toArray:=by
 obtain ⟨h1,h2,h3⟩:=slice_bounds lo hi its.toArray.size
 unfold slicePick
 rw [h1,h2,h3]
 simp only [sliceRange_one,pick_run,List.size_toArray] <;> rfl
def rSlL (K:PySem.W.Frag) : V→Option Int→Option Int→Hp→VK→Prop:=fun x lo hi H Q=>∃ a xs,x = .ref a∧SqL K H a xs∧∀ p,H p=none→Q (.ref p) (upd H p (.lst (cutV xs lo hi)))
theorem sl_list:SlR X (rSlL X.K):=by
 intro pins s σ H x v vl vu lo hi sl Q I rx hs pl pu h
 obtain ⟨a,xs,rfl,hx,q⟩:=h
 cases rx
 obtain ⟨its,r,ht,hz⟩:=I.list hx
 have hlen:=r.length
 refine ⟨"list",_,slot_list_getitem.lookup,ht.isList.typeIs,?_⟩
 refine wpAny_getItem_list_slice ht.isList hs pl pu .none (by simp) ?_ (by rw [List.size_toArray] <;> omega)
 rw [slicePick_cut,← hlen]
 refine ⟨.ref s.heap.objs.size,_,I.laid (t':=s.toks) (o:=.lst (cutV xs lo hi)) (fun b ob q=>Heap.get?_push_of_some _ q) (Nat.le_refl _) ?_,rfl,q _ (I.hok.fresh (Nat.le_refl _))⟩
 exact ⟨Nat.le_trans (cutV_length xs lo hi) hz,_,0,(r.drop (HT.sIx xs.length 0 lo)).take (HT.sIx xs.length xs.length hi - HT.sIx xs.length 0 lo),Heap.get?_push_size _ rfl⟩

def flatV:V→Bool
 | .non=>true
 | .bl _=>true
 | .int _=>true
 | .str _=>true
 | _=>false
def eqV:V→V→Bool
 | .non,.non=>true
 | .bl a,.bl b=>a == b
 | .bl a,.int b=>(if a then 1 else 0) == b
 | .int a,.bl b=>a == (if b then 1 else 0)
 | .int a,.int b=>a == b
 | .str a,.str b=>a == b
 | _,_=>false
theorem eqAt_V {A:Around} {s:Shared} {y x:V} {u v:Value} (ry:RelV y u) (rx:RelV x v) (fy:flatV y=true) (fx:flatV x=true) : SeqAt.EqAt A s u v (eqV y x):=by
 cases y with
 | non =>
  cases ry
  cases x with
  | non=>cases rx; exact SeqAt.EqAt.same _
  | bl b=>cases rx; exact SeqAt.EqAt.none_bool b
  | int b=>obtain ⟨t,rfl⟩:=rx; exact SeqAt.EqAt.none_int b t
  | str b=>obtain ⟨t,rfl⟩:=rx; exact SeqAt.EqAt.none_str b t
  | _=>exact absurd (show false=true from fx) Bool.false_ne_true
 | bl a =>
  cases ry
  cases x with
  | non=>cases rx; exact SeqAt.EqAt.bool_none a
  | bl b=>cases rx; exact SeqAt.EqAt.bool_bool a b
  | int b=>obtain ⟨t,rfl⟩:=rx; exact SeqAt.EqAt.bool_int a b t
  | str b=>obtain ⟨t,rfl⟩:=rx; exact SeqAt.EqAt.bool_str a b t
  | _=>exact absurd (show false=true from fx) Bool.false_ne_true
 | int a =>
  obtain ⟨t',rfl⟩:=ry
  cases x with
  | non=>cases rx; exact SeqAt.EqAt.int_none a t'
  | bl b=>cases rx; exact SeqAt.EqAt.int_bool a t' b
  | int b=>obtain ⟨t,rfl⟩:=rx; exact SeqAt.EqAt.int_int a t' b t
  | str b=>obtain ⟨t,rfl⟩:=rx; exact SeqAt.EqAt.int_str a t' b t
  | _=>exact absurd (show false=true from fx) Bool.false_ne_true
 | str a =>
  obtain ⟨t',rfl⟩:=ry
  cases x with
  | non=>cases rx; exact SeqAt.EqAt.str_none a t'
  | bl b=>cases rx; exact SeqAt.EqAt.str_bool a t' b
  | int b=>obtain ⟨t,rfl⟩:=rx; exact SeqAt.EqAt.str_int a t' b t
  | str b=>obtain ⟨t,rfl⟩:=rx; exact SeqAt.EqAt.str_str a t' b t
  | _=>exact absurd (show false=true from fx) Bool.false_ne_true
 | _=>exact absurd (show false=true from fy) Bool.false_ne_true
def eqU (x:V) (u:Value) : Bool:=match u with
 | .none=>eqV .non x
 | .bool b=>eqV (.bl b) x
 | .int i _=>eqV (.int i) x
 | .str z _=>eqV (.str z) x
 | _=>false
theorem eqU_of {x y:V} {u:Value} (r:RelV y u) (f:flatV y=true) : eqU x u=eqV y x:=by
 cases y with
 | non=>cases r; rfl
 | bl b=>cases r; rfl
 | int i=>obtain ⟨t,rfl⟩:=r; rfl
 | str z=>obtain ⟨t,rfl⟩:=r; rfl
 | _=>exact absurd (show false=true from f) Bool.false_ne_true
theorem any_eqU {x:V} : ∀ {xs:List V} {us:List Value},Vals xs us→xs.all flatV=true→us.any (eqU x)=xs.any fun y=>eqV y x
 | _,_,.nil,_=>rfl
 | y :: xs,u :: us,.cons r t,f=>by
  rw [List.all_cons,Bool.and_eq_true] at f
  rw [List.any_cons,List.any_cons,eqU_of r f.1,any_eqU t f.2]
theorem mem_eqAt {A:Around} {s:Shared} {x:V} {v:Value} (rx:RelV x v) (fx:flatV x=true) : ∀ {xs:List V} {us:List Value},Vals xs us→xs.all flatV=true→∀ u ∈ us,SeqAt.EqAt A s u v (eqU x u)
 | _,_,.nil,_=>fun u hu=>by cases hu
 | y :: xs,u :: us,.cons r t,f=>fun u' hu=>by
  rw [List.all_cons,Bool.and_eq_true] at f
  rcases List.mem_cons.mp hu with rfl | hu
  ·rw [eqU_of r f.1]; exact eqAt_V r rx f.1 fx
  ·exact mem_eqAt rx fx t f.2 u' hu
def inV (x:V) (xs:List V) : Bool:=xs.any fun y=>eqV y x
def rIn (K:PySem.W.Frag) (neg:Bool) : R2:=fun x y H Q=>∃ p xs,y = .ref p∧(SqL K H p xs∨SqT K H p xs)∧flatV x=true∧xs.all flatV=true∧Q (.bl (if neg then !inV x xs else inV x xs)) H
theorem op_in_seq:OpR X (compareOp .In) (rIn X.K false):=by
 intro pins s σ H x y v u Q I rx ry h
 obtain ⟨p,xs,rfl,hq,fx,fs,q⟩:=h
 cases ry
 rcases hq with hq | hq
 ·obtain ⟨its,r,pl,hz⟩:=I.list hq
  refine SeqAt.in_listAt (eqU x) pl.isList (fun w hw=>mem_eqAt rx fx r fs w (by simpa using hw)) ⟨.bl _,H,I,rfl,?_⟩
  rw [show its.toArray.any (eqU x)=its.any (eqU x) by simp,any_eqU r fs]
  exact q
 ·obtain ⟨its,r,pl,hz⟩:=I.tuple hq
  refine SeqAt.in_tupleAt (eqU x) pl (fun w hw=>mem_eqAt rx fx r fs w (by simpa using hw)) ⟨.bl _,H,I,rfl,?_⟩
  rw [show its.toArray.any (eqU x)=its.any (eqU x) by simp,any_eqU r fs]
  exact q
theorem op_notIn_seq:OpR X (compareOp .NotIn) (rIn X.K true):=by
 intro pins s σ H x y v u Q I rx ry h
 obtain ⟨p,xs,rfl,hq,fx,fs,q⟩:=h
 cases ry
 rcases hq with hq | hq
 ·obtain ⟨its,r,pl,hz⟩:=I.list hq
  refine SeqAt.notIn_listAt (eqU x) pl.isList (fun w hw=>mem_eqAt rx fx r fs w (by simpa using hw)) ⟨.bl _,H,I,rfl,?_⟩
  rw [show its.toArray.any (eqU x)=its.any (eqU x) by simp,any_eqU r fs]
  exact q
 ·obtain ⟨its,r,pl,hz⟩:=I.tuple hq
  refine SeqAt.notIn_tupleAt (eqU x) pl (fun w hw=>mem_eqAt rx fx r fs w (by simpa using hw)) ⟨.bl _,H,I,rfl,?_⟩
  rw [show its.toArray.any (eqU x)=its.any (eqU x) by simp,any_eqU r fs]
  exact q
theorem call_len_seq:CallR X (.builtin "len") (fun xs H Q=>∃ p ys,xs=[.ref p]∧(SqL X.K H p ys∨SqT X.K H p ys)∧Q (.int ys.length) H):=by
 intro pins s σ H xs us Q I r h
 obtain ⟨p,ys,rfl,hq,q⟩:=h
 obtain ⟨u,rfl,rx⟩:=vals1 r
 cases rx
 have hn:=line63
 rcases hq with hq | hq
 ·obtain ⟨its,r',pl,hz⟩:=I.list hq
  have hlen:=r'.length
  exact Calls.call_len_list pl.isList (by simp only [List.size_toArray] <;> omega) ⟨.int ys.length,H,I.tok _,⟨s.toks+1,by rw [List.size_toArray,hlen]⟩,q⟩
 ·obtain ⟨its,r',pl,hz⟩:=I.tuple hq
  have hlen:=r'.length
  exact len_tuple pl (by simp only [List.size_toArray] <;> omega) ⟨.int ys.length,H,I.tok _,⟨s.toks+1,by rw [List.size_toArray,hlen]⟩,q⟩
theorem call_len_str:CallR X (.builtin "len") (fun xs H Q=>∃ z,xs=[.str z]∧z.length≤sizeLine∧Q (.int z.length) H):=by
 intro pins s σ H xs us Q I r h
 obtain ⟨z,rfl,hz,q⟩:=h
 obtain ⟨u,rfl,t,rfl⟩:=vals1 r
 have hn:=line63
 exact len_str (by omega) ⟨.int z.length,H,I.tok _,⟨_,rfl⟩,q⟩
def tyV (K:PySem.W.Frag) (T:String) (x:V) (H:Hp) : Prop:=match x with
 | .str _=>T = "str"
 | .int _=>T = "int"
 | .ref p=>(T = "list"∧∃ xs,SqL K H p xs)∨(T = "tuple"∧∃ o,K.lookup p=some o∧o.cls = .type "tuple"∧o.dict=none) ∨
   (T = "dict"∧((∃ kvs,H p=some (.dK kvs))∨∃ kvs,H p=some (.dT kvs)))∨(T = "set"∧∃ S n,H p=some (.set S n))
 | _=>False
theorem tyV_is {pins:List (Addr × Obj)} {σ:St} {H:Hp} {s:Shared} {T:String} {x:V} {v:Value} (I:Inv X pins σ H s) (r:RelV x v) (ty:tyV X.K T x H) :
  s.TypeIs v T∧∀ a,v = .ref a→∃ ob,s.heap.get? a=some ob∧ob.dict=none:=by
 cases x with
 | str z =>
  obtain ⟨t,rfl⟩:=r
  cases (show T = "str" from ty)
  exact ⟨typeIs_str s z t,fun _ e=>nomatch e⟩
 | int i =>
  obtain ⟨t,rfl⟩:=r
  cases (show T = "int" from ty)
  exact ⟨typeIs_int s i t,fun _ e=>nomatch e⟩
 | ref p =>
  cases r
  rcases ty with ⟨rfl,xs,hq⟩ | ⟨rfl,o,hk,hc,hd⟩ | ⟨rfl,hk⟩ | ⟨rfl,S,n,hk⟩
  ·obtain ⟨its,_,pl,_⟩:=I.list hq
   refine ⟨pl.isList.typeIs,fun a e=>?_⟩
   cases e
   obtain ⟨o,n,e,c,hd,_⟩:=pl
   exact ⟨o,e,hd⟩
  ·refine ⟨⟨o,I.kIn p o hk,hc⟩,fun a e=>?_⟩
   cases e
   exact ⟨o,I.kIn _ o hk,hd⟩
  ·have z:∃ o,s.heap.get? p=some o∧o.ExactDict:=by
    rcases hk with ⟨kvs,hk⟩ | ⟨kvs,hk⟩
    ·obtain ⟨_,_,_,_,o,_,_,e,ex,_⟩:=I.hok p _ hk
     exact ⟨o,e,ex⟩
    ·obtain ⟨_,_,_,_,o,_,_,e,ex,_⟩:=I.hok p _ hk
     exact ⟨o,e,ex⟩
   obtain ⟨o,e,ex⟩:=z
   refine ⟨⟨o,e,ex.1⟩,fun a e2=>?_⟩
   cases e2
   exact ⟨o,e,ex.2.1⟩
  ·obtain ⟨o,_,_,_,e,ex,_⟩:=I.hok p _ hk
   refine ⟨⟨o,e,ex.1⟩,fun a e2=>?_⟩
   cases e2
   exact ⟨o,e,ex.2.1⟩
 | _=>exact False.elim ty
def tBM (K:PySem.W.Frag) (T:String) (r:V→List V→Hp→VK→Prop) (to:TE) (t:TA) : TE:=fun σ H Q=>to σ H fun x H1=>tyV K T x H1∧t σ H1 fun xs H2=>r x xs H2 Q
variable {o e:Expr} {es:List Expr} {to:TE} {t:TA} {name:Str} {apos cpos:Pos} {T id:String} {r:V→List V→Hp→VK→Prop}
theorem pe_bm (pa:PlainAttrs T) (slot:Slot T name id) (hty:typeOf (.builtin id)=pure (.type "method_descriptor")) (hm:MtR X id r) (ho:PE X o to) (ha:PA X (e :: es) t)
  (hbase:attributeBase o name X.env (eval o X.env)=eval o X.env:=by rfl)
  (hfew:((backTo cpos (starEach (e :: es) X.env)).all (fun x=>!x.1) && (backToKw cpos (keywordEach [] X.env)).all (fun x=>x.1.isSome)
   && decide ((e :: es).length+([] : List Keyword).length+(if ([] : List Keyword).isEmpty then 0 else 1) < 30))=true:=by rfl)
  (hline:(apos.endLine == cpos.line)=true:=by rfl) (hs:starEach (e :: es) X.env=(false,eval e X.env) :: starEach es X.env:=by rfl) (hplain:(backTo cpos (starEach es X.env)).any (·.1)=false:=by rfl) :
  PE X (.Call (.Attribute o name apos) (e :: es) [] cpos) (tBM X.K T r to t):=by
 intro pins s σ H Q I h
 refine wpAny_Call_method_late hbase hfew hline rfl (thn (ho pins s σ H _ I h) fun v s1 ⟨x,H1,I1,r1,ty,q1⟩=>?_)
 obtain ⟨h1,h2⟩:=tyV_is I1 r1 ty
 refine ⟨T,id,pa,slot,hty,h1,h2,?_⟩
 have hA:=ha cpos pins s1 σ H1 _ I1 q1
 rw [hs] at hA ⊢
 refine Calls.callWith_builtin (by show (false || (backTo cpos (starEach es X.env)).any (·.1))=false; rw [hplain] <;> rfl) (Calls.evalArgs_plain ?_)
 exact thn hA fun us s2 ⟨vs,H2,I2,r2,q2⟩=>hm pins s2 σ H2 x vs v us Q I2 r1 r2 q2
end

def MtM (X:Cx) (id:String) (r:V→List V→Hp→VK→Prop) : Prop:=
 ∀ (pins:List (Addr × Obj)) (s:Shared) (σ:St) (H:Hp) (x:V) (xs:List V) (v:Value) (us:List Value) (Q:VK),Inv X pins σ H s→RelV x v→Vals xs us→r x xs H Q →
  wpAny (model X.prog X.w) X.A (call (.builtin id) (v :: us)) (EP X pins σ Q) X.xe s

theorem Vals.one:∀ {x:V} {us:List Value},Vals [x] us→∃ u,us=[u]∧RelV x u
 | _,_,.cons r .nil=>⟨_,rfl,r⟩
theorem Vals.two:∀ {x y:V} {us:List Value},Vals [x,y] us→∃ u v,us=[u,v]∧RelV x u∧RelV y v
 | _,_,_,.cons r (.cons q .nil)=>⟨_,_,rfl,r,q⟩
theorem Vals.zero:∀ {us:List Value},Vals [] us→us=[]
 | _,.nil=>rfl
theorem Vals.reverse {xs:List V} {us:List Value} (h:Vals xs us) : Vals xs.reverse us.reverse:=by
 induction h with
 | nil=>exact .nil
 | cons r t ih=>rw [List.reverse_cons,List.reverse_cons]; exact Vals.append ih (.cons r .nil)
theorem Vals.rep {xs:List V} {us:List Value} (h:Vals xs us) : ∀ k:Nat,Vals (List.replicate k xs).flatten (List.replicate k us).flatten
 | 0=>.nil
 | k+1=>by
  rw [List.replicate_succ,List.replicate_succ,List.flatten_cons,List.flatten_cons]
  exact Vals.append h (Vals.rep h k)
theorem foldl_rep (its:List Value) : ∀ (k:Nat) (acc:List Value),
  List.foldl (fun x1 x2=>x1++x2) acc.toArray (List.replicate k its.toArray)=(acc++(List.replicate k its).flatten).toArray
 | 0,acc=>by simp
 | k+1,acc=>by
  have e:acc.toArray++its.toArray=(acc++its).toArray:=by simp
  have e2:(acc++its)++(List.replicate k its).flatten=acc++(List.replicate (k+1) its).flatten:=by
   rw [List.replicate_succ,List.flatten_cons,List.append_assoc]
  rw [← e2,← foldl_rep its k (acc++its),← e,List.replicate_succ,List.foldl_cons]

section
variable {X:Cx} {pins:List (Addr × Obj)} {σ:St} {H:Hp} {s:Shared} {l b:Addr} {xs ys zs:List V}

theorem Inv.lset {its its':List Value} {n:Nat} {f:Array Value→Array Value} {t':Nat} (I:Inv X pins σ H s) (hH:H l=some (.lst xs))
  (e:s.heap.get? l=some { cls:=.type "list",data:=.seq its.toArray n }) (hf:f its.toArray=its'.toArray) (hv:Vals ys its') (hz:ys.length≤sizeLine) :
  Inv X pins σ (upd H l (.lst ys)) { s with heap:=s.heap.update l (Obj.mapSeq f),toks:=t' }:=by
 have q:=PySem.IsL.update e f
 rw [hf] at q
 refine I.write (x:=l) (e:=l) (by rw [hH]; exact trivial) (.inl rfl) (fun b' u hb hu=>(Heap.get?_update_other s.heap (Obj.mapSeq f) (Ne.symm hb)).trans hu) ⟨_,q⟩ ?_
 exact ⟨hz,its',_,hv,q⟩
theorem Inv.lnew {its:List Value} {t':Nat} (I:Inv X pins σ H s) (hv:Vals ys its) (hz:ys.length≤sizeLine) :
  Inv X pins σ (upd H s.heap.objs.size (.lst ys)) { s with heap:=s.heap.push { cls:=.type "list",data:=.seq its.toArray },toks:=t' }:=
 I.laid (fun _ _ q=>Heap.get?_push_of_some _ q) (Nat.le_refl _) ⟨hz,its,0,hv,Heap.get?_push_size _ rfl⟩
theorem Inv.fresh (I:Inv X pins σ H s) : H s.heap.objs.size=none:=I.hok.fresh (Nat.le_refl _)
theorem Inv.lstM (I:Inv X pins σ H s) (hH:H l=some (.lst xs)) : xs.length≤sizeLine∧∃ (its:List Value) (n:Nat),Vals xs its∧xs.length=its.length∧s.heap.get? l=some { cls:=.type "list",data:=.seq its.toArray n }:=by
 obtain ⟨z,its,n,r,e⟩:=I.hok l _ hH
 exact ⟨z,its,n,r,r.length,e⟩

theorem notLongL {n:Nat} (h:n≤sizeLine) : Builtin.List.listTooLong n=false:=by
 unfold Builtin.List.listTooLong
 exact decide_eq_false (by omega)
end

section
variable {X:Cx}

def rAppend:V→List V→Hp→VK→Prop:=fun x vs H Q=>∃ l xs y,x = .ref l∧vs=[y]∧H l=some (.lst xs)∧xs.length < sizeLine∧Q .non (upd H l (.lst (xs++[y])))
theorem mt_append:MtM X "list.append" rAppend:=by
 intro pins s σ H x vs v us Q I rx rv h
 obtain ⟨l,xs,y,rfl,rfl,hH,hz,q⟩:=h
 cases rx
 obtain ⟨u,rfl,ru⟩:=rv.one
 obtain ⟨z,its,n,r,hl,e⟩:=I.lstM hH
 refine call_meets F.slot_list_append ⟨_,e,rfl⟩ F.entry_list_append (F.args_list_append_2 _ _) (PySem.list_append l its.toArray n u (by rw [List.size_toArray]; omega)) ⟨e,?_⟩
 refine ⟨.non,_,I.lset (its':=its++[u]) hH e (by simp) (r.append (.cons ru .nil)) ?_,rfl,q⟩
 rw [List.length_append,List.length_singleton]
 omega

def rExtend:V→List V→Hp→VK→Prop:=fun x vs H Q=>∃ l b xs zs,x = .ref l∧vs=[.ref b]∧H l=some (.lst xs)∧H b=some (.lst zs)∧xs.length+zs.length≤sizeLine∧Q .non (upd H l (.lst (xs++zs)))
theorem mt_extend:MtM X "list.extend" rExtend:=by
 intro pins s σ H x vs v us Q I rx rv h
 obtain ⟨l,b,xs,zs,rfl,rfl,hH,hB,hz,q⟩:=h
 cases rx
 obtain ⟨u,rfl,ru⟩:=rv.one
 cases ru
 obtain ⟨z,its,n,r,hl,e⟩:=I.lstM hH
 obtain ⟨z2,its2,n2,r2,hl2,e2⟩:=I.lstM hB
 have hsz:its.toArray.size+its2.toArray.size≤sizeLine:=by rw [List.size_toArray,List.size_toArray]; omega
 have hlong:¬ (!its.toArray.isEmpty && Builtin.List.listTooLong (its.toArray.size+its2.toArray.size))=true:=by
  rw [notLongL hsz,Bool.and_false]
  exact Bool.false_ne_true
 refine call_meets F.slot_list_extend ⟨_,e,rfl⟩ F.entry_list_extend (F.args_list_extend_2 _ _)
  (AutoSeq1.list_extend_list_list_0 l its.toArray n b its2.toArray n2 hlong (by rw [List.size_toArray]; omega) (by omega)) ⟨e,e2,?_⟩
 refine ⟨.non,_,I.lset (its':=its++its2) hH e (by simp) (r.append r2) ?_,rfl,q⟩
 rw [List.length_append]
 omega

def rCat:R2:=fun x y H Q=>∃ l b xs zs,x = .ref l∧y = .ref b∧H l=some (.lst xs)∧H b=some (.lst zs)∧xs.length+zs.length≤sizeLine∧∀ p,H p=none→Q (.ref p) (upd H p (.lst (xs++zs)))
theorem op_cat:OpR X (binaryOp .Add) rCat:=by
 intro pins s σ H x y v u Q I rx ry h
 obtain ⟨l,b,xs,zs,rfl,rfl,hH,hB,hz,q⟩:=h
 cases rx
 cases ry
 obtain ⟨z,its,n,r,hl,e⟩:=I.lstM hH
 obtain ⟨z2,its2,n2,r2,hl2,e2⟩:=I.lstM hB
 refine PySem.P.add_list e e2 ?_ (by rw [List.size_toArray,List.size_toArray]; omega)
 have ea:its.toArray++its2.toArray=(its++its2).toArray:=by simp
 rw [ea]
 exact ⟨.ref _,_,I.lnew (t':=s.toks) (r.append r2) (by rw [List.length_append]; omega),rfl,q _ I.fresh⟩
def rRep:R2:=fun x y H Q=>∃ l k xs,x = .ref l∧y = .int k∧H l=some (.lst xs)∧-(2 ^ 63)≤k∧k < 2 ^ 63∧xs.length * k.toNat≤sizeLine ∧
 ∀ p,H p=none→Q (.ref p) (upd H p (.lst (List.replicate k.toNat xs).flatten))
theorem len_rep {α:Type} (xs:List α) (k:Nat) : (List.replicate k xs).flatten.length=k * xs.length:=by
 induction k with
 | zero=>simp
 | succ k ih=>rw [List.replicate_succ,List.flatten_cons,List.length_append,ih,Nat.succ_mul,Nat.add_comm]
theorem op_rep:OpR X (binaryOp .Mult) rRep:=by
 intro pins s σ H x y v u Q I rx ry h
 obtain ⟨l,k,xs,rfl,rfl,hH,h1,h2,hz,q⟩:=h
 cases rx
 obtain ⟨t,rfl⟩:=ry
 obtain ⟨z,its,n,r,hl,e⟩:=I.lstM hH
 have hlen:its.toArray.size * k.toNat≤sizeLine:=by rw [List.size_toArray,← hl]; exact hz
 have hcap:¬ its.toArray.size * k.toNat > (2 ^ 63 - 1) / 8:=by
  have:(sizeLine:Nat)≤(2 ^ 63 - 1) / 8:=by decide
  omega
 have hfit:¬ (!Builtin.List.listFitsIndex k)=true:=by
  rw [fitsIndex_both h1 h2]
  exact Bool.false_ne_true
 have hlong:¬ Builtin.List.listTooLong (its.toArray.size * k.toNat)=true:=by
  rw [notLongL hlen]
  exact Bool.false_ne_true
 have hnew:List.foldl (fun x1 x2=>x1++x2) #[] (List.replicate (if its.toArray.isEmpty=true then 0 else k.toNat) its.toArray)=(List.replicate k.toNat its).flatten.toArray:=by
  have f0:∀ m:Nat,List.foldl (fun x1 x2=>x1++x2) #[] (List.replicate m its.toArray)=(List.replicate m its).flatten.toArray:=fun m=>by
   have:=foldl_rep its m []
   rw [List.nil_append] at this
   exact this
  rw [f0]
  cases its with
  | nil=>simp
  | cons a r'=>rw [if_neg (by simp)]
 refine wpAny_binaryOp_repeat_ref (T := "list") (U := "int") (by decide) ⟨_,e,rfl⟩ (fun s'=>typeIs_int s' k t) noFill_list_mul F.fills_int_mul F.slot_int_rmul repeat_list F.slot_int_index.lookup
  (call_meets F.slot_int_rmul (typeIs_int s k t) F.entry_int_rmul (F.args_int_rmul_2 _ _) (int___rmul___int_list k t l its.toArray n)
   ⟨e,rfl,⟨_,e,rfl⟩,call_meets F.slot_list_mul ⟨_,e,rfl⟩ F.entry_list_mul (F.args_list_mul_2 _ _) (AutoListH.list___mul___list_int_3 l its.toArray n k t hfit hcap hlong) ⟨e,?_⟩⟩)
 rw [hnew]
 exact ⟨.ref _,_,I.lnew (t':=s.toks) (r.rep k.toNat) (by rw [len_rep,Nat.mul_comm]; exact hz),rfl,q _ I.fresh⟩

end

section
variable {prog:Program} {w:World} {A:Around} {E:Value→Shared→Prop} {s:Shared}
end

section
variable {X:Cx}
end

section
variable {κ:Type} [DecidableEq κ]
def valV (kvs:List (κ × V)) (k:κ) : Option V:=(kvs.find? fun kv=>decide (kv.1=k)).map (·.2)
def putK (kvs:List (κ × V)) (k:κ) (v:V) : List (κ × V):=
 if (kvs.any fun kv=>decide (kv.1=k))=true then kvs.map (fun kv=>if kv.1=k then (kv.1,v) else kv) else kvs++[(k,v)]
def dropK (kvs:List (κ × V)) (k:κ) : List (κ × V):=kvs.filter fun kv=>decide (kv.1≠k)

theorem valV_pos {p:κ × V} {r:List (κ × V)} {k:κ} (e:p.1=k) : valV (p :: r) k=some p.2:=by simp [valV,List.find?_cons,e]
theorem valV_neg {p:κ × V} {r:List (κ × V)} {k:κ} (e:¬ p.1=k) : valV (p :: r) k=valV r k:=by simp [valV,List.find?_cons,e]
theorem valV_any (k:κ) : ∀ kvs:List (κ × V),(kvs.any fun kv=>decide (kv.1=k))=(valV kvs k).isSome
 | []=>rfl
 | p :: r=>by
  rw [List.any_cons]
  by_cases e:p.1=k
  ·simp only [valV_pos e,decide_eq_true e,Bool.true_or,Option.isSome_some]
  ·rw [valV_neg e,decide_eq_false e,Bool.false_or]; exact valV_any k r
theorem valV_map (k j:κ) (y:V) : ∀ kvs:List (κ × V),valV (kvs.map fun kv=>if kv.1=k then (kv.1,y) else kv) j=(valV kvs j).map fun x=>if j=k then y else x
 | []=>rfl
 | p :: r=>by
  have ih:=valV_map k j y r
  rw [List.map_cons]
  by_cases h:p.1=k
  ·rw [if_pos h]
   by_cases e:p.1=j
   ·rw [valV_pos (p:=(p.1,y)) e,valV_pos e,Option.map_some,if_pos (e.symm.trans h)]
   ·rw [valV_neg (p:=(p.1,y)) e,valV_neg e,ih]
  ·rw [if_neg h]
   by_cases e:p.1=j
   ·rw [valV_pos (p:=p) e,valV_pos e,Option.map_some,if_neg (fun z=>h (e.trans z))]
   ·rw [valV_neg (p:=p) e,valV_neg e,ih]
theorem valV_snoc (k j:κ) (y:V) : ∀ kvs:List (κ × V),valV kvs k=none→valV (kvs++[(k,y)]) j=if j=k then some y else valV kvs j
 | [],_=>by
  by_cases e:k=j
  ·rw [if_pos e.symm]; exact valV_pos (p:=(k,y)) e
  ·rw [if_neg (fun z=>e z.symm)]; exact valV_neg (p:=(k,y)) e
 | p :: r,hn=>by
  rw [List.cons_append]
  have hk:¬ p.1=k:=fun z=>by rw [valV_pos z] at hn; cases hn
  rw [valV_neg hk] at hn
  have ih:=valV_snoc k j y r hn
  by_cases e:p.1=j
  ·rw [valV_pos e,valV_pos e,if_neg (fun z=>hk (e.trans z))]
  ·rw [valV_neg e,valV_neg e,ih]
theorem valV_put (kvs:List (κ × V)) (k j:κ) (y:V) : valV (putK kvs k y) j=if j=k then some y else valV kvs j:=by
 unfold putK
 by_cases a:(kvs.any fun kv=>decide (kv.1=k))=true
 ·rw [if_pos a,valV_map]
  rw [valV_any] at a
  by_cases e:j=k
  ·obtain ⟨x,hx⟩:=Option.isSome_iff_exists.mp a
   rw [if_pos e,e,hx,Option.map_some,if_pos rfl]
  ·rw [if_neg e]
   cases valV kvs j with
   | none=>rfl
   | some x=>rw [Option.map_some,if_neg e]
 ·rw [if_neg a]
  refine valV_snoc k j y kvs ?_
  rw [valV_any] at a
  cases q:valV kvs k with
  | none=>rfl
  | some x=>rw [q] at a; exact (a rfl).elim
theorem length_putK (kvs:List (κ × V)) (k:κ) (v:V) : (putK kvs k v).length≤kvs.length+1:=by
 unfold putK
 split
 ·rw [List.length_map]; omega
 ·rw [List.length_append,List.length_cons,List.length_nil]; omega
theorem putK_new {kvs:List (κ × V)} {k:κ} (v:V) (h:valV kvs k=none) : putK kvs k v=kvs++[(k,v)]:=by
 unfold putK
 rw [valV_any,h]
 exact if_neg (by decide)

theorem RelO.isSome_eq {o:Option V} {u:Option Value} (r:RelO o u) : o.isSome=u.isSome:=by
 cases o with
 | none=>cases u with
  | none=>rfl
  | some _=>exact (show False from r).elim
 | some _=>cases u with
  | none=>exact (show False from r).elim
  | some _=>rfl
theorem RelO.getD {o:Option V} {u:Option Value} {d:V} {d':Value} (r:RelO o u) (rd:RelV d d') : RelV (o.getD d) (u.getD d'):=by
 cases o with
 | none=>cases u with
  | none=>exact rd
  | some _=>exact (show False from r).elim
 | some _=>cases u with
  | none=>exact (show False from r).elim
  | some _=>exact r

theorem KV.val {kvs:List (κ × V)} {vs:List (κ × Value)} (r:KV kvs vs) (k:κ) : RelO (valV kvs k) (valueAt vs k):=by
 unfold KV at r
 induction r with
 | nil=>exact True.intro
 | @cons p q ps qs h t ih =>
  obtain ⟨h1,h2⟩:=h
  by_cases e:p.1=k
  ·have e':q.1=k:=h1.symm.trans e
   have b:valueAt (q :: qs) k=some q.2:=by simp [valueAt,List.find?_cons,e']
   rw [valV_pos e,b]; exact h2
  ·have e':¬ q.1=k:=fun z=>e (h1.trans z)
   have b:valueAt (q :: qs) k=valueAt qs k:=by simp [valueAt,List.find?_cons,e']
   rw [valV_neg e,b]; exact ih
theorem KV.any {kvs:List (κ × V)} {vs:List (κ × Value)} (r:KV kvs vs) (k:κ) : (kvs.any fun kv=>decide (kv.1=k))=vs.any fun kv=>decide (kv.1=k):=by
 unfold KV at r
 induction r with
 | nil=>rfl
 | cons h t ih=>rw [List.any_cons,List.any_cons,ih,h.1]
theorem KV.repl {kvs:List (κ × V)} {vs:List (κ × Value)} (r:KV kvs vs) (k:κ) {y:V} {u:Value} (ry:RelV y u) :
  KV (kvs.map fun kv=>if kv.1=k then (kv.1,y) else kv) (vs.map fun kv=>if kv.1=k then (kv.1,u) else kv):=by
 unfold KV at r ⊢
 induction r with
 | nil=>exact .nil
 | @cons p q ps qs h t ih =>
  rw [List.map_cons,List.map_cons]
  refine .cons ?_ ih
  obtain ⟨h1,h2⟩:=h
  by_cases e:p.1=k
  ·rw [if_pos e,if_pos (h1.symm.trans e)]; exact ⟨h1,ry⟩
  ·rw [if_neg e,if_neg (fun z=>e (h1.trans z))]; exact ⟨h1,h2⟩
theorem KV.put {kvs:List (κ × V)} {vs:List (κ × Value)} (r:KV kvs vs) (k:κ) {y:V} {u:Value} (ry:RelV y u) : KV (putK kvs k y) (stored vs k u):=by
 unfold putK stored
 rw [r.any k]
 by_cases e:(vs.any fun kv=>decide (kv.1=k))=true
 ·rw [if_pos e,if_pos e]; exact r.repl k ry
 ·rw [if_neg e,if_neg e]; exact Paired.snoc r ⟨rfl,ry⟩
theorem KV.drop {kvs:List (κ × V)} {vs:List (κ × Value)} (r:KV kvs vs) (k:κ) : KV (dropK kvs k) (without vs k):=by
 unfold KV at r ⊢
 unfold dropK without
 induction r with
 | nil=>exact .nil
 | @cons p q ps qs h t ih =>
  obtain ⟨h1,h2⟩:=h
  rw [List.filter_cons,List.filter_cons]
  by_cases e:p.1=k
  ·have a:¬ decide (p.1≠k)=true:=by simp [e]
   have b:¬ decide (q.1≠k)=true:=by simp [h1.symm.trans e]
   rw [if_neg a,if_neg b]; exact ih
  ·have e':¬ q.1=k:=fun z=>e (h1.trans z)
   have a:decide (p.1≠k)=true:=by simp [e]
   have b:decide (q.1≠k)=true:=by simp [e']
   rw [if_pos a,if_pos b]; exact .cons ⟨h1,h2⟩ ih
theorem KV.keys {kvs:List (κ × V)} {vs:List (κ × Value)} (r:KV kvs vs) : kvs.map (·.1)=vs.map (·.1):=by
 unfold KV at r
 induction r with
 | nil=>rfl
 | cons h t ih=>rw [List.map_cons,List.map_cons,ih,h.1]
theorem KV.length {kvs:List (κ × V)} {vs:List (κ × Value)} (r:KV kvs vs) : kvs.length=vs.length:=Paired.length r
end


theorem kV_is {P:Program} {w:World} {k:Key} {u:Value} (r:RelV (kV k) u) : (mixKind P w).is k u=true:=by
 cases k with
 | inl i=>obtain ⟨t,e⟩:=(show ∃ t,u=Value.int i t from r); subst e; exact mixKind_int P w i t
 | inr x=>obtain ⟨t,e⟩:=(show ∃ t,u=Value.str x t from r); subst e; exact mixKind_str P w x t
theorem items_are {P:Program} {w:World} : ∀ {ks:List Key} {us:List Value},Vals (ks.map kV) us→ItemsAre (mixKind P w) ks us
 | [],_,r=>by rw [List.map_nil] at r; cases r; exact .nil
 | k :: ks,_,r=>by
  rw [List.map_cons] at r
  cases r with
  | cons h t=>exact .cons (kV_is h) (items_are t)

abbrev KT (H:Hp) : List (List Key × V)→List (List Key × Addr × Value)→Prop:=Paired fun p q=>p.1=q.1∧H q.2.1=some (.tup (p.1.map kV))∧RelV p.2 q.2.2
theorem KT.val {H:Hp} {kvs:List (List Key × V)} {xs:List (List Key × Addr × Value)} (r:KT H kvs xs) (k:List Key) : RelO (valV kvs k) ((atKey xs k).map (·.2)):=by
 induction r with
 | nil=>exact True.intro
 | @cons p q ps qs h t ih =>
  obtain ⟨h1,_,h2⟩:=h
  by_cases e:p.1=k
  ·have e':q.1=k:=h1.symm.trans e
   have b:atKey (q :: qs) k=some q.2:=by simp [atKey,List.find?_cons,e']
   rw [valV_pos e,b]; exact h2
  ·have e':¬ q.1=k:=fun z=>e (h1.trans z)
   have b:atKey (q :: qs) k=atKey qs k:=by simp [atKey,List.find?_cons,e']
   rw [valV_neg e,b]; exact ih
theorem KT.repl {H:Hp} {kvs:List (List Key × V)} {xs:List (List Key × Addr × Value)} (r:KT H kvs xs) (k:List Key) {y:V} {u:Value} (ry:RelV y u) :
  KT H (kvs.map fun kv=>if kv.1=k then (kv.1,y) else kv) (xs.map (putAt k u)):=by
 induction r with
 | nil=>exact .nil
 | @cons p q ps qs h t ih =>
  rw [List.map_cons,List.map_cons]
  refine .cons ?_ ih
  obtain ⟨h1,h2,h3⟩:=h
  unfold putAt
  by_cases e:p.1=k
  ·rw [if_pos e,if_pos (h1.symm.trans e)]; exact ⟨h1,h2,ry⟩
  ·rw [if_neg e,if_neg (fun z=>e (h1.trans z))]; exact ⟨h1,h2,h3⟩
theorem KT.put {H:Hp} {kvs:List (List Key × V)} {xs:List (List Key × Addr × Value)} (r:KT H kvs xs) (k:List Key) {b:Addr} {y:V} {u:Value} (hb:H b=some (.tup (k.map kV))) (ry:RelV y u) :
  KT H (putK kvs k y) (storedH xs k b u):=by
 have e:(kvs.any fun kv=>decide (kv.1=k))=(atKey xs k).isSome:=by
  rw [valV_any,(r.val k).isSome_eq,Option.isSome_map]
 unfold putK storedH
 rw [e]
 by_cases q:(atKey xs k).isSome=true
 ·rw [if_pos q,if_pos q]; exact r.repl k ry
 ·rw [if_neg q,if_neg q]; exact Paired.snoc r ⟨rfl,hb,ry⟩
theorem KT.keeps {H H':Hp} {kvs:List (List Key × V)} {xs:List (List Key × Addr × Value)} (r:KT H kvs xs) (ht:∀ b ys,H b=some (.tup ys)→H' b=some (.tup ys)) : KT H' kvs xs:=
 Paired.mapP r fun _ _ z=>⟨z.1,ht _ _ z.2.1,z.2.2⟩

section
variable {P:Program} {w:World} {H:Hp} {h:Heap} {a:Addr}
theorem rd_of {u:HO} (ok:HOk P w H h) (e:Rd H a u) : ObjOk P w H h a u:=e.ok ok
theorem dk_rd {kvs:List (Key × V)} (ok:HOk P w H h) (e:Rd H a (.dK kvs)) : kvs.length≤sizeLine∧(a == sysModules)=false∧∃ vs,KV kvs vs∧h.DictOf (mixKind P w) a vs:=
 show ObjOk P w H h a (.dK kvs) from rd_of ok e
theorem dk_of {kvs:List (Key × V)} (ok:HOk P w H h) (e:H a=some (.dK kvs)) : kvs.length≤sizeLine∧(a == sysModules)=false∧∃ vs,KV kvs vs∧h.DictOf (mixKind P w) a vs:=dk_rd ok (.inl e)
theorem key_of {ks:List Key} (ok:HOk P w H h) (e:H a=some (.tup (ks.map kV))) : (tupleKind (mixKind P w)).is h ks a:=by
 obtain ⟨_,its,r,o,h1,h2,n,h3⟩:=(show ObjOk P w H h a (.tup (ks.map kV)) from ok a _ e)
 exact ⟨o,its.toArray,n,h1,h2,h3,by simpa using items_are r⟩
theorem dt_rd {kvs:List (List Key × V)} (ok:HOk P w H h) (e:Rd H a (.dT kvs)) : kvs.length≤sizeLine∧(a == sysModules)=false ∧
  ∃ xs,KT H kvs xs∧h.DictOfH (tupleKind (mixKind P w)) a xs:=by
 obtain ⟨z,y,xs,r,o,es,ep,h1,h2,h3,h4,h5⟩:=(show ObjOk P w H h a (.dT kvs) from rd_of ok e)
 refine ⟨z,y,xs,r,o,es,ep,h1,h2,h3,h4,fun x hx=>?_,h5⟩
 have all:∀ {l:List (List Key × V)} {m:List (List Key × Addr × Value)},KT H l m→∀ x ∈ m,(tupleKind (mixKind P w)).is h x.1 x.2.1:=by
  intro l m q
  induction q with
  | nil=>intro x hx; exact nomatch hx
  | @cons p q ps qs hq t ih =>
   intro x hx
   rcases List.mem_cons.mp hx with e | hx
   ·subst e
    exact key_of ok (by rw [← hq.1]; exact hq.2.1)
   ·exact ih x hx
 exact all r x hx
theorem dt_of {kvs:List (List Key × V)} (ok:HOk P w H h) (e:H a=some (.dT kvs)) : kvs.length≤sizeLine∧(a == sysModules)=false ∧
  ∃ xs,KT H kvs xs∧h.DictOfH (tupleKind (mixKind P w)) a xs:=dt_rd ok (.inl e)
end

def DGet (H:Hp) (a:Addr) (y:V) (r:Option V) : Prop:=
 (∃ kvs k,Rd H a (.dK kvs)∧y=kV k∧r=valV kvs k)∨∃ kvs k b,Rd H a (.dT kvs)∧y = .ref b∧H b=some (.tup (k.map kV))∧r=valV kvs k
def DPut (H:Hp) (a:Addr) (y v:V) (H':Hp) : Prop:=
 (∃ kvs k,H a=some (.dK kvs)∧y=kV k∧kvs.length < sizeLine∧H' = upd H a (.dK (putK kvs k v))) ∨
 ∃ kvs k b,H a=some (.dT kvs)∧y = .ref b∧H b=some (.tup (k.map kV))∧kvs.length < sizeLine∧H' = upd H a (.dT (putK kvs k v))
theorem DGet.k {H:Hp} {a:Addr} {kvs:List (Key × V)} {k:Key} (e:H a=some (.dK kvs)) : DGet H a (kV k) (valV kvs k):=.inl ⟨kvs,k,.inl e,rfl,rfl⟩
theorem DGet.t {H:Hp} {a b:Addr} {kvs:List (List Key × V)} {k:List Key} (e:H a=some (.dT kvs)) (eb:H b=some (.tup (k.map kV))) : DGet H a (.ref b) (valV kvs k):=.inr ⟨kvs,k,b,.inl e,rfl,eb,rfl⟩
theorem DPut.k {H:Hp} {a:Addr} {kvs:List (Key × V)} {k:Key} {v:V} (e:H a=some (.dK kvs)) (hl:kvs.length < sizeLine) : DPut H a (kV k) v (upd H a (.dK (putK kvs k v))):=.inl ⟨kvs,k,e,rfl,hl,rfl⟩
theorem DPut.t {H:Hp} {a b:Addr} {kvs:List (List Key × V)} {k:List Key} {v:V} (e:H a=some (.dT kvs)) (eb:H b=some (.tup (k.map kV))) (hl:kvs.length < sizeLine) :
  DPut H a (.ref b) v (upd H a (.dT (putK kvs k v))):=.inr ⟨kvs,k,b,e,rfl,eb,hl,rfl⟩


section
variable {X:Cx} {pins:List (Addr × Obj)} {σ:St} {H:Hp} {s:Shared} {a:Addr} {y v:V} {u r:Value} {o:Option V} {A:Around} {E:Value→Shared→Prop}

theorem Inv.big (I:Inv X pins σ H s) : sysModules < s.heap.objs.size:=by
 have h:mainGlobals < s.heap.objs.size:=(I.mod.glob.keeps I.bk).lt
 exact Nat.lt_trans (by decide) h

theorem d_getItem {Q:Value→Shared→Prop} (hu:A.units+1 < cLine) (I:Inv X pins σ H s) (g:DGet H a y (some v)) (ry:RelV y u) (h:∀ w' s',Inv X pins σ H s'→RelV v w'→Q w' s') :
  wpAny (model X.prog X.w) A (getItem (.ref a) u) Q E s:=by
 rcases g with ⟨kvs,k,e,ey,l⟩ | ⟨kvs,k,b,e,ey,eb,l⟩
 ·subst ey
  obtain ⟨z,hd,vs,rel,dd⟩:=dk_rd I.hok e
  obtain ⟨w',hw,rw'⟩:=RelO.some_of (v:=v) (o:=valueAt vs k) (by rw [l]; exact rel.val k)
  exact wpAny_getItem_of (kV_is ry) dd.mapOf hw (h w' _ (I.tok _) rw')
 ·subst ey
  cases (show u=Value.ref b from ry)
  obtain ⟨z,hd,xs,rel,dd⟩:=dt_rd I.hok e
  obtain ⟨w',hw,rw'⟩:=RelO.some_of (v:=v) (o:=(atKey xs k).map (·.2)) (by rw [l]; exact rel.val k)
  obtain ⟨p,hp,hp2⟩:=Option.map_eq_some_iff.mp hw
  refine wpAny_getItem_heap (tupleKind_room_in1 hu) (key_of I.hok eb) dd hp ?_
  rw [hp2]
  exact h w' _ (I.tok _) rw'
theorem d_notIn {Q:Value→Shared→Prop} (hu:A.units+1 < cLine) (I:Inv X pins σ H s) (g:DGet H a y o) (ry:RelV y u) (h:∀ s',Inv X pins σ H s'→Q (.bool (!o.isSome)) s') :
  wpAny (model X.prog X.w) A (compareOp .NotIn u (.ref a)) Q E s:=by
 rcases g with ⟨kvs,k,e,ey,l⟩ | ⟨kvs,k,b,e,ey,eb,l⟩
 ·subst ey
  obtain ⟨z,hd,vs,rel,dd⟩:=dk_rd I.hok e
  refine wpAny_notIn_of (kV_is ry) hd dd.mapOf ?_
  rw [← (rel.val k).isSome_eq,← l]
  exact h _ (I.tok _)
 ·subst ey
  cases (show u=Value.ref b from ry)
  obtain ⟨z,hd,xs,rel,dd⟩:=dt_rd I.hok e
  refine wpAny_notIn_heap (tupleKind_room_in1 hu) (key_of I.hok eb) hd dd ?_
  have q:=(rel.val k).isSome_eq
  rw [Option.isSome_map] at q
  rw [← q,← l]
  exact h _ (I.tok _)
theorem d_write {h':Heap} {t':Nat} {ob:HO} (I:Inv X pins σ H s) (mu:Mut (H a)) (hs:Heap.SameBut a s.heap h') (he:∃ q,h'.get? a=some q) (new:ObjOk X.prog X.w (upd H a ob) h' a ob) :
  Inv X pins σ (upd H a ob) { s with heap:=h',toks:=t' }:=
 I.write (x:=a) (e:=a) mu (.inl rfl) (fun b q hb z=>(hs.2 b hb).trans z) he new
theorem dk_new {P:Program} {w:World} {H':Hp} {h':Heap} {kvs:List (Key × V)} {vs:List (Key × Value)} (z:kvs.length≤sizeLine) (hd:(a == sysModules)=false) (rel:KV kvs vs) (dd:h'.DictOf (mixKind P w) a vs) :
  ObjOk P w H' h' a (.dK kvs):=⟨z,hd,vs,rel,dd⟩
theorem d_setItem {H':Hp} {Q:Unit→Shared→Prop} (hu:A.units+1 < cLine) (I:Inv X pins σ H s) (g:DPut H a y v H') (ry:RelV y u) (rv:RelV v r) (h:∀ s',Inv X pins σ H' s'→Q () s') :
  wpAny (model X.prog X.w) A (setItem (.ref a) u r) Q E s:=by
 rcases g with ⟨kvs,k,e,ey,l,eH⟩ | ⟨kvs,k,b,e,ey,eb,l,eH⟩
 ·subst ey eH
  obtain ⟨z,hd,vs,rel,dd⟩:=dk_of I.hok e
  have hz:vs.length≤sizeLine:=by rw [← rel.length]; exact z
  have hl:(putK kvs k v).length≤sizeLine:=by have:=length_putK kvs k v; omega
  refine wpAny_setItem_pairs (hsz:=hz) (kV_is ry) dd fun h' dd' hs=>h _ ?_
  have he:∃ q,h'.get? a=some q:=let ⟨q,_,_,hq,_⟩:=dd'; ⟨q,hq⟩
  exact d_write I (by rw [e]; exact True.intro) hs he (dk_new hl hd (rel.put k rv) dd')
 ·subst ey eH
  cases (show u=Value.ref b from ry)
  obtain ⟨z,hd,xs,rel,dd⟩:=dt_of I.hok e
  have hz:xs.length≤sizeLine:=by rw [← Paired.length rel]; exact z
  have hl:(putK kvs k v).length≤sizeLine:=by have:=length_putK kvs k v; omega
  refine wpAny_setItem_heap (hsz:=hz) (tupleKind_room_in1 hu) (key_of I.hok eb) dd fun h' dd' hs=>h _ ?_
  obtain ⟨q,es,ep,hq,h2,h3,h4,_,h5⟩:=dd'
  refine d_write I (by rw [e]; exact True.intro) hs ⟨q,hq⟩ ⟨hl,hd,_,(rel.put k eb rv).keeps fun c ys ec=>?_,q,es,ep,hq,h2,h3,h4,h5⟩
  rw [upd_ne (ne_of ec e (fun z=>nomatch z))]
  exact ec
end

section
variable {X:Cx} {pins:List (Addr × Obj)} {σ:St} {H:Hp} {s:Shared} {a:Addr} {kvs:List (Key × V)} {k:Key} {u:Value} {A:Around} {E:Value→Shared→Prop}
end


def NoSl (i:Expr) : Prop:=∀ ov iv,subscripted i false ov iv=operate [ov,iv] (getItem ov iv)
theorem subD_of {prog:Program} {w:World} {A:Around} {E:Value→Shared→Prop} {s:Shared} {env:Env} {value slice:Expr} {pos:Pos} {T id:String} {Q:Value→Shared→Prop}
  (hl:typeLookup (.type T) "__getitem__" = pure (some (.builtin id))) (hs:NoSl slice)
  (h:wpAny (model prog w) A (eval value env) (fun o s₁=>wpAny (model prog w) A (eval slice env) (fun i s₂=>s₂.TypeIs o T∧wpAny (model prog w) A (getItem o i) Q E s₂) E s₁) E s) :
  wpAny (model prog w) A (eval (.Subscript value slice pos) env) Q E s:=by
 refine Subscript_ (wpAny_mono h (fun o s₁ h₁=>wpAny_mono h₁ (fun i s₂ h₂=>?_) fun _ _ x=>x) fun _ _ x=>x)
 obtain ⟨hT,h₂⟩:=h₂
 unfold subscriptTail
 refine wpAny_bind ?_
 rw [getitemInPython_of_ne hT.not_modules]
 refine wpAny_bind (wpAny_specialOf hT hl ?_)
 have fin:wpAny (model prog w) A (subscripted slice false o i) (fun r s₃=>wpAny (model prog w) A (letTemporaryGo value o r >>= fun _=>pure r) Q E s₃) E s₂:=by
  rw [hs o i]
  exact wpAny_operating (wpAny_mono h₂ (fun r s₃ h₃=>wpAny_bind (wpAny_letTemporaryGo (wpAny_pure h₃))) fun _ _ x=>x)
 first
  | exact wpAny_pure (wpAny_bind fin)
  | exact wpAny_bind (wpAny_pure (wpAny_bind fin))
  | exact wpAny_bind fin

theorem dict_typeIs {X:Cx} {pins:List (Addr × Obj)} {σ:St} {H:Hp} {s:Shared} {a:Addr} {y:V} {o:Option V} (I:Inv X pins σ H s) (g:DGet H a y o) : s.TypeIs (.ref a) "dict":=by
 rcases g with ⟨kvs,k,e,_,_⟩ | ⟨kvs,k,b,e,_,_,_⟩
 ·obtain ⟨_,_,vs,_,dd⟩:=dk_rd I.hok e
  exact dd.typeIs
 ·obtain ⟨_,_,xs,_,dd⟩:=dt_rd I.hok e
  exact dd.typeIs
def tDGet (td ty:TE) : TE:=fun σ H Q=>td σ H fun x H1=>ty σ H1 fun y H2=>∃ a v,x = .ref a∧DGet H2 a y (some v)∧Q v H2
def sDPut (td ty tv:TE) : TS:=fun D σ H=>tv σ H fun v H1=>td σ H1 fun x H2=>ty σ H2 fun y H3=>∃ a H4,x = .ref a∧DPut H3 a y v H4∧D.nx σ H4
section
variable {X:Cx} {o i e value:Expr} {pos pos' tpos:Pos} {td ty tv:TE}
theorem pe_dget (hu:X.A.units+1 < cLine) (ho:PE X o td) (hi:PE X i ty) (hs:NoSl i) : PE X (.Subscript o i pos) (tDGet td ty):=by
 intro pins s σ H Q I h
 refine subD_of PySem.F.slot_dict_getitem.lookup hs (thn (ho pins s σ H _ I h) fun u s1 ⟨x,H1,I1,rx,q1⟩=>thn (hi pins s1 σ H1 _ I1 q1) fun iv s2 ⟨y,H2,I2,ry,a,v,ex,g,q2⟩=>?_)
 subst ex
 obtain rfl:u=Value.ref a:=rx
 exact ⟨dict_typeIs I2 g,d_getItem hu I2 g ry fun w' s3 I3 rw'=>⟨v,H2,I3,rw',q2⟩⟩
theorem ps_dput (hu:X.A.units+1 < cLine) (ho:PE X o td) (hi:PE X i ty) (hv:PE X value tv) (hs:swapsWith value (some (.Subscript o i pos')) pos.line X.env=pure false) :
  PS X (.Assign [.Subscript o i pos'] value pos) (sDPut td ty tv):=by
 intro pins s σ H D I h
 refine wpAny_Assign_Subscript (thn (hv pins s σ H _ I h) fun r s1 ⟨v,H1,I1,rv,q1⟩=>thn (ho pins s1 σ H1 _ I1 q1) fun u s2 ⟨x,H2,I2,rx,q2⟩=>thn (hi pins s2 σ H2 _ I2 q2) fun iv s3 ⟨y,H3,I3,ry,a,H4,ex,g,q3⟩=>?_) hs
 subst ex
 obtain rfl:u=Value.ref a:=rx
 exact d_setItem hu I3 g ry rv fun s4 I4=>⟨σ,H4,I4,q3⟩
end


theorem dk_empty {P:Program} {w:World} {H:Hp} (h:Heap) (hb:sysModules < h.objs.size) : ObjOk P w H (h.push { cls:=.type "dict",data:=.dict #[] }) h.objs.size (.dK []):=
 ⟨Nat.zero_le _,beq_eq_false_iff_ne.mpr (Ne.symm (Nat.ne_of_lt hb)),[],.nil,Heap.DictOf.new h⟩
def tDNewK:TE:=fun _ H Q=>∀ p,H p=none→Q (.ref p) (upd H p (.dK []))
section
variable {X:Cx} {pos:Pos}
theorem pe_dnewK:PE X (.Dict [] [] pos) tDNewK:=fun pins s σ H Q I h =>
 wpAny_Dict_empty ⟨.ref s.heap.objs.size,_,I.laid (a:=s.heap.objs.size) (o:=.dK []) (t':=s.toks) (fun _ _ q=>Heap.get?_push_of_some _ q) (Nat.le_refl _) (dk_empty s.heap I.big),rfl,h _ (I.hok.fresh (Nat.le_refl _))⟩
end

section
variable {X:Cx} {pins:List (Addr × Obj)} {σ:St} {H:Hp} {s:Shared} {a:Addr} {y d:V} {u r:Value} {o:Option V} {A:Around} {E:Value→Shared→Prop}
end

section
variable {X:Cx} {o e f:Expr} {apos cpos:Pos} {td ty tx:TE}
end

section
variable {X:Cx} {pins:List (Addr × Obj)} {σ:St} {H:Hp} {s:Shared} {a:Addr} {kvs:List (Key × V)} {A:Around} {E:Value→Shared→Prop}
theorem d_copyOf {Q:Value→Shared→Prop} (I:Inv X pins σ H s) (e:Rd H a (.dK kvs)) (h:∀ p s',H p=none→Inv X pins σ (upd H p (.dK kvs)) s'→Q (.ref p) s') : wpAny (model X.prog X.w) A (call (.type "dict") [.ref a]) Q E s:=by
 obtain ⟨z,hd,vs,rel,dd⟩:=dk_rd I.hok e
 refine kt_call_dict hd dd (by rw [← rel.length]; exact z) fun h' dd' hs=>?_
 refine h _ _ (I.hok.fresh (Nat.le_refl _)) (I.laid (a:=s.heap.objs.size) (o:=.dK kvs) (t':=s.toks) (fun b q hq=>?_) (Nat.le_refl _) (dk_new z (beq_eq_false_iff_ne.mpr (Ne.symm (Nat.ne_of_lt I.big))) rel dd'))
 exact (hs.2 b (Nat.ne_of_lt (Heap.lt_size hq))).trans (Heap.get?_push_of_some _ hq)
end


section
variable {X:Cx} {pins:List (Addr × Obj)} {σ:St} {H:Hp} {s:Shared} {a:Addr} {y:V} {u:Value} {A:Around} {E:Value→Shared→Prop}
end
end L2

namespace Att
open PySem PySem.W PySem.Calls PyProof.Rows

theorem ints_of_wellAll {P:Params} {h:Heap} : ∀ (ns:List Int) (vs:List Value),WellAll P h vs (ns.map WData.int)→IntsAre vs ns:=by
 intro ns
 induction ns with
 | nil =>
  intro vs w
  rw [List.map_nil] at w
  cases w
  exact .nil
 | cons n ns ih =>
  intro vs w
  rw [List.map_cons] at w
  cases w with
  | cons a b =>
   cases a
   exact .cons _ _ (ih _ b)

theorem script_of {l:OpenLaw} {n:Nat} (hn:l.most=some n) {P:Params} {h:Heap} {args:List WData} {vals:List Value}
  (hpre:l.row.toRowW.claim.pre args=true) (hwl:WellAll P h vals args) :
  ∃ a vs ns,vals=[Value.ref a]∧args=[WData.list (ns.map WData.int)]∧h.get? a=some { cls:=.type "list",data:=.seq vs.toArray }∧IntsAre vs ns∧ns.length≤n:=by
 have hsh:WShape.hasAll [] args [.list .int]=true:=(pre_splitW hpre).1
 have hc:l.pre.holds [] { args:=args }=true:=(pre_splitW hpre).2
 obtain ⟨d,r,rfl,h1,h2⟩:=hasAllW_cons hsh
 obtain rfl:=hasAllW_nil h2
 obtain ⟨xs,rfl,h3⟩:=hasW_list h1
 obtain ⟨ns,rfl⟩:=items_int h3
 have hlen:ns.length≤n:=by
  unfold OpenLaw.pre at hc
  have h4:(WTm.not (.lt (.lit (.int (n:Int))) (.len (.arg 0)))).holds [] { args:=[.list (ns.map .int)] }=true:=by
   have h4:=(holds_andW hc).1
   rw [hn] at h4
   exact h4
  have h5:=condW_of h4 (w_not (w_lt w_lit (w_len_list (w_arg rfl))))
  rw [List.length_map] at h5
  refine Nat.le_of_not_lt fun q=>?_
  have q':(n:Int) < ((ns.length:Nat) : Int):=by omega
  first
   | (rw [decide_eq_true q'] at h5; exact absurd h5 (by decide))
   | (simp at h5; omega)
 cases hwl with
 | cons w1 w2 =>
  cases w2
  cases w1 with
  | list ho hall=>exact ⟨_,_,ns,rfl,rfl,ho,ints_of_wellAll ns _ hall,hlen⟩

theorem post_true (l:OpenLaw) (args:List WData) : l.row.toRowW.claim.post args (.bool true) args=true:=
 postW_of (r:=l.row.toRowW) (X:=(true == true))
  (show WShape.has [] (.bool true) .bool=true by first | rfl | decide | simp [WShape.has,WShape.arms,WShape.armsAll])
  (show (WTm.eq .res (.lit (.bool true))).value [] { args:=args,res:=some (.bool true),after:=args }=some (.bool (true == true)) from w_eq_bool (w_res rfl) w_lit) rfl

theorem attach_call {l:OpenLaw} {n:Nat} {q:Program} {loose:List Str} {XP:(Str→Option Value)→Heap→Prop} {YP:World→Heap→Prop} {d:DefRec}
  (hn:l.most=some n) (hdf:d.params.defaults=[])
  (call:∀ (w:World) (s₀ s₁:Shared) (mg mb:Str→Option Value) (fa:Addr) (o:Obj) (pm cd doc:Value) (a:Addr) (vs:List Value) (ns:List Int),
   Ground q loose [] XP w s₀ mg mb s₁.heap→YP w s₁.heap →
   s₁.heap.get? fa=some o→o.data = .func (docDef d.name d.params d.body d.scope pm cd doc)→s₁.heap.CodeRec cd d.name→mg d.name=some (.ref fa) →
   s₁.heap.get? a=some { cls:=.type "list",data:=.seq vs.toArray }→IntsAre vs ns→ns.length≤n→s₁.gens = #[] →
   codeAny (model l.prog w) callerA (.call (.ref fa) ⟨[.ref a],[]⟩) (fun r s'=>r = .ok (.ret (.bool true))∧OldK s₁.heap s'.heap∧s'.os=s₁.os∧AllBare s'.gens) s₁) :
  WalkO q loose XP YP l.row.toRowW d [] (fun f vs=>PySem.call f vs):=by
 intro w s₀ s₁ mg mb G Y fa o pm cd doc dV kV ho hd hcd hD hmg hg args vals as hpre hlay hrd hwl hlo
 obtain rfl:dV = .none:=Dflts.none hD hdf
 obtain rfl:kV = .none:=Dflts.noKw hD
 obtain ⟨a,vs,ns,rfl,rfl,hobj,hints,hlen⟩:=script_of hn hpre hwl
 refine enter_call (codeAny_mono (call w s₀ s₁ mg mb fa o pm cd doc a vs ns G Y ho (fd_plain hd) hcd hmg hobj hints hlen hg) fun r s' hq=>?_)
 obtain ⟨rfl,h2,h3,h4⟩:=hq
 exact ⟨.inl ⟨.bool true,.bool true,[],rfl,fun _=>rfl,.bool true,post_true l _,fun _=>⟨List.Pairwise.nil,fun _ hm=>(nomatch hm)⟩⟩,h2,h3,h4⟩

section
variable {prog:Program} {w:World} {A:Around} {E:Value→Shared→Prop} {s:Shared} {K:Frag}

end
end Att

namespace L2
open PySem PySem.Spec PyProof.Rows

theorem vals_ints:∀ {vs:List Value} {ns:List Int},IntsAre vs ns→Vals (ns.map V.int) vs
 | _,_,.nil=>.nil
 | _,_,.cons n t h=>.cons ⟨t,rfl⟩ (vals_ints h)

def Only (H:Hp) : Prop:=∀ b,H b=none∨∃ o xs,H b=some (.frz o (.lst xs))

theorem law_call {P:Program} {w:World} {K:PySem.W.Frag} {mg mb:Str→Option Value} {CX:CXT} {k:Nat} {fa a:Addr} {fd:FuncData} {x:Str} {sp:Sp} {s₁:Shared} {vs:List Value} {ns:List Int}
  (KX:K.In s₁.heap) (hns:s₁.heap.Ns mainGlobals mg) (hb:s₁.heap.Ns builtinsNs mb) (hbb:∀ x:Str,x≠"__name__"→mb x=bootBuiltins x) (hlim:s₁.heap.NoLimit) (hg:s₁.gens = #[])
  (ha:s₁.heap.get? a=some { cls:=.type "list",data:=.seq vs.toArray }) (hi:IntsAre vs ns) (hl:ns.length≤sizeLine) (hr:Room k callerA)
  (F:∀ base:Heap,K.In base→base.Ns mainGlobals mg→FnOk P w K mg base CX k fa fd [x] sp) (hbind:∀ (s:Shared) (u:Value),BindsTo s fd ⟨[u],[]⟩ [(x,u)])
  (hsp:∀ H:Hp,Only H→SqL K H a (ns.map V.int)→sp [.ref a] H (fun v _=>v = .bl true) fun _ _ _=>False)
  (hCX:∀ H e s',CX [] H s₁ (fun _ _ _=>False) e s'→False) :
  codeAny (model P w) callerA (.call (.ref fa) ⟨[.ref a],[]⟩) (fun r s'=>r = .ok (.ret (.bool true))∧OldK s₁.heap s'.heap∧s'.os=s₁.os∧AllBare s'.gens) s₁:=by
 have rv:=vals_ints hi
 have lenV:=hi.length
 -- from an abstract heap in which nothing but the script may be tracked
 have core:∀ H:Hp,Only H→SqL K H a (ns.map V.int)→HOk P w H s₁.heap→(∀ b,H b≠none→b=a)→(H a≠none→K.lookup a=none) →
   codeAny (model P w) callerA (.call (.ref fa) ⟨[.ref a],[]⟩) (fun r s'=>r = .ok (.ret (.bool true))∧OldK s₁.heap s'.heap∧s'.os=s₁.os∧AllBare s'.gens) s₁:=by
  intro H hO hS hok hA hK
  have base_of:∀ {b:Addr} {o:Obj},s₁.heap.get? b=some o→H b=none→(hidT s₁.heap H).get? b=some o:=fun e n=>hidT_get e n
  have noA:∀ {b:Addr} {o:Obj} {es:Array DictEntry} {ep:Nat},s₁.heap.get? b=some o→o.data = .dict es ep→H b=none:=fun {b o es ep} e d=>by
   cases q:H b with
   | none=>rfl
   | some u =>
    have e':b=a:=hA b (by rw [q]; simp)
    subst e'
    rw [ha] at e; cases e
    have d':Data.seq vs.toArray _=Data.dict es ep:=d
    cases d'
  have nsK:∀ {b:Addr} {m:Str→Option Value},s₁.heap.Ns b m→(hidT s₁.heap H).Ns b m:=fun {b m} ⟨o,es,ep,e,d,r⟩=>⟨o,es,ep,base_of e (noA e d),d,r⟩
  have hKb:K.In (hidT s₁.heap H):=fun b o e=>base_of (KX b o e) (by
   cases q:H b with
   | none=>rfl
   | some u =>
    have e':b=a:=hA b (by rw [q]; simp)
    subst e'
    rw [hK (by rw [q]; simp)] at e; cases e)
  have hM:Mod K mg (hidT s₁.heap H):=⟨hKb,nsK hns,⟨mb,nsK hb,hbb⟩,let ⟨mc,h1,h2⟩:=hlim; ⟨mc,nsK h1,h2⟩⟩
  have e0:Env0 P w K mg (hidT s₁.heap H) callerA [] s₁ H:=⟨rfl,hM,fun b o e=>of_hidT e,Nat.le_of_eq (hidT_size _ _),trivial,fun b hb=>absurd (show b ∈ ([] : List Addr) from hb) (by simp),hok,.of_eq hg⟩
  refine codeAny_mono ((F _ hKb (nsK hns)).run callerA [] s₁ H ⟨[.ref a],[]⟩ [.ref a] [.ref a] _ _ hr e0 (hbind s₁ (.ref a)) (.cons rfl .nil) (hsp H hO hS)) fun r s' h=>?_
  cases r with
  | error e=>exact (hCX H e s' h).elim
  | ok fl =>
   cases fl with
   | next=>exact False.elim h
   | brk=>exact False.elim h
   | cont=>exact False.elim h
   | ret u =>
    obtain ⟨v,H',os,bare,un,hok',r',q⟩:=h
    have q':v = .bl true:=q
    subst q'
    obtain rfl:u=Value.bool true:=r'
    refine ⟨rfl,OldK.of_keep fun b o e=>?_,os,bare⟩
    cases q:H b with
    | none=>exact un.keep b o e q (by intro z; exact absurd (show b ∈ ([] : List Addr) from z) (by simp)) (by simp)
    | some u =>
     rcases hO b with z | ⟨ob,xs,z⟩
     ·rw [q] at z; cases z
     ·have z2:=un.frzs b ob _ z
      obtain ⟨e1,_⟩:=hok b _ z
      obtain ⟨e2,_⟩:=hok' b _ z2
      rw [e] at e1; cases e1
      exact e2
 cases hk:K.lookup a with
 | some o =>
  -- the script is one of the module's own objects
  have e:=KX a o hk
  rw [ha] at e
  cases e
  refine core (fun _=>none) (fun _=>.inl rfl) (.inr ⟨_,vs.toArray,_,hk,rfl,rfl,rfl,by rw [List.size_toArray,lenV]; exact hl,by simpa using rv⟩) (fun b u z=>by have z':(none:Option HO)=some u:=z; cases z') (fun b z=>absurd rfl z) fun z=>absurd rfl z
 | none =>
  refine core (fun b=>if b=a then some (.frz { cls:=.type "list",data:=.seq vs.toArray } (.lst (ns.map V.int))) else none) (fun b=>?_) (.inl (.inr ⟨{ cls:=.type "list",data:=.seq vs.toArray },if_pos rfl⟩)) (fun b u z=>?_) (fun b z=>?_) fun _=>hk
  ·by_cases hb:b=a
   ·exact .inr ⟨_,_,if_pos hb⟩
   ·exact .inl (if_neg hb)
  ·by_cases hb:b=a
   ·have z':=(if_pos hb).symm.trans z
    cases z'
    subst hb
    exact ⟨ha,by rw [List.length_map]; exact hl,vs,_,rv,ha⟩
   ·have z':=(if_neg hb).symm.trans z
    cases z'
  ·by_cases hb:b=a
   ·exact hb
   ·exact absurd (if_neg hb) z

theorem walk_of {l:PySem.W.OpenLaw} {n k:Nat} {q:Program} {loose:List Str} {XP:(Str→Option Value)→Heap→Prop} {YP:World→Heap→Prop} {d:DefRec} {K:Params→PySem.W.Frag} {CX:World→CXT} {sp:World→Sp} {x:Str}
  (hn:l.most=some n) (hn2:n≤sizeLine) (hdf:d.params.defaults=[]) (hr:Room k callerA)
  (hY:∀ (w:World) (h:Heap),YP w h→(K w.params).In h)
  (F:∀ (w:World) (mg:Str→Option Value) (fa:Addr) (h:Heap),(K w.params).In h→h.Ns mainGlobals mg→mg d.name=some (.ref fa) →
   ∃ fd:FuncData,(∀ (s:Shared) (u:Value),BindsTo s fd ⟨[u],[]⟩ [(x,u)]) ∧
    ∀ base:Heap,(K w.params).In base→base.Ns mainGlobals mg→FnOk l.prog w (K w.params) mg base (CX w) k fa fd [x] (sp w))
  (hsp:∀ (w:World) (H:Hp) (a:Addr) (ns:List Int),ns.length≤n→Only H→SqL (K w.params) H a (ns.map V.int)→sp w [.ref a] H (fun v _=>v = .bl true) fun _ _ _=>False)
  (hCX:∀ (w:World) (H:Hp) (s:Shared) (e:Value) (s':Shared),CX w [] H s (fun _ _ _=>False) e s'→False) :
  PySem.W.WalkO q loose XP YP l.row.toRowW d [] (fun f vs=>PySem.call f vs):=by
 refine Att.attach_call hn hdf fun w s₀ s₁ mg mb fa o pm cd doc a vs ns G Y ho hd hcd hmg hobj hints hlen hg=>?_
 have KX:=hY w _ Y
 obtain ⟨fd,hb,hF⟩:=F w mg fa _ KX G.T.g hmg
 exact law_call KX G.T.g G.T.b G.T.builtins G.T.nolimit hg hobj hints (Nat.le_trans hlen hn2) hr hF hb (fun H hO hS=>hsp w H a ns hlen hO hS) fun H e s'=>hCX w H s₁ e s'

abbrev CX0:CXT:=fun _ _ _ _ _ _=>False
abbrev E0:XK:=fun _ _ _=>False
theorem pass0 {X:Cx} : Passes CX0 X E0:=fun _ _ _ _ _ _ _ h=>h.elim

structure Fun (K:PySem.W.Frag) (x qual:Str) (st:Stmt) (f:Addr) (fd:FuncData) : Prop where
 ex:∃ (oc:Value) (od:Option Addr) (kV doc pm:Value) (an:Option Addr) (cdv ct:Value) (osl:Array (Option Value)),
  fd=PySem.W.fnOf x qual (defArgs st) (defBody st) (defScope st) .none kV doc pm an cdv ct∧K.lookup f=some ⟨oc,od,.func fd,osl⟩∧PySem.W.codeIn K cdv qual=true
 kp:PySem.W.keepIn K (.ref f)=true
section
variable {P:Program} {w:World} {K:PySem.W.Frag} {mg:Str→Option Value} {base:Heap}
theorem Fun.ok {x qual:Str} {st:Stmt} {f:Addr} {fd:FuncData} {N ps:List Str} {k:Nat} {sp:Sp} (F:Fun K x qual st f fd) (S:FnScope N ps (defScope st)) (len:∀ vs H Q E,sp vs H Q E→vs.length=ps.length)
  (hbody:∀ (cdv:Value) (A:Around) (outer:List Env) (s:Shared) (H:Hp) (vs:List V) (Q:VK) (E:XK),Room k (A.deeper (envOfC qual (defScope st) s.heap.objs.size f cdv))→sp vs H Q E →
   ∃ t,PSs (cxOf CX0 P w K mg base N qual (defScope st) f cdv A outer s H E).nox (defBody st) t∧t { nx:=fun _ H'=>Q .non H',rt:=Q } (start N vs) H) : FnOk P w K mg base CX0 (k+1) f fd ps sp:=by
 obtain ⟨oc,od,kV,doc,pm,an,cdv,ct,osl,rfl,lk,hcd⟩:=F.ex
 refine fn_of lk hcd S len fun A outer s H vs Q E hr hsp=>?_
 obtain ⟨t,h,q⟩:=hbody cdv A outer s H vs Q E hr hsp
 exact ⟨t,h.nox,q⟩
theorem Fun.binds {x qual:Str} {st:Stmt} {f:Addr} {fd:FuncData} {ps:List Str} (F:Fun K x qual st f fd)
  (h:∀ (kV doc pm:Value) (an:Option Addr) (cdv ct:Value) (us:List Value),us.length=ps.length→bindArgs (PySem.W.fnOf x qual (defArgs st) (defBody st) (defScope st) .none kV doc pm an cdv ct) ⟨us,[]⟩=pure (ps.zip us)) : Binds K fd ps []:=by
 obtain ⟨oc,od,kV,doc,pm,an,cdv,ct,osl,rfl,lk,hcd⟩:=F.ex
 exact .all (h kV doc pm an cdv ct)
theorem fun_mk {x qual:Str} {st:Stmt} {f:Addr} {oc:Value} {od an:Option Addr} {osl:Array (Option Value)} {kV doc pm cdv ct:Value} (l:K.lookup f=some ⟨oc,od,.func (PySem.W.fnOf x qual (defArgs st) (defBody st) (defScope st) .none kV doc pm an cdv ct),osl⟩)
  (c:PySem.W.codeIn K cdv qual=true) (k:PySem.W.keepIn K (.ref f)=true) : Fun K x qual st f (PySem.W.fnOf x qual (defArgs st) (defBody st) (defScope st) .none kV doc pm an cdv ct):=⟨⟨oc,od,kV,doc,pm,an,cdv,ct,osl,rfl,l,c⟩,k⟩
end
theorem hu_of {A:Around} {k:Nat} (hr:Room k A) : A.units+1 < cLine:=Nat.lt_of_le_of_lt (Nat.add_le_add_left (by decide:1≤64) _) hr.units
theorem small1000 {n:Nat} (h:n≤1000) : n < sizeLine:=Nat.lt_of_le_of_lt h (by decide)

section
variable {X:Cx}
theorem pv (i:Nat) {x:Str} {pos:Pos} (hN:X.N[i]? = some x:=by rfl) (hv:Vis X.env.scope x:=by first | exact Or.inl rfl | exact Or.inr (Or.inl rfl) | exact Or.inr (Or.inr rfl)) (hd:(x == ("__debug__" : Str))=false:=by decide)
  (hcd:(x == ("__classdict__" : Str))=false:=by decide) : PE X (.Name x pos) (tVar i):=pe_var hN hv hd hcd
end

theorem iteF {A B:Prop} (h:B) : if false=true then A else B:=by
 rw [if_neg Bool.false_ne_true]
 exact h
theorem iteT {A B:Prop} (h:A) : if true=true then A else B:=by
 rw [if_pos rfl]
 exact h
theorem ite2 {c A B:Prop} [Decidable c] (h1:c→A) (h2:¬ c→B) : if c then A else B:=by
 by_cases h:c
 ·rw [if_pos h]
  exact h1 h
 ·rw [if_neg h]
  exact h2 h
def Same (H H':Hp) : Prop:=∀ b o,H b=some o→H' b=some o
theorem Same.refl (H:Hp) : Same H H:=fun _ _ h=>h
theorem Same.trans {H H1 H2:Hp} (a:Same H H1) (b:Same H1 H2) : Same H H2:=fun c o h=>b c o (a c o h)
theorem Same.free {H H':Hp} (e:Same H H') {l:Addr} (h:H' l=Option.none) : H l=Option.none:=by
 cases q:H l with
 | none=>rfl
 | some o =>
  rw [e l o q] at h
  cases h
theorem Same.seq {K:PySem.W.Frag} {H H':Hp} {a:Addr} {xs:List V} (e:Same H H') (h:SqL K H a xs) : SqL K H' a xs:=by
 rcases h with (h | ⟨o,h⟩) | h
 ·exact .inl (.inl (e _ _ h))
 ·exact .inl (.inr ⟨o,e _ _ h⟩)
 ·exact .inr h

section
variable {κ:Type} [DecidableEq κ]
theorem valV_not {kvs:List (κ × V)} {k:κ} (h:valV kvs k=none) : ¬ k ∈ kvs.map (·.1):=by
 intro m
 obtain ⟨p,hp,e⟩:=List.mem_map.mp m
 have q:(kvs.any fun kv=>decide (kv.1=k))=true:=List.any_eq_true.mpr ⟨p,hp,decide_eq_true e⟩
 rw [valV_any,h] at q
 exact absurd q (by simp)
theorem valV_in {kvs:List (κ × V)} {k:κ} {v:V} (h:valV kvs k=some v) : k ∈ kvs.map (·.1):=by
 have q:(kvs.any fun kv=>decide (kv.1=k))=true:=by
  rw [valV_any,h]
  all_goals rfl
 obtain ⟨p,hp,e⟩:=List.any_eq_true.mp q
 exact List.mem_map.mpr ⟨p,hp,of_decide_eq_true e⟩
theorem nd_snoc:∀ {l:List κ} {k:κ},l.Nodup→¬ k ∈ l→(l++[k]).Nodup
 | [],k,_,_=>by simp
 | a :: r,k,h,hk=>by
  obtain ⟨h1,h2⟩:=List.nodup_cons.mp h
  show (a :: (r++[k])).Nodup
  refine List.nodup_cons.mpr ⟨fun m=>?_,nd_snoc h2 fun m=>hk (List.mem_cons.mpr (Or.inr m))⟩
  rcases List.mem_append.mp m with q | q
  ·exact h1 q
  ·exact hk (List.mem_cons.mpr (Or.inl (List.mem_singleton.mp q).symm))
theorem nd_putK {kvs:List (κ × V)} {k:κ} (v:V) (hn:(kvs.map (·.1)).Nodup) (h:valV kvs k=none) : ((putK kvs k v).map (·.1)).Nodup:=by
 rw [putK_new v h,List.map_append]
 exact nd_snoc hn (valV_not h)
end

section
variable {prog:Program} {w:World} {A:Around} {R:Result→Shared→Prop} {s:Shared}
theorem compLoop_any {elt target iter:Expr} {ifs:List Expr} {scope:Scope} {pos:Pos} {it acc:Value} {env:Env} (I:Nat→Shared→Prop)
  (turn:∀ n s,I n s→wpAny (model prog w) A (pyNext it) (fun r s₁=>match r with
   | none=>R (.ok .next) s₁
   | some v=>wpAny (model prog w) A (letOwnedTupleGo target it v) (fun _ s₀=>wpAny (model prog w) A (assign target env v) (fun _ s₂ =>
     wpAny (model prog w) A (forIn ifs true fun c r=>if r=true then do let ok ← isTrue c env (eval c env); pure (ForInStep.yield ok) else pure (ForInStep.yield r)) (fun ok s₃ =>
      if ok=true then wpAny (model prog w) A (eval elt env) (fun x s₄ =>
       wpAny (model prog w) A (call (.builtin "list.append") [acc,x]) (fun _ s₅=>∃ m,m < n∧I m s₅) (fun _ _=>False) s₄) (fun _ _=>False) s₃
      else ∃ m,m < n∧I m s₃) (fun _ _=>False) s₂) (fun _ _=>False) s₀) (fun _ _=>False) s₁) (fun _ _=>False) s)
  (n:Nat) (h:I n s) : codeAny (model prog w) A (.compLoop (.ListComp elt [⟨target,iter,ifs,0⟩] scope pos) 0 it acc env) R s:=by
 refine codeAny_loop rfl I (fun n s hI=>?_) n h
 show wpAny _ A ((compTurn (.ListComp elt [⟨target,iter,ifs,0⟩] scope pos) 0 it acc env).onRaise (fun x=>do noteFrame x env; theTreesLotGoes x)) _ _ s
 refine wpAny_noted ?_
 rw [compTurn_list]
 refine wpAny_bind (wpAny_standAt (wpAny_bind (wpAny_mono (turn n s hI) (fun r s₁ h₁=>?_) fun _ _ h'=>h'.elim)))
 cases r with
 | none=>exact wpAny_pure h₁
 | some v =>
  refine wpAny_bind (wpAny_mono h₁ (fun _ s₀ h₀=>?_) fun _ _ h'=>h'.elim)
  refine wpAny_bind (wpAny_mono h₀ (fun _ s₂ h₂=>wpAny_bind (wpAny_mono h₂ (fun ok s₃ h₃=>?_) fun _ _ h'=>h'.elim)) fun _ _ h'=>h'.elim)
  cases ok with
  | false=>exact wpAny_pure ⟨rfl,h₃⟩
  | true =>
   exact wpAny_bind (wpAny_bind (wpAny_mono h₃ (fun x s₄ h₄=>wpAny_bind (wpAny_mono h₄ (fun _ s₅ h₅=>wpAny_pure (wpAny_pure ⟨rfl,h₅⟩)) fun _ _ h'=>h'.elim)) fun _ _ h'=>h'.elim))
end

def PTs (X:Cx) (ifs:List Expr) (t:TT) : Prop:=
 ∀ (pins:List (Addr × Obj)) (s:Shared) (σ:St) (H:Hp) (Q:Bool→Hp→Prop),Inv X pins σ H s→t σ H Q →
  wpAny (model X.prog X.w) X.A (forIn ifs true fun c r=>if r=true then do let ok ← isTrue c X.env (eval c X.env); pure (ForInStep.yield ok) else pure (ForInStep.yield r)) (TP X pins σ Q) X.xe s
def tYes:TT:=fun _ H Q=>Q true H
theorem pts_nil {X:Cx} : PTs X [] tYes:=fun _ _ _ H _ I h=>wpAny_tests_nil ⟨H,I,h⟩
theorem pts_one {X:Cx} {c:Expr} {t:TT} (h:PT X c t) : PTs X [c] t:=fun pins s σ H Q I hw=>wpAny_tests_one (h pins s σ H Q I hw)

abbrev Cx.blk (X:Cx) (N:List Str) (s:Shared) (H:Hp) (scope:Scope) (cl:List (Str × Addr)) (C:Addr) (ex:List Addr) : Cx:=
 { X with N:=N,s₀:=s,H₀:=H,env:=compEnvC scope cl C X.env,outer:=X.stack,stack:=X.stack,ex:=ex,fn:=fun _=>false,pn:=[],xe:=fun _ _=>False }

def AllC (env:Env) : List (Str × Addr)→Prop
 | []=>True
 | p :: r=>env.cells.lookup p.1=some p.2∧AllC env r
theorem lookup_mem {α:Type} : ∀ {l:List (Str × α)} {x:Str} {k:α},l.lookup x=some k→(x,k) ∈ l
 | [],_,_,h=>by simp at h
 | (n,k') :: r,x,k,h=>by
  rw [List.lookup_cons] at h
  cases hx:x == n with
  | true =>
   rw [hx] at h
   have e:x=n:=eq_of_beq hx
   have e2:k' = k:=Option.some.inj h
   rw [e,e2]; exact List.mem_cons_self
  | false =>
   rw [hx] at h
   exact List.mem_cons_of_mem _ (lookup_mem h)
theorem AllC.get {env:Env} : ∀ {cl:List (Str × Addr)} {x:Str} {c:Addr},AllC env cl→cl.lookup x=some c→env.cells.lookup x=some c:=fun {cl x c} h e=>by
 have go:∀ (l:List (Str × Addr)),AllC env l→∀ p ∈ l,env.cells.lookup p.1=some p.2:=by
  intro l
  induction l with
  | nil=>intro _ p hp; cases hp
  | cons q r ih =>
   intro ha p hp
   rcases List.mem_cons.mp hp with rfl | hp
   ·exact ha.1
   ·exact ih ha.2 p hp
 exact go cl h (x,c) (lookup_mem e)
def CapOk (X:Cx) (scope:Scope) (cl:List (Str × Addr)) : List Str→List Nat→Prop
 | [],[]=>True
 | y :: ys,j :: js=>(X.N[j]? = some y∧(X.env.kindOf y=some .cell∨X.env.kindOf y=some .free)∧(cl.lookup y).isSome=true∧((relabel scope X.env).names.lookup y=some .cell∨(relabel scope X.env).names.lookup y=some .free))∧CapOk X scope cl ys js
 | _,_=>False
theorem CapOk.get {X:Cx} {scope:Scope} {cl:List (Str × Addr)} : ∀ {ys:List Str} {js:List Nat} {i:Nat} {y:Str},CapOk X scope cl ys js→ys[i]? = some y →
  ∃ j,js[i]? = some j∧X.N[j]? = some y∧(X.env.kindOf y=some .cell∨X.env.kindOf y=some .free)∧(cl.lookup y).isSome=true∧((relabel scope X.env).names.lookup y=some .cell∨(relabel scope X.env).names.lookup y=some .free)
 | [],_,_,_,_,e=>by simp at e
 | _ :: _,[],_,_,h,_=>h.elim
 | y :: ys,j :: js,0,z,h,e=>by
  have e':y=z:=by simpa using e
  subst e'
  exact ⟨j,rfl,h.1⟩
 | y :: ys,j :: js,i+1,z,h,e=>by
  obtain ⟨k,e1,e2⟩:=CapOk.get (i:=i) h.2 (by simpa using e)
  exact ⟨k,by simpa using e1,e2⟩
theorem CapOk.len {X:Cx} {scope:Scope} {cl:List (Str × Addr)} : ∀ {ys:List Str} {js:List Nat},CapOk X scope cl ys js→ys.length=js.length
 | [],[],_=>rfl
 | [],_ :: _,h=>h.elim
 | _ :: _,[],h=>h.elim
 | _ :: _,_ :: _,h=>by rw [List.length_cons,List.length_cons,CapOk.len h.2]
def capv (σ:St) (js:List Nat) : St:=js.map fun j=>(σ[j]?).join
theorem relabel_free {scope:Scope} {env:Env} {x:Str} (hcell:∀ y ∈ scope.names,y.2≠.cell) (h:(relabel scope env).names.lookup x=some .cell∨(relabel scope env).names.lookup x=some .free) : (x,NameKind.free) ∈ scope.names:=by
 have hm:∃ k,(k=NameKind.cell∨k=NameKind.free)∧(x,k) ∈ (relabel scope env).names:=by
  rcases h with h | h
  ·exact ⟨_,.inl rfl,lookup_mem h⟩
  ·exact ⟨_,.inr rfl,lookup_mem h⟩
 obtain ⟨k,hk,hm⟩:=hm
 obtain ⟨⟨n,k'⟩,hin,e⟩:=List.mem_map.mp hm
 dsimp only at e
 by_cases hc:(k' == NameKind.free && env.scope.kind == .function && env.kindOf n == some .cell)=true
 ·rw [if_pos hc] at e
  cases e
  have:k' = NameKind.free:=by
   rw [Bool.and_eq_true,Bool.and_eq_true] at hc
   exact eq_of_beq hc.1.1
  rw [← this]; exact hin
 ·rw [if_neg hc] at e
  cases e
  rcases hk with hk | hk
  ·exact absurd hk (hcell _ hin)
  ·rw [← hk]; exact hin
section
variable {X:Cx} {pins:List (Addr × Obj)} {σ:St} {H:Hp} {s:Shared}
theorem Inv.adopt {D:Addr} {ys:List V} {its:List Value} {n:Nat} (I:Inv X pins σ H s) (hn:H D=none) (hnew:X.s₀.heap.objs.size≤D) (hL:D≠X.env.locals) (hc:∀ x c,X.env.cells.lookup x=some c→c≠D) (hp:∀ p ∈ X.pn++pins,p.1≠D)
  (e:s.heap.get? D=some { cls:=.type "list",data:=.seq its.toArray n }) (hv:Vals ys its) (hz:ys.length≤sizeLine) : Inv X pins σ (upd H D (.lst ys)) s:=by
 have ne:∀ b u,H b=some u→b≠D:=fun b u q=>ne_of_none q hn
 refine ⟨I.ok,I.os,I.bare,⟨I.base.keep,I.base.slot,fun b o q nn hx=>?_,I.base.there,fun b xs q=>?_,fun b o u q=>?_,fun b ps q=>?_⟩,I.loc,I.cell,?_,fun x c q=>?_,fun p hq=>?_,fun b u q=>?_,I.len⟩
 ·rw [upd_ne (Nat.ne_of_lt (Nat.lt_of_lt_of_le (Heap.lt_size q) hnew))]; exact I.base.free b o q nn hx
 ·have z:=I.base.tups b xs q
  rw [upd_ne (ne b _ z)]; exact z
 ·have z:=I.base.frzs b o u q
  rw [upd_ne (ne b _ z)]; exact z
 ·obtain ⟨more,z⟩:=I.base.tbls b ps q
  exact ⟨more,by rw [upd_ne (ne b _ z)]; exact z⟩
 ·rw [upd_ne (Ne.symm hL)]; exact I.free
 ·rw [upd_ne (hc x c q)]; exact I.freeC x c q
 ·obtain ⟨a1,a2,a3⟩:=I.pin p hq
  exact ⟨a1,by rw [upd_ne (hp p hq)]; exact a2,a3⟩
 ·by_cases hb:b=D
  ·subst hb
   rw [upd_same] at q; cases q
   exact ⟨hz,its,n,hv,e⟩
  ·rw [upd_ne hb] at q
   exact (I.hok b u q).stay (fun c v _ r=>r) (fun c r=>by rw [upd_ne (ne c _ r)]; exact r) fun c xs r=>by rw [upd_ne (ne c _ r)]; exact r
structure Outed (X:Cx) (pins:List (Addr × Obj)) (σ:St) (C D:Addr) (H:Hp) (s:Shared) : Prop where
 inv:Inv X pins σ H s
 ns:∃ m,s.heap.Ns C m
 nL:C≠X.env.locals
 new:X.s₀.heap.objs.size≤C
 nc:∀ x c,X.env.cells.lookup x=some c→c≠C
 np:∀ p ∈ X.pn++pins,p.1≠C
 free:H C=none
theorem Outed.gone {C D:Addr} {h':Heap} (O:Outed X pins σ C D H s) (sb:Heap.SameBut C s.heap h') : Inv X pins σ H { s with heap:=h' }:=
 O.inv.turned (t':=s.toks) (it:=C) (fun b o hb e=>(sb.2 b hb).trans e) O.free O.nL (.inr O.new) O.nc O.np
end

def gLC (J:It) (g:TG) (tc:TT) (te:TE) (n:Nat) (cv:St) (Fin:List V→Hp→Prop) (H1:Hp) : Prop:=
 ∃ W:Nat→Nat→List V→Hp→Prop,(∃ m,W 0 m [] H1)∧∀ i m ys H,W i m ys H →
  (J.stop i H∧Fin ys H) ∨
  (J.go i H∧ys.length < sizeLine∧∃ N:List V→Hp→Prop,(∀ ys' H',N ys' H'→∃ m',m' < m∧W (i+1) m' ys' H')∧∀ x H',J.yld i H x H'→∀ own:St,own.length=n→g x (own++cv) H' fun σ2 H2=>(∃ own2:St,own2.length=n∧σ2=own2++cv) ∧
   tc σ2 H2 fun b H3=>if b=true then te σ2 H3 fun y H4=>N (ys++[y]) H4 else N ys H3)

def clOf (env:Env) : List (Str × NameKind)→List (Str × Addr)→List (Str × Addr)
 | [],acc=>acc
 | (n,k) :: r,acc=>clOf env r (if k == .free then (match env.cells.lookup n with | some c=>(n,c) :: acc | none=>acc) else acc)
theorem clOf_all (env:Env) : ∀ (names:List (Str × NameKind)) (acc:List (Str × Addr)),AllC env acc→AllC env (clOf env names acc)
 | [],_,h=>h
 | (n,k) :: r,acc,h=>by
  refine clOf_all env r _ ?_
  split
  ·split
   ·exact ⟨by assumption,h⟩
   ·exact h
  ·exact h
structure LcOk (X:Cx) (scope:Scope) (cl:List (Str × Addr)) (own caps:List Str) (js:List Nat) : Prop where
 clos:closureFor scope X.env=pure cl
 cell:∀ y ∈ scope.names,y.2≠.cell
 kind:scope.kind = .function
 names:∀ y ∈ scope.names,y.2 = .local→scope.names.lookup y.1=some .local
 allc:AllC X.env cl
 free:(scope.names.all fun y=>y.2 != .free || (cl.lookup y.1).isSome)=true
 cap:CapOk X scope cl caps js

theorem lcok {X:Cx} {scope:Scope} {own caps:List Str} {js:List Nat} (clos:closureFor scope X.env=pure (clOf X.env scope.names []):=by with_unfolding_all rfl) (cell:∀ y ∈ scope.names,y.2≠.cell:=by decide +kernel) (kind:scope.kind = .function:=by rfl)
  (names:∀ y ∈ scope.names,y.2 = .local→scope.names.lookup y.1=some .local:=by decide +kernel) (free:(scope.names.all fun y=>y.2 != .free || ((clOf X.env scope.names []).lookup y.1).isSome)=true:=by with_unfolding_all rfl)
  (cap:CapOk X scope (clOf X.env scope.names []) caps js) : LcOk X scope (clOf X.env scope.names []) own caps js:=⟨clos,cell,kind,names,clOf_all _ _ _ trivial,free,cap⟩
section
variable {X:Cx} {elt iter target:Expr} {ifs:List Expr} {scope:Scope} {cl:List (Str × Addr)} {pos:Pos} {own caps:List Str} {js:List Nat} {g:TG} {tc:TT} {te:TE}
theorem lc_block {pins:List (Addr × Obj)} {σ:St} {s₂:Shared} {H1:Hp} {it:Addr} {fp:List Addr} {tn:Nat→Heap→Prop} {J:It} {Fin:List V→Hp→Prop} {RR:Value→Addr→Result→Shared→Prop} {E:Value→Shared→Prop}
  (hc:X.calm=true) (L:LcOk X scope cl own caps js)
  (hg:∀ s H C ex,PG (X.blk (own++caps) s H scope cl C ex) target g) (ht:∀ s H C ex,PTs (X.blk (own++caps) s H scope cl C ex) ifs tc) (he:∀ s H C ex,PE (X.blk (own++caps) s H scope cl C ex) elt te)
  (I2:Inv X pins σ H1 s₂) (T:Turn X.prog X.w X.K target J fp it tn) (st2:tn 0 s₂.heap) (f2:∀ b ∈ fp,FpOk X pins H1 b)
  (G:gLC J g tc te own.length (capv σ js) Fin H1)
  (hRR:∀ D C H ys s',H D=none→Outed X pins σ C D (upd H D (.lst ys)) s'→Fin ys H→RR (.ref D) C (.ok .next) s') :
  wpAny (model X.prog X.w) X.A (newList []) (fun acc s₃=>wpAny (model X.prog X.w) X.A (newFunctionEnv scope X.env.globals cl [] X.env.qual none .none (some X.env)) (fun cenv s₄ =>
   codeAny (model X.prog X.w) X.A (.compStart (.ListComp elt [⟨target,iter,ifs,0⟩] scope pos) 0 (.ref it) acc { cenv with scope:=relabel scope X.env }) (RR acc cenv.locals) s₄) E s₃) E s₂:=by
 refine wpAny_newObj_type (wpAny_newFunctionEnv L.cell (by intro y hy; simp at hy) (fun h₁ hns₁ hsb₁=>?_) L.kind)
 dsimp only at hns₁ hsb₁ ⊢
 generalize hH2:s₂.heap.push { cls:=.type "list",dict:=none,data:=.seq ([] : List Value).toArray }=G2 at hns₁ hsb₁ ⊢
 have hC:G2.objs.size=s₂.heap.objs.size+1:=by rw [← hH2,Heap.size_push]
 have up2:∀ b o,s₂.heap.get? b=some o→G2.get? b=some o:=fun b o e=>hH2 ▸ Heap.get?_push_of_some _ e
 have hDC:s₂.heap.objs.size≠G2.objs.size:=by rw [hC]; exact Nat.ne_of_lt (Nat.lt_succ_self _)
 have hD2:G2.get? s₂.heap.objs.size=some { cls:=.type "list",data:=.seq ([] : List Value).toArray ([] : List Value).length }:=hH2 ▸ Heap.get?_push_size _ rfl
 -- the state with the list laid
 have I3:Inv X pins σ H1 { s₂ with heap:=G2 }:=I2.kept (t':=s₂.toks) up2
 have up3:∀ b o,G2.get? b=some o→h₁.get? b=some o:=fun b o e=>hsb₁.extBut b o (Nat.ne_of_lt (Heap.lt_size e)) (Heap.get?_push_of_some _ e)
 have DH:H1 s₂.heap.objs.size=none:=I2.fresh
 have CH:H1 G2.objs.size=none:=I3.fresh
 have fpl:∀ b ∈ fp,b < s₂.heap.objs.size:=fun b hb=>by
  obtain ⟨o,e,_⟩:=T.obj 0 _ st2 b hb
  exact Heap.lt_size e
 have celllt:∀ x c,X.env.cells.lookup x=some c→c < s₂.heap.objs.size:=fun x c e=>by
  obtain ⟨v,q⟩:=I2.cell x c e
  exact q.lt
 have locl:X.env.locals < s₂.heap.objs.size:=I2.lt
 generalize hD:s₂.heap.objs.size=D at *
 generalize hCC:G2.objs.size=C at *
 have hDltC:D < C:=by omega
 have noF:∀ b,b ∈ frs X.stack→b < D:=fun b hb=>by
  rcases List.mem_cons.mp (I2.stkSub b hb) with e | hb
  ·rw [e]; exact locl
  ·obtain ⟨_,o,ho,_⟩:=I2.ok.funs.mem hb
   exact Nat.lt_of_lt_of_le (Heap.lt_size ho) (hD ▸ I2.sz)
 have fpF:∀ b ∈ fp,b ∉ frs X.stack:=fun b hb z=>by
  obtain ⟨_,e1,e2,_⟩:=f2 b hb
  rcases List.mem_cons.mp (I2.stkSub b z) with e | z
  ·exact e1 e
  ·exact e2 z
 have ok':(X.blk (own++caps) { s₂ with heap:=G2 } H1 scope cl C (D :: fp)).Ok:={
  mod:=I2.ok.mod
  kind:=L.kind
  glob:=I2.ok.glob
  blt:=I2.ok.blt
  above:=Nat.le_of_eq hCC
  inj:=fun x y c e1 e2=>I2.ok.inj x y c (L.allc.get e1) (L.allc.get e2)
  has:=fun x hx=>by
   have hm:=relabel_free L.cell hx
   have q:=List.all_eq_true.mp L.free _ hm
   have q':(cl.lookup x).isSome=true:=by simpa using q
   exact Option.isSome_iff_exists.mp q'
  cab:=fun x c e=>nomatch e
  hd:=I2.ok.hd
  frames:=I2.ok.frames
  stk:=.inl rfl
  exf:=fun b hb=>by
   rcases List.mem_cons.mp hb with rfl | hb
   ·exact ⟨Nat.ne_of_lt hDltC,fun x c e=>Nat.ne_of_lt (celllt x c (L.allc.get e))⟩
   ·obtain ⟨_,e1,e2,_,e4,_⟩:=f2 b hb
    exact ⟨Nat.ne_of_lt (Nat.lt_trans (fpl b hb) hDltC),fun x c e=>e4 x c (L.allc.get e)⟩
  bs:=fun b o e=>⟨up2 b o (I2.bs b o e).1,(I2.bs b o e).2⟩
  bsz:=by
   show X.base.objs.size≤G2.objs.size
   have:=I2.ok.bsz
   have:=I2.sz
   omega
  noex:=fun b o e hb=>by
   have hlt:=Heap.lt_size (I2.bs b o e).1
   rcases List.mem_cons.mp hb with z | hb
   ·exact absurd (show b < D from hD ▸ hlt) (by rw [z]; exact Nat.lt_irrefl _)
   ·obtain ⟨_,_,_,e3,_⟩:=f2 b hb
    rcases e3 with e3 | e3
    ·exact I2.ok.noex b o e e3
    ·exact absurd (Nat.lt_of_lt_of_le (Heap.lt_size (I2.ok.bs b o e).1) e3) (Nat.lt_irrefl _)
  exfs:=fun b hb z=>by
   rcases List.mem_cons.mp hb with e | hb
   ·exact absurd (noF b z) (by rw [e]; exact Nat.lt_irrefl _)
   ·exact fpF b hb z
  funs:=I3.stack
  frf:=I3.stkFree }
 have hns:h₁.Ns C (fun x=>([] : List (Str × Value)).reverse.lookup x):=hns₁
 have start:Inv (X.blk (own++caps) { s₂ with heap:=G2 } H1 scope cl C (D :: fp)) [(D,LCg.lst [])] (List.replicate own.length none++capv σ js) H1 { s₂ with heap:=h₁,toks:=s₂.toks+([] : List (Str × Value)).length }:=by
  refine ⟨ok',rfl,I2.bare,Un.kept up3,⟨_,hns,fun i x v e1 e2 e3=>?_⟩,fun x c e=>?_,CH,fun x c e=>I2.freeC x c (L.allc.get e),fun p hp=>?_,I3.hok.kept up3,?_⟩
  ·have hlo:own.length≤i:=by
    refine Nat.le_of_not_lt fun hlt=>?_
    rw [List.getElem?_append_left (by rw [List.length_replicate]; exact hlt),List.getElem?_replicate,if_pos hlt] at e2
    cases e2
   have e1':caps[i - own.length]? = some x:=by rw [← List.getElem?_append_right hlo]; exact e1
   obtain ⟨j,j1,j2,j3,j4,j5⟩:=L.cap.get e1'
   have e2':(capv σ js)[i - own.length]? = some (some v):=by
    rw [← e2,List.getElem?_append_right (by rw [List.length_replicate]; exact hlo),List.length_replicate]
   have e4:σ[j]? = some (some v):=by
    unfold capv at e2'
    rw [List.getElem?_map,j1] at e2'
    have e5:(σ[j]?).join=some v:=Option.some.inj e2'
    cases hq:σ[j]? with
    | none=>rw [hq] at e5; cases e5
    | some q=>rw [hq] at e5; exact congrArg some e5
   obtain ⟨m,hn,hl⟩:=I2.loc
   obtain ⟨u,ru,lk⟩:=hl j x v j2 e4 (.inr j3)
   refine ⟨u,ru,.inr ⟨j5,?_⟩⟩
   rcases lk with ⟨k,_⟩ | ⟨_,c,ec,o,ho,hd⟩
   ·rcases j3 with z | z <;> (rw [k] at z; cases z)
   ·obtain ⟨c',ec'⟩:=Option.isSome_iff_exists.mp j4
    have:=L.allc.get ec'
    rw [ec] at this
    cases this
    exact ⟨c,ec',o,up3 _ _ (up2 _ _ ho),hd⟩
  ·obtain ⟨v,o,ho,hd⟩:=I2.cell x c (L.allc.get e)
   exact ⟨v,o,up3 _ _ (up2 _ _ ho),hd⟩
  ·have e:p=(D,LCg.lst []):=by simpa using hp
   subst e
   exact ⟨up3 _ _ hD2,DH,Nat.ne_of_lt hDltC,fun z=>absurd (noF D z) (Nat.lt_irrefl _),fun v z=>by cases z⟩
  ·rw [List.length_append,List.length_append,List.length_replicate]
   unfold capv
   rw [List.length_map,L.cap.len]
 obtain ⟨W,⟨m0,w0⟩,turn⟩:=G
 have loop:codeAny (model X.prog X.w) X.A (.compLoop (.ListComp elt [⟨target,iter,ifs,0⟩] scope pos) 0 (.ref it) (.ref D) (compEnvC scope cl C X.env)) (RR (.ref D) C) { s₂ with heap:=h₁,toks:=s₂.toks+([] : List (Str × Value)).length }:=by
  refine compLoop_any (fun n s'=>∃ i ys its ow H',Inv (X.blk (own++caps) { s₂ with heap:=G2 } H1 scope cl C (D :: fp)) [(D,LCg.lst its)] (ow++capv σ js) H' s'∧ow.length=own.length∧tn i s'.heap∧(∀ b ∈ fp,H' b=none)∧Vals ys its∧ys.length≤sizeLine∧W i n ys H') ?_ m0
   ⟨0,[],[],List.replicate own.length none,H1,start,List.length_replicate,T.keep _ _ _ st2 fun b _ o e=>up3 _ _ (up2 _ _ e),fun b hb=>(f2 b hb).1,.nil,Nat.zero_le _,w0⟩
  rintro n s' ⟨i,ys,its,ow,H',I',hlo,st,fr,hv,hz,wv⟩
  have fpok:∀ {H'':Hp},(∀ b ∈ fp,H'' b=none)→∀ b ∈ fp,FpOk (X.blk (own++caps) { s₂ with heap:=G2 } H1 scope cl C (D :: fp)) [(D,LCg.lst its)] H'' b:=fun hn b hb=>by
   obtain ⟨_,e1,e2,e3,e4,e5⟩:=f2 b hb
   refine ⟨hn b hb,Nat.ne_of_lt (Nat.lt_trans (fpl b hb) hDltC),fpF b hb,.inl (List.mem_cons_of_mem _ hb),fun x c e=>e4 x c (L.allc.get e),fun p hp=>?_⟩
   have e:p=(D,LCg.lst its):=by simpa using hp
   subst e
   exact Nat.ne_of_gt (fpl b hb)
  rcases turn i n ys H' wv with ⟨stop,fin⟩ | ⟨go,hlt,N,hN,step⟩
  ·refine wpAny_mono (T.done (X.blk (own++caps) { s₂ with heap:=G2 } H1 scope cl C (D :: fp)) rfl rfl rfl hc i _ s' _ H' (fun _ _=>False) I' (fpok fr) st stop) (fun r s4 ⟨hr,I4⟩=>?_) fun _ _ f=>f
   subst hr
   have pD:=I4.pin (D,LCg.lst its) (by simp)
   have hch:∀ b ∈ D :: fp,(b ∈ X.ex∨X.s₀.heap.objs.size≤b)∧b≠X.env.locals∧(∀ x c,X.env.cells.lookup x=some c→c≠b)∧∀ p ∈ X.pn++pins,p.1≠b:=fun b hb=>by
    rcases List.mem_cons.mp hb with rfl | hb
    ·exact ⟨.inr (hD ▸ I2.sz),Nat.ne_of_gt locl,fun x c e=>Nat.ne_of_lt (celllt x c e),fun p hp=>Nat.ne_of_lt (hD ▸ Heap.lt_size (I2.pin p hp).1)⟩
    ·obtain ⟨_,e1,e2,e3,e4,e5⟩:=f2 b hb
     exact ⟨e3,e1,e4,e5⟩
   have IX:Inv X pins σ H' s4:=I2.call' (ch:=D :: fp) I4.os ((Un.kept up2).trans I4.base) I4.hok I4.bare hch
   have cD:=hch D List.mem_cons_self
   have IA:Inv X pins σ (upd H' D (.lst ys)) s4:=IX.adopt pD.2.1 (hD ▸ I2.sz) cD.2.1 cD.2.2.1 cD.2.2.2 pD.1 hv hz
   obtain ⟨mm,hmm,_⟩:=I4.loc
   refine hRR D C H' ys s4 pD.2.1 ⟨IA,⟨mm,hmm⟩,Nat.ne_of_gt (Nat.lt_trans locl hDltC),?_,fun x c e=>Nat.ne_of_lt (Nat.lt_trans (celllt x c e) hDltC),fun p hp=>?_,?_⟩ fin
   ·have:=I2.sz
    omega
   ·exact Nat.ne_of_lt (Nat.lt_trans (show p.1 < D from hD ▸ Heap.lt_size (I2.pin p hp).1) hDltC)
   ·rw [upd_ne (Nat.ne_of_gt hDltC)]; exact I4.free
  ·refine wpAny_mono (T.item (X.blk (own++caps) { s₂ with heap:=G2 } H1 scope cl C (D :: fp)) rfl rfl rfl hc i _ s' _ H' (fun _ _=>False) I' (fpok fr) st go) (fun r s4 ⟨u,hr,h4⟩=>?_) fun _ _ f=>f
   subst hr
   refine wpAny_mono h4 (fun _ s5 ⟨x,H5,I5,r5,y5,st5,fr5⟩=>?_) fun _ _ f=>f
   have I5':=I5.pinned (fpok fr5) (T.obj _ _ st5)
   have keepT:∀ {σ8:St} {H8:Hp} {s8:Shared},Inv (X.blk (own++caps) { s₂ with heap:=G2 } H1 scope cl C (D :: fp)) ([(D,LCg.lst its)]++pinsAt fp s5.heap) σ8 H8 s8→tn (i+1) s8.heap∧∀ b ∈ fp,H8 b=none:=fun {σ8 H8 s8} I8 =>
    ⟨T.keep _ _ _ st5 fun b hb o e=>(I8.pin (b,o) (List.mem_append_right _ (List.mem_append_right _ (mem_pinsAt hb e)))).1,fun b hb=>by
     obtain ⟨o,e,d⟩:=T.obj _ _ st5 b hb
     exact (I8.pin (b,o) (List.mem_append_right _ (List.mem_append_right _ (mem_pinsAt hb e)))).2.1⟩
   refine wpAny_mono (hg _ _ _ _ _ s5 _ H5 x u _ I5' r5 (step x H5 y5 ow hlo)) (fun _ s6 ⟨σ6,H6,I6,⟨own2,hl2,e6⟩,q6⟩=>?_) fun _ _ f=>f
   subst e6
   refine wpAny_mono (ht _ _ _ _ _ s6 _ H6 _ I6 q6) (fun b s7 ⟨H7,I7,q7⟩=>?_) fun _ _ f=>f
   cases b with
   | false =>
    rw [if_neg Bool.false_ne_true]
    rw [if_neg Bool.false_ne_true] at q7
    obtain ⟨m',hm,w7⟩:=hN _ _ q7
    obtain ⟨k1,k2⟩:=keepT I7
    exact ⟨m',hm,i+1,ys,its,own2,H7,I7.unpinned,hl2,k1,k2,hv,hz,w7⟩
   | true =>
    rw [if_pos rfl]
    rw [if_pos rfl] at q7
    refine wpAny_mono (he _ _ _ _ _ s7 _ H7 _ I7 q7) (fun y s8 ⟨vy,H8,I8,r8,n8⟩=>?_) fun _ _ f=>f
    obtain ⟨m',hm,w8⟩:=hN _ _ n8
    obtain ⟨k1,k2⟩:=keepT I8
    have pD:=I8.pin (D,LCg.lst its) (by simp)
    have hyl:=hv.length
    refine append_at (hsz:=by show its.toArray.size≤sizeLine; rw [List.size_toArray]; omega) pD.1 fun h9 hs9 hD9=>?_
    have I9:Inv (X.blk (own++caps) { s₂ with heap:=G2 } H1 scope cl C (D :: fp)) [] (own2++capv σ js) H8 { s8 with heap:=h9 }:=by
     refine (I8.pins_of (pins':=[]) fun p hp=>nomatch hp).turned (t':=s8.toks) (it:=D) (fun b o hb e=>(hs9.2 b hb).trans e) pD.2.1 (Nat.ne_of_lt hDltC) (.inl List.mem_cons_self) (fun x c e=>Nat.ne_of_lt (celllt x c (L.allc.get e))) fun p hp=>?_
     simp at hp
    refine ⟨m',hm,i+1,ys++[vy],its++[y],own2,H8,I9.pins_of fun p hp=>?_,hl2,T.keep _ _ _ k1 fun b hb o e=>(hs9.2 b (Nat.ne_of_lt (fpl b hb))).trans e,k2,hv.append (.cons r8 .nil),?_,w8⟩
    ·have e:p=(D,LCg.lst (its++[y])):=by simpa using hp
     subst e
     exact ⟨hD9.trans (congrArg some (LCg.lst_snoc its y)),pD.2.1,Nat.ne_of_lt hDltC,fun z=>absurd (noF D z) (Nat.lt_irrefl _),fun v z=>by cases z⟩
    ·rw [List.length_append,List.length_singleton]; omega
 exact codeAny_compStart_list loop (T.self _ _ _ _ _ (T.keep _ _ _ st2 fun b _ o e=>up3 _ _ (up2 _ _ e)) loop)

def tLCg (wi:TI) (g:TG) (tc:TT) (te:TE) (n:Nat) (js:List Nat) : TE:=fun σ H Q=>wi σ H fun J H1=>gLC J g tc te n (capv σ js) (fun ys H=>∀ p,H p=none→Q (.ref p) (upd H p (.lst ys))) H1
variable {wi:TI}
theorem pe_lcg (hc:X.calm=true) (L:LcOk X scope cl own caps js) (hi:PI X target iter wi)
  (hg:∀ s H C ex,PG (X.blk (own++caps) s H scope cl C ex) target g) (ht:∀ s H C ex,PTs (X.blk (own++caps) s H scope cl C ex) ifs tc) (he:∀ s H C ex,PE (X.blk (own++caps) s H scope cl C ex) elt te)
  (hs:∀ x,foldedSetIterable iter X.env x=pure x:=by intro _; rfl) : PE X (.ListComp elt [⟨target,iter,ifs,0⟩] scope pos) (tLCg wi g tc te own.length js):=by
 intro pins s σ H Q I h
 rw [eval_ListComp]
 refine wpAny_comprehension_free (use:=none) rfl hs L.clos L.kind L.names (thn (hi pins s σ H _ I h) fun v s1 h1=>thn h1 fun itv s2 h2=>?_)
 obtain ⟨it,fp,tn,J,H2,e,I2,T,st2,f2,G⟩:=h2
 subst e
 refine lc_block hc L hg ht he I2 T st2 f2 G ?_
 intro D C H3 ys s' hD O fin
 obtain ⟨m,hn⟩:=O.ns
 exact ⟨m,hn,fun h' sb=>⟨.ref D,_,O.gone sb,rfl,fin D hD⟩⟩
theorem ps_lcg {k:Nat} {y:Str} {py spos:Pos} (hc:X.calm=true) (L:LcOk X scope cl own caps js) (hi:PI X target iter wi)
  (hg:∀ s H C ex,PG (X.blk (own++caps) s H scope cl C ex) target g) (ht:∀ s H C ex,PTs (X.blk (own++caps) s H scope cl C ex) ifs tc) (he:∀ s H C ex,PE (X.blk (own++caps) s H scope cl C ex) elt te)
  (hN:X.N.Nodup) (hk:X.N[k]? = some y) (hy:X.env.scope.names.lookup y=some .local)
  (hsw:swapsWith (.ListComp elt [⟨target,iter,ifs,0⟩] scope pos) (some (.Name y py)) spos.line X.env=pure true:=by rfl)
  (hs:∀ x,foldedSetIterable iter X.env x=pure x:=by intro _; rfl) : PS X (.Assign [.Name y py] (.ListComp elt [⟨target,iter,ifs,0⟩] scope pos) spos) (tAsg (tLCg wi g tc te own.length js) (gName k)):=by
 intro pins s σ H De I h
 rw [exec_Assign_Name_used _ _ _ _ hsw]
 refine wpAny_bind (wpAny_standAt (wpAny_bind ?_))
 show wpAny _ _ (do let _ ← comprehension (.ListComp elt [⟨target,iter,ifs,0⟩] scope pos) scope X.env _ (newList []) false (eval iter X.env) (some (assign (.Name y py) X.env))) _ _ s
 refine wpAny_bind (wpAny_mono (wpAny_comprehension_free (use:=some (assign (.Name y py) X.env)) (Q:=fun _ s'=>SP X pins De .next s') rfl hs L.clos L.kind L.names
  (thn (hi pins s σ H _ I h) fun v s1 h1=>thn h1 fun itv s2 h2=>?_)) (fun _ s' hq=>wpAny_pure (wpAny_pure hq)) fun _ _ e=>e)
 obtain ⟨it,fp,tn,J,H2,e,I2,T,st2,f2,G⟩:=h2
 subst e
 refine lc_block hc L hg ht he I2 T st2 f2 G ?_
 intro D C H3 ys s' hD O fin
 show wpAny _ _ (assign (.Name y py) X.env (.ref D)) _ _ _
 refine wpAny_assign_Name (store_ok2 O.inv hN hk (.inl hy) (show RelV (.ref D) (.ref D) from rfl) (fun s'' I'' sb=>?_) (.inr hy))
 obtain ⟨a,hsb,ha⟩:=sb
 have hne:C≠a:=by
  rcases ha with rfl | ha
  ·exact O.nL
  ·exact Ne.symm (O.nc _ _ ha)
 obtain ⟨m,hn⟩:=O.ns
 refine ⟨m,hn.sameBut hsb hne,fun h' sb'=>⟨_,_,?_,fin D hD⟩⟩
 exact I''.turned (t':=s''.toks) (it:=C) (fun b o hb e=>(sb'.2 b hb).trans e) O.free O.nL (.inr O.new) O.nc O.np
end

section
variable {X:Cx} {elt iter:Expr} {ifs:List Expr} {scope:Scope} {cl:List (Str × Addr)} {pos:Pos} {caps:List Str} {js:List Nat} {tc:TT} {te:TE} {wi:TI} {x:Str} {px:Pos}
theorem gLC1 {J:It} {cv:St} {Fin:List V→Hp→Prop} {H1:Hp} (h:∃ W:Nat→Nat→List V→Hp→Prop,(∃ m,W 0 m [] H1)∧∀ i m ys H,W i m ys H →
  (J.stop i H∧Fin ys H) ∨
  (J.go i H∧ys.length < sizeLine∧∃ N:List V→Hp→Prop,(∀ ys' H',N ys' H'→∃ m',m' < m∧W (i+1) m' ys' H')∧∀ x H',J.yld i H x H' →
   tc (some x :: cv) H' fun b H3=>if b=true then te (some x :: cv) H3 fun y H4=>N (ys++[y]) H4 else N ys H3)) : gLC J (gName 0) tc te 1 cv Fin H1:=by
 obtain ⟨W,w0,turn⟩:=h
 refine ⟨W,w0,fun i m ys H w=>?_⟩
 rcases turn i m ys H w with ⟨a,b⟩ | ⟨a,b,N,hN,c⟩
 ·exact .inl ⟨a,b⟩
 ·refine .inr ⟨a,b,N,hN,fun v H' y own ho=>?_⟩
  match own,ho with
  | [τ],_=>exact ⟨⟨[some v],rfl,rfl⟩,c v H' y⟩
def tLC (wi:TI) (tc:TT) (te:TE) (js:List Nat) : TE:=tLCg wi (gName 0) tc te 1 js
theorem pe_lc (hc:X.calm=true) (L:LcOk X scope cl [x] caps js) (hi:PI X (.Name x px) iter wi)
  (ht:∀ s H C ex,PTs (X.blk (x :: caps) s H scope cl C ex) ifs tc) (he:∀ s H C ex,PE (X.blk (x :: caps) s H scope cl C ex) elt te)
  (hN:(x :: caps).Nodup:=by decide +kernel) (hx:(relabel scope X.env).names.lookup x=some .local:=by with_unfolding_all rfl)
  (hs:∀ x,foldedSetIterable iter X.env x=pure x:=by intro _; rfl) : PE X (.ListComp elt [⟨.Name x px,iter,ifs,0⟩] scope pos) (tLC wi tc te js):=
 pe_lcg (own:=[x]) (g:=gName 0) hc L hi (fun s H C ex=>pg_name (i:=0) hN rfl (.inl hx) (.inr hx)) ht he hs
theorem ps_lc {k:Nat} {y:Str} {py spos:Pos} (hc:X.calm=true) (L:LcOk X scope cl [x] caps js) (hi:PI X (.Name x px) iter wi)
  (ht:∀ s H C ex,PTs (X.blk (x :: caps) s H scope cl C ex) ifs tc) (he:∀ s H C ex,PE (X.blk (x :: caps) s H scope cl C ex) elt te)
  (hXN:X.N.Nodup) (hk:X.N[k]? = some y) (hy:X.env.scope.names.lookup y=some .local) (hN:(x :: caps).Nodup:=by decide +kernel) (hx:(relabel scope X.env).names.lookup x=some .local:=by with_unfolding_all rfl)
  (hsw:swapsWith (.ListComp elt [⟨.Name x px,iter,ifs,0⟩] scope pos) (some (.Name y py)) spos.line X.env=pure true:=by rfl)
  (hs:∀ x,foldedSetIterable iter X.env x=pure x:=by intro _; rfl) : PS X (.Assign [.Name y py] (.ListComp elt [⟨.Name x px,iter,ifs,0⟩] scope pos) spos) (tAsg (tLC wi tc te js) (gName k)):=
 ps_lcg (own:=[x]) (g:=gName 0) hc L hi (fun s H C ex=>pg_name (i:=0) hN rfl (.inl hx) (.inr hx)) ht he hXN hk hy hsw hs
theorem lc_list {K:PySem.W.Frag} {a:Addr} {xs:List V} {cv:St} {Fin:List V→Hp→Prop} {H1:Hp} (Pv:Nat→List V→Hp→Prop) (h0:Pv 0 [] H1) (hl:∀ i ys H,i≤xs.length→Pv i ys H→SqL K H a xs) (hz:∀ i ys H,i < xs.length→Pv i ys H→ys.length < sizeLine)
  (hs:∀ i x ys H,xs[i]? = some x→Pv i ys H→tc (some x :: cv) H fun b H3=>if b=true then te (some x :: cv) H3 fun y H4=>Pv (i+1) (ys++[y]) H4 else Pv (i+1) ys H3)
  (hd:∀ ys H,Pv xs.length ys H→Fin ys H) : gLC (Itl K a) (gName 0) tc te 1 cv Fin H1:=by
 refine gLC1 ⟨fun i m ys H=>m=xs.length - i∧i≤xs.length∧Pv i ys H,⟨xs.length,by simp,Nat.zero_le _,h0⟩,?_⟩
 rintro i m ys H ⟨rfl,hi,p⟩
 have q:=hl i ys H hi p
 by_cases hlt:i < xs.length
 ·refine .inr ⟨⟨xs,xs[i],q,by simp [hlt]⟩,hz i ys H hlt p,Pv (i+1),fun ys' H' p'=>⟨xs.length - (i+1),by omega,rfl,hlt,p'⟩,fun v H' y=>?_⟩
  obtain ⟨e,y⟩:=y
  subst e
  exact hs i v ys _ (y xs q) p
 ·have e:i=xs.length:=by omega
  subst e
  exact .inl ⟨⟨xs,q,Nat.le_refl _⟩,hd ys H p⟩
theorem lc_range {lo:Int} {n:Nat} {cv:St} {Fin:List V→Hp→Prop} {H1:Hp} (Pv:Nat→List V→Hp→Prop) (h0:Pv 0 [] H1) (hz:∀ i ys H,i < n→Pv i ys H→ys.length < sizeLine)
  (hs:∀ i ys H,i < n→Pv i ys H→tc (some (.int (lo+i)) :: cv) H fun b H3=>if b=true then te (some (.int (lo+i)) :: cv) H3 fun y H4=>Pv (i+1) (ys++[y]) H4 else Pv (i+1) ys H3)
  (hd:∀ ys H,Pv n ys H→Fin ys H) : gLC (Itr lo n) (gName 0) tc te 1 cv Fin H1:=by
 refine gLC1 ⟨fun i m ys H=>m=n - i∧i≤n∧Pv i ys H,⟨n,by simp,Nat.zero_le _,h0⟩,?_⟩
 rintro i m ys H ⟨rfl,hi,p⟩
 by_cases hlt:i < n
 ·refine .inr ⟨hlt,hz i ys H hlt p,Pv (i+1),fun ys' H' p'=>⟨n - (i+1),by omega,rfl,hlt,p'⟩,fun v H' y=>?_⟩
  obtain ⟨e,y⟩:=y
  subst e y
  exact hs i ys _ hlt p
 ·have e:i=n:=by omega
  subst e
  exact .inl ⟨Nat.le_refl _,hd ys H p⟩
end

theorem yes_go {A B:Hp→Prop} {σ:St} {H:Hp} (h:A H) : tYes σ H (fun b H3=>if b=true then A H3 else B H3):=by
 show if true=true then A H else B H
 rw [if_pos rfl]
 exact h
theorem at_zero {α:Type} (x:α) (r:List α) : atI (x :: r) 0=some x:=atI_nat (j:=0) rfl

def Its (x:Str) : It:=⟨fun i _=>i < x.cps.size,fun i H v H'=>H' = H∧∃ c,x.cps[i]? = some c∧v = .str ⟨#[c]⟩,fun i _=>i=x.cps.size⟩
theorem turn_str {P:Program} {w:World} {K:PySem.W.Frag} {tg:Expr} {x:Str} {t:Tok} {it:Addr} {n:String} (hn:["enumerate","zip","dict_itemiterator","dict_reverseitemiterator","odict_iterator","itertools.zip_longest","itertools.pairwise"].contains n=false)
  (W:∀ A':Around,A'.handled=none→Walks P w A' it [it] [it] x.cps.size (SignAt x) (fun i h=>h.IsStrIter it n x t i))
  (slf:∀ (A:Around) (i:Nat) (s:Shared) (Q:Value→Shared→Prop) (E:Value→Shared→Prop),s.heap.IsStrIter it n x t i→Q (.ref it) s→wpAny (model P w) A (pyIter (.ref it)) Q E s) :
  Turn P w K tg (Its x) [it] it (fun i h=>h.IsStrIter it n x t i) where
 mem:=by simp
 obj:=fun i h st b hb=>by
  have e:b=it:=by simpa using hb
  subst e
  obtain ⟨o,e,c,d⟩:=st
  exact ⟨o,e,fun v z=>by rw [d] at z; cases z⟩
 keep:=fun i h h' st k=>let ⟨o,ho,r⟩:=st; ⟨o,k it (by simp) o ho,r⟩
 item:=by
  intro X hP hw hK hc i pins s σ H E I hf st hg
  subst hP hw hK
  obtain ⟨f0,f1,f2,f3,f4,f5⟩:=hf it (by simp)
  refine (W X.A (I.ok.hd hc)).item i s _ _ hg st fun v h' tk hv st' kk=>?_
  obtain ⟨c,u,hcx,rfl⟩:=hv
  have I1:Inv X pins σ H { s with heap:=h',toks:=tk }:=I.turned (fun b o hb e=>kk b o (by simpa using hb) e) f0 f1 f3 f4 f5
  obtain ⟨o,e,c',d⟩:=id st'
  exact ⟨_,rfl,go_of (s:={ s with heap:=h',toks:=tk }) e c' d hn ⟨.str ⟨#[c]⟩,H,I1,⟨u,rfl⟩,⟨rfl,c,hcx,rfl⟩,st',fun b hb=>(hf b hb).1⟩⟩
 done:=by
  intro X hP hw hK hc i pins s σ H E I hf st hg
  subst hP hw hK
  obtain ⟨f0,f1,f2,f3,f4,f5⟩:=hf it (by simp)
  have e:i=x.cps.size:=hg
  subst e
  exact (W X.A (I.ok.hd hc)).done s _ _ st fun h' tk kk=>⟨rfl,I.turned (fun b o hb e=>kk b o (by simpa using hb) e) f0 f1 f3 f4 f5⟩
 self:=slf
section
variable {X:Cx} {tg:Expr}
def iStr (tl:TE) : TI:=fun σ H R=>tl σ H fun v H1=>∃ x,v = .str x∧R (Its x) H1
theorem pi_str {l:Expr} {tl:TE} (hl:PE X l tl) : PI X tg l (iStr tl):=by
 intro pins s σ H R I h
 refine thn (hl pins s σ H _ I h) fun v s1 ⟨x,H1,I1,r1,q1⟩=>?_
 obtain ⟨z,e,q⟩:=q1
 subst e
 obtain ⟨t,rfl⟩:=r1
 have go:∀ n ob,["enumerate","zip","dict_itemiterator","dict_reverseitemiterator","odict_iterator","itertools.zip_longest","itertools.pairwise"].contains n=false →
   (∀ A':Around,A'.handled=none→Walks X.prog X.w A' s1.heap.objs.size [s1.heap.objs.size] [s1.heap.objs.size] z.cps.size (SignAt z) (fun i h=>h.IsStrIter s1.heap.objs.size n z t i)) →
   (∀ (A:Around) (i:Nat) (s:Shared) (Q:Value→Shared→Prop) (E:Value→Shared→Prop),s.heap.IsStrIter s1.heap.objs.size n z t i→Q (.ref s1.heap.objs.size) s→wpAny (model X.prog X.w) A (pyIter (.ref s1.heap.objs.size)) Q E s) →
   (s1.heap.push ob).IsStrIter s1.heap.objs.size n z t 0→PIE X pins σ tg R (.ref s1.heap.objs.size) { s1 with heap:=s1.heap.push ob }:=fun n ob hn W slf st=>by
  refine ⟨s1.heap.objs.size,[s1.heap.objs.size],_,_,H1,rfl,I1.kept (t':=s1.toks) fun b o e=>Heap.get?_push_of_some _ e,turn_str hn W slf,st,fun b hb=>?_,q⟩
  have e:b=s1.heap.objs.size:=by simpa using hb
  subst e
  exact I1.fpOk (Nat.le_refl _) (I1.hok.fresh (Nat.le_refl _))
 cases ha:z.cps.all (· < 128)
 ·exact wpAny_pyIter_wide ha (go "str_iterator" _ (by decide) (fun A' hA=>Walks.strWide hA _ z t) (fun _ _ _ _ _ st h=>wpAny_pyIter_striter_wide st h) ⟨_,Heap.get?_push_size _ rfl,rfl,rfl⟩)
 ·exact wpAny_pyIter_ascii ha (go "str_ascii_iterator" _ (by decide) (fun A' hA=>Walks.strAscii hA _ z t) (fun _ _ _ _ _ st h=>wpAny_pyIter_striter_ascii st h) ⟨_,Heap.get?_push_size _ rfl,rfl,rfl⟩)
end
theorem lc_str {x:Str} {tc:TT} {te:TE} {cv:St} {Fin:List V→Hp→Prop} {H1:Hp} (Pv:Nat→List V→Hp→Prop) (h0:Pv 0 [] H1) (hz:∀ i ys H,i < x.cps.size→Pv i ys H→ys.length < sizeLine)
  (hs:∀ i c ys H,x.cps[i]? = some c→Pv i ys H→tc (some (.str ⟨#[c]⟩) :: cv) H fun b H3=>if b=true then te (some (.str ⟨#[c]⟩) :: cv) H3 fun y H4=>Pv (i+1) (ys++[y]) H4 else Pv (i+1) ys H3)
  (hd:∀ ys H,Pv x.cps.size ys H→Fin ys H) : gLC (Its x) (gName 0) tc te 1 cv Fin H1:=by
 refine gLC1 ⟨fun i m ys H=>m=x.cps.size - i∧i≤x.cps.size∧Pv i ys H,⟨x.cps.size,by simp,Nat.zero_le _,h0⟩,?_⟩
 rintro i m ys H ⟨rfl,hi,p⟩
 by_cases hlt:i < x.cps.size
 ·refine .inr ⟨hlt,hz i ys H hlt p,Pv (i+1),fun ys' H' p'=>⟨x.cps.size - (i+1),by omega,rfl,hlt,p'⟩,fun v H' y=>?_⟩
  obtain ⟨e,c,hc,y⟩:=y
  subst e y
  exact hs i c ys _ hc p
 ·have e:i=x.cps.size:=by omega
  subst e
  exact .inl ⟨rfl,hd ys H p⟩

section
variable {X:Cx}
theorem partOf {v:Value} {o:Option Int} (p:IsPart v o) : ∃ l:Option (Int × Tok),v=partValue l∧o=l.map (·.1):=by
 cases p with
 | none=>exact ⟨none,rfl,rfl⟩
 | int i t=>exact ⟨some (i,t),rfl,rfl⟩
theorem sl_str:SlR X (fun x lo hi H Q=>∃ z,x = .str z∧z.length≤sizeLine∧Q (.str (Txt.slice z lo hi)) H):=by
 intro pins s σ H x v vl vu lo hi sl Q I r hs pl pu h
 obtain ⟨z,rfl,hz,q⟩:=h
 obtain ⟨t,rfl⟩:=r
 obtain ⟨l,rfl,rfl⟩:=partOf pl
 obtain ⟨u,rfl,rfl⟩:=partOf pu
 exact ⟨"str",_,F.slot_str_getitem.lookup,typeIs_str _ _ _,wpAny_getItem_str_slice (l:=l) (u:=u) (st:=none) hs rfl
  (post_val_or_str ⟨Nat.le_trans (Txt.slice_le z _ _) hz,fun t' k=>⟨.str (Txt.slice z _ _),H,I.tok k,⟨t',rfl⟩,q⟩⟩)⟩
theorem op_mul_str:OpR X (binaryOp .Mult) (fun x y H Q=>∃ z n,x = .str z∧y = .int n∧MulOk z n∧Q (.str (Txt.mul z n)) H):=by
 intro pins s σ H x y v u Q I rx ry h
 obtain ⟨z,n,rfl,rfl,hm,q⟩:=h
 obtain ⟨t,rfl⟩:=rx
 obtain ⟨t',rfl⟩:=ry
 exact SB.mul hm fun t'' k=>⟨.str _,H,I.tok k,⟨t'',rfl⟩,q⟩
theorem vals_strs:∀ (l:List (Str × Tok)),Vals ((l.map (·.1)).map V.str) (strValues l)
 | []=>.nil
 | p :: r=>.cons ⟨p.2,rfl⟩ (vals_strs r)
theorem mt_split1:MtR X "str.split" (fun x xs H Q=>∃ z c,x = .str z∧xs=[.str ⟨#[c]⟩]∧z.length+2≤sizeLine∧∀ p,H p=none→Q (.ref p) (upd H p (.lst ((Txt.split z ⟨#[c]⟩).map V.str)))):=by
 intro pins s σ H x xs v us Q I rx r h
 obtain ⟨z,c,rfl,rfl,hz,q⟩:=h
 obtain ⟨t,rfl⟩:=rx
 obtain ⟨w',rfl,u,rfl⟩:=vals1 r
 have hy:((⟨#[c]⟩ : Str).length == 0)=false:=rfl
 have len:=split_le z ⟨#[c]⟩
 have new:∀ (l:List (Str × Tok)) (k:Nat),l.map (·.1)=Txt.split z ⟨#[c]⟩→EP X pins σ Q (.ref s.heap.objs.size) { s with heap:=s.heap.push { cls:=.type "list",data:=.seq (strValues l).toArray },toks:=k }:=fun l k e =>
  ⟨.ref _,_,I.lnew (t':=k) (vals_strs l) (by rw [e,List.length_map]; exact Nat.le_trans len hz),rfl,by rw [e]; exact q _ I.fresh⟩
 cases h1:(decide (z.length < (⟨#[c]⟩ : Str).length) || decide (Builtin.Str.strKind z < Builtin.Str.strKind ⟨#[c]⟩))
 ·cases hf:(Builtin.Str.occurrences z ⟨#[c]⟩ 0 z.length (z.length+1)).isEmpty
  ·have e1:Txt.split z ⟨#[c]⟩=Builtin.Str.partsBetween z (Builtin.Str.occurrences z ⟨#[c]⟩ 0 z.length (z.length+1)) (⟨#[c]⟩ : Str).length:=
    (if_neg (ne_true_of_eq_false h1)).trans (if_neg (ne_true_of_eq_false hf))
   refine call_meets F.slot_str_split (typeIs_str _ _ _) F.entry_str_split (F.args_str_split_2 _ _) (meets_str_split_sep z ⟨#[c]⟩ t u h1 hy hf (by omega) (by rw [← e1]; omega)) ?_
   show wants _ _ _ { s with toks:=_,heap:=s.heap.push { cls:=.type "list",data:=.seq (strsFrom s.toks (Builtin.Str.partsBetween z (Builtin.Str.occurrences z ⟨#[c]⟩ 0 z.length (z.length+1)) (⟨#[c]⟩ : Str).length)).toArray } }
   rw [strsFrom_eq]
   exact new _ _ ((numbered_texts _ _).trans e1.symm)
  ·exact call_meets F.slot_str_split (typeIs_str _ _ _) F.entry_str_split (F.args_str_split_2 _ _) (meets_str_split_not_found z ⟨#[c]⟩ t u h1 hy hf)
    (new [(z,t)] _ ((if_neg (ne_true_of_eq_false h1)).trans (if_pos hf)).symm)
 ·exact call_meets F.slot_str_split (typeIs_str _ _ _) F.entry_str_split (F.args_str_split_2 _ _) (meets_str_split_cannot_occur z ⟨#[c]⟩ t u h1)
   (new [(z,t)] _ (if_pos h1).symm)
theorem strsAre_of {ys:List Str} : ∀ {us:List Value},Vals (ys.map V.str) us→StrsAre us ys:=by
 induction ys with
 | nil=>intro us h; cases h; exact .nil
 | cons y ys ih =>
  intro us h
  cases h with
  | cons r t =>
   obtain ⟨tk,rfl⟩:=r
   exact .cons y tk (ih t)
theorem mt_join:MtR X "str.join" (fun x xs H Q=>∃ sep a ys,x = .str sep∧xs=[.ref a]∧SqL X.K H a (ys.map V.str)∧sep.length≤16∧(ys.map (·.length)).sum+ys.length≤1048576∧Q (.str (Txt.join sep ys)) H):=by
 intro pins s σ H x xs v us Q I rx r h
 obtain ⟨sep,a,ys,rfl,rfl,hS,h1,h2,q⟩:=h
 obtain ⟨t,rfl⟩:=rx
 obtain ⟨w',rfl,rfl⟩:=vals1 r
 obtain ⟨its,rv,p,hz⟩:=I.list hS
 exact join_listW p.isList (strsAre_of (by simpa using rv)) h1 h2 fun t' k=>⟨.str _,H,I.tok k,⟨t',rfl⟩,q⟩
end
end L2

namespace Tl
open PySem PySem.Builtin PySem.Builtin.Str L2

abbrev tx (l:List Nat) : Str:=⟨l.toArray⟩
theorem tx_of (s:Str) : s=tx s.cps.toList:=by cases s; rfl
theorem tx_app (a b:List Nat) : tx a++tx b=tx (a++b):=by
 show (⟨a.toArray++b.toArray⟩ : Str)=⟨(a++b).toArray⟩
 rw [List.append_toArray]
theorem tx_len (l:List Nat) : (tx l).length=l.length:=by show l.toArray.size=_; simp
theorem tx_inj {a b:List Nat} (h:tx a=tx b) : a=b:=by
 have e:a.toArray=b.toArray:=congrArg Str.cps h
 have e2:=congrArg Array.toList e
 simpa using e2
theorem tx_cps (l:List Nat) (i:Nat) : (tx l).cps[i]? = l[i]?:=by show l.toArray[i]? = _; simp
theorem tx_size (l:List Nat) : (tx l).cps.size=l.length:=by show l.toArray.size=_; simp

def cutL {α:Type} (l:List α) (lo hi:Option Int) : List α:=(l.drop (HT.sIx l.length 0 lo)).take (HT.sIx l.length l.length hi - HT.sIx l.length 0 lo)
theorem clip_eq (n d:Nat) (i:Int) : max 0 (min (if i < 0 then i+(n:Int) else i) (n:Int))=((HT.sIx n d (some i) : Nat) : Int):=by
 show _=(((if i < 0 then (i+(n:Int)).toNat else min i.toNat n) : Nat) : Int)
 by_cases h:i < 0
 ·rw [if_pos h,if_pos h]; omega
 ·rw [if_neg h,if_neg h]; omega
theorem idx_range (lo hi:Option Int) (n:Nat) : strSliceIndices lo hi 1 n=sliceRange ((HT.sIx n 0 lo:Nat) : Int) ((HT.sIx n n hi:Nat) : Int) 1:=by
 cases lo with
 | none =>
  cases hi with
  | none=>rfl
  | some j=>exact congrArg (fun z=>sliceRange 0 z 1) (clip_eq n n j)
 | some i =>
  cases hi with
  | none=>exact congrArg (fun z=>sliceRange z (n:Int) 1) (clip_eq n 0 i)
  | some j =>
   have a:=clip_eq n 0 i
   have b:=clip_eq n n j
   show sliceRange (max 0 (min (if i < 0 then i+(n:Int) else i) (n:Int))) (max 0 (min (if j < 0 then j+(n:Int) else j) (n:Int))) 1=_
   rw [a,b]
theorem slice_tx (l:List Nat) (lo hi:Option Int) : Txt.slice (tx l) lo hi=tx (cutL l lo hi):=by
 have h1:=HT.sIx_le l.length 0 (Nat.zero_le _) lo
 have h2:=HT.sIx_le l.length l.length (Nat.le_refl _) hi
 have ei:strSliceIndices lo hi 1 l.length=strSliceIndices (some ((HT.sIx l.length 0 lo:Nat) : Int)) (some ((HT.sIx l.length l.length hi:Nat) : Int)) 1 l.length:=by
  rw [idx_range lo hi,idx_range (some _) (some _),HT.sIx_nat,HT.sIx_nat,Nat.min_eq_left h1,Nat.min_eq_left h2]
 have e:Txt.slice (tx l) lo hi=StrLaws.sliceText (tx l) (some ((HT.sIx l.length 0 lo:Nat) : Int)) (some ((HT.sIx l.length l.length hi:Nat) : Int)):=by
  unfold Txt.slice StrLaws.sliceText
  rw [tx_len,ei]
 by_cases hab:HT.sIx l.length 0 lo≤HT.sIx l.length l.length hi
 ·rw [e,StrLaws.sliceText_nat (tx l) hab (by rw [tx_len]; exact h2)]
  rfl
 ·have e0:strSliceIndices lo hi 1 (tx l).length=[]:=by
   rw [tx_len,idx_range]
   unfold sliceRange
   simp only [show (1:Int) > 0 by decide,if_true]
   rw [if_neg (by omega)]
   rfl
  unfold Txt.slice
  rw [e0]
  have hne:¬ (((1:Int) == 1 && ([] : List Nat).length == (tx l).length)=true):=by
   rw [tx_len]
   intro h
   have:0=l.length:=by simpa using h
   omega
  rw [if_neg hne]
  unfold cutL
  rw [Nat.sub_eq_zero_of_le (by omega),List.take_zero]
  rfl
theorem cut_to {α:Type} (l:List α) (j:Nat) : cutL l none (some (j:Int))=l.take j:=by
 unfold cutL
 rw [HT.sIx_none,HT.sIx_nat,List.drop_zero,Nat.sub_zero]
 by_cases h:j≤l.length
 ·rw [Nat.min_eq_left h]
 ·rw [Nat.min_eq_right (by omega),List.take_of_length_le (Nat.le_refl _),List.take_of_length_le (by omega)]
def repL {α:Type} (l:List α) (n:Nat) : List α:=(List.replicate n l).flatten
theorem repL_succ {α:Type} (l:List α) (n:Nat) : repL l (n+1)=l++repL l n:=by unfold repL; rw [List.replicate_succ,List.flatten_cons]
theorem repL_len {α:Type} (l:List α) : ∀ n:Nat,(repL l n).length=n * l.length
 | 0=>by simp [repL]
 | n+1=>by rw [repL_succ,List.length_append,repL_len l n,Nat.add_mul]; omega
theorem fold_rep (l:List Nat) : ∀ (n:Nat) (acc:List Nat),(List.replicate n l.toArray).foldl (·++·) acc.toArray=(acc++repL l n).toArray
 | 0,acc=>by simp [repL]
 | n+1,acc=>by
  rw [List.replicate_succ,List.foldl_cons,List.append_toArray,fold_rep l n,repL_succ,List.append_assoc]
theorem mul_tx (l:List Nat) (n:Nat) : Txt.mul (tx l) (n:Int)=tx (repL l n):=by
 unfold Txt.mul
 by_cases h1:(n:Int) < 1
 ·have e:n=0:=by omega
  subst e
  rw [if_pos h1]; rfl
 ·rw [if_neg h1]
  by_cases h2:((n:Int) == 1 || (tx l).length == 0)=true
  ·rw [if_pos h2]
   rcases Bool.or_eq_true _ _ ▸ h2 with h | h
   ·have e:n=1:=by have:=eq_of_beq h; omega
    subst e
    rw [repL_succ]; simp [repL]
   ·have e:l=[]:=by
     have:=eq_of_beq h
     rw [tx_len] at this
     exact List.eq_nil_of_length_eq_zero this
    subst e
    have:∀ k,repL ([] : List Nat) k=[]:=fun k=>by
     induction k with
     | zero=>rfl
     | succ k ih=>rw [repL_succ,ih]; rfl
    rw [this]
  ·rw [if_neg h2]
   have:=fold_rep l n []
   have e:((n:Int)).toNat=n:=by omega
   rw [e]
   show (⟨(List.replicate n l.toArray).foldl (·++·) #[]⟩ : Str)=_
   rw [show (#[] : Array Nat)=([] : List Nat).toArray from rfl,this,List.nil_append]
theorem mulOk_small {l:List Nat} {n:Nat} (h1:n≤100000) (h2:l.length≤100) : MulOk (tx l) (n:Int):=by
 have hb:l.length * n≤10000000:=by
  have:=Nat.mul_le_mul h2 h1
  omega
 refine ⟨?_,fun _ _=>?_,fun _ _=>?_⟩
 ·rw [decide_eq_false (by omega),decide_eq_false (by omega)]; rfl
 ·rw [tx_len]
  have:(100:Int)≤(2 ^ 63 - 1) / (n:Int):=by
   by_cases e:n=0
   ·omega
   ·exact (Int.le_ediv_iff_mul_le (by omega)).mpr (by omega)
  omega
 ·rw [tx_len]
  unfold tooLong
  have e:((n:Int)).toNat=n:=by omega
  rw [e]
  exact decide_eq_false (by show ¬ (_ > 16777216); omega)

def splitL (c:Nat) : List Nat→List (List Nat)
 | []=>[[]]
 | x :: r=>if x=c then [] :: splitL c r else match splitL c r with
  | []=>[[x]]
  | p :: ps=>(x :: p) :: ps
theorem splitL_cons (c x:Nat) (r:List Nat) : splitL c (x :: r)=if x=c then [] :: splitL c r else match splitL c r with
  | []=>[[x]]
  | p :: ps=>(x :: p) :: ps:=rfl
theorem splitL_ne (c:Nat) : ∀ l,splitL c l≠[]
 | []=>by simp [splitL]
 | x :: r=>by
  unfold splitL
  split
  ·simp
  ·split <;> simp
def joinL (sep:List Nat) : List (List Nat)→List Nat
 | []=>[]
 | [x]=>x
 | x :: y :: r=>x++sep++joinL sep (y :: r)
theorem join_tx (sep:List Nat) : ∀ ps:List (List Nat),Txt.join (tx sep) (ps.map tx)=tx (joinL sep ps):=by
 have go:∀ ps:List (List Nat),Str.join (tx sep) (ps.map tx)=tx (joinL sep ps):=by
  intro ps
  induction ps with
  | nil=>rfl
  | cons x r ih =>
   cases r with
   | nil=>rfl
   | cons y r =>
    show tx x++tx sep++Str.join (tx sep) (tx y :: r.map tx)=_
    rw [show Str.join (tx sep) (tx y :: r.map tx)=tx (joinL sep (y :: r)) from ih,tx_app,tx_app]
    rfl
 intro ps
 show glued (tx sep) (ps.map tx)=_
 rw [StrLaws.glued_eq_join]
 exact go ps
theorem splitL_join (c:Nat) : ∀ ps:List (List Nat),ps≠[]→(∀ p ∈ ps,c ∉ p)→splitL c (joinL [c] ps)=ps:=by
 have one:∀ p:List Nat,c ∉ p→splitL c p=[p]:=by
  intro p
  induction p with
  | nil=>intro _; rfl
  | cons x r ih =>
   intro h
   have hx:x≠c:=fun e=>h (by rw [e]; exact List.mem_cons_self)
   rw [splitL_cons,if_neg hx,ih fun z=>h (List.mem_cons_of_mem _ z)]
 have app:∀ (p:List Nat) (l:List Nat),c ∉ p→splitL c (p++c :: l)=p :: splitL c l:=by
  intro p l
  induction p with
  | nil =>
   intro _
   show splitL c (c :: l)=_
   rw [splitL_cons,if_pos rfl]
  | cons x r ih =>
   intro h
   have hx:x≠c:=fun e=>h (by rw [e]; exact List.mem_cons_self)
   show splitL c (x :: (r++c :: l))=_
   rw [splitL_cons,if_neg hx,ih fun z=>h (List.mem_cons_of_mem _ z)]
 intro ps
 induction ps with
 | nil=>intro h; exact absurd rfl h
 | cons x r ih =>
  intro _ h
  cases r with
  | nil=>exact one x (h x List.mem_cons_self)
  | cons y r =>
   show splitL c (x++[c]++joinL [c] (y :: r))=_
   rw [List.append_assoc,show [c]++joinL [c] (y :: r)=c :: joinL [c] (y :: r) from rfl,app _ _ (h x List.mem_cons_self),ih (by simp) fun p hp=>h p (List.mem_cons_of_mem _ hp)]
theorem split_tx (l:List Nat) (c:Nat) : Txt.split (tx l) ⟨#[c]⟩=(splitL c l).map tx:=by
 have h1:=StrLaws.join_split (tx l) ⟨#[c]⟩
 have h2:=StrLaws.split_free (tx l) c
 have h3:=PyProof.Rows.split_pos (tx l) ⟨#[c]⟩
 obtain ⟨ps,e⟩ : ∃ ps:List (List Nat),Txt.split (tx l) ⟨#[c]⟩=ps.map tx:=⟨(Txt.split (tx l) ⟨#[c]⟩).map (fun s=>s.cps.toList),by
  rw [List.map_map]
  exact (List.map_id' _).symm.trans (List.map_congr_left fun s _=>tx_of s)⟩
 rw [e] at h1 h2 h3
 have e2:joinL [c] ps=l:=by
  have:=join_tx [c] ps
  have h4:Txt.join (tx [c]) (ps.map tx)=Str.join (tx [c]) (ps.map tx):=StrLaws.glued_eq_join _ _
  rw [h4] at this
  exact tx_inj (this.symm.trans h1)
 have hne:ps≠[]:=by
  intro z
  rw [z] at h3
  simp at h3
 rw [e,← e2,splitL_join c ps hne fun p hp=>?_]
 have:=h2 (tx p) (List.mem_map_of_mem hp)
 simpa using this
theorem in_tx (l:List Nat) (c:Nat) : (!(occurrences (tx l) ⟨#[c]⟩ 0 (tx l).length 1).isEmpty)=decide (c ∈ l):=by
 have:=StrLaws.found_one (tx l) c
 rw [this]
end Tl

namespace L2
open PySem PySem.Spec PyProof.Rows

section
variable {X:Cx}
end

section
variable {X:Cx}
end
structure DefOk (K:PySem.W.Frag) (mg:Str→Option Value) (x:Str) (st:Stmt) (ps:List Str) (f:Addr) (fd:FuncData) : Prop where
 fn:Fun K x x st f fd
 bd:Binds K fd ps []
 mg:mg x=some (.ref f)
 ba:∀ us:List Value,us.length=ps.length→bindArgs fd ⟨us,[]⟩=pure (ps.zip us)
section
variable {X:Cx} {x:Str} {st:Stmt} {ps:List Str} {f:Addr} {fd:FuncData} {k:Nat} {sp:Sp} {e:Expr} {es:List Expr} {t:TA} {p pos:Pos}
theorem pe_callD (D:DefOk X.K X.mg x st ps f fd) (G:FnOk X.prog X.w X.K X.mg X.base CX0 k f fd ps sp) (hr:Room k X.A) (hg:Gl X x) (ha:PA X (e :: es) t) (hd:(x == ("__debug__" : Str))=false:=by decide)
  (he:starEach (e :: es) X.env=(false,eval e X.env) :: starEach es X.env:=by rfl) (hpl:(backTo pos (starEach es X.env)).any (·.1)=false:=by rfl) : PE X (.Call (.Name x p) (e :: es) [] pos) (tCall sp [] E0 t):=pe_call G hr hg D.mg D.fn.kp D.bd .nil pass0 ha hd he hpl
theorem defok_mk {K:PySem.W.Frag} {h:Heap} {mg:Str→Option Value} (KX:K.In h) (G:h.Ns mainGlobals mg) {od an:Option Addr} {sl:Array (Option Value)} {oc kV dc pm cd ct:Value} (a:PySem.W.nsIn K mainGlobals x=some (some (.ref f)))
  (l:K.lookup f=some ⟨oc,od,.func (PySem.W.fnOf x x (defArgs st) (defBody st) (defScope st) .none kV dc pm an cd ct),sl⟩) (c:PySem.W.codeIn K cd x=true) (k:PySem.W.keepIn K (.ref f)=true)
  (b:∀ (kV doc pm:Value) (an:Option Addr) (cdv ct:Value) (us:List Value),us.length=ps.length→bindArgs (PySem.W.fnOf x x (defArgs st) (defBody st) (defScope st) .none kV doc pm an cdv ct) ⟨us,[]⟩=pure (ps.zip us)) :
  DefOk K mg x st ps f (PySem.W.fnOf x x (defArgs st) (defBody st) (defScope st) .none kV dc pm an cd ct):=
 ⟨fun_mk l c k,(fun_mk l c k).binds b,PySem.W.mg_of KX G a,fun us hl=>b _ _ _ _ _ _ us hl⟩
end

theorem cut_seq {t u:TS} {D:Ends} {σ:St} {H:Hp} (Mid:St→Hp→Prop) (h2:∀ σ' H',Mid σ' H'→u D σ' H') (h1:(∀ σ' H',Mid σ' H'→u D σ' H')→t { D with nx:=u D } σ H) : tSeq t u D σ H:=h1 h2

def eqVs:List V→List V→Bool
 | [],[]=>true
 | a :: r,b :: s=>eqV a b && eqVs r s
 | _,_=>false
theorem eqVs_len:∀ {xs ys:List V},xs.length≠ys.length→eqVs xs ys=false
 | [],[],h=>absurd rfl h
 | [],_ :: _,_=>rfl
 | _ :: _,[],_=>rfl
 | a :: r,b :: s,h=>by
  show (eqV a b && eqVs r s)=false
  rw [eqVs_len (xs:=r) (ys:=s) (fun e=>h (by rw [List.length_cons,List.length_cons,e])),Bool.and_false]
theorem eqVs_range:∀ {xs ys:List V},xs.length=ys.length→(List.range xs.length).all (fun j=>eqV ((xs[j]?).getD .non) ((ys[j]?).getD .non))=eqVs xs ys
 | [],[],_=>rfl
 | [],_ :: _,h=>by simp at h
 | _ :: _,[],h=>by simp at h
 | a :: r,b :: s,h=>by
  have ih:=eqVs_range (xs:=r) (ys:=s) (by simpa using h)
  rw [List.length_cons,List.range_succ_eq_map,List.all_cons,List.all_map]
  show (eqV a b && _)=(eqV a b && eqVs r s)
  rw [← ih]
  rfl
theorem eqV_refl:∀ {x:V},flatV x=true→eqV x x=true:=by
 intro x f
 cases x with
 | non=>rfl
 | bl b=>show (b == b)=true; simp
 | int i=>show (i == i)=true; simp
 | str s=>show (s == s)=true; simp
 | _=>exact absurd (show false=true from f) Bool.false_ne_true
theorem eqVs_refl:∀ {xs:List V},xs.all flatV=true→eqVs xs xs=true
 | [],_=>rfl
 | a :: r,h=>by
  rw [List.all_cons,Bool.and_eq_true] at h
  show (eqV a a && eqVs r r)=true
  rw [eqV_refl h.1,eqVs_refl h.2]
  rfl
section
variable {X:Cx}
theorem flat_get {xs:List V} (f:xs.all flatV=true) {j:Nat} {x:V} (h:xs[j]? = some x) : flatV x=true:=List.all_eq_true.mp f x (List.mem_of_getElem? h)
theorem items_eq {A:Around} {s:Shared} {xs ys:List V} {its its2:List Value} (r:Vals xs its) (r2:Vals ys its2) (fx:xs.all flatV=true) (fy:ys.all flatV=true) (j:Nat) (h1:j < its.toArray.size) (h2:j < its2.toArray.size) :
  SeqAt.EqAt A s its.toArray[j] its2.toArray[j] (eqV ((xs[j]?).getD .non) ((ys[j]?).getD .non)):=by
 have l1:=r.length
 have l2:=r2.length
 have h1':j < its.length:=by simpa using h1
 have h2':j < its2.length:=by simpa using h2
 have e1:xs[j]? = some xs[j]:=List.getElem?_eq_getElem (by omega)
 have e2:ys[j]? = some ys[j]:=List.getElem?_eq_getElem (by omega)
 obtain ⟨u,hu,ru⟩:=r.get e1
 obtain ⟨v,hv,rv⟩:=r2.get e2
 have eu:its.toArray[j]=u:=by
  have:its[j]? = some its[j]:=List.getElem?_eq_getElem h1'
  rw [hu] at this
  simpa using this.symm
 have ev:its2.toArray[j]=v:=by
  have:its2[j]? = some its2[j]:=List.getElem?_eq_getElem h2'
  rw [hv] at this
  simpa using this.symm
 rw [eu,ev,e1,e2]
 exact eqAt_V ru rv (flat_get fx e1) (flat_get fy e2)
def rEqL (K:PySem.W.Frag) (neg:Bool) : R2:=fun x y H Q=>∃ a b xs ys,x = .ref a∧y = .ref b∧SqL K H a xs∧SqL K H b ys∧xs.all flatV=true∧ys.all flatV=true∧Q (.bl (if neg then !eqVs xs ys else eqVs xs ys)) H
theorem op_eqL (hu:X.A.units < cLine) : OpR X (compareOp .Eq) (rEqL X.K false):=by
 intro pins s σ H x y v u Q I rx ry h
 obtain ⟨a,b,xs,ys,rfl,rfl,ha,hb,fx,fy,q⟩:=h
 cases rx
 cases ry
 obtain ⟨its,r,p,z⟩:=I.list ha
 obtain ⟨its2,r2,p2,z2⟩:=I.list hb
 have l1:=r.length
 have l2:=r2.length
 by_cases hl:xs.length=ys.length
 ·refine SeqAt.eq_listAt (e:=fun j=>eqV ((xs[j]?).getD .non) ((ys[j]?).getD .non)) p.isList p2.isList (by simp; omega) hu (fun j h1 h2=>items_eq r r2 fx fy j h1 h2) ⟨.bl _,H,I,rfl,?_⟩
  have e:its.toArray.size=xs.length:=by simp; omega
  rw [e,eqVs_range hl]
  exact q
 ·refine SeqAt.eq_list_lengthsAt p.isList p2.isList (by simp; omega) hu ⟨.bl false,H,I,rfl,?_⟩
  have q':Q (.bl (eqVs xs ys)) H:=q
  rw [eqVs_len hl] at q'
  exact q'
theorem op_neL (hu:X.A.units < cLine) : OpR X (compareOp .NotEq) (rEqL X.K true):=by
 intro pins s σ H x y v u Q I rx ry h
 obtain ⟨a,b,xs,ys,rfl,rfl,ha,hb,fx,fy,q⟩:=h
 cases rx
 cases ry
 obtain ⟨its,r,p,z⟩:=I.list ha
 obtain ⟨its2,r2,p2,z2⟩:=I.list hb
 have l1:=r.length
 have l2:=r2.length
 by_cases hl:xs.length=ys.length
 ·refine SeqAt.RcNeAt.lists (e:=fun j=>eqV ((xs[j]?).getD .non) ((ys[j]?).getD .non)) p.isList p2.isList (by simp; omega) hu (fun j h1 h2=>items_eq r r2 fx fy j h1 h2) _ _ _ _ ⟨.bl _,H,I,rfl,?_⟩
  have e:its.toArray.size=xs.length:=by simp; omega
  rw [e,eqVs_range hl]
  exact q
 ·refine SeqAt.RcNeAt.lists_lengths p.isList p2.isList (by simp; omega) hu _ _ _ _ ⟨.bl true,H,I,rfl,?_⟩
  have q':Q (.bl (!eqVs xs ys)) H:=q
  rw [eqVs_len hl] at q'
  exact q'

theorem call_all (hc:X.calm=true) : CallR X (.builtin "all") (fun xs H Q=>∃ (l:Addr) (bs:List Bool),xs=[.ref l]∧SqL X.K H l (bs.map V.bl)∧Q (.bl (bs.all id)) H):=by
 intro pins s σ H xs us Q I r h
 obtain ⟨l,bs,rfl,hl,q⟩:=h
 obtain ⟨u,rfl,ru⟩:=vals1 r
 cases ru
 obtain ⟨its,rv,p,z⟩:=I.list hl
 have hlt:l < s.heap.objs.size:=by obtain ⟨_,_,e,_⟩:=p; exact Heap.lt_size e
 have len:=rv.length
 refine call_all_walk (wpAny_pyIter_list p.isList ?_)
 refine ⟨s.heap.objs.size,[s.heap.objs.size,l],[s.heap.objs.size],its.toArray.size,_,_,fun i=>(bs[i]?).getD true,rfl,Walks.list (A:=X.A.in1) (I.ok.hd hc) _ l (Nat.ne_of_lt hlt) its.toArray,
  ⟨⟨_,Heap.get?_push_size _ rfl,rfl,rfl⟩,p.isList.push _⟩,fun i v s' Q' E' hP hQ=>?_,fun h' tk hk=>?_⟩
 ·have hi:its[i]? = some v:=by simpa using hP
  have hlt2:i < bs.length:=by
   have:=(List.getElem?_eq_some_iff.mp hi).1
   rw [List.length_map] at len
   omega
  have eb:(bs.map V.bl)[i]? = some (V.bl bs[i]):=by rw [List.getElem?_map,List.getElem?_eq_getElem hlt2]; rfl
  obtain ⟨w',hw,rw'⟩:=rv.get eb
  rw [hi] at hw
  cases hw
  cases rw'
  have e2:(bs[i]?).getD true=bs[i]:=by rw [List.getElem?_eq_getElem hlt2]; rfl
  have hQ2:Q' ((bs[i]?).getD true) s':=hQ
  rw [e2] at hQ2
  exact wpAny_truthy_bool hQ2
 ·have e:((List.range its.toArray.size).all fun i=>(bs[i]?).getD true)=bs.all id:=by
   have:its.toArray.size=bs.length:=by rw [List.length_map] at len; simp; omega
   rw [this]
   exact LSm.range_all bs
  rw [e]
  exact ⟨.bl _,H,I.kept fun b x e=>hk b x (fun hm=>by rw [List.mem_singleton.mp hm] at e; exact Nat.lt_irrefl _ (Heap.lt_size e)) (Heap.get?_push_of_some _ e),rfl,q⟩

theorem op_notin_dict (hu:X.A.units+1 < cLine) : OpR X (compareOp .NotIn) (fun y x H Q=>∃ a o,x = .ref a∧DGet H a y o∧Q (.bl (!o.isSome)) H):=by
 intro pins s σ H y x u v Q I ry rx h
 obtain ⟨a,o,rfl,g,q⟩:=h
 cases rx
 exact d_notIn hu I g ry fun s' I'=>⟨.bl _,H,I',rfl,q⟩
theorem call_dict_of:CallR X (.type "dict") (fun xs H Q=>∃ a kvs,xs=[.ref a]∧Rd H a (.dK kvs)∧∀ p,H p=none→Q (.ref p) (upd H p (.dK kvs))):=by
 intro pins s σ H xs us Q I r h
 obtain ⟨a,kvs,rfl,hr,q⟩:=h
 obtain ⟨u,rfl,ru⟩:=vals1 r
 cases ru
 exact d_copyOf I hr fun p s' hp I'=>⟨.ref p,_,I',rfl,q p hp⟩
end

inductive DD where
 | bl (b:Bool)
 | int (i:Int)
 | str (s:Str)
 | tup (l:List DD)
 | lst (l:List DD)
mutual
def Rep (K:PySem.W.Frag) (H:Hp) : DD→V→Prop
 | .bl b,v=>v = .bl b
 | .int i,v=>v = .int i
 | .str s,v=>v = .str s
 | .tup l,v=>∃ a xs,v = .ref a∧SqT K H a xs∧l.length≤1000∧Reps K H l xs
 | .lst l,v=>∃ a xs,v = .ref a∧SqL K H a xs∧l.length≤1000∧Reps K H l xs
def Reps (K:PySem.W.Frag) (H:Hp) : List DD→List V→Prop
 | [],xs=>xs=[]
 | d :: l,xs=>∃ x r,xs=x :: r∧Rep K H d x∧Reps K H l r
end
theorem Reps.len {K:PySem.W.Frag} {H:Hp} : ∀ {l:List DD} {xs:List V},Reps K H l xs→xs.length=l.length
 | [],xs,h=>by
  unfold Reps at h
  rw [h]; rfl
 | d :: l,xs,h=>by
  unfold Reps at h
  obtain ⟨x,r,rfl,_,h⟩:=h
  rw [List.length_cons,List.length_cons,h.len]
theorem Reps.get {K:PySem.W.Frag} {H:Hp} : ∀ {l:List DD} {xs:List V} {i:Nat} {d:DD},Reps K H l xs→l[i]? = some d→∃ x,xs[i]? = some x∧Rep K H d x
 | [],_,_,_,_,e=>by simp at e
 | d :: l,xs,0,d',h,e=>by
  unfold Reps at h
  obtain ⟨x,r,rfl,hx,h⟩:=h
  have:d=d':=by simpa using e
  subst this
  exact ⟨x,rfl,hx⟩
 | d :: l,xs,i+1,d',h,e=>by
  unfold Reps at h
  obtain ⟨x,r,rfl,hx,h⟩:=h
  obtain ⟨y,ey,hy⟩:=h.get (i:=i) (by simpa using e)
  exact ⟨y,by simpa using ey,hy⟩
theorem Reps.strs {K:PySem.W.Frag} {H:Hp} : ∀ (l:List Str),Reps K H (l.map DD.str) (l.map V.str)
 | []=>by unfold Reps; rfl
 | s :: r=>by
  show Reps K H (DD.str s :: r.map DD.str) (V.str s :: r.map V.str)
  unfold Reps
  exact ⟨_,_,rfl,by unfold Rep; rfl,Reps.strs r⟩

section
variable {X:Cx} {o i:Expr} {pos:Pos} {td ty:TE}
end

def CXe (P:Program) (w:World) : CXT:=fun outer H s E e s' =>
 ∃ (x C:Addr) (H':Hp) (B:Heap) (a0:Value),e = .ref x∧s'.os=s.os∧AllBare s'.gens∧Un (frs outer) [] H H' s.heap s'.heap∧HOk P w H' B ∧
  (∀ b o,s.heap.get? b=some o→H b=none→b ∉ frs outer→B.get? b=some o)∧(∀ b o,s.heap.get? b=some o→b ∉ frs outer→∃ o',B.get? b=some o') ∧
  Heap.FlyingW B outer x (.ref C) a0 s'.heap∧E (.ref C) none H'
def Wish (X:Cx) (E:XK) : Prop:=∀ (pins:List (Addr × Obj)) (σ:St) (H:Hp) (s:Shared) (x C:Addr) (vs:List Value) (h':Heap),Inv X pins σ H s→Heap.MadeExcOf s.heap h' x (.ref C) vs→E (.ref C) none H→X.xe (.ref x) { s with heap:=h' }
theorem mem_frs {env:Env} {l:List Env} {b L:Addr} (hf:env.frame=some L) (h:b ∈ frs (env :: l)) : b=L∨b ∈ frs l:=by
 unfold frs at h
 rw [List.filterMap_cons,hf] at h
 exact List.mem_cons.mp h
theorem frs_all (l:List Env) : ∀ env ∈ l,∀ a,env.frame=some a→a ∈ frs l:=fun env he a hf=>List.mem_filterMap.mpr ⟨env,he,hf⟩
section
variable {P:Program} {w:World} {K:PySem.W.Frag} {mg:Str→Option Value} {base:Heap} {N:List Str} {qual:Str} {scope:Scope} {f:Addr} {cd:Value} {A:Around} {outer:List Env} {s:Shared} {H:Hp} {E:XK}
theorem wish_cx:Wish (cxOf (CXe P w) P w K mg base N qual scope f cd A outer s H E) E:=by
 intro pins σ H1 s1 x C vs h' I hx ee
 have hfr:(envOfC qual scope s.heap.objs.size f cd).frame=some (envOfC qual scope s.heap.objs.size f cd).locals:=rfl
 have hst:=I.stack
 have hfree:=I.stkFree
 have hsub:=I.stkSub
 show wpAny (model P w) (A.deeper (envOfC qual scope s.heap.objs.size f cd)) (leaving (envOfC qual scope s.heap.objs.size f cd) (.ref x)) (fun _ s''=>CXe P w outer H s E (.ref x) s'') _ _
 have hin:=frs_all (envOfC qual scope s.heap.objs.size f cd :: outer)
 have hff:s1.heap.FunFrames (PySem.W.hideAll s1.heap (frs (envOfC qual scope s.heap.objs.size f cd :: outer))) (envOfC qual scope s.heap.objs.size f cd :: outer):=PySem.W.funFrames_hide hst hin
 have notfr:∀ b,b < s.heap.objs.size→b ∉ frs outer→b ∉ frs (envOfC qual scope s.heap.objs.size f cd :: outer):=fun b hlt hb hm=>by
  rcases mem_frs hfr hm with e | hm
  ·exact absurd (Nat.lt_of_lt_of_le hlt I.ok.above) (by rw [e]; exact Nat.lt_irrefl _)
  ·exact hb hm
 refine wpAny_leaves_madeW (base:=PySem.W.hideAll s1.heap (frs (envOfC qual scope s.heap.objs.size f cd :: outer))) (h:=s1.heap) I.ok.frames hfr (fun b o q=>PySem.W.of_hideAll _ q) hff hx fun h'' t x1 x2 x3 x4=>?_
 have cov1:∀ b o,s.heap.get? b=some o→H b=none→b ∉ frs outer→(PySem.W.hideAll s1.heap (frs (envOfC qual scope s.heap.objs.size f cd :: outer))).get? b=some o:=fun b o q n hb =>
  PySem.W.hideAll_get _ (I.base.keep b o q n hb (show b ∉ ([] : List Addr) by simp)) (notfr b (Heap.lt_size q) hb)
 have cov2:∀ b o,s.heap.get? b=some o→b ∉ frs outer→∃ o',(PySem.W.hideAll s1.heap (frs (envOfC qual scope s.heap.objs.size f cd :: outer))).get? b=some o':=fun b o q hb=>by
  obtain ⟨o',e⟩:=I.base.there b o q (show b ∉ ([] : List Addr) by simp)
  exact ⟨o',PySem.W.hideAll_get _ e (notfr b (Heap.lt_size q) hb)⟩
 have slot:∀ b,b ∈ frs outer→∀ o,s1.heap.get? b=some o→∃ sl,h''.get? b=some { o with slots:=sl }:=fun b hb o q=>by
  have hm:b ∈ frs (envOfC qual scope s.heap.objs.size f cd :: outer):=by
   unfold frs
   rw [List.filterMap_cons,hfr]
   exact List.mem_cons_of_mem _ hb
  obtain ⟨_,o2,e2,nd⟩:=hff.mem hm
  rw [q] at e2
  cases e2
  exact x4 b o (hx.keeps b o q) nd
 refine ⟨x,C,H1,_,_,rfl,I.os,I.bare,⟨fun b o q n hb _=>x1.1 b o (cov1 b o q n hb),fun b o q n hb hx'=>?_,I.base.free,fun b o q _=>?_,I.base.tups,I.base.frzs,I.base.tbls⟩,fun b ob e=>?_,cov1,cov2,x1,ee⟩
 ·obtain ⟨sl,e1⟩:=I.base.slot b o q n hb hx'
  obtain ⟨sl2,e2⟩:=slot b hb _ e1
  exact ⟨sl2,e2⟩
 ·by_cases hb:b ∈ frs outer
  ·obtain ⟨o',e⟩:=I.base.there b o q (show b ∉ ([] : List Addr) by simp)
   obtain ⟨sl2,e2⟩:=slot b hb _ e
   exact ⟨_,e2⟩
  ·obtain ⟨o',e⟩:=cov2 b o q hb
   exact ⟨o',x1.1 b o' e⟩
 ·refine (I.hok b ob e).stay (fun c v hc q=>PySem.W.hideAll_get _ q fun hm=>?_) (fun _ q=>q) fun _ _ q=>q
  have z:=hfree c hm
  rcases hc with rfl | hc
  ·rw [e] at z; cases z
  ·rw [hc] at z; cases z
theorem pass_cx:Passes (CXe P w) (cxOf (CXe P w) P w K mg base N qual scope f cd A outer s H E) E:=by
 intro pins σ H1 s1 e s' I h
 obtain ⟨x,C,H',B,a0,rfl,os,bare,un,hok,cov1,cov2,fl,ee⟩:=h
 have hfr:(envOfC qual scope s.heap.objs.size f cd).frame=some (envOfC qual scope s.heap.objs.size f cd).locals:=rfl
 show wpAny (model P w) (A.deeper (envOfC qual scope s.heap.objs.size f cd)) (leaving (envOfC qual scope s.heap.objs.size f cd) (.ref x)) (fun _ s''=>CXe P w outer H s E (.ref x) s'') _ _
 have notfr:∀ b,b < s.heap.objs.size→b ∉ frs outer→b ∉ frs (envOfC qual scope s.heap.objs.size f cd :: outer):=fun b hlt hb hm=>by
  rcases mem_frs hfr hm with e | hm
  ·exact absurd (Nat.lt_of_lt_of_le hlt I.ok.above) (by rw [e]; exact Nat.lt_irrefl _)
  ·exact hb hm
 refine wpAny_leaves_onW I.ok.frames hfr fl fun h'' f2 up=>?_
 have c1:∀ b o,s.heap.get? b=some o→H b=none→b ∉ frs outer→B.get? b=some o:=fun b o q n hb =>
  cov1 b o (I.base.keep b o q n hb (show b ∉ ([] : List Addr) by simp)) (I.base.free b o q n (show b ∉ ([] : List Addr) by simp)) (notfr b (Heap.lt_size q) hb)
 have c2:∀ b o,s.heap.get? b=some o→b ∉ frs outer→∃ o',B.get? b=some o':=fun b o q hb=>by
  obtain ⟨o',e⟩:=I.base.there b o q (show b ∉ ([] : List Addr) by simp)
  exact cov2 b o' e (notfr b (Heap.lt_size q) hb)
 have fm:∀ b,b ∈ frs outer→b ∈ frs (envOfC qual scope s.heap.objs.size f cd :: outer):=fun b hb=>by
  unfold frs
  rw [List.filterMap_cons,hfr]
  exact List.mem_cons_of_mem _ hb
 refine ⟨x,C,H',B,a0,rfl,os.trans I.os,bare,⟨fun b o q n hb _=>f2.1 b o (c1 b o q n hb),fun b o q n hb hx'=>?_,fun b o q n hx'=>?_,fun b o q _=>?_,fun b xs q=>un.tups b xs (I.base.tups b xs q),fun b o u q=>un.frzs b o u (I.base.frzs b o u q),fun b ps q=>?_⟩,hok,c1,c2,f2,ee⟩
 ·obtain ⟨sl,e1⟩:=I.base.slot b o q n hb hx'
  obtain ⟨sl2,e2⟩:=un.slot b _ e1 (I.base.free b o q n hx') (fm b hb) (by simp)
  obtain ⟨_,o3,e3,nd⟩:=fl.2.2.1.mem (fm b hb)
  rw [e2] at e3
  cases e3
  obtain ⟨sl3,e4⟩:=up b _ e2 nd
  exact ⟨sl3,e4⟩
 ·obtain ⟨o',e⟩:=I.base.there b o q hx'
  exact un.free b o' e (I.base.free b o q n hx') (by simp)
 ·by_cases hb:b ∈ frs outer
  ·obtain ⟨_,o3,e3,_⟩:=f2.2.2.1.mem hb
   exact ⟨o3,e3⟩
  ·obtain ⟨o',e⟩:=c2 b o q hb
   exact ⟨o',f2.1 b o' e⟩
 ·obtain ⟨m1,e1⟩:=I.base.tbls b ps q
  obtain ⟨m2,e2⟩:=un.tbls b _ e1
  exact ⟨m1++m2,by rw [e2,Array.append_assoc]⟩
end

abbrev veTail:List Value:=[.type "ValueError",.type "Exception",.type "BaseException",.type "object"]
structure ExcOk (K:PySem.W.Frag) (mg:Str→Option Value) (c:Str) (C:Addr) : Prop where
 mg:mg c=some (.ref C)
 ex:PySem.W.excIn K C veTail "ValueError.__new__" = true
theorem exc_obj {K:PySem.W.Frag} {h:Heap} {C:Addr} {bmB:List Value} {newId:String} (X:K.In h) (q:PySem.W.excIn K C bmB newId=true) :
  ∃ bm N nm q bs hdct sn sub ab col dd k0 k1 k2 k3 k5 mN,h.get? C=some (excClassObj nm q C N bs bm hdct sn sub ab col dd k0 k1 k2 k3 k5 newId)∧h.Ns N mN∧mN "__init__" = none∧OwnTail h bmB bm:=by
 unfold PySem.W.excIn at q
 split at q
 ·rename_i dd cd sl ho
  split at q
  ·rename_i C' bm k0 k1 k2 k3 n k5 hm hs
   simp only [Bool.and_eq_true,beq_iff_eq,Bool.not_eq_true'] at q
   obtain ⟨⟨⟨⟨⟨rfl,rfl⟩,hdel⟩,ht⟩,hok⟩,hni⟩:=q
   obtain ⟨nm,bs,mro,ns,qn,hd,sn,sub,ab,col,del⟩:=cd
   dsimp only at hm hdel hok hni
   subst hm hdel
   have hsl:sl = #[k0,k1,k2,k3,some (.builtin n),k5]:=by
    obtain ⟨l⟩:=sl
    simp only at hs
    rw [hs]
   subst hsl
   exact ⟨bm,ns,nm,qn,bs,hd,sn,sub,ab,col,dd,k0,k1,k2,k3,k5,_,X _ _ ho,.of_isNs (PySem.W.isNs_of_in X hok),PySem.W.nsMap_none_of_in X hok hni,PySem.W.tail_of_in X ht⟩
  ·cases q
 ·cases q
def tRaise (E:XK) (C:Addr) (t:TA) : TS:=fun _ σ H=>t σ H fun vs H1=>vs.length≤sizeLine∧E (.ref C) none H1
section
variable {X:Cx} {E:XK} {c:Str} {C:Addr} {e:Expr} {es:List Expr} {t:TA} {np cpos pos:Pos}
theorem ps_raise (hc:X.calm=true) (hw:Wish X E) (O:ExcOk X.K X.mg c C) (hg:Gl X c) (ha:PA X (e :: es) t) (hd:(c == ("__debug__" : Str))=false:=by decide)
  (he:starEach (e :: es) X.env=(false,eval e X.env) :: starEach es X.env:=by rfl) (hpl:(backTo cpos (starEach es X.env)).any (·.1)=false:=by rfl) :
  PS X (.Raise (some (.Call (.Name c np) (e :: es) [] cpos)) none pos) (tRaise E C t):=by
 intro pins s σ H D I h
 obtain ⟨bm,N,nm,q,bs,hdct,sn,sub,ab,col,dd,k0,k1,k2,k3,k5,mN,hC,hN,hni,T⟩:=exc_obj I.ok.mod.kin O.ex
 refine wpAny_Raise_call_subU (C:=C) (nm:=nm) (q:=q) (N:=N) (bs:=bs) (bm:=bm) (hdct:=hdct) (sn:=sn) (sub:=sub) (ab:=ab) (col:=col) (dd:=dd) (k0:=k0) (k1:=k1) (k2:=k2) (k3:=k3) (k5:=k5)
  PySem.F.excBase_ValueError (by decide +kernel) PySem.F.excBase_ValueError (mN:=mN) (T.hasType PySem.F.excBase_ValueError.hasBase) (I.ok.hd hc) (by rw [he]; show (false || (backTo cpos (starEach es X.env)).any (·.1))=false; rw [hpl]; rfl) hni
  (ld_glob I hg O.mg ⟨rfl,?_⟩ hd)
 have ha':=ha cpos pins s σ H _ I h
 rw [he] at ha' ⊢
 refine Calls.evalArgs_plain (wpAny_mono ha' (fun vs s₂ h₂=>?_) fun _ _ y=>y)
 obtain ⟨xs,H1,I1,r,hz,ee⟩:=h₂
 exact ⟨rfl,by rw [← r.length]; exact hz,I1.bk _ _ hC,hN.keeps I1.bk,T.keeps I1.bk,fun h' x hm=>hw pins σ H1 s₂ x C _ h' I1 hm ee⟩
end
theorem Fun.okE {P:Program} {w:World} {K:PySem.W.Frag} {mg:Str→Option Value} {base:Heap} {x qual:Str} {st:Stmt} {f:Addr} {fd:FuncData} {N ps:List Str} {k:Nat} {sp:Sp} (F:Fun K x qual st f fd) (S:FnScope N ps (defScope st)) (len:∀ vs H Q E,sp vs H Q E→vs.length=ps.length)
  (hbody:∀ (cdv:Value) (A:Around) (outer:List Env) (s:Shared) (H:Hp) (vs:List V) (Q:VK) (E:XK),Room k (A.deeper (envOfC qual (defScope st) s.heap.objs.size f cdv))→sp vs H Q E →
   ∃ t,PSs (cxOf (CXe P w) P w K mg base N qual (defScope st) f cdv A outer s H E) (defBody st) t∧t { nx:=fun _ H'=>Q .non H',rt:=Q } (start N vs) H) : FnOk P w K mg base (CXe P w) (k+1) f fd ps sp:=by
 obtain ⟨oc,od,kV,doc,pm,an,cdv,ct,osl,rfl,lk,hcd⟩:=F.ex
 exact fn_of lk hcd S len fun A outer s H vs Q E hr hsp=>hbody cdv A outer s H vs Q E hr hsp
theorem FnOk.calm {P:Program} {w:World} {K:PySem.W.Frag} {mg:Str→Option Value} {base:Heap} {k:Nat} {f:Addr} {fd:FuncData} {ps:List Str} {sp:Sp} (F:FnOk P w K mg base CX0 k f fd ps sp) (CX:CXT) : FnOk P w K mg base CX k f fd ps sp:=
 ⟨F.len,fun A outer s H args us vs Q E hr e0 hb r hs=>codeAny_mono (F.run A outer s H args us vs Q E hr e0 hb r hs) fun r s' h=>by
  cases r with
  | error e=>exact False.elim h
  | ok fl=>cases fl <;> exact h⟩
theorem pe_callX {X:Cx} {x:Str} {st:Stmt} {ps:List Str} {f:Addr} {fd:FuncData} {k:Nat} {sp:Sp} {e:Expr} {es:List Expr} {t:TA} {p pos:Pos} {CX:CXT} {E:XK} (hx:Passes CX X E) (D:DefOk X.K X.mg x st ps f fd) (G:FnOk X.prog X.w X.K X.mg X.base CX k f fd ps sp) (hr:Room k X.A) (hg:Gl X x) (ha:PA X (e :: es) t) (hd:(x == ("__debug__" : Str))=false:=by decide)
  (he:starEach (e :: es) X.env=(false,eval e X.env) :: starEach es X.env:=by rfl) (hpl:(backTo pos (starEach es X.env)).any (·.1)=false:=by rfl) : PE X (.Call (.Name x p) (e :: es) [] pos) (tCall sp [] E t):=pe_call G hr hg D.mg D.fn.kp D.bd .nil hx ha hd he hpl

abbrev Cx.marked (X:Cx) (v:Value) : Cx:={ X with A:=X.A.mark (some v),calm:=false,xe:=fun _ _=>False }
theorem Inv.marked {X:Cx} {pins:List (Addr × Obj)} {σ:St} {H:Hp} {s:Shared} (I:Inv X pins σ H s) (v:Value) : Inv (X.marked v) pins σ H s:=
 ⟨⟨I.ok.mod,I.ok.kind,I.ok.glob,I.ok.blt,I.ok.above,I.ok.inj,I.ok.has,I.ok.cab,(fun h=>nomatch h),I.ok.frames,I.ok.stk,I.ok.exf,I.ok.bs,I.ok.bsz,I.ok.noex,I.ok.exfs,I.ok.funs,I.ok.frf⟩,I.os,I.bare,I.base,I.loc,I.cell,I.free,I.freeC,I.pin,I.hok,I.len⟩
theorem Inv.unmarked {X:Cx} {pins:List (Addr × Obj)} {σ:St} {H:Hp} {s:Shared} {v:Value} (I:Inv (X.marked v) pins σ H s) (hd:X.calm=true→X.A.handled=none) : Inv X pins σ H s:=
 ⟨⟨I.ok.mod,I.ok.kind,I.ok.glob,I.ok.blt,I.ok.above,I.ok.inj,I.ok.has,I.ok.cab,hd,I.ok.frames,I.ok.stk,I.ok.exf,I.ok.bs,I.ok.bsz,I.ok.noex,I.ok.exfs,I.ok.funs,I.ok.frf⟩,I.os,I.bare,I.base,I.loc,I.cell,I.free,I.freeC,I.pin,I.hok,I.len⟩
theorem SP.unmarked {X:Cx} {pins:List (Addr × Obj)} {D:Ends} {f:Flow} {s':Shared} {v:Value} (hd:X.calm=true→X.A.handled=none) (h:SP (X.marked v) pins D f s') : SP X pins D f s':=by
 cases f with
 | next=>obtain ⟨σ',H',I,q⟩:=h; exact ⟨σ',H',I.unmarked hd,q⟩
 | brk=>obtain ⟨σ',H',I,q⟩:=h; exact ⟨σ',H',I.unmarked hd,q⟩
 | cont=>obtain ⟨σ',H',I,q⟩:=h; exact ⟨σ',H',I.unmarked hd,q⟩
 | ret u=>obtain ⟨v,σ',H',I,r,q⟩:=h; exact ⟨v,σ',H',I.unmarked hd,r,q⟩
def Takes (K:PySem.W.Frag) (C T:Addr) : Prop:=PySem.W.exmOne K (.ref C) (.ref T)=some true
section
variable {X:Cx} {k:Nat} {f T:Addr} {fd:FuncData} {ps:List Str} {sp:Sp} {fx c:Str} {st:Stmt} {e:Expr} {es:List Expr} {t:TA} {b₀:Stmt} {suite:List Stmt} {th:TS} {np pf cpos apos hpos pos:Pos}
theorem call_try {W:Value→Shared→Prop} {pins:List (Addr × Obj)} {σ:St} {H:Hp} {s:Shared} {Q:VK} {E:XK} (I:Inv X pins σ H s) (D:DefOk X.K X.mg fx st ps f fd) (G:FnOk X.prog X.w X.K X.mg X.base (CXe X.prog X.w) k f fd ps sp) (hr:Room k X.A) (hg:Gl X fx)
  (ha:PA (X.wish W) (e :: es) t) (h:t σ H fun vs H1=>sp (vs++[]) H1 Q E) (hW:∀ H1 s1 e s2,Inv X pins σ H1 s1→CXe X.prog X.w X.stack H1 s1 E e s2→W e s2)
  (hd:(fx == ("__debug__" : Str))=false:=by decide) (he:starEach (e :: es) X.env=(false,eval e X.env) :: starEach es X.env:=by rfl) (hpl:(backTo cpos (starEach es X.env)).any (·.1)=false:=by rfl) :
  wpAny (model X.prog X.w) X.A (eval (.Call (.Name fx pf) (e :: es) [] cpos) X.env) (EP X pins σ Q) W s:=by
 have I':=I.wish W
 refine wpAny_Call_Name_kw (ld_glob I hg D.mg ?_ hd)
 refine PySem.W.callWith_K (h₀:=X.base) I.ok.mod.kin D.fn.kp (thn (ha cpos pins s σ H _ I' h) fun us s1 ⟨vs,H1,I1,r,q⟩=>⟨I1.kIn,?_⟩) he hpl
 have r2:Vals (vs++[]) (us++[]):=r.append .nil
 have hl:(us++[]).length=ps.length:=by rw [← r2.length]; exact G.len _ _ _ _ q
 refine wpAny_call (codeAny_mono (G.run X.A X.stack s1 H1 ⟨us,[]⟩ (us++[]) (vs++[]) Q E hr I1.env0 (D.bd s1 us I1.kIn hl) r2 q) fun r s' hq=>?_)
 cases r with
 | error ex=>exact hW H1 s1 ex s' I1.unwish hq
 | ok fl =>
  cases fl with
  | ret u=>exact I1.unwish.after hq
  | next=>exact False.elim hq
  | brk=>exact False.elim hq
  | cont=>exact False.elim hq
end
end L2

set_option maxHeartbeats 4000000
namespace L2
open PySem PySem.Spec PyProof.Rows Tl

def PP (X:Cx) (v:Expr) (c:St→Prop) : Prop:=∀ (pins:List (Addr × Obj)) (s:Shared) (σ:St) (H:Hp) (Q:Value→Shared→Prop),Inv X pins σ H s→c σ→(∀ (y:Str) (t:Tok) (s':Shared),y.length≤20000→Inv X pins σ H s'→Q (.str y t) s')→wpAny (model X.prog X.w) X.A (eval v X.env) Q X.xe s
def PJ (X:Cx) (vs:List Expr) (c:St→Prop) : Prop:=∀ (pins:List (Addr × Obj)) (s:Shared) (σ:St) (H:Hp) (acc:Str) (Q:Str→Shared→Prop),Inv X pins σ H s→c σ→acc.length+20000 * vs.length≤1000000→(∀ (z:Str) (s':Shared),z.length≤1000000→Inv X pins σ H s'→Q z s')→Joins (model X.prog X.w) X.A X.xe (evalEach vs X.env) acc Q s
section
variable {X:Cx}
theorem pj_nil:PJ X [] (fun _=>True):=fun _ s _ _ acc _ I _ ha q=>q acc s (by simpa using ha) I
theorem pj_cons {v:Expr} {vs:List Expr} {c d:St→Prop} (h:PP X v c) (hr:PJ X vs d) (he:evalEach (v :: vs) X.env=eval v X.env :: evalEach vs X.env:=by rfl) : PJ X (v :: vs) (fun σ=>c σ∧d σ):=by
 intro pins s σ H acc Q I hc ha q
 rw [he]
 refine h pins s σ H _ I hc.1 fun y t s' hy I'=>?_
 have hl:(acc++y).length=acc.length+y.length:=strLen_append _ _
 rw [List.length_cons] at ha
 refine ⟨y,t,rfl,?_,hr pins s' σ H (acc++y) Q I' hc.2 (by rw [hl]; omega) q⟩
 rw [hl]
 exact Nat.le_trans (show acc.length+y.length≤1000000 by omega) (by decide)
theorem pp_str {x:Str} {j pos} (hx:x.length≤20000:=by decide +kernel) : PP X (.Constant (.str x) j pos) (fun _=>True):=fun _ s _ _ _ I _ q=>Calls.Constant_str (q x _ _ hx (I.tok _))
theorem fmt_str {pins:List (Addr × Obj)} {s:Shared} {σ:St} {H:Hp} {Q:Value→Shared→Prop} {y:Str} {t:Tok} (I:Inv X pins σ H s) (hy:y.length≤20000) (q:∀ (y:Str) (t:Tok) (s':Shared),y.length≤20000→Inv X pins σ H s'→Q (.str y t) s') :
  wpAny (model X.prog X.w) X.A (formatField (.str y t) Str.empty) Q X.xe s:=
 formatField_str (fun t' tk=>q y t' _ hy (I.tok tk)) (Nat.le_trans hy (by decide))
theorem pp_repr {i:Nat} {e:Expr} {pos:Pos} (he:PE X e (tVar i)) : PP X (.FormattedValue e 114 none pos) (fun σ=>∃ l:List Nat,σ[i]? = some (some (.str (tx l)))∧l.length≤1000∧∀ c ∈ l,c < 127):=by
 intro pins s σ H Q I hc q
 obtain ⟨l,hv,hl,hc⟩:=hc
 refine wpAny_FormattedValue_repr (thn (he pins s σ H (fun v H'=>v = .str (tx l)∧H' = H) I ⟨_,hv,rfl,rfl⟩) fun u s1 ⟨x,H1,I1,r1,e1,e2⟩=>?_)
 subst e1 e2
 obtain ⟨t,rfl⟩:=r1
 have hb:(reprText (tx l)).length≤20000:=by
  have:=StrLaws.reprText_len (tx l) (fun c hm=>Nat.lt_trans (hc c (by simpa using hm)) (by decide))
  have e1:(reprText (tx l)).cps.toList.length=(reprText (tx l)).length:=Array.length_toList
  have e2:=tx_len l
  have e3:(tx l).cps.toList.length=(tx l).length:=Array.length_toList
  omega
 exact wpAny_pyReprObj_str (fmt_str (I1.tok _) hb q) (Nat.le_trans hb (by decide))
theorem pp_int {n:Int} {e:Expr} {pos:Pos} (he:PE X e (tC (.int n))) (hn:n.natAbs.log2 < 1920:=by decide) (hl:(toString n:Str).length≤20000:=by decide +kernel) : PP X (.FormattedValue e (-1) none pos) (fun _=>True):=by
 intro pins s σ H Q I _ q
 refine wpAny_FormattedValue_plain (thn (he pins s σ H (fun v H'=>v = .int n∧H' = H) I ⟨rfl,rfl⟩) fun u s1 ⟨x,H1,I1,r1,e1,e2⟩=>?_)
 subst e1 e2
 obtain ⟨t,rfl⟩:=r1
 exact wpAny_formatField_int hn (q _ _ _ hl (I1.tok _))
def tFs (c:St→Prop) : TE:=fun σ H Q=>c σ∧∀ z:Str,Q (.str z) H
theorem pe_fstr {v v2:Expr} {vs:List Expr} {c:St→Prop} {pos:Pos} (h:PJ X (v :: v2 :: vs) c) (hl:vs.length≤20:=by decide) : PE X (.JoinedStr (v :: v2 :: vs) pos) (tFs c):=by
 intro pins s σ H Q I hw
 refine wpAny_JoinedStr (h pins s σ H _ _ I hw.1 (by show 0+_≤_; simp only [List.length_cons]; omega) fun z s' hz I'=>⟨Nat.le_trans hz (by decide),.str z,H,I'.tok _,⟨_,rfl⟩,hw.2 z⟩)
end

theorem Inv.track {X:Cx} {pins:List (Addr × Obj)} {σ:St} {H:Hp} {s:Shared} {D:Addr} {o:HO} (I:Inv X pins σ H s) (hn:H D=none) (hnew:X.s₀.heap.objs.size≤D) (hL:D≠X.env.locals) (hc:∀ x c,X.env.cells.lookup x=some c→c≠D) (hp:∀ p ∈ X.pn++pins,p.1≠D)
  (ok:ObjOk X.prog X.w (upd H D o) s.heap D o) : Inv X pins σ (upd H D o) s:=by
 have ne:∀ b u,H b=some u→b≠D:=fun b u q=>ne_of_none q hn
 refine ⟨I.ok,I.os,I.bare,⟨I.base.keep,I.base.slot,fun b o q nn hx=>?_,I.base.there,fun b xs q=>?_,fun b o u q=>?_,fun b ps q=>?_⟩,I.loc,I.cell,?_,fun x c q=>?_,fun p hq=>?_,fun b u q=>?_,I.len⟩
 ·rw [upd_ne (Nat.ne_of_lt (Nat.lt_of_lt_of_le (Heap.lt_size q) hnew))]; exact I.base.free b o q nn hx
 ·have z:=I.base.tups b xs q
  rw [upd_ne (ne b _ z)]; exact z
 ·have z:=I.base.frzs b o u q
  rw [upd_ne (ne b _ z)]; exact z
 ·obtain ⟨more,z⟩:=I.base.tbls b ps q
  exact ⟨more,by rw [upd_ne (ne b _ z)]; exact z⟩
 ·rw [upd_ne (Ne.symm hL)]; exact I.free
 ·rw [upd_ne (hc x c q)]; exact I.freeC x c q
 ·obtain ⟨a1,a2,a3⟩:=I.pin p hq
  exact ⟨a1,by rw [upd_ne (hp p hq)]; exact a2,a3⟩
 ·by_cases hb:b=D
  ·subst hb
   rw [upd_same] at q; cases q
   exact ok
  ·rw [upd_ne hb] at q
   exact (I.hok b u q).stay (fun c v _ r=>r) (fun c r=>by rw [upd_ne (ne c _ r)]; exact r) fun c xs r=>by rw [upd_ne (ne c _ r)]; exact r
def Ite (K:PySem.W.Frag) (a:Addr) : It:=
 ⟨fun i H=>∃ xs x,SqL K H a xs∧xs[i]? = some x,fun i H x H'=>∃ p,H p=none∧x = .ref p∧∀ xs y,SqL K H a xs→xs[i]? = some y→H' = upd H p (.tup [.int (i:Int),y]),fun i H=>∃ xs,SqL K H a xs∧xs.length≤i⟩
theorem turn_enum {P:Program} {w:World} {K:PySem.W.Frag} {elts:List Expr} {k1} {tp:Pos} (a e it:Addr) (hei:e≠it) : Turn P w K (.Tuple elts k1 tp) (Ite K a) [e,it] e (fun i h=>(∃ old,IsEnum h e it (i:Nat) old)∧h.IsListIter it a i) where
 mem:=by simp
 obj:=fun i h st b hb=>by
  have hb':b=e∨b=it:=by simpa using hb
  rcases hb' with rfl | rfl
  ·obtain ⟨⟨old,h1⟩,_⟩:=st
   exact ⟨_,h1,fun v z=>by cases z⟩
  ·obtain ⟨_,o,h1,c,d⟩:=st
   exact ⟨o,h1,fun v z=>by rw [d] at z; cases z⟩
 keep:=fun i h h' st k=>⟨let ⟨old,h1⟩:=st.1; ⟨old,k e (by simp) _ h1⟩,st.2.at fun o h1=>k it (by simp) o h1⟩
 item:=by
  intro X hP hw hK hc i pins s σ H E I hf st hg
  subst hP hw hK
  obtain ⟨xs,x,hq,hx⟩:=hg
  obtain ⟨its,rv,p,hz⟩:=I.list hq
  obtain ⟨u,hu,ru⟩:=rv.get hx
  obtain ⟨f0,f1,f2,f3,f4,f5⟩:=hf e (by simp)
  obtain ⟨g0,g1,g2,g3,g4,g5⟩:=hf it (by simp)
  obtain ⟨⟨old,he⟩,hit⟩:=st
  refine wpAny_pyNext_enum_item he hit p.isList (x:=u) (by simpa using hu) hei fun h' heo hit' hT hz' hk=>?_
  have kk:∀ b o,b ∉ [e,it]→s.heap.get? b=some o→h'.get? b=some o:=fun b o hb q=>hk b o (fun z=>hb (by simp [z])) (fun z=>hb (by simp [z])) q
  have nit:∀ b v,H b=some v→b ∉ [e,it]:=fun b v q z=>by
   have z':b=e∨b=it:=by simpa using z
   rcases z' with rfl | rfl
   ·rw [f0] at q; cases q
   ·rw [g0] at q; cases q
  have I1:Inv X pins σ H { s with heap:=h',toks:=s.toks+1 }:=by
   refine I.step (g':=s.gens) (d':=s.drawn) (ch:=[e,it]) (fun b hb=>?_) (fun b o _ _ hb q _=>kk b o hb q) (fun b o _ _ hb q _=>⟨o.slots,kk b o hb q⟩) (fun _ _ _ _ n=>n)
    (fun b o hb q=>⟨o,kk b o hb q⟩) (fun _ _ q=>q) (fun _ _ _ q=>q) (fun b ps q=>⟨#[],by rw [q]; simp⟩) (fun m hm=>?_) (fun b v q=>?_) I.bare
   ·have z':b=e∨b=it:=by simpa using hb
    rcases z' with rfl | rfl
    ·exact ⟨f3,f1,f4,f5⟩
    ·exact ⟨g3,g1,g4,g5⟩
   ·obtain ⟨o,es,ep,ho,r⟩:=hm
    exact ⟨o,es,ep,kk _ o (fun z=>by
     have z':X.env.locals=e∨X.env.locals=it:=by simpa using z
     rcases z' with z' | z'
     ·exact f1 z'.symm
     ·exact g1 z'.symm) ho,r⟩
   ·refine (I.hok b v q).stay (fun c o hc r=>kk c o ?_ r) (fun _ r=>r) fun _ _ r=>r
    rcases hc with rfl | hc
    ·exact nit _ _ q
    ·exact nit _ _ hc
  have hsz:s.heap.objs.size < h'.objs.size:=by rw [hz']; exact Nat.lt_succ_self _
  have hTn:H s.heap.objs.size=none:=I.fresh
  have elt:e < s.heap.objs.size:=Heap.lt_size he
  have I2:Inv X pins σ (upd H s.heap.objs.size (.tup [.int (i:Int),x])) { s with heap:=h',toks:=s.toks+1 }:=by
   refine I1.track hTn I.sz (Nat.ne_of_gt I.lt) (fun y c q=>?_) (fun p hp=>?_) ⟨by show 2≤sizeLine; decide,[.int i s.toks,u],.cons ⟨_,rfl⟩ (.cons ru .nil),⟨_,hT,rfl,_,rfl⟩⟩
   ·obtain ⟨v,q2⟩:=I.cell y c q
    exact Nat.ne_of_lt q2.lt
   ·exact Nat.ne_of_lt (Heap.lt_size (I.pin p hp).1)
  refine ⟨_,rfl,wpAny_letOwnedTupleGo_enum (s:={ s with heap:=h',toks:=s.toks+1 }) heo fun h'' he'' hs''=>?_⟩
  have I3:Inv X pins σ (upd H s.heap.objs.size (.tup [.int (i:Int),x])) { s with heap:=h'',toks:=s.toks+1 }:=Inv.turned (s:={ s with heap:=h',toks:=s.toks+1 }) (h':=h'') (t':=s.toks+1) (it:=e) I2 (fun b o hb q=>(hs''.2 b hb).trans q) (by rw [upd_ne (Nat.ne_of_lt elt)]; exact f0) f1 f3 f4 f5
  refine ⟨.ref s.heap.objs.size,_,I3,rfl,⟨_,hTn,rfl,fun ys y hy hy2=>?_⟩,⟨⟨_,he''⟩,?_⟩,fun b hb=>?_⟩
  ·rw [I.list_inj hy hq,hx] at hy2
   cases hy2
   rfl
  ·exact hit'.at fun o h1=>(hs''.2 it (Ne.symm hei)).trans h1
  ·have z':b=e∨b=it:=by simpa using hb
   rcases z' with rfl | rfl
   ·rw [upd_ne (Nat.ne_of_lt elt)]; exact f0
   ·have ilt:b < s.heap.objs.size:=by
     obtain ⟨o,h1,_⟩:=hit
     exact Heap.lt_size h1
    rw [upd_ne (Nat.ne_of_lt ilt)]; exact g0
 done:=by
  intro X hP hw hK hc i pins s σ H E I hf st hg
  subst hP hw hK
  obtain ⟨xs,hq,hx⟩:=hg
  obtain ⟨its,rv,p,hz⟩:=I.list hq
  obtain ⟨g0,g1,g2,g3,g4,g5⟩:=hf it (by simp)
  obtain ⟨⟨old,he⟩,hit⟩:=st
  have hl:=rv.length
  exact wpAny_pyNext_enum_end (I.ok.hd hc) he hit p.isList (by simp; omega) fun h' eb=>⟨rfl,I.turned (t':=s.toks) (fun b o hb e=>eb b o hb e) g0 g1 g3 g4 g5⟩
 self:=fun _ _ _ _ _ st h=>by
  obtain ⟨⟨old,he⟩,_⟩:=st
  exact wpAny_pyIter_enum he h
section
variable {X:Cx} {elts:List Expr} {k1:Nat} {tp:Pos}
def iEnum (K:PySem.W.Frag) (tl:TE) : TI:=fun σ H R=>tl σ H fun x H1=>∃ a,x = .ref a∧(∃ xs,SqL K H1 a xs)∧R (Ite K a) H1
theorem pi_enum {l:Expr} {k1} {tl:TE} {p pos:Pos} (hg:Gl X "enumerate") (hm:X.mg "enumerate" = none) (hl:PE X l tl) (hs:starEach [l] X.env=[(false,eval l X.env)]:=by rfl) : PI X (.Tuple elts k1 tp) (.Call (.Name "enumerate" p) [l] [] pos) (iEnum X.K tl):=by
 intro pins s σ H R I h
 have ha:PA X [l] (tCons tl tNil):=pa_cons hl pa_nil hs
 refine Call_ (ld_blt I hg hm (by decide +kernel:bootBuiltins "enumerate" = some (.type "enumerate")) (PyProof.Rows.callWith_type1 (thn (ha pos pins s σ H (fun vs H1=>match vs with | [x]=>∃ a,x = .ref a∧(∃ xs,SqL X.K H1 a xs)∧R (Ite X.K a) H1 | _=>False) I h) fun us s1 ⟨vs,H1,I1,r1,q1⟩=>?_) hs rfl))
 match vs,r1,q1 with
 | [x],r1,q1 =>
 obtain ⟨a,rfl,⟨xs,hq⟩,q⟩:=q1
 obtain ⟨u,rfl,ru⟩:=vals1 r1
 cases ru
 obtain ⟨its,rv,p,hz⟩:=I1.list hq
 refine call_enumerate_list p.isList fun h' he hit hz' hk=>?_
 refine wpAny_pyIter_enum he ?_
 refine ⟨s1.heap.objs.size+1,[s1.heap.objs.size+1,s1.heap.objs.size],_,_,H1,rfl,I1.kept (t':=s1.toks) hk,turn_enum a _ _ (Nat.succ_ne_self _),⟨⟨_,he⟩,hit⟩,fun b hb=>?_,q⟩
 have z':b=s1.heap.objs.size+1∨b=s1.heap.objs.size:=by simpa using hb
 have I2:=I1.kept (h':=h') (t':=s1.toks) hk
 rcases z' with rfl | rfl
 ·exact I1.fpOk (Nat.le_succ _) (I1.hok.fresh (Nat.le_succ _))
 ·exact I1.fpOk (Nat.le_refl _) (I1.hok.fresh (Nat.le_refl _))
end
theorem for_enum {K:PySem.W.Frag} {a:Addr} {xs:List V} {g:TG} {tb:TS} {D:Ends} {σ:St} {H:Hp} (Pv:Nat→St→Hp→Prop) (h0:Pv 0 σ H) (hl:∀ i σ H,i≤xs.length→Pv i σ H→SqL K H a xs)
  (hs:∀ i x σ H p,xs[i]? = some x→Pv i σ H→H p=none→g (.ref p) σ (upd H p (.tup [.int (i:Int),x])) fun σ2 H2=>tb { D with nx:=Pv (i+1),ct:=Pv (i+1),bk:=D.nx } σ2 H2) (hd:∀ σ H,Pv xs.length σ H→D.nx σ H) :
  ∃ W:Nat→Nat→St→Hp→Prop,(∃ m,W 0 m σ H)∧∀ i m σ H,W i m σ H →
   ((Ite K a).stop i H∧D.nx σ H)∨((Ite K a).go i H∧∃ N:St→Hp→Prop,(∀ σ' H',N σ' H'→∃ m',m' < m∧W (i+1) m' σ' H')∧∀ x H',(Ite K a).yld i H x H'→g x σ H' fun σ2 H2=>tb { D with nx:=N,ct:=N,bk:=D.nx } σ2 H2):=by
 refine ⟨fun i m σ H=>m=xs.length - i∧i≤xs.length∧Pv i σ H,⟨xs.length,by simp,Nat.zero_le _,h0⟩,?_⟩
 rintro i m σ H ⟨rfl,hi,p⟩
 have q:=hl i σ H hi p
 by_cases hlt:i < xs.length
 ·refine .inr ⟨⟨xs,xs[i],q,by simp [hlt]⟩,Pv (i+1),fun σ' H' p'=>⟨xs.length - (i+1),by omega,rfl,hlt,p'⟩,fun x H' y=>?_⟩
  obtain ⟨t,ht,e,y⟩:=y
  subst e
  have e2:=y xs xs[i] q (by simp [hlt])
  subst e2
  exact hs i xs[i] σ H t (by simp [hlt]) p ht
 ·have e:i=xs.length:=by omega
  subst e
  exact .inl ⟨⟨xs,q,Nat.le_refl _⟩,hd σ H p⟩

section
variable {X:Cx} {tg:Expr}
end
theorem valV_mem:∀ {kvs:List (Key × V)} {k:Key} {v:V},(kvs.map (·.1)).Nodup→(k,v) ∈ kvs→valV kvs k=some v
 | [],_,_,_,h=>by cases h
 | p :: r,k,v,nd,h=>by
  obtain ⟨h1,h2⟩:=List.nodup_cons.mp (show (p.1 :: r.map (·.1)).Nodup from nd)
  rcases List.mem_cons.mp h with e | h
  ·subst e
   exact valV_pos rfl
  ·rw [valV_neg (fun e=>h1 (List.mem_map.mpr ⟨(k,v),h,e.symm⟩))]
   exact valV_mem h2 h
theorem keq_all {A:Around} {s:Shared} {kvs:List (Key × V)} {vs2:List (Key × Value)} (r2:KV kvs vs2) (nd:(kvs.map (·.1)).Nodup) (fl:∀ p ∈ kvs,flatV p.2=true) :
  ∀ {k':List (Key × V)} {vs:List (Key × Value)},KV k' vs→(∀ p ∈ k',p ∈ kvs)→PySem.W.KeqHits A s vs2 vs true
 | _,_,.nil,_=>.nil
 | p :: k',q :: vs,.cons h t,hm=>by
  obtain ⟨k,v⟩:=q
  obtain ⟨pk,pv⟩:=p
  have ek:pk=k:=h.1
  subst ek
  have hv:=valV_mem nd (hm (pk,pv) List.mem_cons_self)
  obtain ⟨y,hy,ry⟩:=RelO.some_of (v:=pv) (o:=valueAt vs2 pk) (by rw [← hv]; exact r2.val pk)
  have f:=fl (pk,pv) (hm _ List.mem_cons_self)
  have e:=eqAt_V (A:=A) (s:=s) h.2 ry f f
  rw [eqV_refl f] at e
  exact PySem.W.KeqHits.hit (e:=true) (b:=true) hy e (keq_all r2 nd fl t fun p hp=>hm p (List.mem_cons_of_mem _ hp))
theorem op_eqD {X:Cx} (hu:X.A.units < cLine) : OpR X (compareOp .Eq) (fun x y H Q=>∃ a b kvs,x = .ref a∧y = .ref b∧H a=some (.dK kvs)∧H b=some (.dK kvs)∧(∀ p ∈ kvs,flatV p.2=true)∧Q (.bl true) H):=by
 intro pins s σ H x y v u Q I rx ry h
 obtain ⟨a,b,kvs,rfl,rfl,ha,hb,fl,q⟩:=h
 cases rx
 cases ry
 obtain ⟨_,la,vs,r,da⟩:=dk_of I.hok ha
 obtain ⟨_,lb,vs2,r2,db⟩:=dk_of I.hok hb
 have nd:(kvs.map (·.1)).Nodup:=by
  rw [r.keys]
  obtain ⟨_,_,_,_,_,_,_,_,n⟩:=da
  exact n
 refine PySem.W.keq_eq la lb da db hu (fun _=>keq_all r2 nd fl r fun _ h=>h) ?_
 rw [← r.length,← r2.length,beq_self_eq_true,Bool.true_and]
 exact ⟨.bl true,H,I,rfl,q⟩
theorem op_eqNil {X:Cx} (hu:X.A.units < cLine) : OpR X (compareOp .Eq) (fun x y H Q=>∃ a b xs,x = .ref a∧y = .ref b∧SqL X.K H a xs∧SqL X.K H b []∧Q (.bl xs.isEmpty) H):=by
 intro pins s σ H x y v u Q I rx ry h
 obtain ⟨a,b,xs,rfl,rfl,ha,hb,q⟩:=h
 cases rx
 cases ry
 obtain ⟨its,r,p,z⟩:=I.list ha
 obtain ⟨its2,r2,p2,z2⟩:=I.list hb
 have l1:=r.length
 have l2:=r2.length
 cases xs with
 | nil =>
  refine SeqAt.eq_listAt (e:=fun _=>true) p.isList p2.isList (by simp at l1 l2 ⊢; omega) hu (fun j h1 h2=>absurd h1 (by simp at l1 ⊢; omega)) ⟨.bl _,H,I,rfl,?_⟩
  have e:its.toArray.size=0:=by rw [List.size_toArray]; exact l1.symm
  rw [e]
  exact q
 | cons x r=>exact SeqAt.eq_list_lengthsAt p.isList p2.isList (by simp at l1 l2 ⊢; omega) hu ⟨.bl false,H,I,rfl,q⟩
end L2

set_option maxHeartbeats 4000000
namespace L2
open PySem PySem.W PySem.Calls PySem.Spec PyProof.Rows Builtin Builtin.ObjectAttr Builtin.Getset_descriptor
def ExcAt (h:Heap) (x C:Addr) : Prop:=∃ o,h.get? x=some o∧o.cls = .ref C
section
variable {prog:Program} {w:World} {A:Around} {E:Value→Shared→Prop} {h:Heap} {g:Array GenState} {d:Drawn} {t:Nat} {os:OsState} {K:Frag} {x C:Addr}
theorem ExcAt.type {M:Model} (I:ExcAt h x C) : PySem.W.Looks M h (typeOf (.ref x)) (.ref C):=by
 obtain ⟨ob,hob,hobc⟩:=I
 have z:PySem.W.Looks M h (typeOf (.ref x)) ob.cls:=(PySem.W.Looks.ld hob).andThen .now
 rw [hobc] at z
 exact z
theorem exc_check {M:Model} {nameV:Value} {Q:Unit→Shared→Prop} (X:K.In h) (I:ExcAt h x C) (hb:subIn K (.ref C) (.type "BaseException")=some true) (hq:Q () ⟨h,g,d,t,os⟩) : wpAny M A (checkBuiltinCall "BaseException.__getattribute__" ⟨[.ref x,nameV],[]⟩) Q E ⟨h,g,d,t,os⟩:=by
 have hk:builtinKind "BaseException.__getattribute__" = some .slot:=by decide +kernel
 have hsplit:splitId "BaseException.__getattribute__" = some ("BaseException","__getattribute__"):=by decide +kernel
 have ha:=PySem.F.args_bexc_ga (.ref x) nameV
 have L0:=I.type (M:=M)
 have L1:=looks_subIn (M:=M) X hb
 have LI:PySem.W.Looks M h (isInstance (.ref x) (.type "BaseException")) true:=L0.andThen L1
 simp only [checkBuiltinCall,hk,hsplit]
 refine wpAny_bind (LI.at ?_)
 repeat (first | assumption | wp_step)
theorem exc_get {R:Result→Shared→Prop} {tp:Value} (X:K.In h) (I:ExcAt h x C) (hm:mroIn K C (.type "object")=some true)
  (hq:R (.ok (.ret (.ref C))) ⟨h,g,d,t,os⟩) : codeAny (model prog w) A (.call (.builtin "getset_descriptor.__get__") ⟨[.builtin "object.__class__",.ref x,tp],[]⟩) R ⟨h,g,d,t,os⟩:=by
 have L0:=I.type (M:=model prog w)
 have L1:=looks_mroIn (M:=model prog w) X hm
 refine codeAny_call_builtin KF.slot_gs.plain KF.entry_gs (KF.slot_gs.check _ _ _ _ _ _ _ _ KF.type_class (KF.args_gs _ _ _) ?_)
 unfold Builtin.«getset_descriptor.__get__» descrGet
 rw [dga_obj]
 refine wpAny_bind (wpAny_pure ?_)
 unfold descrGetter descrCheckInstance descrNameAndClass isInstance
 simp only [KF.owner_class]
 repeat lk
 refine ⟨Code.quiet_builtin _ (by decide +kernel),codeAny_builtin KF.entry_class ?_⟩
 unfold Builtin.«object.__class__» shownTypeOf
 repeat lk
 exact hq
theorem exc_entry {tk:Tok} {Q:Fin→Shared→Prop} (X:K.In h) (I:ExcAt h x C) (hcl:findIn K (.ref C) "__class__" = some (some (.builtin "object.__class__"))) (hm:mroIn K C (.type "object")=some true) (hq:Q (.done (.ret (.ref C))) ⟨h,g,d,t,os⟩) :
  wpAny (model prog w) A (Builtin.«object.__getattribute__» ⟨[.ref x,.str "__class__" tk],[]⟩) Q E ⟨h,g,d,t,os⟩:=by
 have hT5:(⟨h,g,d,t,os⟩ : Shared).TypeIs (.builtin "object.__class__") "getset_descriptor":=PySem.F.typeOf_object_class
 have f5:=PySem.F.typeOf_object_class
 have f6:=PySem.F.slot_gs_get.lookup
 have f7:=PySem.F.slot_gs_set.lookup
 have L0:=I.type (M:=model prog w)
 have L1:=looks_findIn (M:=model prog w) X hcl
 obtain ⟨o,hx,hc⟩:=id I
 repeat (any_goals (first | assumption | (with_reducible refine wpAny_loadPart_at hx ?_; rw [hc]) | with_reducible refine Looks.at L0 ?_ | with_reducible refine Looks.at L1 ?_ | wp_step))
 refine exc_get X I hm ?_
 repeat (any_goals (first | assumption | wp_step))
theorem exc_call {tk:Tok} {R:Result→Shared→Prop} (X:K.In h) (I:ExcAt h x C) (hcl:findIn K (.ref C) "__class__" = some (some (.builtin "object.__class__"))) (hm:mroIn K C (.type "object")=some true) (hb:subIn K (.ref C) (.type "BaseException")=some true) (hq:R (.ok (.ret (.ref C))) ⟨h,g,d,t,os⟩) :
  codeAny (model prog w) A (.call (.builtin "BaseException.__getattribute__") ⟨[.ref x,.str "__class__" tk],[]⟩) R ⟨h,g,d,t,os⟩:=
 codeAny_call_builtin (by decide +kernel) PySem.F.entry_bexc_ga (exc_check X I hb (exc_entry X I hcl hm hq))
theorem exc_by {tk:Tok} {Q:Value→Shared→Prop} (X:K.In h) (I:ExcAt h x C) (hga:findIn K (.ref C) "__getattribute__" = some (some (.builtin "BaseException.__getattribute__"))) (hgt:findIn K (.ref C) "__getattr__" = some none) (hcl:findIn K (.ref C) "__class__" = some (some (.builtin "object.__class__"))) (hm:mroIn K C (.type "object")=some true) (hb:subIn K (.ref C) (.type "BaseException")=some true) (hq:Q (.ref C) ⟨h,g,d,t,os⟩) :
  wpAny (model prog w) A (getAttrBy (.ref x) (.str "__class__" tk) false false) Q E ⟨h,g,d,t,os⟩:=by
 have f3:=PySem.F.attr_ValueError.ga.bind (.ref x)
 have hx2:(Value.builtin "BaseException.__getattribute__" == Value.builtin "object.__getattribute__")=false:=by decide +kernel
 have hx1:(onTheHeap (Value.ref C) && Value.builtin "BaseException.__getattribute__" == Value.builtin "object.__getattribute__")=false:=by rw [hx2]; rfl
 have L0:=I.type (M:=model prog w)
 have L1:=looks_findIn (M:=model prog w) X hga
 have L2:=looks_findIn (M:=model prog w) X hgt
 obtain ⟨o,hx,hc⟩:=id I
 repeat (any_goals (first | assumption | (with_reducible refine wpAny_loadPart_at hx ?_; rw [hc]) | with_reducible refine Looks.at L0 ?_ | with_reducible refine Looks.at L1 ?_ | with_reducible refine Looks.at L2 ?_ | wp_step))
 refine exc_call X I hcl hm hb ?_
 repeat (any_goals (first | assumption | wp_step))
theorem exc_attr {Q:Option Value→Shared→Prop} (X:K.In h) (I:ExcAt h x C) (hga:findIn K (.ref C) "__getattribute__" = some (some (.builtin "BaseException.__getattribute__"))) (hgt:findIn K (.ref C) "__getattr__" = some none) (hcl:findIn K (.ref C) "__class__" = some (some (.builtin "object.__class__"))) (hm:mroIn K C (.type "object")=some true) (hb:subIn K (.ref C) (.type "BaseException")=some true) (hq:Q (some (.ref C)) ⟨h,g,d,t+1,os⟩) :
  wpAny (model prog w) A (getAttr? (.ref x) "__class__") Q E ⟨h,g,d,t,os⟩:=by
 unfold getAttr? getAttrBy?
 repeat (any_goals (first | assumption | with_reducible apply exc_by X I hga hgt hcl hm hb | wp_step))
end
def excLk (K:Frag) (C:Addr) : Bool:=(clsIn K C).isSome && findIn K (.ref C) "__getattribute__" == some (some (.builtin "BaseException.__getattribute__")) && findIn K (.ref C) "__getattr__" == some none && findIn K (.ref C) "__class__" == some (some (.builtin "object.__class__")) && mroIn K C (.type "object") == some true && subIn K (.ref C) (.type "BaseException") == some true
theorem kitx_exc {K:Frag} {x C:Addr} (e:excLk K C=true) : KitX K (.ref x) (.ref C) (fun h=>ExcAt h x C):=by
 unfold excLk at e
 simp only [Bool.and_eq_true,beq_iff_eq] at e
 obtain ⟨⟨⟨⟨⟨e0,e1⟩,e2⟩,e3⟩,e4⟩,e5⟩:=e
 refine ⟨fun _ _ _ I=>I.type,fun _ _ X _=>?_,fun h tp dd its n sl X htp=>?_,fun {prog w A E Q s} X I k=>?_⟩
 ·unfold clsIn at e0
  split at e0
  ·rename_i c' d' cd' sl' ho
   intro A' Q' E' s' k q
   unfold isType loadHead
   exact wpAny_bind (wpAny_loadPart (k _ _ (X _ _ ho)) (wpAny_pure q))
  ·cases e0
 ·refine Bool.eq_false_iff.mpr fun q=>?_
  have e:C=tp:=Value.ref.inj (beq_iff_eq.mp q)
  subst e
  unfold clsIn at e0
  split at e0
  ·rename_i c' d' cd' sl' ho
   have z:=(X _ _ ho).symm.trans htp
   cases z
  ·cases e0
 ·obtain ⟨h,g,d,t,os⟩:=s
  exact exc_attr X I e1 e2 e3 e4 e5 k
end L2

namespace L2
open PySem PySem.W PySem.Spec PyProof.Rows
def excO (x C:Addr) : HO:=.ext fun h=>ExcAt h x C
section
variable {X:Cx} {pins:List (Addr × Obj)} {σ:St} {H:Hp} {s:Shared}
theorem ObjOk.there {P:Program} {w:World} {H:Hp} {h:Heap} {a:Addr} {o:HO} (z:ObjOk P w H h a o) : ∃ ob,h.get? a=some ob:=by
 induction o with
 | lst xs=>obtain ⟨_,_,_,_,e⟩:=z; exact ⟨_,e⟩
 | tup xs=>obtain ⟨_,_,_,ob,e,_⟩:=z; exact ⟨_,e⟩
 | dK kvs=>obtain ⟨_,_,_,_,ob,_,_,e,_⟩:=z; exact ⟨_,e⟩
 | dT kvs=>obtain ⟨_,_,_,_,ob,_,_,e,_⟩:=z; exact ⟨_,e⟩
 | set S n=>obtain ⟨ob,_,_,_,e,_⟩:=z; exact ⟨_,e⟩
 | ins C dx fs=>obtain ⟨_,_,_,e,_⟩:=z; exact ⟨_,e⟩
 | own y=>obtain ⟨_,e⟩:=z; exact ⟨_,e⟩
 | xd fs=>obtain ⟨_,⟨_,_,_,e,_⟩,_⟩:=z; exact ⟨_,e⟩
 | rng lo hi=>obtain ⟨_,_,_,e⟩:=z; exact ⟨_,e⟩
 | frz ob u ih=>obtain ⟨e,_⟩:=z; exact ⟨_,e⟩
 | tbl ps=>exact ⟨_,(show h.get? a=some _ from z)⟩
 | met f y=>exact ⟨_,(show h.get? a=some _ from z)⟩
 | ext φ=>obtain ⟨_,⟨_,e⟩,_⟩:=z; exact ⟨_,e⟩
theorem Inv.trackX {x C:Addr} (I:Inv X pins σ H s) (ex:ExcAt s.heap x C) (hn:H x=none) (h0:∀ o,X.s₀.heap.get? x=some o→x ∈ X.ex) (hL:x≠X.env.locals) (hc:∀ y c,X.env.cells.lookup y=some c→c≠x) (hp:∀ p ∈ X.pn++pins,p.1≠x) : Inv X pins σ (upd H x (excO x C)) s:=by
 refine ⟨I.ok,I.os,I.bare,⟨I.base.keep,I.base.slot,fun b o q n hx=>?_,I.base.there,fun b xs q=>?_,fun b o u q=>?_,fun b ps q=>?_⟩,I.loc,I.cell,?_,fun y c e=>?_,fun p h=>?_,fun b ob q=>?_,I.len⟩
 ·have nb:b≠x:=fun e=>by subst e; exact hx (h0 o q)
  rw [upd_ne nb]
  exact I.base.free b o q n hx
 ·have z:=I.base.tups b xs q
  rw [upd_ne (fun e=>by rw [e,hn] at z; cases z)]
  exact z
 ·have z:=I.base.frzs b o u q
  rw [upd_ne (fun e=>by rw [e,hn] at z; cases z)]
  exact z
 ·obtain ⟨more,z⟩:=I.base.tbls b ps q
  exact ⟨more,by rw [upd_ne (fun e=>by rw [e,hn] at z; cases z)]; exact z⟩
 ·rw [upd_ne (Ne.symm hL)]
  exact I.free
 ·rw [upd_ne (hc y c e)]
  exact I.freeC y c e
 ·obtain ⟨z1,z2,z3,z4,z5⟩:=I.pin p h
  exact ⟨z1,by rw [upd_ne (hp p h)]; exact z2,z3,z4,z5⟩
 ·by_cases e:b=x
  ·subst e
   rw [upd_same] at q
   cases q
   obtain ⟨o,e1,e2⟩:=id ex
   exact ⟨ex,⟨o,e1⟩,fun h1 h2 p k=>by obtain ⟨o,f1,f2⟩:=p; exact ⟨o,k o f1,f2⟩⟩
  ·rw [upd_ne e] at q
   refine (I.hok b ob q).stay (fun c v _ z=>z) (fun c z=>?_) (fun c xs z=>?_)
   ·rw [upd_ne (fun e=>by rw [e,hn] at z; cases z)]; exact z
   ·rw [upd_ne (fun e=>by rw [e,hn] at z; cases z)]; exact z
theorem goes_ok {M:Model} {A:Around} {E:Value→Shared→Prop} {i:Nat} {x:Str} {pos:Pos} {Q:Unit→Shared→Prop} (I:Inv X pins σ H s) (hN:X.N.Nodup) (hi:X.N[i]? = some x) (hk:X.env.kindOf x=some .local)
  (h:∀ s',Inv X pins (σ.set i none) H s'→Q () s') : wpAny M A (do bindName X.env x .none; unbindBehindTheSuite X.env x pos) Q E s:=by
 obtain ⟨m,hn,hl⟩:=id I.loc
 have hcls:(X.env.scope.kind == .class || (X.env.scope.kind == .module && X.env.locals != X.env.globals))=false:=by rw [I.ok.kind]; rfl
 have hiσ:i < σ.length:=by rw [I.len]; exact (List.getElem?_eq_some_iff.mp hi).1
 have cne:=I.cne
 have tracked:∀ {a:Addr} {h':Heap},(∃ o,s.heap.get? a=some o∧H a=none)→Heap.SameBut a s.heap h'→HOk X.prog X.w H h':=fun {a h'} ha hs b ob e=>by
  obtain ⟨_,_,hfree⟩:=ha
  refine (I.hok b ob e).stay (fun c w' hc q=>(hs.2 c ?_).trans q) (fun _ q=>q) fun _ _ q=>q
  rintro rfl
  rcases hc with rfl | hc
  ·rw [hfree] at e; cases e
  ·rw [hfree] at hc; cases hc
 refine wpAny_nameGoes_keeps hk hn hcls (fun h' v hn' hs=>?_)
 obtain ⟨oL,_,_,hoL,_⟩:=id hn
 refine h _ ⟨I.ok,I.os,I.bare,⟨fun b o e n hb hx=>?_,fun b o e n hb hx=>?_,I.base.free,fun b o e hx=>?_,I.base.tups,I.base.frzs,I.base.tbls⟩,⟨_,hn',fun j y v' e1 e2 e3=>?_⟩,fun y c e=>?_,I.free,I.freeC,fun p hp=>?_,tracked ⟨oL,hoL,I.free⟩ hs,by simpa using I.len⟩
 ·exact (hs.2 b (Nat.ne_of_lt (Nat.lt_of_lt_of_le (Heap.lt_size e) I.ok.above))).trans (I.base.keep b o e n hb hx)
 ·obtain ⟨sl,e1⟩:=I.base.slot b o e n hb hx
  exact ⟨sl,(hs.2 b (Nat.ne_of_lt (Nat.lt_of_lt_of_le (Heap.lt_size e) I.ok.above))).trans e1⟩
 ·obtain ⟨o',e1⟩:=I.base.there b o e hx
  exact ⟨o',(hs.2 b (Nat.ne_of_lt (Nat.lt_of_lt_of_le (Heap.lt_size e) I.ok.above))).trans e1⟩
 ·by_cases hj:j=i
  ·subst hj
   rw [List.getElem?_set_self hiσ] at e2
   cases e2
  ·rw [List.getElem?_set_ne (Ne.symm hj)] at e2
   obtain ⟨u',r',q⟩:=hl j y v' e1 e2 e3
   refine ⟨u',r',?_⟩
   rcases q with ⟨k,e⟩ | ⟨k,c,e,z⟩
   ·refine .inl ⟨k,?_⟩
    have:y≠x:=fun e=>hj (nodup_ix hN e1 (e ▸ hi))
    simp [this,e]
   ·exact .inr ⟨k,c,e,z.sameBut hs (cne y c e)⟩
 ·obtain ⟨w',z⟩:=I.cell y c e
  exact ⟨w',z.sameBut hs (cne y c e)⟩
 ·obtain ⟨e,n,ne,nf,d⟩:=I.pin p hp
  exact ⟨(hs.2 p.1 ne).trans e,n,ne,nf,d⟩
end
def offD (D:Ends) (i:Nat) : Ends:={ nx:=fun σ H=>D.nx (σ.set i none) H,rt:=D.rt,bk:=fun σ H=>D.bk (σ.set i none) H,ct:=fun σ H=>D.ct (σ.set i none) H }
section
variable {X:Cx} {k:Nat} {f T:Addr} {fd:FuncData} {ps:List Str} {sp:Sp} {fx c n:Str} {i:Nat} {st:Stmt} {e:Expr} {es:List Expr} {t:TA} {b₀:Stmt} {suite:List Stmt} {th:TS} {np pf cpos apos hpos pos:Pos}
theorem caught_as {pins:List (Addr × Obj)} {σ:St} {H1 H':Hp} {s1 s2:Shared} {D:Ends} {x C:Addr} {B:Heap} {a0:Value} {E2:Value→Shared→Prop} (I1:Inv X pins σ H1 s1) (hst:X.stack=X.env :: X.outer∧X.env.frame=some X.env.locals)
  (os:s2.os=s1.os) (bare:AllBare s2.gens) (un:Un (frs X.stack) [] H1 H' s1.heap s2.heap) (hok:HOk X.prog X.w H' B)
  (cov1:∀ b o,s1.heap.get? b=some o→H1 b=none→b ∉ frs X.stack→B.get? b=some o) (cov2:∀ b o,s1.heap.get? b=some o→b ∉ frs X.stack→∃ o',B.get? b=some o') (fl:Heap.FlyingW B X.stack x (.ref C) a0 s2.heap)
  (hN:X.N.Nodup) (hi:X.N[i]? = some n) (hk:X.env.kindOf n=some .local)
  (hg:Gl X c) (hm:X.mg c=some (.ref T)) (tk:Takes X.K C T) (hh:∀ v,PSs (X.marked v) (b₀ :: suite) th) (q:∀ x,H' x=none→th (offD D i) (σ.set i (some (.ref x))) (upd H' x (excO x C))) (hd:(c == ("__debug__" : Str))=false:=by decide) :
  wpAny (model X.prog X.w) X.A (noteFrame (.ref x) X.env) (fun _ s₂=>wpAny (model X.prog X.w) X.A (setFlight (.ref x) none) (fun _ s₃=>wpAny (model X.prog X.w) X.A (handleBy (.ref x) X.env [.ExceptHandler (some (.Name c np)) (some n) (b₀ :: suite) hpos]) (SP X pins D) E2 s₃) E2 s₂) E2 s2:=by
 have hfr:X.A.frames=some (X.env :: X.outer):=hst.1 ▸ I1.ok.frames
 have after:∀ h6:Heap,Heap.FlyingW B X.stack x (.ref C) a0 h6→s2.heap.UpToSlots h6→Inv X pins σ H' { s2 with heap:=h6 }:=fun h6 fl6 up=>by
  refine I1.call' (ch:=[]) os ⟨fun b o q n hb _=>fl6.1 b o (cov1 b o q n hb),fun b o q n hb hx'=>?_,un.free,fun b o q _=>?_,un.tups,un.frzs,un.tbls⟩ (hok.kept fl6.1) bare (fun b z=>absurd z (by simp))
  ·obtain ⟨sl,e1⟩:=un.slot b o q n hb hx'
   obtain ⟨_,o3,e3,nd⟩:=fl.2.2.1.mem hb
   rw [e1] at e3
   cases e3
   obtain ⟨sl3,e4⟩:=up b _ e1 nd
   exact ⟨sl3,e4⟩
  ·by_cases hb:b ∈ frs X.stack
   ·obtain ⟨_,o3,e3,_⟩:=fl6.2.2.1.mem hb
    exact ⟨o3,e3⟩
   ·obtain ⟨o',e⟩:=cov2 b o q hb
    exact ⟨o',fl6.1 b o' e⟩
 have flx:=fl
 rw [hst.1] at fl
 refine wpAny_looks_onW hfr hst.2 fl fun h₄ held up4=>?_
 refine wpAny_landsW held fun h₅ fl5 up5=>?_
 have fl5':Heap.FlyingW B X.stack x (.ref C) a0 h₅:=hst.1 ▸ fl5
 have I5:=after h₅ fl5' (up4.trans up5)
 have I5m:=I5.marked (.ref x)
 refine wpAny_handleBy_cons (codeAny_handlers_test (ld_glob (X:=X.marked (.ref x)) I5m hg hm ?_ hd)) (by intro q; cases q)
 obtain ⟨ob,hob,hobc⟩:=fl5.there
 have LT:PySem.W.Looks (model X.prog X.w) h₅ (typeOf (.ref x)) (.ref C):=by
  have z:PySem.W.Looks (model X.prog X.w) h₅ (typeOf (.ref x)) ob.cls:=(PySem.W.Looks.ld hob).andThen .now
  rw [hobc] at z
  exact z
 refine (PySem.W.exm_one (M:=model X.prog X.w) (I5.kIn) LT tk).here ?_
 refine codeAny_handlers_suite_as ?_
 refine lands_againW fl5 fun h₆ fl6 up6=>?_
 have fl6':Heap.FlyingW B X.stack x (.ref C) a0 h₆:=hst.1 ▸ fl6
 have I6:=after h₆ fl6' ((up4.trans up5).trans up6)
 have hBx:B.get? x=none:=fl6'.2.1
 have hx0:H' x=none:=by
  cases hq:H' x with
  | none=>rfl
  | some o =>
   obtain ⟨ob2,z⟩:=(hok x o hq).there
   rw [hBx] at z
   cases z
 obtain ⟨oe,vs,T',oT,ts,he,hcl,hdat,_⟩:=fl6'.2.2.2
 have nofr:∀ b,b ∈ frs X.stack→b≠x:=fun b hb e=>by
  obtain ⟨_,o3,e3,nd⟩:=fl6'.2.2.1.mem hb
  rw [e,he] at e3
  cases e3
  exact nd _ hdat
 have I7:=(I6.trackX (x:=x) (C:=C) ⟨oe,he,hcl.1⟩ hx0 (fun o z=>by
   by_cases hx':x ∈ X.ex
   ·exact hx'
   ·obtain ⟨o',z'⟩:=I1.base.there x o z hx'
    obtain ⟨o2,z2⟩:=cov2 x o' z' (fun hb=>nofr x hb rfl)
    rw [hBx] at z2
    cases z2) (fun e=>by
   obtain ⟨m,⟨oL,es',ep,hoL,hdL,_⟩,_⟩:=I6.loc
   have hoL':h₆.get? X.env.locals=some oL:=hoL
   rw [← e,he] at hoL'
   cases hoL'
   rw [hdat] at hdL
   cases hdL) (fun y cc ec e=>by
   obtain ⟨v,oc,z1,z2⟩:=I6.cell y cc ec
   have z1':h₆.get? cc=some oc:=z1
   rw [e,he] at z1'
   cases z1'
   rw [hdat] at z2
   cases z2) (fun p hp e=>by
   obtain ⟨z1,z2,z3,z4,z5⟩:=I1.pin p hp
   have nf:p.1 ∉ frs X.stack:=fun hb=>by
    rcases List.mem_cons.mp (I1.stkSub p.1 hb) with z | z
    ·exact z3 z
    ·exact z4 z
   obtain ⟨o2,z6⟩:=cov2 p.1 p.2 z1 nf
   rw [e,hBx] at z6
   cases z6)).marked (.ref x)
 refine store_ok (X:=X.marked (.ref x)) I7 hN hi (.inl hk) (show RelV (.ref x) (.ref x) from rfl) (fun s8 I8=>?_) (.inr hk)
 refine wpAny_mono (hh (.ref x) pins _ _ _ (offD D i) I8 (q x hx0)) (fun fl s' h=>?_) fun _ _ z=>False.elim z
 have h':=h.unmarked I1.ok.hd
 show wpAny (model X.prog X.w) X.A (do bindName X.env n .none; unbindBehindTheSuite X.env n hpos) (fun _ s₃=>SP X pins D fl s₃) E2 s'
 cases fl with
 | next=>obtain ⟨σ',H2,J,z⟩:=h'; exact goes_ok J hN hi hk fun s3 J3=>⟨_,_,J3,z⟩
 | brk=>obtain ⟨σ',H2,J,z⟩:=h'; exact goes_ok J hN hi hk fun s3 J3=>⟨_,_,J3,z⟩
 | cont=>obtain ⟨σ',H2,J,z⟩:=h'; exact goes_ok J hN hi hk fun s3 J3=>⟨_,_,J3,z⟩
 | ret u=>obtain ⟨v,σ',H2,J,r,z⟩:=h'; exact goes_ok J hN hi hk fun s3 J3=>⟨_,_,_,J3,r,z⟩
def tTryAs (K:PySem.W.Frag) (sp:Sp) (t:TA) (T:Addr) (i:Nat) (th:TS) : TS:=fun D σ H=>t σ H fun vs H1=>sp (vs++[]) H1 (fun _ H2=>D.nx σ H2) (fun cls _ H2=>∃ C,cls = .ref C∧Takes K C T∧∀ x,H2 x=none→th (offD D i) (σ.set i (some (.ref x))) (upd H2 x (excO x C)))
theorem ps_try_as (hN:X.N.Nodup) (hi:X.N[i]? = some n) (hk:X.env.kindOf n=some .local) (Df:DefOk X.K X.mg fx st ps f fd) (G:FnOk X.prog X.w X.K X.mg X.base (CXe X.prog X.w) k f fd ps sp) (hr:Room k X.A) (hgf:Gl X fx)
  (ha:∀ W,PA (X.wish W) (e :: es) t) (hgc:Gl X c) (O:ExcOk X.K X.mg c T) (hst:X.stack=X.env :: X.outer∧X.env.frame=some X.env.locals) (hh:∀ v,PSs (X.marked v) (b₀ :: suite) th)
  (hs:swapsWith (.Call (.Name fx pf) (e :: es) [] cpos) none apos.line X.env=pure false:=by rfl)
  (hd:(fx == ("__debug__" : Str))=false:=by decide) (hdc:(c == ("__debug__" : Str))=false:=by decide) (he:starEach (e :: es) X.env=(false,eval e X.env) :: starEach es X.env:=by rfl) (hpl:(backTo cpos (starEach es X.env)).any (·.1)=false:=by rfl) :
  PS X (.Try [.Expr (.Call (.Name fx pf) (e :: es) [] cpos) apos] [.ExceptHandler (some (.Name c np)) (some n) (b₀ :: suite) hpos] [] [] pos) (tTryAs X.K sp t T i th):=by
 intro pins s σ H D I h
 refine wpAny_Try_except (wpAny_execs_cons (wpAny_Expr_any (thn (call_try I Df G hr hgf (ha _) h (fun H1 s1 ex s2 I1 hx=>?_) hd he hpl) fun v s1 ⟨y,H1,I1,r1,q1⟩=>?_) I.quiet hs))
 ·obtain ⟨x,C,H',B,a0,rfl,os,bare,un,hok,cov1,cov2,fl,C',ec,tk,q⟩:=hx
  cases ec
  exact caught_as I1 hst os bare un hok cov1 cov2 fl hN hi hk hgc O.mg tk hh q hdc
 ·exact wpAny_execs_nil (wpAny_execs_nil ⟨σ,H1,I1,q1⟩)
def rIsiX (K:PySem.W.Frag) (xs:List V) (H:Hp) (Q:V→Hp→Prop) : Prop:=∃ x C T b,xs=[.ref x,T]∧H x=some (excO x C)∧excLk K C=true∧((∃ a,T = .ref a∧PySem.W.kitOne K (.ref C) (.ref a)=some b)∨∃ m,T = .ty m∧PySem.W.kitOne K (.ref C) (.type m)=some b)∧Q (.bl b) H
theorem call_isiX {X:Cx} : CallR X (.builtin "isinstance") (rIsiX X.K):=by
 intro pins s σ H xs us Q I r h
 obtain ⟨x,C,T,b,rfl,hx,hl,hT,q⟩:=h
 obtain ⟨ho,_,_⟩:=(show ObjOk X.prog X.w H s.heap x (excO x C) from I.hok x _ hx)
 rcases hT with ⟨a,rfl,hb⟩ | ⟨m,rfl,hb⟩
 ·cases r with
  | cons r1 r2 =>
   cases r2 with
   | cons r3 r4 =>
    cases r4
    cases r1
    cases r3
    exact PySem.W.kia_one (kitx_exc hl) I.kIn ho hb (by intro z; cases z) fun tk=>⟨.bl b,H,I.tok tk,rfl,q⟩
 ·cases r with
  | cons r1 r2 =>
   cases r2 with
   | cons r3 r4 =>
    cases r4
    cases r1
    cases r3
    exact PySem.W.kia_one (kitx_exc hl) I.kIn ho hb (by intro z; cases z) fun tk=>⟨.bl b,H,I.tok tk,rfl,q⟩
end
end L2

namespace K07
open PySem PySem.Spec L2 Tl
theorem same_new {H:Hp} {p:Addr} (h:H p=none) (o:HO) : Same H (upd H p o):=fun b u q=>by rw [upd_ne (ne_of_none q h)]; exact q
def sp_law (K:PySem.W.Frag) : Sp:=fun vs H Q _=>∃ (a:Addr) (ns:List Int),vs=[.ref a]∧SqL K H a (ns.map V.int)∧ns.length≤63∧∀ H',Q (.bl true) H'
theorem small {n:Nat} (h:n≤1000) : n≤sizeLine:=Nat.le_of_lt (small1000 h)
theorem le1:1≤sizeLine:=by decide
theorem small2 {n:Nat} (h:n≤1000000) : n≤sizeLine:=Nat.le_trans h (by decide)
theorem cutV_map {α:Type} (f:α→V) (ns:List α) (lo hi:Option Int) : cutV (ns.map f) lo hi=(cutL ns lo hi).map f:=by
 unfold cutV cutL
 rw [List.length_map,List.map_take,List.map_drop]
theorem cut_mem {α:Type} {ns:List α} {lo hi:Option Int} {x:α} (h:x ∈ cutL ns lo hi) : x ∈ ns:=List.mem_of_mem_drop (List.mem_of_mem_take h)
theorem cut_len {α:Type} (ns:List α) (lo hi:Option Int) : (cutL ns lo hi).length≤ns.length:=by
 unfold cutL
 rw [List.length_take,List.length_drop]
 omega
theorem get_int {ns:List Int} {i:Nat} {y:V} (h:(ns.map V.int)[i]? = some y) : ∃ z,y=V.int z:=by
 rw [List.getElem?_map] at h
 cases e:ns[i]? with
 | none=>rw [e] at h; cases h
 | some z=>rw [e] at h; exact ⟨z,(Option.some.inj h).symm⟩
theorem flat_strs (l:List Str) : (l.map V.str).all flatV=true:=by
 rw [List.all_map]
 exact List.all_eq_true.mpr fun _ _=>rfl

def neW (ps:List (List Nat)) : List (List Nat):=ps.filter fun w=>!w.isEmpty
def wordsL (l:List Nat) : List (List Nat):=neW (splitL 32 l)
theorem splitL_sum (c:Nat) : ∀ l:List Nat,((splitL c l).map (·.length)).sum+(splitL c l).length=l.length+1
 | []=>rfl
 | x :: r=>by
  have ih:=splitL_sum c r
  rw [splitL_cons]
  by_cases hx:x=c
  ·rw [if_pos hx,List.map_cons,List.sum_cons,List.length_cons,List.length_cons]
   simp only [List.length_nil]
   omega
  ·rw [if_neg hx]
   cases e:splitL c r with
   | nil=>exact absurd e (splitL_ne c r)
   | cons q qs =>
    rw [e] at ih
    simp only [List.map_cons,List.sum_cons,List.length_cons] at ih ⊢
    omega
theorem neW_sum:∀ ps:List (List Nat),((neW ps).map (·.length)).sum+(neW ps).length≤(ps.map (·.length)).sum+ps.length
 | []=>by simp [neW]
 | x :: r=>by
  have ih:=neW_sum r
  unfold neW at ih ⊢
  rw [List.filter_cons]
  split
  ·simp only [List.map_cons,List.sum_cons,List.length_cons] at ih ⊢
   omega
  ·simp only [List.map_cons,List.sum_cons,List.length_cons] at ih ⊢
   omega
theorem words_sum (l:List Nat) : ((wordsL l).map (·.length)).sum+(wordsL l).length≤l.length+1:=by
 have:=neW_sum (splitL 32 l)
 have:=splitL_sum 32 l
 unfold wordsL
 omega
theorem neW_all {ps:List (List Nat)} (h:∀ p ∈ ps,p≠[]) : neW ps=ps:=by
 unfold neW
 refine List.filter_eq_self.mpr fun p hp=>?_
 cases p with
 | nil=>exact absurd rfl (h [] hp)
 | cons a r=>rfl
theorem get_strs {ls:List (List Nat)} {i:Nat} {y:V} (h:((ls.map tx).map V.str)[i]? = some y) : ∃ w,ls[i]? = some w∧y=V.str (tx w):=by
 rw [List.getElem?_map,List.getElem?_map] at h
 cases e:ls[i]? with
 | none=>rw [e] at h; cases h
 | some w=>rw [e] at h; exact ⟨w,rfl,(Option.some.inj h).symm⟩
theorem neW_snoc (ps:List (List Nat)) (w:List Nat) : neW (ps++[w])=if w=[] then neW ps else neW ps++[w]:=by
 unfold neW
 rw [List.filter_append]
 cases w with
 | nil=>simp
 | cons a r=>simp

def isL (c:Nat) : Bool:=decide (97≤c∧c≤122)
def isF (c:Nat) : Bool:=decide (48≤c∧c≤57)
def LL:List Nat:=[97,98,99,100,101,102,103,104,105,106,107,108,109,110,111,112,113,114,115,116,117,118,119,120,121,122]
def FF:List Nat:=[48,49,50,51,52,53,54,55,56,57]
theorem cLET:(PySem.Str.ofString "abcdefghijklmnopqrstuvwxyz")=tx LL:=by decide +kernel
theorem cFIG:(PySem.Str.ofString "0123456789")=tx FF:=by decide +kernel
theorem mem_LL (c:Nat) : decide (c ∈ LL)=isL c:=by
 by_cases h:c < 123
 ·have:∀ c < 123,decide (c ∈ LL)=isL c:=by decide +kernel
  exact this c h
 ·have h1:c ∉ LL:=fun hm=>h ((show ∀ x ∈ LL,x < 123 by decide) c hm)
  unfold isL
  rw [decide_eq_false h1,decide_eq_false (by omega)]
theorem mem_FF (c:Nat) : decide (c ∈ FF)=isF c:=by
 by_cases h:c < 123
 ·have:∀ c < 123,decide (c ∈ FF)=isF c:=by decide +kernel
  exact this c h
 ·have h1:c ∉ FF:=fun hm=>h ((show ∀ x ∈ FF,x < 123 by decide) c hm)
  unfold isF
  rw [decide_eq_false h1,decide_eq_false (by omega)]
theorem in_let (c:Nat) : (!(Builtin.Str.occurrences (PySem.Str.ofString "abcdefghijklmnopqrstuvwxyz") ⟨#[c]⟩ 0 (PySem.Str.ofString "abcdefghijklmnopqrstuvwxyz").length 1).isEmpty)=isL c:=by rw [cLET,in_tx,mem_LL]
theorem in_fig (c:Nat) : (!(Builtin.Str.occurrences (PySem.Str.ofString "0123456789") ⟨#[c]⟩ 0 (PySem.Str.ofString "0123456789").length 1).isEmpty)=isF c:=by rw [cFIG,in_tx,mem_FF]
def isName:List Nat→Bool
 | []=>false
 | c :: r=>decide ((c :: r).length≤12) && (isL c && (c :: r).all fun d=>isL d || isF d)
theorem name_long {c:Nat} {r:List Nat} (h:¬ (c :: r).length≤12) : isName (c :: r)=false:=by
 show (decide _ && _)=false
 rw [decide_eq_false h,Bool.false_and]
theorem name_short {c:Nat} {r:List Nat} (h:(c :: r).length≤12) : isName (c :: r)=(isL c && (c :: r).all fun d=>isL d || isF d):=by
 show (decide _ && _)=_
 rw [decide_eq_true h,Bool.true_and]
theorem ce:(PySem.Str.ofString "")=tx []:=by decide +kernel
theorem ne_empty (c:Nat) (r:List Nat) : decide (V.str (tx (c :: r))=V.str (PySem.Str.ofString ""))=false:=by
 refine decide_eq_false fun h=>?_
 have h2:=V.str.inj h
 rw [ce] at h2
 have h3:=tx_inj h2
 cases h3
theorem is_empty:decide (V.str (tx [])=V.str (PySem.Str.ofString ""))=true:=decide_eq_true (by rw [ce])
theorem all_id (l:List Nat) (f:Nat→Bool) : ((l.map f).all id)=l.all f:=by rw [List.all_map]; rfl

theorem c10:(PySem.Str.ofString "\n")=tx [10]:=by decide +kernel
theorem c32:(PySem.Str.ofString " ")=tx [32]:=by decide +kernel
theorem join_len (c:Nat) : ∀ ps:List (List Nat),(joinL [c] ps).length≤(ps.map (·.length)).sum+ps.length
 | []=>by simp [joinL]
 | [x]=>by simp [joinL]
 | x :: y :: r=>by
  have:=join_len c (y :: r)
  show (x++[c]++joinL [c] (y :: r)).length≤_
  rw [List.length_append,List.length_append,List.map_cons,List.sum_cons,List.length_cons]
  simp only [List.length_cons,List.length_nil] at this ⊢
  omega
theorem sum_le:∀ (ps:List (List Nat)) (k:Nat),(∀ p ∈ ps,p.length≤k)→(ps.map (·.length)).sum≤ps.length * k
 | [],_,_=>by simp
 | x :: r,k,h=>by
  have h1:=h x List.mem_cons_self
  have h2:=sum_le r k fun p hp=>h p (List.mem_cons_of_mem _ hp)
  rw [List.map_cons,List.sum_cons,List.length_cons,Nat.add_mul]
  omega
theorem sum_tx (ps:List (List Nat)) : ((ps.map tx).map (·.length)).sum=(ps.map (·.length)).sum:=by
 rw [List.map_map]
 congr 1
theorem join_eq10 (ps:List (List Nat)) : Txt.join (PySem.Str.ofString "\n") (ps.map tx)=tx (joinL [10] ps):=by rw [c10]; exact join_tx [10] ps

structure Row where
 u:Option Nat
 t:List Nat
def useW:List Nat:=[46,117,115,101]
theorem cUSE:(PySem.Str.ofString ".use")=tx useW:=by decide +kernel
def nm (ns:List (List Nat)) (i:Nat) : List Nat:=ns.getD i []
def rw' (rs:List (List Row)) (i:Nat) : List Row:=rs.getD i []
def texts (rs:List (List Row)) (i:Nat) : List (List Nat):=(rw' rs i).map Row.t
structure RowOk (ns:List (List Nat)) (n i:Nat) (r:Row) : Prop where
 no10:10 ∉ r.t
 len:r.t.length≤400
 use:∀ j,r.u=some j→i < j∧j < n∧wordsL r.t=[useW,nm ns j]
 plain:r.u=none→(wordsL r.t).head?≠some useW
structure Shelf (ns:List (List Nat)) (rs:List (List Row)) : Prop where
 n20:rs.length≤20
 inj:∀ i j,i < rs.length→j < rs.length→nm ns i=nm ns j→i=j
 name:∀ i,i < rs.length→isName (nm ns i)=true
 ne:∀ i,i < rs.length→rw' rs i≠[]
 few:∀ i,i < rs.length→(rw' rs i).length≤200
 ok:∀ i,i < rs.length→∀ r ∈ rw' rs i,RowOk ns rs.length i r
def cnt (rs:List (List Row)) (i:Nat) : Nat:=((rw' rs i).map fun r=>match r.u with
 | some j=>if h:i < j∧j < rs.length then cnt rs j else 0
 | none=>1).sum
termination_by rs.length - i
decreasing_by omega
def told (rs:List (List Row)) (i:Nat) : List (Nat × Nat × List Nat):=((rw' rs i).zipIdx.map fun p=>match p.1.u with
 | some j=>if h:i < j∧j < rs.length then told rs j else []
 | none=>[(i,p.2,p.1.t)]).flatten
termination_by rs.length - i
decreasing_by omega
def PartsAt (H:Hp) (d:Addr) (ns:List (List Nat)) (rs:List (List Row)) : Prop:=∃ pk,H d=some (.dK pk)∧∀ i,i < rs.length→valV pk (.inr (tx (nm ns i)))=some (.str (tx (joinL [10] (texts rs i))))
def SameX (c:Addr) (H H':Hp) : Prop:=∀ b o,b≠c→H b=some o→H' b=some o
theorem SameX.refl (c:Addr) (H:Hp) : SameX c H H:=fun _ _ _ h=>h
theorem SameX.trans {c:Addr} {H H1 H2:Hp} (a:SameX c H H1) (b:SameX c H1 H2) : SameX c H H2:=fun x o hx h=>b x o hx (a x o hx h)
theorem SameX.of {c:Addr} {H H':Hp} (a:Same H H') : SameX c H H':=fun x o _ h=>a x o h
theorem SameX.upd {c:Addr} {H:Hp} {o:HO} : SameX c H (upd H c o):=fun x o hx h=>by rw [upd_ne hx]; exact h
theorem PartsAt.sameX {H H':Hp} {d c:Addr} {ns:List (List Nat)} {rs:List (List Row)} (h:PartsAt H d ns rs) (hd:d≠c) (s:SameX c H H') : PartsAt H' d ns rs:=by
 obtain ⟨pk,h1,h2⟩:=h
 exact ⟨pk,s d _ hd h1,h2⟩
theorem PartsAt.same {H H':Hp} {d:Addr} {ns:List (List Nat)} {rs:List (List Row)} (h:PartsAt H d ns rs) (s:Same H H') : PartsAt H' d ns rs:=by
 obtain ⟨pk,h1,h2⟩:=h
 exact ⟨pk,s d _ h1,h2⟩
def CntOk (ns:List (List Nat)) (rs:List (List Row)) (kvs:List (Key × V)) : Prop:=(∀ i,i < rs.length→∀ v,valV kvs (.inr (tx (nm ns i)))=some v→v = .int (cnt rs i:Nat))∧(kvs.map (·.1)).Nodup∧∀ k ∈ kvs.map (·.1),k ∈ (List.range rs.length).map fun i=>(Sum.inr (tx (nm ns i)) : Key)
theorem sub_len {α:Type} [DecidableEq α] : ∀ (l m:List α),l.Nodup→(∀ x ∈ l,x ∈ m)→l.length≤m.length
 | [],_,_,_=>Nat.zero_le _
 | a :: r,m,nd,h=>by
  obtain ⟨h1,h2⟩:=List.nodup_cons.mp nd
  have ha:=h a List.mem_cons_self
  have:=sub_len r (m.erase a) h2 fun x hx=>(List.mem_erase_of_ne (fun e=>h1 (by rw [← e]; exact hx))).mpr (h x (List.mem_cons_of_mem _ hx))
  rw [List.length_erase_of_mem ha] at this
  have:=List.length_pos_of_mem ha
  rw [List.length_cons]
  omega
theorem CntOk.len {ns:List (List Nat)} {rs:List (List Row)} {kvs:List (Key × V)} (h:CntOk ns rs kvs) : kvs.length≤rs.length:=by
 have:=sub_len _ _ h.2.1 h.2.2
 rw [List.length_map,List.length_map,List.length_range] at this
 exact this
theorem CntOk.nil (ns:List (List Nat)) (rs:List (List Row)) : CntOk ns rs []:=⟨(fun _ _ _ h=>nomatch h),List.nodup_nil,(fun _ h=>nomatch h)⟩
theorem putK_keys {kvs:List (Key × V)} {k:Key} {v:V} (x:Key) (h:x ∈ (putK kvs k v).map (·.1)) : x=k∨x ∈ kvs.map (·.1):=by
 cases e:valV kvs k with
 | none =>
  rw [putK_new v e,List.map_append] at h
  rcases List.mem_append.mp h with h | h
  ·exact .inr h
  ·exact .inl (by simpa using h)
 | some w =>
  by_cases hx:x=k
  ·exact .inl hx
  ·cases e2:valV kvs x with
   | some w2=>exact .inr (valV_in e2)
   | none =>
    have e3:valV (putK kvs k v) x=none:=by rw [valV_put,if_neg hx,e2]
    exact absurd h (valV_not e3)
theorem putK_nd {kvs:List (Key × V)} {k:Key} (v:V) (hn:(kvs.map (·.1)).Nodup) : ((putK kvs k v).map (·.1)).Nodup:=by
 cases e:valV kvs k with
 | none=>exact nd_putK v hn e
 | some w =>
  have:(putK kvs k v).map (·.1)=kvs.map (·.1):=by
   unfold putK
   rw [if_pos (by rw [valV_any,e]; rfl),List.map_map]
   refine List.map_congr_left fun p _=>?_
   show (if p.1=k then (p.1,v) else p).1=p.1
   split <;> rfl
  rw [this]
  exact hn
theorem CntOk.put {ns:List (List Nat)} {rs:List (List Row)} {kvs:List (Key × V)} (S:Shelf ns rs) (h:CntOk ns rs kvs) {i:Nat} (hi:i < rs.length) : CntOk ns rs (putK kvs (.inr (tx (nm ns i))) (.int (cnt rs i:Nat))):=by
 refine ⟨fun j hj v hv=>?_,putK_nd _ h.2.1,fun k hk=>?_⟩
 ·rw [valV_put] at hv
  by_cases e:(Sum.inr (tx (nm ns j)) : Key)=Sum.inr (tx (nm ns i))
  ·rw [if_pos e] at hv
   have:=S.inj j i hj hi (tx_inj (Sum.inr.inj e))
   subst this
   exact (Option.some.inj hv).symm
  ·rw [if_neg e] at hv
   exact h.1 j hj v hv
 ·rcases putK_keys k hk with rfl | hk
  ·exact List.mem_map.mpr ⟨i,List.mem_range.mpr hi,rfl⟩
  ·exact h.2.2 k hk
def Grow (kvs kvs':List (Key × V)) : Prop:=∀ k v,valV kvs k=some v→∃ v',valV kvs' k=some v'
theorem Grow.refl (kvs:List (Key × V)) : Grow kvs kvs:=fun _ v h=>⟨v,h⟩
theorem name_lt {l:List Nat} (h:isName l=true) : l.length≤12∧l≠[]∧∀ c ∈ l,c < 127:=by
 cases l with
 | nil=>cases h
 | cons c r =>
  have hl:(c :: r).length≤12:=by
   refine Decidable.byContradiction fun z=>?_
   rw [name_long z] at h
   cases h
  rw [name_short hl,Bool.and_eq_true] at h
  refine ⟨hl,by simp,fun d hd=>?_⟩
  have:=List.all_eq_true.mp h.2 d hd
  rcases Bool.or_eq_true_iff.mp this with q | q
  ·unfold isL at q
   have:=of_decide_eq_true q
   omega
  ·unfold isF at q
   have:=of_decide_eq_true q
   omega
theorem Shelf.tlen {ns:List (List Nat)} {rs:List (List Row)} (S:Shelf ns rs) {i:Nat} (hi:i < rs.length) : (joinL [10] (texts rs i)).length≤200000:=by
 have h1:=join_len 10 (texts rs i)
 have h2:=sum_le (texts rs i) 400 fun p hp=>by
  obtain ⟨r,hr,rfl⟩:=List.mem_map.mp hp
  exact (S.ok i hi r hr).len
 have h3:=S.few i hi
 have h4:(texts rs i).length=(rw' rs i).length:=List.length_map _
 have h5:=Nat.mul_le_mul_right 400 h3
 rw [h4] at h1 h2
 omega
theorem Shelf.split {ns:List (List Nat)} {rs:List (List Row)} (S:Shelf ns rs) {i:Nat} (hi:i < rs.length) : splitL 10 (joinL [10] (texts rs i))=texts rs i:=by
 refine splitL_join 10 _ ?_ fun p hp=>?_
 ·intro e
  exact S.ne i hi (List.map_eq_nil_iff.mp e)
 ·obtain ⟨r,hr,rfl⟩:=List.mem_map.mp hp
  exact (S.ok i hi r hr).no10
def TupsAt (H:Hp) (ns:List (List Nat)) (ds:List (Nat × Nat × List Nat)) (refs:List V) : Prop:=refs.length=ds.length∧∀ (k:Nat) (d:Nat × Nat × List Nat),ds[k]? = some d→∃ b,refs[k]? = some (.ref b)∧H b=some (.tup [.str (tx (nm ns d.1)),.int (d.2.1:Nat),.str (tx d.2.2)])
theorem TupsAt.nil (H:Hp) (ns:List (List Nat)) : TupsAt H ns [] []:=⟨rfl,fun k d h=>by simp at h⟩
theorem TupsAt.mono {H H':Hp} {ns:List (List Nat)} {ds:List (Nat × Nat × List Nat)} {refs:List V} (h:TupsAt H ns ds refs) (s:∀ b xs,H b=some (.tup xs)→H' b=some (.tup xs)) : TupsAt H' ns ds refs:=
 ⟨h.1,fun k d e=>by obtain ⟨b,h1,h2⟩:=h.2 k d e; exact ⟨b,h1,s b _ h2⟩⟩
theorem TupsAt.app {H:Hp} {ns:List (List Nat)} {ds es:List (Nat × Nat × List Nat)} {refs more:List V} (h:TupsAt H ns ds refs) (h2:TupsAt H ns es more) : TupsAt H ns (ds++es) (refs++more):=by
 refine ⟨by rw [List.length_append,List.length_append,h.1,h2.1],fun k d e=>?_⟩
 by_cases hk:k < ds.length
 ·rw [List.getElem?_append_left hk] at e
  obtain ⟨b,q1,q2⟩:=h.2 k d e
  exact ⟨b,by rw [List.getElem?_append_left (by rw [h.1]; exact hk)]; exact q1,q2⟩
 ·rw [List.getElem?_append_right (by omega)] at e
  obtain ⟨b,q1,q2⟩:=h2.2 _ d e
  exact ⟨b,by rw [List.getElem?_append_right (by rw [h.1]; omega),h.1]; exact q1,q2⟩

def al (b:Nat) : Nat:=(LL++FF).getD b 0
theorem at_both:∀ k:Nat,k < 36→atI (PySem.Str.ofString "abcdefghijklmnopqrstuvwxyz0123456789").cps.toList (k:Int)=some (al k):=by decide +kernel
theorem al_inj:∀ b:Nat,b < 36→∀ c:Nat,c < 36→al b=al c→b=c:=by decide +kernel
theorem al_let:∀ b:Nat,b < 26→isL (al b)=true:=by decide +kernel
theorem al_any:∀ b:Nat,b < 36→(isL (al b) || isF (al b))=true:=by decide +kernel
structure Ix (xs:List Nat) : Prop where
 ne:xs≠[]
 len:xs.length≤12
 fst:∀ b,xs.head? = some b→b < 26
 all:∀ b ∈ xs,b < 36
theorem Ix.name {xs:List Nat} (h:Ix xs) : isName (xs.map al)=true:=by
 cases xs with
 | nil=>exact absurd rfl h.ne
 | cons b r =>
  have hl:(al b :: r.map al).length≤12:=by have:=h.len; simp at this ⊢; omega
  show isName (al b :: r.map al)=true
  rw [name_short hl,al_let b (h.fst b rfl),Bool.true_and]
  refine List.all_eq_true.mpr fun d hd=>?_
  obtain ⟨b',hb',rfl⟩:=List.mem_map.mp (show d ∈ (b :: r).map al from hd)
  exact al_any b' (h.all b' hb')
theorem join_one:∀ cs:List Nat,joinL [] (cs.map fun c=>[c])=cs
 | []=>rfl
 | [c]=>rfl
 | c :: d :: r=>by
  show [c]++[]++joinL [] ((d :: r).map fun c=>[c])=_
  rw [join_one (d :: r)]
  rfl
theorem sum_one:∀ cs:List Nat,((cs.map fun c=>tx [c]).map (·.length)).sum=cs.length
 | []=>rfl
 | c :: r=>by
  rw [List.map_cons,List.map_cons,List.sum_cons,sum_one r,tx_len]
  simp only [List.length_cons,List.length_nil]
  omega
structure Names (ns:List (List Nat)) (m:Nat) : Prop where
 len:ns.length=m
 name:∀ i,i < m→isName (nm ns i)=true
 inj:∀ i j,i < m→j < m→nm ns i=nm ns j→i=j
def xsB (bs:List Nat) (size at' j:Nat) : List Nat:=(List.range size).map fun k=>(bs.getD k 0+(if k=at' then j else 0)) % (if 0 < k then 36 else 26)
theorem md (x k:Nat) : x % (if 0 < k then 36 else 26) < 36:=by
 by_cases h:0 < k
 ·rw [if_pos h]; omega
 ·rw [if_neg h]; omega
theorem xsB_get (bs:List Nat) (size at' j k:Nat) (h:k < size) : (xsB bs size at' j)[k]? = some ((bs.getD k 0+(if k=at' then j else 0)) % (if 0 < k then 36 else 26)):=by
 unfold xsB
 rw [List.getElem?_map,List.getElem?_range h]
 rfl
theorem xsB_ix {bs:List Nat} {size at' j:Nat} (h1:1≤size) (h2:size≤12) : Ix (xsB bs size at' j):=by
 have hl:(xsB bs size at' j).length=size:=by unfold xsB; simp
 refine ⟨fun e=>by rw [e] at hl; simp at hl; omega,by omega,fun b hb=>?_,fun b hb=>?_⟩
 ·have e:(xsB bs size at' j)[0]? = some b:=by rw [← List.head?_eq_getElem?]; exact hb
  rw [xsB_get _ _ _ _ 0 (by omega)] at e
  have e2:=Option.some.inj e
  simp only [Nat.lt_irrefl,if_false] at e2
  omega
 ·unfold xsB at hb
  obtain ⟨k,_,rfl⟩:=List.mem_map.mp hb
  exact md _ _
theorem xsB_inj {bs:List Nat} {size at' i j:Nat} (h:at' < size) (hi:i < 20) (hj:j < 20) (e:(xsB bs size at' i).map al=(xsB bs size at' j).map al) : i=j:=by
 have e1:=congrArg (fun l=>l[at']?) e
 simp only [List.getElem?_map,xsB_get _ _ _ _ _ h] at e1
 have e2:=Option.some.inj e1
 have e3:=al_inj _ (md _ _) _ (md _ _) e2
 simp only [if_true] at e3
 by_cases h0:0 < at'
 ·simp only [if_pos h0] at e3; omega
 ·simp only [if_neg h0] at e3; omega
theorem get_map {α:Type} {f:α→V} {l:List α} {i:Nat} {y:V} (h:(l.map f)[i]? = some y) : ∃ x,l[i]? = some x∧y=f x:=by
 rw [List.getElem?_map] at h
 cases e:l[i]? with
 | none=>rw [e] at h; cases h
 | some x=>rw [e] at h; exact ⟨x,rfl,(Option.some.inj h).symm⟩
theorem nm_map {f:Nat→List Nat} {m i:Nat} (h:i < m) : nm ((List.range m).map f) i=f i:=by
 unfold nm
 rw [List.getD_eq_getElem?_getD,List.getElem?_map,List.getElem?_range h]
 rfl
theorem words_blank (l:List Nat) : wordsL (32 :: l)=wordsL l:=by
 unfold wordsL
 rw [splitL_cons,if_pos rfl]
 rfl
theorem words_blanks (l:List Nat) : ∀ n:Nat,wordsL (repL [32] n++l)=wordsL l
 | 0=>rfl
 | n+1=>by
  rw [repL_succ]
  show wordsL (32 :: (repL [32] n++l))=_
  rw [words_blank,words_blanks l n]
theorem split_end:∀ w:List Nat,32 ∉ w→splitL 32 w=[w]
 | [],_=>rfl
 | c :: w,h=>by
  rw [splitL_cons,if_neg (fun e=>h (by rw [e]; exact List.mem_cons_self)),split_end w fun z=>h (List.mem_cons_of_mem _ z)]
theorem split_word (l:List Nat) : ∀ w:List Nat,32 ∉ w→splitL 32 (w++32 :: l)=w :: splitL 32 l
 | [],_=>by
  show splitL 32 (32 :: l)=_
  rw [splitL_cons,if_pos rfl]
 | c :: w,h=>by
  show splitL 32 (c :: (w++32 :: l))=_
  rw [splitL_cons,if_neg (fun e=>h (by rw [e]; exact List.mem_cons_self)),split_word l w fun z=>h (List.mem_cons_of_mem _ z)]
theorem words_end {w:List Nat} (h:32 ∉ w) (hn:w≠[]) : wordsL w=[w]:=by
 unfold wordsL
 rw [split_end w h]
 exact neW_all fun p hp=>by rw [List.mem_singleton.mp hp]; exact hn
theorem words_word {w:List Nat} (l:List Nat) (h:32 ∉ w) (hn:w≠[]) : wordsL (w++32 :: l)=w :: wordsL l:=by
 unfold wordsL
 rw [split_word l w h]
 cases w with
 | nil=>exact absurd rfl hn
 | cons a r=>rfl
theorem words_head {c:Nat} (l:List Nat) (h:c≠32) : (wordsL (c :: l)).head? = some (c :: (splitL 32 l).headD []):=by
 unfold wordsL
 rw [splitL_cons,if_neg h]
 cases e:splitL 32 l with
 | nil=>exact absurd e (splitL_ne 32 l)
 | cons p ps=>rfl
theorem name_no32 {w:List Nat} (h:isName w=true) : 32 ∉ w∧10 ∉ w:=by
 cases w with
 | nil=>cases h
 | cons c r =>
  have hl:(c :: r).length≤12:=by
   refine Decidable.byContradiction fun z=>?_
   rw [name_long z] at h
   cases h
  rw [name_short hl,Bool.and_eq_true] at h
  have ha:=List.all_eq_true.mp h.2
  have k:∀ d,d ∈ c :: r→d≠32∧d≠10:=fun d hd=>by
   rcases Bool.or_eq_true_iff.mp (ha d hd) with q | q
   ·unfold isL at q
    have:=of_decide_eq_true q
    omega
   ·unfold isF at q
    have:=of_decide_eq_true q
    omega
  exact ⟨fun z=>(k 32 z).1 rfl,fun z=>(k 10 z).2 rfl⟩
def useRow (a b c:Nat) (w:List Nat) : List Nat:=repL [32] a++useW++repL [32] (1+b)++w++repL [32] c
theorem useRow_words (a b c:Nat) {w:List Nat} (h:isName w=true) : wordsL (useRow a b c w)=[useW,w]:=by
 have h3:=(name_no32 h).1
 have hn:=(name_lt h).2.1
 unfold useRow
 rw [Nat.add_comm 1 b,repL_succ,List.append_assoc,List.append_assoc,List.append_assoc,words_blanks]
 show wordsL (useW++32 :: (repL [32] b++(w++repL [32] c)))=_
 rw [words_word _ (by decide) (by decide),words_blanks]
 congr 1
 cases c with
 | zero =>
  rw [show repL [32] 0=([] : List Nat) from rfl,List.append_nil]
  exact words_end h3 hn
 | succ c =>
  rw [repL_succ]
  show wordsL (w++32 :: repL [32] c)=_
  rw [words_word _ h3 hn]
  congr 1
  have:=words_blanks [] c
  rw [List.append_nil] at this
  rw [this]
  rfl
theorem rep_mem {d n:Nat} (h:d ∈ repL [32] n) : d=32:=by
 unfold repL at h
 obtain ⟨l,h1,h2⟩:=List.mem_flatten.mp h
 rw [List.eq_of_mem_replicate h1] at h2
 simpa using h2
theorem useRow_no10 (a b c:Nat) {w:List Nat} (h:isName w=true) : 10 ∉ useRow a b c w:=by
 have h3:=(name_no32 h).2
 intro z
 unfold useRow at z
 rcases List.mem_append.mp z with z | z
 ·rcases List.mem_append.mp z with z | z
  ·rcases List.mem_append.mp z with z | z
   ·rcases List.mem_append.mp z with z | z
    ·exact absurd (rep_mem z) (by decide)
    ·exact absurd z (by decide)
   ·exact absurd (rep_mem z) (by decide)
  ·exact h3 z
 ·exact absurd (rep_mem z) (by decide)
theorem useRow_len (a b c:Nat) (w:List Nat) : (useRow a b c w).length=a+4+(1+b)+w.length+c:=by
 unfold useRow
 rw [List.length_append,List.length_append,List.length_append,List.length_append,repL_len,repL_len,repL_len]
 simp [useW]
theorem eqVs_refl1 (s:Str) : eqVs [V.str s] [V.str s]=true:=eqVs_refl rfl
theorem cUSES:(PySem.Str.ofString ".uses ")=tx [46,117,115,101,115,32]:=by decide +kernel
theorem cMID:(PySem.Str.ofString " .use ")=tx [32,46,117,115,101,32]:=by decide +kernel
theorem cBANG:(PySem.Str.ofString "!.use ")=tx [33,46,117,115,101,32]:=by decide +kernel
theorem cBB:(PySem.Str.ofString "  ")=tx [32,32]:=by decide +kernel
theorem cX:(PySem.Str.ofString "x")=tx [120]:=by decide +kernel
structure Plain (t:List Nat) : Prop where
 no10:10 ∉ t
 len:t.length≤400
 plain:(wordsL t).head?≠some useW
def opts (w l:List Nat) : List (List Nat):=[[46,117,115,101,115,32]++w,w++[32,46,117,115,101,32]++w,useW++w,[33,46,117,115,101,32]++w,[],[32,32],l,l,l]
theorem opts_ok {w l:List Nat} (hw:isName w=true) (h1:l.length≤40) (h2:10 ∉ l) : ∀ t ∈ opts w l,t.length≤40∧10 ∉ t:=by
 have hl:=(name_lt hw).1
 have h3:=(name_no32 hw).2
 have ap:∀ {a b:List Nat},10 ∉ a→10 ∉ b→10 ∉ a++b:=fun ha hb z=>(List.mem_append.mp z).elim ha hb
 intro t ht
 unfold opts at ht
 simp only [List.mem_cons,List.not_mem_nil,or_false] at ht
 rcases ht with rfl | rfl | rfl | rfl | rfl | rfl | rfl | rfl | rfl
 ·exact ⟨by rw [List.length_append]; simp; omega,ap (by decide) h3⟩
 ·exact ⟨by rw [List.length_append,List.length_append]; simp; omega,ap (ap h3 (by decide)) h3⟩
 ·exact ⟨by rw [List.length_append]; simp [useW]; omega,ap (by decide) h3⟩
 ·exact ⟨by rw [List.length_append]; simp; omega,ap (by decide) h3⟩
 ·exact ⟨by simp,by decide⟩
 ·exact ⟨by simp,by decide⟩
 ·exact ⟨h1,h2⟩
 ·exact ⟨h1,h2⟩
 ·exact ⟨h1,h2⟩

theorem andF {a:Prop} {_inst:Decidable a} {X A B:Prop} (hb:B) (hx:B→X) : if a then X else (if false=true then A else B):=by
 by_cases h:a
 ·rw [if_pos h]; exact hx hb
 ·rw [if_neg h]; exact hb
theorem nm_get {ns:List (List Nat)} {i:Nat} (h:i < ns.length) : ((ns.map tx).map V.str)[i]? = some (V.str (tx (nm ns i))):=by
 unfold nm
 rw [List.getElem?_map,List.getElem?_map,List.getElem?_eq_getElem h,List.getD_eq_getElem?_getD,List.getElem?_eq_getElem h]
 rfl

def BadS (s:List Nat) : Prop:=∀ w,wordsL s=[w]→isName w=false
theorem name_bad {s:List Nat} {c:Nat} (hc:c ∈ s) (h:(isL c || isF c)=false) : isName s=false:=by
 cases s with
 | nil=>cases hc
 | cons a r =>
  by_cases hl:(a :: r).length≤12
  ·rw [name_short hl]
   have:((a :: r).all fun d=>isL d || isF d)=false:=by
    refine Bool.eq_false_iff.mpr fun z=>?_
    have:=List.all_eq_true.mp z c hc
    rw [h] at this
    cases this
   rw [this,Bool.and_false]
  ·exact name_long hl
theorem name_bad1 {c:Nat} {r:List Nat} (h:isL c=false) : isName (c :: r)=false:=by
 by_cases hl:(c :: r).length≤12
 ·rw [name_short hl,h,Bool.false_and]
 ·exact name_long hl
theorem BadS.one {s:List Nat} (h1:32 ∉ s) (h2:s≠[]) (h:isName s=false) : BadS s:=fun w hw=>by
 rw [words_end h1 h2] at hw
 have:s=w:=by simpa using hw
 rw [← this]; exact h
theorem BadS.two {w s:List Nat} (h1:32 ∉ w) (h2:w≠[]) (h3:wordsL s≠[]) : BadS (w++32 :: s):=fun v hv=>by
 rw [words_word s h1 h2] at hv
 exact absurd (List.cons.inj hv).2 h3
structure OptOk (s:List Nat) : Prop where
 bad:BadS s
 no10:10 ∉ s
 len:s.length≤340
def abc:List Nat:=[97,98,99,100,101,102,103,104,105,106,107,108,48]
theorem cABC:(PySem.Str.ofString "abcdefghijkl0")=tx abc:=by decide +kernel
theorem cBA:(PySem.Str.ofString "A")=tx [65]:=by decide +kernel
theorem cB7:(PySem.Str.ofString "7")=tx [55]:=by decide +kernel
theorem cBm:(PySem.Str.ofString "-")=tx [45]:=by decide +kernel
theorem cBu:(PySem.Str.ofString "_")=tx [95]:=by decide +kernel
theorem cBc:(PySem.Str.ofString ",")=tx [44]:=by decide +kernel
theorem cBabc:(PySem.Str.ofString " a b c")=tx [32,97,32,98,32,99]:=by decide +kernel
theorem cBuse:(PySem.Str.ofString ".use ")=tx (useW++[32]):=by decide +kernel
def opts1 (w:List Nat) : List (List Nat):=[[],w++[65],w++[32]++w,[55]++cutL w none (some 11),abc,w++[45],cutL w none (some (-1))++[95]]
def opts2 (w:List Nat) (n:Nat) : List (List Nat):=[w++repL [32] n++w,w++[32,97,32,98,32,99],cutL w none (some 5)++[44]++cutL w (some 5) (some 11)]
theorem optsB_ok {w:List Nat} (hw:isName w=true) {n:Nat} (hn1:1≤n) (hn:n≤300) : ∀ t ∈ opts1 w++opts2 w n,OptOk t:=by
 have hl:=(name_lt hw).1
 have hne:=(name_lt hw).2.1
 have h32:=(name_no32 hw).1
 have h10:=(name_no32 hw).2
 have ap:∀ {x:Nat} {a b:List Nat},x ∉ a→x ∉ b→x ∉ a++b:=fun ha hb z=>(List.mem_append.mp z).elim ha hb
 have cu:∀ {x:Nat} {lo hi:Option Int},x ∉ w→x ∉ cutL w lo hi:=fun h z=>h (cut_mem z)
 have cl:∀ (lo hi:Option Int),(cutL w lo hi).length≤12:=fun lo hi=>Nat.le_trans (cut_len w lo hi) hl
 have hww:wordsL w≠[]:=by rw [words_end h32 hne]; simp
 intro t ht
 rcases List.mem_append.mp ht with ht | ht
 ·unfold opts1 at ht
  simp only [List.mem_cons,List.not_mem_nil,or_false] at ht
  rcases ht with rfl | rfl | rfl | rfl | rfl | rfl | rfl
  ·exact ⟨(fun w h=>nomatch h),by simp,by simp⟩
  ·exact ⟨.one (ap h32 (by decide)) (by simp) (name_bad (c:=65) (by simp) (by decide)),ap h10 (by decide),by rw [List.length_append]; simp; omega⟩
  ·refine ⟨?_,ap (ap h10 (by decide)) h10,by rw [List.length_append,List.length_append]; simp; omega⟩
   rw [List.append_assoc]
   exact .two h32 hne hww
  ·exact ⟨.one (ap (by decide) (cu h32)) (by simp) (name_bad1 (by decide)),ap (by decide) (cu h10),by rw [List.length_append]; have:=cl none (some 11); simp; omega⟩
  ·exact ⟨.one (by decide) (by decide) (by decide),by decide,by decide⟩
  ·exact ⟨.one (ap h32 (by decide)) (by simp) (name_bad (c:=45) (by simp) (by decide)),ap h10 (by decide),by rw [List.length_append]; simp; omega⟩
  ·exact ⟨.one (ap (cu h32) (by decide)) (by simp) (name_bad (c:=95) (by simp) (by decide)),ap (cu h10) (by decide),by rw [List.length_append]; have:=cl none (some (-1)); simp; omega⟩
 ·unfold opts2 at ht
  simp only [List.mem_cons,List.not_mem_nil,or_false] at ht
  rcases ht with rfl | rfl | rfl
  ·refine ⟨?_,ap (ap h10 fun z=>absurd (rep_mem z) (by decide)) h10,by rw [List.length_append,List.length_append,repL_len]; simp; omega⟩
   obtain ⟨k,rfl⟩ : ∃ k,n=k+1:=⟨n - 1,by omega⟩
   rw [repL_succ,List.append_assoc]
   refine .two h32 hne (s:=repL [32] k++w) ?_
   rw [words_blanks]
   exact hww
  ·exact ⟨.two h32 hne (by decide),ap h10 (by decide),by rw [List.length_append]; simp; omega⟩
  ·exact ⟨.one (ap (ap (cu h32) (by decide)) (cu h32)) (by simp) (name_bad (c:=44) (by simp) (by decide)),ap (ap (cu h10) (by decide)) (cu h10),by rw [List.length_append,List.length_append]; have:=cl none (some 5); have:=cl (some 5) (some 11); simp; omega⟩
structure BadRow (t:List Nat) : Prop where
 no10:10 ∉ t
 len:t.length≤400
 head:(wordsL t).head? = some useW
 bad:∀ w,wordsL t=[useW,w]→isName w=false
theorem badRow {s:List Nat} (h:OptOk s) {n:Nat} (hn:n≤3) : BadRow (repL [32] n++(useW++[32])++s):=by
 have e:wordsL (repL [32] n++(useW++[32])++s)=useW :: wordsL s:=by
  rw [List.append_assoc,words_blanks,List.append_assoc]
  exact words_word s (by decide) (by decide)
 refine ⟨fun z=>?_,?_,by rw [e]; rfl,fun w hw=>?_⟩
 ·rcases List.mem_append.mp z with z | z
  ·rcases List.mem_append.mp z with z | z
   ·exact absurd (rep_mem z) (by decide)
   ·exact absurd z (by decide)
  ·exact h.no10 z
 ·rw [List.length_append,List.length_append,repL_len]
  have:=h.len
  have:(useW++[32]).length=5:=rfl
  simp only [List.length_cons,List.length_nil]
  omega
 ·rw [e] at hw
  exact h.bad w (List.cons.inj hw).2

inductive Kd where
 | row
 | use (j:Nat)
 | lack
 | bad
structure Row2 where
 k:Kd
 t:List Nat
def kdS:Kd→Str
 | .row=>PySem.Str.ofString "row"
 | .use _=>PySem.Str.ofString "use"
 | .lack=>PySem.Str.ofString "lack"
 | .bad=>PySem.Str.ofString "bad"
def kdI:Kd→Int
 | .use j=>(j:Nat)
 | _=>-1
def rowV2 (r:Row2) : List V:=[.str (kdS r.k),.int (kdI r.k),.str (tx r.t)]
def KdOk (ns:List (List Nat)) (m:Nat) (t:List Nat) : Kd→Prop
 | .row=>(wordsL t).head?≠some useW
 | .use j=>j < m∧wordsL t=[useW,nm ns j]
 | .lack=>wordsL t=[useW,nm ns m]
 | .bad=>(wordsL t).head? = some useW∧∀ w,wordsL t=[useW,w]→isName w=false
structure Row2Ok (ns:List (List Nat)) (m:Nat) (r:Row2) : Prop where
 no10:10 ∉ r.t
 len:r.t.length≤400
 kd:KdOk ns m r.t r.k
def rw2 (rs:List (List Row2)) (i:Nat) : List Row2:=rs.getD i []

theorem rw2_set {rs:List (List Row2)} {j:Nat} (x:List Row2) (h:j < rs.length) (i:Nat) : rw2 (rs.set j x) i=if i=j then x else rw2 rs i:=by
 unfold rw2
 rw [List.getD_eq_getElem?_getD,List.getD_eq_getElem?_getD,List.getElem?_set]
 by_cases e:j=i
 ·subst e
  rw [if_pos rfl,if_pos h,if_pos rfl]
  rfl
 ·rw [if_neg e,if_neg (Ne.symm e)]
def RowsAt (H:Hp) (refs:List V) (rows:List Row2) : Prop:=refs.length=rows.length∧∀ (k:Nat) (r:Row2),rows[k]? = some r→∃ b,refs[k]? = some (.ref b)∧H b=some (.tup (rowV2 r))
theorem RowsAt.mono {H H':Hp} {refs:List V} {rows:List Row2} (h:RowsAt H refs rows) (s:∀ b xs,H b=some (.tup xs)→H' b=some (.tup xs)) : RowsAt H' refs rows:=
 ⟨h.1,fun k d e=>by obtain ⟨b,h1,h2⟩:=h.2 k d e; exact ⟨b,h1,s b _ h2⟩⟩
theorem RowsAt.snoc {H:Hp} {refs:List V} {rows:List Row2} (h:RowsAt H refs rows) {p:Addr} {r:Row2} (hp:H p=some (.tup (rowV2 r))) : RowsAt H (refs++[.ref p]) (rows++[r]):=by
 refine ⟨by rw [List.length_append,List.length_append,h.1]; rfl,fun k d e=>?_⟩
 by_cases hk:k < rows.length
 ·rw [List.getElem?_append_left hk] at e
  obtain ⟨b,q1,q2⟩:=h.2 k d e
  exact ⟨b,by rw [List.getElem?_append_left (by rw [h.1]; exact hk)]; exact q1,q2⟩
 ·rw [List.getElem?_append_right (by omega)] at e
  have hz:k - rows.length=0:=by
   have:=(List.getElem?_eq_some_iff.mp e).1
   simp at this
   omega
  rw [hz] at e
  have:r=d:=by simpa using e
  subst this
  exact ⟨p,by rw [List.getElem?_append_right (by rw [h.1]; omega),h.1,hz]; rfl,hp⟩
structure ShelfAt (H:Hp) (ps:Addr) (qs:List Addr) (rs:List (List Row2)) : Prop where
 top:H ps=some (.lst (qs.map V.ref))
 len:qs.length=rs.length
 nd:∀ (i j:Nat) (q:Addr),qs[i]? = some q→qs[j]? = some q→i=j
 ne:ps ∉ qs
 at':∀ (i:Nat) (q:Addr),qs[i]? = some q→∃ refs,H q=some (.lst refs)∧RowsAt H refs (rw2 rs i)
theorem ShelfAt.same {H H':Hp} {ps:Addr} {qs:List Addr} {rs:List (List Row2)} (S:ShelfAt H ps qs rs) (s:Same H H') : ShelfAt H' ps qs rs:=
 ⟨s _ _ S.top,S.len,S.nd,S.ne,fun i q h=>by obtain ⟨refs,h1,h2⟩:=S.at' i q h; exact ⟨refs,s _ _ h1,h2.mono fun b xs hb=>s _ _ hb⟩⟩
theorem ShelfAt.push {H:Hp} {ps:Addr} {qs:List Addr} {rs:List (List Row2)} (S:ShelfAt H ps qs rs) {j:Nat} {q p:Addr} {refs:List V} {r:Row2} (hq:qs[j]? = some q) (hr:H q=some (.lst refs)) (hp:H p=some (.tup (rowV2 r))) : ShelfAt (upd H q (.lst (refs++[.ref p]))) ps qs (rs.set j (rw2 rs j++[r])):=by
 have hj:j < rs.length:=by rw [← S.len]; exact (List.getElem?_eq_some_iff.mp hq).1
 have hm:q ∈ qs:=List.mem_of_getElem? hq
 have up:∀ b xs,H b=some (.tup xs)→upd H q (.lst (refs++[.ref p])) b=some (.tup xs):=fun b xs hb=>by
  rw [upd_ne (ne_of hb hr (by intro z; cases z))]
  exact hb
 refine ⟨?_,by rw [List.length_set]; exact S.len,S.nd,S.ne,fun i q' h=>?_⟩
 ·rw [upd_ne (fun e=>S.ne (by rw [e]; exact hm))]
  exact S.top
 ·rw [rw2_set _ hj]
  obtain ⟨refs',h1,h2⟩:=S.at' i q' h
  by_cases e:i=j
  ·subst e
   have e2:q' = q:=Option.some.inj (h.symm.trans hq)
   subst e2
   have e3:refs' = refs:=HO.lst.inj (Option.some.inj (h1.symm.trans hr))
   subst e3
   rw [if_pos rfl]
   exact ⟨_,upd_same,(h2.mono up).snoc (up p _ hp)⟩
  ·rw [if_neg e]
   refine ⟨refs',?_,h2.mono up⟩
   rw [upd_ne (fun z=>e (S.nd i j q (by rw [← z]; exact h) hq))]
   exact h1
structure Fill (ns:List (List Nat)) (rs:List (List Row2)) (m t:Nat) : Prop where
 len:rs.length=m
 few:∀ i,(rw2 rs i).length≤t
 ok:∀ i,i < m→∀ r ∈ rw2 rs i,Row2Ok ns m r
theorem Fill.push {ns:List (List Nat)} {rs:List (List Row2)} {m t j:Nat} (F:Fill ns rs m t) (hj:j < m) {r:Row2} (hr:Row2Ok ns m r) {t':Nat} (ht:t≤t') (h2:(rw2 rs j).length < t') : Fill ns (rs.set j (rw2 rs j++[r])) m t':=by
 have hj':j < rs.length:=by rw [F.len]; exact hj
 refine ⟨by rw [List.length_set]; exact F.len,fun i=>?_,fun i hi r' h=>?_⟩
 ·rw [rw2_set _ hj']
  by_cases e:i=j
  ·rw [if_pos e,List.length_append]
   exact h2
  ·rw [if_neg e]
   exact Nat.le_trans (F.few i) ht
 ·rw [rw2_set _ hj'] at h
  by_cases e:i=j
  ·subst e
   rw [if_pos rfl] at h
   rcases List.mem_append.mp h with h | h
   ·exact F.ok i hi r' h
   ·rw [List.mem_singleton.mp h]
    exact hr
  ·rw [if_neg e] at h
   exact F.ok i hi r' h
theorem rw2_nils (m i:Nat) : rw2 (List.replicate m []) i=[]:=by
 unfold rw2
 rw [List.getD_eq_getElem?_getD,List.getElem?_replicate]
 split <;> rfl

structure Shelf2 (ns:List (List Nat)) (rs:List (List Row2)) (m:Nat) : Prop where
 len:rs.length=m
 ne:∀ i,i < m→rw2 rs i≠[]
 few:∀ i,(rw2 rs i).length≤100
 ok:∀ i,i < m→∀ r ∈ rw2 rs i,Row2Ok ns m r
def texts2 (rs:List (List Row2)) (i:Nat) : List (List Nat):=(rw2 rs i).map Row2.t
theorem rowV2_2 (r:Row2) : (rowV2 r)[2]? = some (V.str (tx r.t)):=rfl
structure Texts2 (ns:List (List Nat)) (rs:List (List Row2)) (m s k:Nat) (pk:List (Key × V)) : Prop where
 val:∀ k',k' < k→valV pk (.inr (tx (nm ns ((k'+s) % m))))=some (.str (tx (joinL [10] (texts2 rs ((k'+s) % m)))))
 flat:∀ p ∈ pk,flatV p.2=true
 len:pk.length≤k
 only:∀ x ∈ pk.map (·.1),∃ i,i < m∧x=(Sum.inr (tx (nm ns i)) : Key)
theorem putK_len {kvs:List (Key × V)} {k:Key} {v:V} : (putK kvs k v).length≤kvs.length+1:=by
 cases e:valV kvs k with
 | none=>rw [putK_new v e,List.length_append]; exact Nat.le_refl _
 | some w =>
  unfold putK
  rw [if_pos (by rw [valV_any,e]; rfl),List.length_map]
  omega
theorem putK_flat {kvs:List (Key × V)} {k:Key} {v:V} (hv:flatV v=true) (h:∀ p ∈ kvs,flatV p.2=true) : ∀ p ∈ putK kvs k v,flatV p.2=true:=by
 intro p hp
 cases e:valV kvs k with
 | none =>
  rw [putK_new v e] at hp
  rcases List.mem_append.mp hp with hp | hp
  ·exact h p hp
  ·rw [List.mem_singleton.mp hp]
   exact hv
 | some w =>
  unfold putK at hp
  rw [if_pos (by rw [valV_any,e]; rfl)] at hp
  obtain ⟨p',hp',rfl⟩:=List.mem_map.mp hp
  by_cases e:p'.1=k
  ·rw [if_pos e]; exact hv
  ·rw [if_neg e]; exact h p' hp'

theorem Texts2.put {ns:List (List Nat)} {rs:List (List Row2)} {m s k:Nat} {pk:List (Key × V)} (N:Names ns (m+1)) (h0:0 < m) (h:Texts2 ns rs m s k pk) : Texts2 ns rs m s (k+1) (putK pk (.inr (tx (nm ns ((k+s) % m)))) (.str (tx (joinL [10] (texts2 rs ((k+s) % m)))))):=by
 have hlt:∀ x,x % m < m+1:=fun x=>Nat.lt_succ_of_lt (Nat.mod_lt _ h0)
 refine ⟨fun k' hk=>?_,putK_flat rfl h.flat,Nat.le_trans putK_len (Nat.succ_le_succ h.len),fun x hx=>?_⟩
 ·rw [valV_put]
  by_cases e:(Sum.inr (tx (nm ns ((k'+s) % m))) : Key)=Sum.inr (tx (nm ns ((k+s) % m)))
  ·rw [if_pos e,N.inj _ _ (hlt _) (hlt _) (tx_inj (Sum.inr.inj e))]
  ·rw [if_neg e]
   refine h.val k' ?_
   refine Nat.lt_of_le_of_ne (by omega) fun z=>e ?_
   rw [z]
 ·rcases putK_keys x hx with rfl | hx
  ·exact ⟨_,Nat.mod_lt _ h0,rfl⟩
  ·exact h.only x hx
theorem Texts2.fin {ns:List (List Nat)} {rs:List (List Row2)} {m s:Nat} {pk:List (Key × V)} (hs:s < m) (h:Texts2 ns rs m s m pk) : ∀ i,i < m→valV pk (.inr (tx (nm ns i)))=some (.str (tx (joinL [10] (texts2 rs i)))):=by
 intro i hi
 by_cases e:s≤i
 ·have:=h.val (i - s) (by omega)
  rw [show i - s+s=i by omega,Nat.mod_eq_of_lt hi] at this
  exact this
 ·have:=h.val (i+m - s) (by omega)
  rw [show i+m - s+s=i+m by omega,Nat.add_mod_right,Nat.mod_eq_of_lt hi] at this
  exact this
theorem Texts2.none {ns:List (List Nat)} {rs:List (List Row2)} {m s k:Nat} {pk:List (Key × V)} (N:Names ns (m+1)) (h:Texts2 ns rs m s k pk) : valV pk (.inr (tx (nm ns m)))=Option.none:=by
 cases e:valV pk (.inr (tx (nm ns m))) with
 | none=>rfl
 | some v =>
  obtain ⟨i,hi,e2⟩:=h.only _ (valV_in e)
  have:=N.inj m i (by omega) (by omega) (tx_inj (Sum.inr.inj e2))
  omega

def goodU:List (List Nat)→Bool
 | [_,w]=>isName w
 | _=>false
def kUse (r:Row2) : Option Nat:=match r.k with
 | .use j=>some j
 | _=>none
def uses2 (rs:List (List Row2)) (i:Nat) : List Nat:=(rw2 rs i).filterMap kUse
theorem mem_le_sum {x:Nat} : ∀ {l:List Nat},x ∈ l→x≤l.sum
 | a :: r,h=>by
  rw [List.sum_cons]
  rcases List.mem_cons.mp h with rfl | h
  ·omega
  ·have:=mem_le_sum h
   omega
def Parts2 (H:Hp) (d:Addr) (ns:List (List Nat)) (rs:List (List Row2)) (m:Nat) : Prop:=∃ pk,H d=some (.dK pk)∧(∀ i,i < m→valV pk (.inr (tx (nm ns i)))=some (.str (tx (joinL [10] (texts2 rs i)))))∧valV pk (.inr (tx (nm ns m)))=none
theorem Parts2.same {H H':Hp} {d:Addr} {ns:List (List Nat)} {rs:List (List Row2)} {m:Nat} (h:Parts2 H d ns rs m) (s:Same H H') : Parts2 H' d ns rs m:=by
 obtain ⟨pk,h1,h2⟩:=h
 exact ⟨pk,s d _ h1,h2⟩
theorem Shelf2.tlen {ns:List (List Nat)} {rs:List (List Row2)} {m:Nat} (S:Shelf2 ns rs m) {i:Nat} (hi:i < m) : (joinL [10] (texts2 rs i)).length≤200000:=by
 have h1:=join_len 10 (texts2 rs i)
 have h2:=sum_le (texts2 rs i) 400 fun p hp=>by
  obtain ⟨r,hr,rfl⟩:=List.mem_map.mp hp
  exact (S.ok i hi r hr).len
 have h3:=S.few i
 have h4:(texts2 rs i).length=(rw2 rs i).length:=List.length_map _
 have h5:=Nat.mul_le_mul_right 400 h3
 rw [h4] at h1 h2
 omega
theorem Shelf2.split {ns:List (List Nat)} {rs:List (List Row2)} {m:Nat} (S:Shelf2 ns rs m) {i:Nat} (hi:i < m) : splitL 10 (joinL [10] (texts2 rs i))=texts2 rs i:=by
 refine splitL_join 10 _ ?_ fun p hp=>?_
 ·intro e
  exact S.ne i hi (List.map_eq_nil_iff.mp e)
 ·obtain ⟨r,hr,rfl⟩:=List.mem_map.mp hp
  exact (S.ok i hi r hr).no10
theorem texts2_get {rs:List (List Row2)} {i k:Nat} {y:V} (h:(((texts2 rs i).map tx).map V.str)[k]? = some y) : ∃ r,(rw2 rs i)[k]? = some r∧y=V.str (tx r.t):=by
 obtain ⟨w,hw,rfl⟩:=get_strs h
 unfold texts2 at hw
 rw [List.getElem?_map] at hw
 cases e:(rw2 rs i)[k]? with
 | none=>rw [e] at hw; cases hw
 | some r =>
  rw [e] at hw
  have:r.t=w:=Option.some.inj hw
  exact ⟨r,rfl,by rw [this]⟩
theorem dget2 {H:Hp} {d:Addr} {pk:List (Key × V)} {s:Str} {o:Option V} (h:H d=some (.dK pk)) (hv:valV pk (.inr s)=o) : DGet H d (.str s) o:=hv ▸ DGet.k (k:=.inr s) h

structure OrdL (rs:List (List Row2)) (m:Nat) (L:List Nat) : Prop where
 lt:∀ a ∈ L,a < m
 nd:∀ (i j a:Nat),L[i]? = some a→L[j]? = some a→i=j
 ord:∀ (k a:Nat),L[k]? = some a→∀ b ∈ uses2 rs a,∃ k',k' < k∧L[k']? = some b
theorem inV_names {ns:List (List Nat)} {m x:Nat} (N:Names ns (m+1)) (hx:x < m) {l:List Nat} (hl:∀ a ∈ l,a < m) : inV (.str (tx (nm ns x))) (((l.map (nm ns)).map tx).map V.str)=decide (x ∈ l):=by
 unfold inV
 by_cases h:x ∈ l
 ·rw [decide_eq_true h]
  refine List.any_eq_true.mpr ⟨V.str (tx (nm ns x)),List.mem_map.mpr ⟨_,List.mem_map.mpr ⟨_,List.mem_map.mpr ⟨x,h,rfl⟩,rfl⟩,rfl⟩,?_⟩
  exact beq_self_eq_true (tx (nm ns x))
 ·rw [decide_eq_false h]
  refine Bool.eq_false_iff.mpr fun z=>?_
  obtain ⟨y,hy,e⟩:=List.any_eq_true.mp z
  obtain ⟨s,hs,rfl⟩:=List.mem_map.mp hy
  obtain ⟨p,hp,rfl⟩:=List.mem_map.mp hs
  obtain ⟨a,ha,rfl⟩:=List.mem_map.mp hp
  have e2:(tx (nm ns a) == tx (nm ns x))=true:=e
  have:=N.inj a x (by have:=hl a ha; omega) (by omega) (tx_inj (eq_of_beq e2))
  exact h (by rw [← this]; exact ha)
theorem nd_len {l:List Nat} {m:Nat} (nd:∀ (i j a:Nat),l[i]? = some a→l[j]? = some a→i=j) (lt:∀ a ∈ l,a < m) : l.length≤m:=by
 have h:l.Nodup:=by
  refine List.pairwise_iff_getElem.mpr fun i j hi hj hij e=>?_
  have:=nd i j l[i] (List.getElem?_eq_getElem hi) (by rw [e]; exact List.getElem?_eq_getElem hj)
  omega
 have:=sub_len l (List.range m) h fun x hx=>List.mem_range.mpr (lt x hx)
 rw [List.length_range] at this
 exact this
theorem snoc_get {l:List Nat} {b k a:Nat} (h:(l++[b])[k]? = some a) : (k < l.length∧l[k]? = some a)∨(k=l.length∧a=b):=by
 by_cases hkl:k < l.length
 ·rw [List.getElem?_append_left hkl] at h
  exact .inl ⟨hkl,h⟩
 ·rw [List.getElem?_append_right (by omega)] at h
  have hz:k - l.length=0:=by
   have:=(List.getElem?_eq_some_iff.mp h).1
   simp at this
   omega
  rw [hz] at h
  exact .inr ⟨by omega,by simpa using h.symm⟩
def vI (l:List Nat) : List V:=l.map fun b=>V.int (b:Nat)
theorem flat_ints (l:List Nat) : (vI l).all flatV=true:=by
 unfold vI
 rw [List.all_map]
 exact List.all_eq_true.mpr fun _ _=>rfl
theorem inV_int (a:Nat) (l:List Nat) : inV (.int (a:Nat)) (vI l)=decide (a ∈ l):=by
 unfold inV vI
 by_cases h:a ∈ l
 ·rw [decide_eq_true h]
  exact List.any_eq_true.mpr ⟨V.int (a:Nat),List.mem_map.mpr ⟨a,h,rfl⟩,beq_self_eq_true ((a:Nat) : Int)⟩
 ·rw [decide_eq_false h]
  refine Bool.eq_false_iff.mpr fun z=>?_
  obtain ⟨y,hy,e⟩:=List.any_eq_true.mp z
  obtain ⟨b,hb,rfl⟩:=List.mem_map.mp hy
  have e2:(((b:Nat) : Int) == ((a:Nat) : Int))=true:=e
  have e3:((b:Nat) : Int)=((a:Nat) : Int):=eq_of_beq e2
  exact h (by rw [← show b=a by omega]; exact hb)
theorem vI_len (l:List Nat) : (vI l).length=l.length:=List.length_map _

inductive Du where
 | bad
 | ring
 | lack
 | long
def duS:Option Du→Str
 | none=>PySem.Str.ofString ""
 | some .bad=>PySem.Str.ofString "BadRow"
 | some .ring=>PySem.Str.ofString "Ring"
 | some .lack=>PySem.Str.ofString "NoPart"
 | some .long=>PySem.Str.ofString "TooLong"
def duC (b r n t:Addr) : Du→Addr
 | .bad=>b
 | .ring=>r
 | .lack=>n
 | .long=>t
def goM (f:Nat→List Nat→Option Du × List Nat) (path:List Nat) : List Row2→List Nat→Option Du × List Nat
 | [],L=>(none,L)
 | r :: t,L=>match r.k with
  | .bad=>(some .bad,L)
  | .lack=>(some .lack,L)
  | .row=>goM f path t L
  | .use j=>if j ∈ path then (some .ring,L) else if j ∈ L then goM f path t L else match f j L with
   | (some x,L')=>(some x,L')
   | (none,L')=>goM f path t L'
def dfs (rs:List (List Row2)) : Nat→List Nat→Nat→List Nat→Option Du × List Nat
 | 0,_,_,L=>(none,L)
 | n+1,as,i,L=>match goM (fun j L=>dfs rs n (as++[i]) j L) (as++[i]) (rw2 rs i) L with
  | (some x,L')=>(some x,L')
  | (none,L')=>(none,L'++[i])
section
variable {f:Nat→List Nat→Option Du × List Nat} {path:List Nat} {r:Row2} {t:List Row2} {L:List Nat}
theorem goM_bad (h:r.k = .bad) : goM f path (r :: t) L=(some .bad,L):=by simp only [goM,h]
theorem goM_lack (h:r.k = .lack) : goM f path (r :: t) L=(some .lack,L):=by simp only [goM,h]
theorem goM_row (h:r.k = .row) : goM f path (r :: t) L=goM f path t L:=by simp only [goM,h]
theorem goM_ring {j:Nat} (h:r.k = .use j) (hj:j ∈ path) : goM f path (r :: t) L=(some .ring,L):=by simp only [goM,h,if_pos hj]
theorem goM_in {j:Nat} (h:r.k = .use j) (hj:j ∉ path) (hl:j ∈ L) : goM f path (r :: t) L=goM f path t L:=by simp only [goM,h,if_neg hj,if_pos hl]
theorem goM_call {j:Nat} {L':List Nat} (h:r.k = .use j) (hj:j ∉ path) (hl:j ∉ L) (e:f j L=(none,L')) : goM f path (r :: t) L=goM f path t L':=by simp only [goM,h,if_neg hj,if_neg hl,e]
theorem goM_callX {j:Nat} {x:Du} {L':List Nat} (h:r.k = .use j) (hj:j ∉ path) (hl:j ∉ L) (e:f j L=(some x,L')) : goM f path (r :: t) L=(some x,L'):=by simp only [goM,h,if_neg hj,if_neg hl,e]
end
theorem dfs_some {rs:List (List Row2)} {n:Nat} {as:List Nat} {i:Nat} {L:List Nat} {x:Du} {L':List Nat} (h:goM (fun j L=>dfs rs n (as++[i]) j L) (as++[i]) (rw2 rs i) L=(some x,L')) : dfs rs (n+1) as i L=(some x,L'):=by simp only [dfs,h]
theorem dfs_none {rs:List (List Row2)} {n:Nat} {as:List Nat} {i:Nat} {L:List Nat} {L':List Nat} (h:goM (fun j L=>dfs rs n (as++[i]) j L) (as++[i]) (rw2 rs i) L=(none,L')) : dfs rs (n+1) as i L=(none,L'++[i]):=by simp only [dfs,h]
def GoodR (L:List Nat) (r:Row2) : Prop:=r.k = .row∨∃ j,r.k = .use j∧j ∈ L
def GoodL (rs:List (List Row2)) (L:List Nat) : Prop:=∀ a ∈ L,∀ r ∈ rw2 rs a,GoodR L r
theorem GoodR.mono {L L':List Nat} {r:Row2} (h:GoodR L r) (s:∀ x ∈ L,x ∈ L') : GoodR L' r:=by
 rcases h with h | ⟨j,h1,h2⟩
 ·exact .inl h
 ·exact .inr ⟨j,h1,s j h2⟩
structure Post (rs:List (List Row2)) (m:Nat) (as:List Nat) (i:Nat) (L L':List Nat) : Prop where
 o:OrdL rs m L'
 good:GoodL rs L'
 sub:∀ x ∈ L,x ∈ L'
 off:∀ a ∈ as,a ∉ L'
 inn:i ∈ L'
structure Seen (rs:List (List Row2)) (m:Nat) (as:List Nat) (i:Nat) (L:List Nat) (k:Nat) (Lk:List Nat) : Prop where
 o:OrdL rs m Lk
 good:GoodL rs Lk
 sub:∀ x ∈ L,x ∈ Lk
 off:∀ a ∈ as++[i],a ∉ Lk
 done:∀ r ∈ (rw2 rs i).take k,GoodR Lk r
section
variable {rs:List (List Row2)} {m:Nat} {as:List Nat} {i:Nat} {L Lk L':List Nat} {k:Nat} {r:Row2}
theorem Seen.zero (o:OrdL rs m L) (g:GoodL rs L) (x:∀ a ∈ as++[i],a ∉ L) : Seen rs m as i L 0 L:=⟨o,g,fun _ h=>h,x,fun r h=>by simp at h⟩
theorem Seen.next (s:Seen rs m as i L k Lk) (hr:(rw2 rs i)[k]? = some r) (h:GoodR Lk r) : Seen rs m as i L (k+1) Lk:=by
 refine ⟨s.o,s.good,s.sub,s.off,fun r' h'=>?_⟩
 rw [List.take_add_one,hr] at h'
 rcases List.mem_append.mp h' with h' | h'
 ·exact s.done r' h'
 ·have:r' = r:=by simpa using h'
  rw [this]; exact h
theorem Seen.call {j:Nat} (s:Seen rs m as i L k Lk) (hr:(rw2 rs i)[k]? = some r) (hj:r.k = .use j) (p:Post rs m (as++[i]) j Lk L') : Seen rs m as i L (k+1) L':=by
 refine ⟨p.o,p.good,fun x hx=>p.sub x (s.sub x hx),p.off,fun r' h'=>?_⟩
 rw [List.take_add_one,hr] at h'
 rcases List.mem_append.mp h' with h' | h'
 ·exact (s.done r' h').mono p.sub
 ·have:r' = r:=by simpa using h'
  rw [this]; exact .inr ⟨j,hj,p.inn⟩
theorem uses_good {l:List Row2} (h:∀ r ∈ l,GoodR L r) : ∀ b ∈ l.filterMap kUse,b ∈ L:=fun b hb=>by
 obtain ⟨r,hr,e⟩:=List.mem_filterMap.mp hb
 rcases h r hr with h | ⟨j,h1,h2⟩
 ·unfold kUse at e; rw [h] at e; cases e
 ·unfold kUse at e; rw [h1] at e
  have:j=b:=Option.some.inj e
  rw [← this]; exact h2
theorem Seen.fin (s:Seen rs m as i L (rw2 rs i).length Lk) (him:i < m) (nd:∀ (k j a:Nat),(as++[i])[k]? = some a→(as++[i])[j]? = some a→k=j) : Post rs m as i L (Lk++[i]):=by
 have hd:=s.done
 rw [List.take_of_length_le (Nat.le_refl _)] at hd
 have hiL:i ∉ Lk:=s.off i (by simp)
 refine ⟨⟨fun a ha=>?_,fun k1 k2 a h1 h2=>?_,fun k a h b' hb'=>?_⟩,fun a ha r hr=>?_,fun x hx=>List.mem_append_left _ (s.sub x hx),fun a ha z=>?_,by simp⟩
 ·rcases List.mem_append.mp ha with h | h
  ·exact s.o.lt a h
  ·rw [List.mem_singleton.mp h]; exact him
 ·rcases snoc_get h1 with ⟨u1,u2⟩ | ⟨u1,u2⟩ <;> rcases snoc_get h2 with ⟨u3,u4⟩ | ⟨u3,u4⟩
  ·exact s.o.nd k1 k2 a u2 u4
  ·subst u4; exact absurd (List.mem_of_getElem? u2) hiL
  ·subst u2; exact absurd (List.mem_of_getElem? u4) hiL
  ·omega
 ·rcases snoc_get h with ⟨u1,u2⟩ | ⟨u1,u2⟩
  ·obtain ⟨k',hk',e'⟩:=s.o.ord k a u2 b' hb'
   exact ⟨k',hk',by rw [List.getElem?_append_left (by omega)]; exact e'⟩
  ·rw [u2] at hb'
   obtain ⟨k',e'⟩:=List.getElem?_of_mem (uses_good hd b' hb')
   have hk':=(List.getElem?_eq_some_iff.mp e').1
   exact ⟨k',by omega,by rw [List.getElem?_append_left hk']; exact e'⟩
 ·rcases List.mem_append.mp ha with h | h
  ·exact (s.good a h r hr).mono fun x hx=>List.mem_append_left _ hx
  ·rw [List.mem_singleton.mp h] at hr
   exact (hd r hr).mono fun x hx=>List.mem_append_left _ hx
 ·rcases List.mem_append.mp z with z | z
  ·exact s.off a (List.mem_append_left _ ha) z
  ·have e7:=List.mem_singleton.mp z
   subst e7
   obtain ⟨k',e'⟩:=List.getElem?_of_mem ha
   have hk':=(List.getElem?_eq_some_iff.mp e').1
   have:=nd k' as.length a (by rw [List.getElem?_append_left hk']; exact e') (by rw [List.getElem?_append_right (Nat.le_refl _),Nat.sub_self]; rfl)
   omega
end
def ctF (rs:List (List Row2)) : Nat→Nat→Nat
 | 0,_=>0
 | n+1,i=>((rw2 rs i).map fun r=>match r.k with
  | .use j=>ctF rs n j
  | _=>1).sum
def CT (rs:List (List Row2)) (i:Nat) : Nat:=ctF rs 9 i
def rowC (rs:List (List Row2)) (r:Row2) : Nat:=match r.k with
 | .use j=>CT rs j
 | _=>1
theorem ctF_succ (rs:List (List Row2)) (n i:Nat) : ctF rs (n+1) i=((rw2 rs i).map fun r=>match r.k with
  | .use j=>ctF rs n j
  | _=>1).sum:=rfl
theorem mem_uses {rs:List (List Row2)} {a j:Nat} {r:Row2} (hr:r ∈ rw2 rs a) (e:r.k = .use j) : j ∈ uses2 rs a:=List.mem_filterMap.mpr ⟨r,hr,by unfold kUse; rw [e]⟩
theorem ct_stable {rs:List (List Row2)} {m:Nat} {L:List Nat} (O:OrdL rs m L) : ∀ (k a:Nat),L[k]? = some a→∀ n n',k < n→k < n'→ctF rs n a=ctF rs n' a:=by
 intro k
 induction k using Nat.strongRecOn with
 | _ k ih =>
  intro a ha n n' h1 h2
  obtain ⟨n,rfl⟩ : ∃ x,n=x+1:=⟨n - 1,by omega⟩
  obtain ⟨n',rfl⟩ : ∃ x,n' = x+1:=⟨n' - 1,by omega⟩
  rw [ctF_succ,ctF_succ]
  refine congrArg List.sum (List.map_congr_left fun r hr=>?_)
  cases e:r.k with
  | use j =>
   obtain ⟨k',hk',e'⟩:=O.ord k a ha j (mem_uses hr e)
   exact ih k' hk' j e' n n' (by omega) (by omega)
  | row=>rfl
  | lack=>rfl
  | bad=>rfl
theorem ct_eq {rs:List (List Row2)} {m:Nat} {L:List Nat} (O:OrdL rs m L) (hm:m≤8) {i:Nat} (h:∀ b ∈ uses2 rs i,b ∈ L) : CT rs i=((rw2 rs i).map (rowC rs)).sum:=by
 have hl:=nd_len O.nd O.lt
 rw [show CT rs i=ctF rs (8+1) i from rfl,ctF_succ]
 refine congrArg List.sum (List.map_congr_left fun r hr=>?_)
 unfold rowC
 cases e:r.k with
 | use j =>
  obtain ⟨k',e'⟩:=List.getElem?_of_mem (h j (mem_uses hr e))
  have hk':=(List.getElem?_eq_some_iff.mp e').1
  exact ct_stable O k' j e' 8 9 (by omega) (by omega)
 | row=>rfl
 | lack=>rfl
 | bad=>rfl
theorem ct_in {rs:List (List Row2)} {m:Nat} {L:List Nat} (O:OrdL rs m L) (hm:m≤8) {i:Nat} (hi:i ∈ L) : CT rs i=((rw2 rs i).map (rowC rs)).sum:=by
 obtain ⟨k,hk⟩:=List.getElem?_of_mem hi
 refine ct_eq O hm fun b hb=>?_
 obtain ⟨k',_,e'⟩:=O.ord k i hk b hb
 exact List.mem_of_getElem? e'
def cTo (rs:List (List Row2)) (i k:Nat) : Nat:=(((rw2 rs i).take k).map (rowC rs)).sum
theorem cTo_succ {rs:List (List Row2)} {i k:Nat} {r:Row2} (h:(rw2 rs i)[k]? = some r) : cTo rs i (k+1)=cTo rs i k+rowC rs r:=by
 unfold cTo
 rw [List.take_add_one,h]
 simp
theorem cTo_all (rs:List (List Row2)) (i:Nat) : cTo rs i (rw2 rs i).length=((rw2 rs i).map (rowC rs)).sum:=by
 unfold cTo
 rw [List.take_of_length_le (Nat.le_refl _)]
theorem sum_take_le (l:List Nat) (k:Nat) : (l.take k).sum≤l.sum:=by
 have h:=List.take_append_drop k l
 have:=congrArg List.sum h
 rw [List.sum_append] at this
 omega
theorem cTo_le (rs:List (List Row2)) (i k:Nat) : cTo rs i k≤((rw2 rs i).map (rowC rs)).sum:=by
 unfold cTo
 rw [List.map_take]
 exact sum_take_le _ _
theorem drop_get {α:Type} {l:List α} {k:Nat} {r:α} (h:l[k]? = some r) : l.drop k=r :: l.drop (k+1):=by
 obtain ⟨h1,h2⟩:=List.getElem?_eq_some_iff.mp h
 rw [← h2]
 exact List.drop_eq_getElem_cons h1
def cKL (ns:List (List Nat)) (rs:List (List Row2)) (L:List Nat) : List (Key × V):=L.map fun x=>((Sum.inr (tx (nm ns x)) : Key),V.int (CT rs x:Nat))
theorem cKL_in {ns:List (List Nat)} {rs:List (List Row2)} {m x:Nat} (N:Names ns (m+1)) (hx:x < m) : ∀ {L:List Nat},(∀ a ∈ L,a < m)→x ∈ L→valV (cKL ns rs L) (.inr (tx (nm ns x)))=some (.int (CT rs x:Nat))
 | a :: r,h1,h=>by
  by_cases e:(Sum.inr (tx (nm ns a)) : Key)=Sum.inr (tx (nm ns x))
  ·have:=N.inj a x (by have:=h1 a List.mem_cons_self; omega) (by omega) (tx_inj (Sum.inr.inj e))
   subst this
   exact valV_pos (p:=((Sum.inr (tx (nm ns a)) : Key),V.int (CT rs a:Nat))) e
  ·have:valV (cKL ns rs (a :: r)) (.inr (tx (nm ns x)))=valV (cKL ns rs r) (.inr (tx (nm ns x))):=valV_neg (p:=((Sum.inr (tx (nm ns a)) : Key),V.int (CT rs a:Nat))) e
   rw [this]
   rcases List.mem_cons.mp h with h | h
   ·subst h; exact absurd rfl e
   ·exact cKL_in N hx (fun b hb=>h1 b (List.mem_cons_of_mem _ hb)) h
theorem cKL_out {ns:List (List Nat)} {rs:List (List Row2)} {m x:Nat} (N:Names ns (m+1)) (hx:x < m) : ∀ {L:List Nat},(∀ a ∈ L,a < m)→x ∉ L→valV (cKL ns rs L) (.inr (tx (nm ns x)))=none
 | [],_,_=>rfl
 | a :: r,h1,h2=>by
  have e:¬ (Sum.inr (tx (nm ns a)) : Key)=Sum.inr (tx (nm ns x)):=fun z=>by
   have:=N.inj a x (by have:=h1 a List.mem_cons_self; omega) (by omega) (tx_inj (Sum.inr.inj z))
   exact h2 (by rw [this]; exact List.mem_cons_self)
  have:valV (cKL ns rs (a :: r)) (.inr (tx (nm ns x)))=valV (cKL ns rs r) (.inr (tx (nm ns x))):=valV_neg (p:=((Sum.inr (tx (nm ns a)) : Key),V.int (CT rs a:Nat))) e
  rw [this]
  exact cKL_out N hx (fun b hb=>h1 b (List.mem_cons_of_mem _ hb)) fun z=>h2 (List.mem_cons_of_mem _ z)
def iKL (rs:List (List Row2)) (L:List Nat) : List (Key × V):=L.map fun (x:Nat)=>((Sum.inl (x:Int) : Key),V.int (CT rs x:Nat))
theorem iKL_in {rs:List (List Row2)} {x:Nat} : ∀ {L:List Nat},x ∈ L→valV (iKL rs L) (.inl (x:Int))=some (.int (CT rs x:Nat))
 | a :: r,h=>by
  by_cases e:(Sum.inl (a:Int) : Key)=Sum.inl (x:Int)
  ·have:a=x:=by have:=Sum.inl.inj e; omega
   subst this
   exact valV_pos (p:=((Sum.inl (a:Int) : Key),V.int (CT rs a:Nat))) e
  ·have:valV (iKL rs (a :: r)) (.inl (x:Int))=valV (iKL rs r) (.inl (x:Int)):=valV_neg (p:=((Sum.inl (a:Int) : Key),V.int (CT rs a:Nat))) e
   rw [this]
   rcases List.mem_cons.mp h with h | h
   ·subst h; exact absurd rfl e
   ·exact iKL_in h
theorem iKL_out {rs:List (List Row2)} {x:Nat} : ∀ {L:List Nat},x ∉ L→valV (iKL rs L) (.inl (x:Int))=none
 | [],_=>rfl
 | a :: r,h2=>by
  have e:¬ (Sum.inl (a:Int) : Key)=Sum.inl (x:Int):=fun z=>by
   have:a=x:=by have:=Sum.inl.inj z; omega
   exact h2 (by rw [this]; exact List.mem_cons_self)
  have:valV (iKL rs (a :: r)) (.inl (x:Int))=valV (iKL rs r) (.inl (x:Int)):=valV_neg (p:=((Sum.inl (a:Int) : Key),V.int (CT rs a:Nat))) e
  rw [this]
  exact iKL_out fun z=>h2 (List.mem_cons_of_mem _ z)
theorem dgetI {H:Hp} {d:Addr} {pk:List (Key × V)} {x:Nat} {o:Option V} (h:H d=some (.dK pk)) (hv:valV pk (.inl (x:Int))=o) : DGet H d (.int (x:Int)) o:=hv ▸ DGet.k (k:=.inl (x:Int)) h
theorem kd_head {ns:List (List Nat)} {m:Nat} {t:List Nat} {k:Kd} (h:KdOk ns m t k) (hk:k≠.row) : (wordsL t).head? = some useW:=by
 cases k with
 | row=>exact absurd rfl hk
 | use j=>have:wordsL t=_:=h.2; rw [this]; rfl
 | lack=>have:wordsL t=_:=h; rw [this]; rfl
 | bad=>exact h.1
theorem bad_good {t:List Nat} (k1:(wordsL t).head? = some useW) (k2:∀ w,wordsL t=[useW,w]→isName w=false) : goodU (wordsL t)=false:=by
 match e:wordsL t with
 | []=>rfl
 | [_]=>rfl
 | [u,w] =>
  rw [e] at k1
  have:u=useW:=Option.some.inj k1
  subst this
  exact k2 w e
 | _ :: _ :: _ :: _=>rfl
theorem row_words {t:List Nat} (hl:t.length≤400) : ∀ w ∈ wordsL t,w.length≤400:=fun w hw=>by
 have h1:=words_sum t
 have h2:w.length≤((wordsL t).map (·.length)).sum:=mem_le_sum (List.mem_map.mpr ⟨w,hw,rfl⟩ : w.length ∈ (wordsL t).map (·.length))
 have h3:0 < (wordsL t).length:=List.length_pos_of_mem hw
 omega
theorem inV_no {ns:List (List Nat)} {m x:Nat} (N:Names ns (m+1)) (hx:x≤m) {l:List Nat} (hl:∀ a ∈ l,a < m) (h:x ∉ l) : inV (.str (tx (nm ns x))) (((l.map (nm ns)).map tx).map V.str)=false:=by
 refine Bool.eq_false_iff.mpr fun z=>?_
 obtain ⟨y,hy,e⟩:=List.any_eq_true.mp z
 obtain ⟨s,hs,rfl⟩:=List.mem_map.mp hy
 obtain ⟨p,hp,rfl⟩:=List.mem_map.mp hs
 obtain ⟨a,ha,rfl⟩:=List.mem_map.mp hp
 have e2:(tx (nm ns a) == tx (nm ns x))=true:=e
 have:=N.inj a x (by have:=hl a ha; omega) (by omega) (tx_inj (eq_of_beq e2))
 exact h (by rw [← this]; exact ha)
theorem nd_snoc {l:List Nat} {b:Nat} (nd:∀ (k j a:Nat),l[k]? = some a→l[j]? = some a→k=j) (h:b ∉ l) : ∀ (k j a:Nat),(l++[b])[k]? = some a→(l++[b])[j]? = some a→k=j:=fun k1 k2 a h1 h2=>by
 rcases snoc_get h1 with ⟨u1,u2⟩ | ⟨u1,u2⟩ <;> rcases snoc_get h2 with ⟨u3,u4⟩ | ⟨u3,u4⟩
 ·exact nd k1 k2 a u2 u4
 ·subst u4; exact absurd (List.mem_of_getElem? u2) h
 ·subst u2; exact absurd (List.mem_of_getElem? u4) h
 ·omega
theorem lt_snoc {l:List Nat} {b m:Nat} (lt:∀ a ∈ l,a < m) (h:b < m) : ∀ a ∈ l++[b],a < m:=fun a ha=>by
 rcases List.mem_append.mp ha with h' | h'
 ·exact lt a h'
 ·rw [List.mem_singleton.mp h']; exact h
theorem Parts2.sameX {H H':Hp} {d c:Addr} {ns:List (List Nat)} {rs:List (List Row2)} {m:Nat} (h:Parts2 H d ns rs m) (hd:d≠c) (s:SameX c H H') : Parts2 H' d ns rs m:=by
 obtain ⟨pk,h1,h2⟩:=h
 exact ⟨pk,s d _ hd h1,h2⟩
theorem SameX.free {c:Addr} {H H':Hp} (s:SameX c H H') {o:HO} (hc:H' c=some o) {x:Addr} (hx:H' x=none) : H x=none:=by
 cases e:H x with
 | none=>rfl
 | some o' =>
  by_cases ed:x=c
  ·rw [ed,hc] at hx; cases hx
  ·rw [s x o' ed e] at hx; cases hx
theorem passN {P:Program} {w:World} {X:Cx} : Passes (CXe P w) X E0:=fun _ _ _ _ _ _ _ h=>by
 obtain ⟨x,C,H',B,a0,rfl,os,bare,un,hok,cov1,cov2,fl,ee⟩:=h
 exact ee.elim
def dueO (rs:List (List Row2)) (i:Nat) : Option Du:=match (dfs rs 9 [] i []).1 with
 | some x=>some x
 | none=>if 400 < CT rs i then some .long else none

theorem boot_ValueError:bootBuiltins "ValueError" = some (.type "ValueError"):=by decide +kernel
theorem one_nd (i:Nat) : ∀ (k j a:Nat),(([] : List Nat)++[i])[k]? = some a→(([] : List Nat)++[i])[j]? = some a→k=j:=fun k j a a1 a2=>by
 have b1:=(List.getElem?_eq_some_iff.mp a1).1
 have b2:=(List.getElem?_eq_some_iff.mp a2).1
 simp at b1 b2
 omega
theorem OrdL.nil (rs:List (List Row2)) (m:Nat) : OrdL rs m []:=⟨(fun a h=>nomatch h),fun k j a h=>by simp at h,fun k a h=>by simp at h⟩
theorem ShelfAt.sameX {H H':Hp} {ps c:Addr} {qs:List Addr} {rs:List (List Row2)} (S:ShelfAt H ps qs rs) (s:SameX c H H') (n1:ps≠c) (n2:c ∉ qs) (n3:∀ xs,H c≠some (.tup xs)) : ShelfAt H' ps qs rs:=
 ⟨s _ _ n1 S.top,S.len,S.nd,S.ne,fun i q h=>by
  obtain ⟨refs,h1,h2⟩:=S.at' i q h
  refine ⟨refs,s _ _ (fun e=>n2 (e ▸ List.mem_of_getElem? h)) h1,h2.mono fun b xs hb=>s _ _ (fun e=>n3 xs (e ▸ hb)) hb⟩⟩
theorem vI_snoc (l:List Nat) (i:Nat) : vI (l++[i])=vI l++[V.int (i:Nat)]:=by unfold vI; rw [List.map_append]; rfl
theorem sNe {s t:Str} (h:s≠t) : decide (V.str s=V.str t)=false:=decide_eq_false fun z=>h (V.str.inj z)
theorem bad_row:PySem.Str.ofString "row"≠PySem.Str.ofString "bad":=by decide +kernel
theorem bad_use:PySem.Str.ofString "use"≠PySem.Str.ofString "bad":=by decide +kernel
theorem bad_lack:PySem.Str.ofString "lack"≠PySem.Str.ofString "bad":=by decide +kernel
theorem lack_row:PySem.Str.ofString "row"≠PySem.Str.ofString "lack":=by decide +kernel
theorem lack_use:PySem.Str.ofString "use"≠PySem.Str.ofString "lack":=by decide +kernel
theorem use_row:PySem.Str.ofString "row"≠PySem.Str.ofString "use":=by decide +kernel
theorem duS_ne (x:Du) : duS (some x)≠PySem.Str.ofString "":=by cases x <;> decide +kernel
def whichB:Option Du→List Bool
 | none=>[]
 | some .bad=>[true,false,false,false,true,false,false,false,false]
 | some .ring=>[false,true,false,false,true,false,false,false,false]
 | some .lack=>[false,false,true,false,true,false,false,false,false]
 | some .long=>[false,false,false,true,true,false,false,false,false]
def DueAt (rs:List (List Row2)) (m i:Nat) (o:Option Du) : Prop:=(i=m∧o=some .lack)∨(i < m∧o=dueO rs i)
end K07
namespace K07
open PySem PySem.Spec L2 Tl

noncomputable abbrev s_is_use:Stmt:=top 30
noncomputable abbrev s_rows_in:Stmt:=top 28
noncomputable abbrev s_is_name:Stmt:=top 25
noncomputable abbrev s_is_good_use:Stmt:=top 31
noncomputable abbrev s_used_part:Stmt:=top 33
noncomputable abbrev s_words_in:Stmt:=top 24
noncomputable abbrev s_look_through:Stmt:=top 32
noncomputable abbrev s_put_together:Stmt:=top 34
noncomputable abbrev s_joined:Stmt:=top 29
noncomputable abbrev s_l_refusal:Stmt:=top 48
noncomputable abbrev s_l_asked:Stmt:=top 49
noncomputable abbrev s_l_cell_at:Stmt:=top 36
noncomputable abbrev s_l_count:Stmt:=top 47
noncomputable abbrev s_l_draw:Stmt:=top 37
noncomputable abbrev s_l_met:Stmt:=top 46
noncomputable abbrev s_l_names:Stmt:=top 39
noncomputable abbrev s_l_parts:Stmt:=top 45
noncomputable abbrev s_l_bad_row:Stmt:=top 42
noncomputable abbrev s_l_sign_by:Stmt:=top 38
noncomputable abbrev s_l_plain_row:Stmt:=top 40
noncomputable abbrev s_l_use_row:Stmt:=top 41
noncomputable abbrev s_l_shelf_row:Stmt:=top 43
noncomputable abbrev s_l_shelf:Stmt:=top 44
noncomputable abbrev s_law:Stmt:=top 50
set_option genInjectivity false in
structure Adr where
 f_is_use:Addr
 fd_is_use:FuncData
 f_rows_in:Addr
 fd_rows_in:FuncData
 f_is_name:Addr
 fd_is_name:FuncData
 f_is_good_use:Addr
 fd_is_good_use:FuncData
 f_used_part:Addr
 fd_used_part:FuncData
 f_words_in:Addr
 fd_words_in:FuncData
 f_look_through:Addr
 fd_look_through:FuncData
 f_put_together:Addr
 fd_put_together:FuncData
 f_joined:Addr
 fd_joined:FuncData
 f_l_refusal:Addr
 fd_l_refusal:FuncData
 f_l_asked:Addr
 fd_l_asked:FuncData
 f_l_cell_at:Addr
 fd_l_cell_at:FuncData
 f_l_count:Addr
 fd_l_count:FuncData
 f_l_draw:Addr
 fd_l_draw:FuncData
 f_l_met:Addr
 fd_l_met:FuncData
 f_l_names:Addr
 fd_l_names:FuncData
 f_l_parts:Addr
 fd_l_parts:FuncData
 f_l_bad_row:Addr
 fd_l_bad_row:FuncData
 f_l_sign_by:Addr
 fd_l_sign_by:FuncData
 f_l_plain_row:Addr
 fd_l_plain_row:FuncData
 f_l_use_row:Addr
 fd_l_use_row:FuncData
 f_l_shelf_row:Addr
 fd_l_shelf_row:FuncData
 f_l_shelf:Addr
 fd_l_shelf:FuncData
 f_law:Addr
 fd_law:FuncData
 c_BadCall:Addr
 c_BadForm:Addr
 c_BadName:Addr
 c_BadPaper:Addr
 c_BadRow:Addr
 c_BadWord:Addr
 c_Deep:Addr
 c_NoFoot:Addr
 c_NoGrowth:Addr
 c_NoLaying:Addr
 c_NoMark:Addr
 c_NoPart:Addr
 c_NoRow:Addr
 c_NoShort:Addr
 c_NothingDone:Addr
 c_Ring:Addr
 c_TooLong:Addr
 c_TrueleafError:Addr
 c_Twice:Addr
structure Txt (P:Program) (w:World) (K:PySem.W.Frag) (mg:Str→Option Value) (a:Adr) : Prop where
 d_is_use:DefOk K mg "is_use" s_is_use ["words"] a.f_is_use a.fd_is_use
 d_rows_in:DefOk K mg "rows_in" s_rows_in ["text"] a.f_rows_in a.fd_rows_in
 d_is_name:DefOk K mg "is_name" s_is_name ["word"] a.f_is_name a.fd_is_name
 d_is_good_use:DefOk K mg "is_good_use" s_is_good_use ["words"] a.f_is_good_use a.fd_is_good_use
 d_used_part:DefOk K mg "used_part" s_used_part ["parts","words","path"] a.f_used_part a.fd_used_part
 d_words_in:DefOk K mg "words_in" s_words_in ["row"] a.f_words_in a.fd_words_in
 d_look_through:DefOk K mg "look_through" s_look_through ["parts","path","counts"] a.f_look_through a.fd_look_through
 d_put_together:DefOk K mg "put_together" s_put_together ["parts","name"] a.f_put_together a.fd_put_together
 d_joined:DefOk K mg "joined" s_joined ["parts","name"] a.f_joined a.fd_joined
 d_l_refusal:DefOk K mg "_law_refusal" s_l_refusal ["parts","name"] a.f_l_refusal a.fd_l_refusal
 d_l_asked:DefOk K mg "_law_asked" s_l_asked ["parts","name","due"] a.f_l_asked a.fd_l_asked
 d_l_cell_at:DefOk K mg "_law_cell_at" s_l_cell_at ["script","k"] a.f_l_cell_at a.fd_l_cell_at
 d_l_count:DefOk K mg "_law_count" s_l_count ["shelf","i","counts"] a.f_l_count a.fd_l_count
 d_l_draw:DefOk K mg "_law_draw" s_l_draw ["cell","k","many"] a.f_l_draw a.fd_l_draw
 d_l_met:DefOk K mg "_law_met" s_l_met ["shelf","path","done"] a.f_l_met a.fd_l_met
 d_l_names:DefOk K mg "_law_names" s_l_names ["cell","many"] a.f_l_names a.fd_l_names
 d_l_parts:DefOk K mg "_law_parts" s_l_parts ["shelf","names","cell"] a.f_l_parts a.fd_l_parts
 d_l_bad_row:DefOk K mg "_law_bad_row" s_l_bad_row ["cell","name"] a.f_l_bad_row a.fd_l_bad_row
 d_l_sign_by:DefOk K mg "_law_sign_by" s_l_sign_by ["cell","k"] a.f_l_sign_by a.fd_l_sign_by
 d_l_plain_row:DefOk K mg "_law_plain_row" s_l_plain_row ["cell","name"] a.f_l_plain_row a.fd_l_plain_row
 d_l_use_row:DefOk K mg "_law_use_row" s_l_use_row ["cell","name"] a.f_l_use_row a.fd_l_use_row
 d_l_shelf_row:DefOk K mg "_law_shelf_row" s_l_shelf_row ["cell","j","names","faults"] a.f_l_shelf_row a.fd_l_shelf_row
 d_l_shelf:DefOk K mg "_law_shelf" s_l_shelf ["script","names","faults"] a.f_l_shelf a.fd_l_shelf
 d_law:DefOk K mg "law" s_law ["script"] a.f_law a.fd_law
 z_ValueError:mg "ValueError" = none
 z_all:mg "all" = none
 z_dict:mg "dict" = none
 z_enumerate:mg "enumerate" = none
 z_int:mg "int" = none
 z_isinstance:mg "isinstance" = none
 z_len:mg "len" = none
 z_range:mg "range" = none
 x_BadCall:ExcOk K mg "BadCall" a.c_BadCall
 x_BadForm:ExcOk K mg "BadForm" a.c_BadForm
 x_BadName:ExcOk K mg "BadName" a.c_BadName
 x_BadPaper:ExcOk K mg "BadPaper" a.c_BadPaper
 x_BadRow:ExcOk K mg "BadRow" a.c_BadRow
 x_BadWord:ExcOk K mg "BadWord" a.c_BadWord
 x_Deep:ExcOk K mg "Deep" a.c_Deep
 x_NoFoot:ExcOk K mg "NoFoot" a.c_NoFoot
 x_NoGrowth:ExcOk K mg "NoGrowth" a.c_NoGrowth
 x_NoLaying:ExcOk K mg "NoLaying" a.c_NoLaying
 x_NoMark:ExcOk K mg "NoMark" a.c_NoMark
 x_NoPart:ExcOk K mg "NoPart" a.c_NoPart
 x_NoRow:ExcOk K mg "NoRow" a.c_NoRow
 x_NoShort:ExcOk K mg "NoShort" a.c_NoShort
 x_NothingDone:ExcOk K mg "NothingDone" a.c_NothingDone
 x_Ring:ExcOk K mg "Ring" a.c_Ring
 x_TooLong:ExcOk K mg "TooLong" a.c_TooLong
 x_TrueleafError:ExcOk K mg "TrueleafError" a.c_TrueleafError
 x_Twice:ExcOk K mg "Twice" a.c_Twice
 t_BadRow_TrueleafError:Takes K a.c_BadRow a.c_TrueleafError
 t_Ring_TrueleafError:Takes K a.c_Ring a.c_TrueleafError
 t_NoPart_TrueleafError:Takes K a.c_NoPart a.c_TrueleafError
 t_TooLong_TrueleafError:Takes K a.c_TooLong a.c_TrueleafError
 lk_BadRow:excLk K a.c_BadRow=true
 lk_Ring:excLk K a.c_Ring=true
 lk_NoPart:excLk K a.c_NoPart=true
 lk_TooLong:excLk K a.c_TooLong=true
 ki_BadRow_BadRow:PySem.W.kitOne K (.ref a.c_BadRow) (.ref a.c_BadRow)=some true
 ki_BadRow_Ring:PySem.W.kitOne K (.ref a.c_BadRow) (.ref a.c_Ring)=some false
 ki_BadRow_NoPart:PySem.W.kitOne K (.ref a.c_BadRow) (.ref a.c_NoPart)=some false
 ki_BadRow_TooLong:PySem.W.kitOne K (.ref a.c_BadRow) (.ref a.c_TooLong)=some false
 ki_BadRow_ValueError:PySem.W.kitOne K (.ref a.c_BadRow) (.type "ValueError")=some true
 ki_BadRow_BadCall:PySem.W.kitOne K (.ref a.c_BadRow) (.ref a.c_BadCall)=some false
 ki_BadRow_Deep:PySem.W.kitOne K (.ref a.c_BadRow) (.ref a.c_Deep)=some false
 ki_BadRow_NoShort:PySem.W.kitOne K (.ref a.c_BadRow) (.ref a.c_NoShort)=some false
 ki_BadRow_BadForm:PySem.W.kitOne K (.ref a.c_BadRow) (.ref a.c_BadForm)=some false
 ki_BadRow_BadWord:PySem.W.kitOne K (.ref a.c_BadRow) (.ref a.c_BadWord)=some false
 ki_BadRow_BadPaper:PySem.W.kitOne K (.ref a.c_BadRow) (.ref a.c_BadPaper)=some false
 ki_BadRow_NoGrowth:PySem.W.kitOne K (.ref a.c_BadRow) (.ref a.c_NoGrowth)=some false
 ki_BadRow_Twice:PySem.W.kitOne K (.ref a.c_BadRow) (.ref a.c_Twice)=some false
 ki_BadRow_NoFoot:PySem.W.kitOne K (.ref a.c_BadRow) (.ref a.c_NoFoot)=some false
 ki_BadRow_NoMark:PySem.W.kitOne K (.ref a.c_BadRow) (.ref a.c_NoMark)=some false
 ki_BadRow_NoLaying:PySem.W.kitOne K (.ref a.c_BadRow) (.ref a.c_NoLaying)=some false
 ki_BadRow_BadName:PySem.W.kitOne K (.ref a.c_BadRow) (.ref a.c_BadName)=some false
 ki_BadRow_NoRow:PySem.W.kitOne K (.ref a.c_BadRow) (.ref a.c_NoRow)=some false
 ki_BadRow_NothingDone:PySem.W.kitOne K (.ref a.c_BadRow) (.ref a.c_NothingDone)=some false
 ki_Ring_BadRow:PySem.W.kitOne K (.ref a.c_Ring) (.ref a.c_BadRow)=some false
 ki_Ring_Ring:PySem.W.kitOne K (.ref a.c_Ring) (.ref a.c_Ring)=some true
 ki_Ring_NoPart:PySem.W.kitOne K (.ref a.c_Ring) (.ref a.c_NoPart)=some false
 ki_Ring_TooLong:PySem.W.kitOne K (.ref a.c_Ring) (.ref a.c_TooLong)=some false
 ki_Ring_ValueError:PySem.W.kitOne K (.ref a.c_Ring) (.type "ValueError")=some true
 ki_Ring_BadCall:PySem.W.kitOne K (.ref a.c_Ring) (.ref a.c_BadCall)=some false
 ki_Ring_Deep:PySem.W.kitOne K (.ref a.c_Ring) (.ref a.c_Deep)=some false
 ki_Ring_NoShort:PySem.W.kitOne K (.ref a.c_Ring) (.ref a.c_NoShort)=some false
 ki_Ring_BadForm:PySem.W.kitOne K (.ref a.c_Ring) (.ref a.c_BadForm)=some false
 ki_Ring_BadWord:PySem.W.kitOne K (.ref a.c_Ring) (.ref a.c_BadWord)=some false
 ki_Ring_BadPaper:PySem.W.kitOne K (.ref a.c_Ring) (.ref a.c_BadPaper)=some false
 ki_Ring_NoGrowth:PySem.W.kitOne K (.ref a.c_Ring) (.ref a.c_NoGrowth)=some false
 ki_Ring_Twice:PySem.W.kitOne K (.ref a.c_Ring) (.ref a.c_Twice)=some false
 ki_Ring_NoFoot:PySem.W.kitOne K (.ref a.c_Ring) (.ref a.c_NoFoot)=some false
 ki_Ring_NoMark:PySem.W.kitOne K (.ref a.c_Ring) (.ref a.c_NoMark)=some false
 ki_Ring_NoLaying:PySem.W.kitOne K (.ref a.c_Ring) (.ref a.c_NoLaying)=some false
 ki_Ring_BadName:PySem.W.kitOne K (.ref a.c_Ring) (.ref a.c_BadName)=some false
 ki_Ring_NoRow:PySem.W.kitOne K (.ref a.c_Ring) (.ref a.c_NoRow)=some false
 ki_Ring_NothingDone:PySem.W.kitOne K (.ref a.c_Ring) (.ref a.c_NothingDone)=some false
 ki_NoPart_BadRow:PySem.W.kitOne K (.ref a.c_NoPart) (.ref a.c_BadRow)=some false
 ki_NoPart_Ring:PySem.W.kitOne K (.ref a.c_NoPart) (.ref a.c_Ring)=some false
 ki_NoPart_NoPart:PySem.W.kitOne K (.ref a.c_NoPart) (.ref a.c_NoPart)=some true
 ki_NoPart_TooLong:PySem.W.kitOne K (.ref a.c_NoPart) (.ref a.c_TooLong)=some false
 ki_NoPart_ValueError:PySem.W.kitOne K (.ref a.c_NoPart) (.type "ValueError")=some true
 ki_NoPart_BadCall:PySem.W.kitOne K (.ref a.c_NoPart) (.ref a.c_BadCall)=some false
 ki_NoPart_Deep:PySem.W.kitOne K (.ref a.c_NoPart) (.ref a.c_Deep)=some false
 ki_NoPart_NoShort:PySem.W.kitOne K (.ref a.c_NoPart) (.ref a.c_NoShort)=some false
 ki_NoPart_BadForm:PySem.W.kitOne K (.ref a.c_NoPart) (.ref a.c_BadForm)=some false
 ki_NoPart_BadWord:PySem.W.kitOne K (.ref a.c_NoPart) (.ref a.c_BadWord)=some false
 ki_NoPart_BadPaper:PySem.W.kitOne K (.ref a.c_NoPart) (.ref a.c_BadPaper)=some false
 ki_NoPart_NoGrowth:PySem.W.kitOne K (.ref a.c_NoPart) (.ref a.c_NoGrowth)=some false
 ki_NoPart_Twice:PySem.W.kitOne K (.ref a.c_NoPart) (.ref a.c_Twice)=some false
 ki_NoPart_NoFoot:PySem.W.kitOne K (.ref a.c_NoPart) (.ref a.c_NoFoot)=some false
 ki_NoPart_NoMark:PySem.W.kitOne K (.ref a.c_NoPart) (.ref a.c_NoMark)=some false
 ki_NoPart_NoLaying:PySem.W.kitOne K (.ref a.c_NoPart) (.ref a.c_NoLaying)=some false
 ki_NoPart_BadName:PySem.W.kitOne K (.ref a.c_NoPart) (.ref a.c_BadName)=some false
 ki_NoPart_NoRow:PySem.W.kitOne K (.ref a.c_NoPart) (.ref a.c_NoRow)=some false
 ki_NoPart_NothingDone:PySem.W.kitOne K (.ref a.c_NoPart) (.ref a.c_NothingDone)=some false
 ki_TooLong_BadRow:PySem.W.kitOne K (.ref a.c_TooLong) (.ref a.c_BadRow)=some false
 ki_TooLong_Ring:PySem.W.kitOne K (.ref a.c_TooLong) (.ref a.c_Ring)=some false
 ki_TooLong_NoPart:PySem.W.kitOne K (.ref a.c_TooLong) (.ref a.c_NoPart)=some false
 ki_TooLong_TooLong:PySem.W.kitOne K (.ref a.c_TooLong) (.ref a.c_TooLong)=some true
 ki_TooLong_ValueError:PySem.W.kitOne K (.ref a.c_TooLong) (.type "ValueError")=some true
 ki_TooLong_BadCall:PySem.W.kitOne K (.ref a.c_TooLong) (.ref a.c_BadCall)=some false
 ki_TooLong_Deep:PySem.W.kitOne K (.ref a.c_TooLong) (.ref a.c_Deep)=some false
 ki_TooLong_NoShort:PySem.W.kitOne K (.ref a.c_TooLong) (.ref a.c_NoShort)=some false
 ki_TooLong_BadForm:PySem.W.kitOne K (.ref a.c_TooLong) (.ref a.c_BadForm)=some false
 ki_TooLong_BadWord:PySem.W.kitOne K (.ref a.c_TooLong) (.ref a.c_BadWord)=some false
 ki_TooLong_BadPaper:PySem.W.kitOne K (.ref a.c_TooLong) (.ref a.c_BadPaper)=some false
 ki_TooLong_NoGrowth:PySem.W.kitOne K (.ref a.c_TooLong) (.ref a.c_NoGrowth)=some false
 ki_TooLong_Twice:PySem.W.kitOne K (.ref a.c_TooLong) (.ref a.c_Twice)=some false
 ki_TooLong_NoFoot:PySem.W.kitOne K (.ref a.c_TooLong) (.ref a.c_NoFoot)=some false
 ki_TooLong_NoMark:PySem.W.kitOne K (.ref a.c_TooLong) (.ref a.c_NoMark)=some false
 ki_TooLong_NoLaying:PySem.W.kitOne K (.ref a.c_TooLong) (.ref a.c_NoLaying)=some false
 ki_TooLong_BadName:PySem.W.kitOne K (.ref a.c_TooLong) (.ref a.c_BadName)=some false
 ki_TooLong_NoRow:PySem.W.kitOne K (.ref a.c_TooLong) (.ref a.c_NoRow)=some false
 ki_TooLong_NothingDone:PySem.W.kitOne K (.ref a.c_TooLong) (.ref a.c_NothingDone)=some false
 m_FIGURES:∃ t,mg "FIGURES" = some (.str (PySem.Str.ofString "0123456789") t)
 m_LETTERS:∃ t,mg "LETTERS" = some (.str (PySem.Str.ofString "abcdefghijklmnopqrstuvwxyz") t)
 m_LONGEST_NAME:∃ t,mg "LONGEST_NAME" = some (.int 12 t)
 m_MOST_ROWS:∃ t,mg "MOST_ROWS" = some (.int 400 t)
section
variable {P:Program} {w:World} {K:PySem.W.Frag} {mg:Str→Option Value} {base:Heap} {a:Adr}

def sp_is_use (K:PySem.W.Frag) : Sp:=fun vs H Q _=>∃ (a:Addr) (ws:List (List Nat)),vs=[.ref a]∧SqL K H a ((ws.map tx).map V.str)∧∀ H',Same H H'→Q (.bl (decide (ws.head? = some useW))) H'
theorem sc_is_use:FnScope ["words"] ["words"] (defScope s_is_use):=⟨rfl,rfl,rfl,by decide +kernel,rfl,by decide +kernel,by decide +kernel⟩
theorem ok_is_use (T:Txt P w K mg a) : FnOk P w K mg base CX0 1 a.f_is_use a.fd_is_use ["words"] (sp_is_use K):=by
 refine T.d_is_use.fn.ok sc_is_use (fun vs H Q E h=>?_) (fun cdv A outer s H vs Q E hr h=>?_)
 ·obtain ⟨a,ws,rfl,_⟩:=h
  rfl
 obtain ⟨wa,ws,rfl,hS,q⟩:=h
 have hu:=Nat.lt_of_succ_lt (hu_of hr)
 refine ⟨_,(pss_one (ps_ret (pe_and (pe_cmpR (op_neL hu) (pv 0) (pe_lst pa_nil) (nomark _)) (pe_one (pe_cmpR op_eq (pe_ix ix_list (pv 0) pe_int (fun _ _=>rfl)) pe_str (nomark _)))))),?_⟩
 refine ⟨_,rfl,small (by simp),fun p1 hp1=>?_⟩
 have g1:=same_new hp1 (.lst [])
 refine ⟨_,_,_,_,rfl,rfl,g1.seq hS,SqL.of upd_same,flat_strs _,rfl,_,rfl,?_⟩
 cases ws with
 | nil =>
  refine iteF ?_
  exact q _ g1
 | cons w r =>
  refine iteT ?_
  refine ⟨_,rfl,_,_,_,V.str (tx w),rfl,rfl,g1.seq hS,at_zero _ _,rfl,?_⟩
  have e:decide (V.str (tx w)=V.str (PySem.Str.ofString ".use"))=decide ((w :: r).head? = some useW):=by
   rw [cUSE,List.head?_cons]
   by_cases h:w=useW
   ·subst h
    rw [decide_eq_true rfl,decide_eq_true rfl]
   ·rw [decide_eq_false (fun z=>h (Option.some.inj z)),decide_eq_false (fun z=>h (tx_inj (V.str.inj z)))]
  rw [e]
  exact q _ g1
def sp_rows_in:Sp:=fun vs H Q _=>∃ l:List Nat,vs=[.str (tx l)]∧l.length≤200000∧∀ p,H p=none→Q (.ref p) (upd H p (.lst (((splitL 10 l).map tx).map V.str)))
theorem sc_rows_in:FnScope ["text"] ["text"] (defScope s_rows_in):=⟨rfl,rfl,rfl,by decide +kernel,rfl,by decide +kernel,by decide +kernel⟩
theorem ok_rows_in (T:Txt P w K mg a) : FnOk P w K mg base CX0 1 a.f_rows_in a.fd_rows_in ["text"] sp_rows_in:=by
 refine T.d_rows_in.fn.ok sc_rows_in (fun vs H Q E h=>?_) (fun cdv A outer s H vs Q E hr h=>?_)
 ·obtain ⟨l,rfl,_⟩:=h
  rfl
 obtain ⟨l,rfl,hl,q⟩:=h
 have hu:=Nat.lt_of_succ_lt (hu_of hr)
 refine ⟨_,(pss_one (ps_ret (pe_bm PySem.F.plainAttrs_str PySem.F.slot_str_split PySem.F.type_str_split mt_split1 (pv 0) (pa_cons pe_str pa_nil)))),?_⟩
 refine ⟨_,rfl,rfl,_,10,rfl,congrArg (fun z=>[V.str z]) c10,?_,fun p hp=>?_⟩
 ·rw [tx_len]
  exact small2 (by omega)
 ·have:=q p hp
  rw [← split_tx] at this
  exact this
def sp_is_name:Sp:=fun vs H Q _=>∃ l:List Nat,vs=[.str (tx l)]∧l.length≤1000∧∀ H',Same H H'→Q (.bl (isName l)) H'
theorem sc_is_name:FnScope ["word"] ["word"] (defScope s_is_name):=⟨rfl,rfl,rfl,by decide +kernel,rfl,by decide +kernel,by decide +kernel⟩
theorem ok_is_name (T:Txt P w K mg a) : FnOk P w K mg base CX0 1 a.f_is_name a.fd_is_name ["word"] sp_is_name:=by
 have z_all:=T.z_all
 have z_len:=T.z_len
 have m_FIGURES:=T.m_FIGURES
 have m_LETTERS:=T.m_LETTERS
 have m_LONGEST_NAME:=T.m_LONGEST_NAME
 obtain ⟨t_FIGURES,m_FIGURES⟩:=m_FIGURES
 obtain ⟨t_LETTERS,m_LETTERS⟩:=m_LETTERS
 obtain ⟨t_LONGEST_NAME,m_LONGEST_NAME⟩:=m_LONGEST_NAME
 refine T.d_is_name.fn.ok sc_is_name (fun vs H Q E h=>?_) (fun cdv A outer s H vs Q E hr h=>?_)
 ·obtain ⟨l,rfl,_⟩:=h
  rfl
 obtain ⟨l,rfl,hl,q⟩:=h
 have hu:=Nat.lt_of_succ_lt (hu_of hr)
 refine ⟨_,(pss_cons (ps_if (PW.pt (pw_or (pt_cmpR op_eq (pv 0) pe_str (nomark _)) (pw_or1 (pt_cmpR op_gt (pe_callB call_len_str rfl z_len PySem.boot_len (pa_cons (pv 0) pa_nil)) (pe_glob (v:=.int 12) rfl m_LONGEST_NAME ⟨_,rfl⟩) (nomark _))))) (pss_one (ps_ret pe_bl)) pss_nil)
   (pss_one (ps_ret (pe_and (pe_cmpR op_in_str (pe_ix ix_str (pv 0) pe_int (fun _ _=>rfl)) (pe_glob (v:=.str (PySem.Str.ofString "abcdefghijklmnopqrstuvwxyz")) rfl m_LETTERS ⟨_,rfl⟩) (by with_unfolding_all rfl)) (pe_one (pe_callB (call_all rfl) rfl z_all PyProof.Rows.boot_all (pa_cons (pe_lc rfl (lcok (caps:=[]) (js:=[]) (cap:=trivial)) (pi_str (pv 0)) (fun _ _ _ _=>pts_nil) (fun _ _ _ _=>(pe_or (pe_cmpR op_in_str (pv 0) (pe_glob (v:=.str (PySem.Str.ofString "abcdefghijklmnopqrstuvwxyz")) rfl m_LETTERS ⟨_,rfl⟩) (by with_unfolding_all rfl)) (pe_one (pe_cmpR op_in_str (pv 0) (pe_glob (v:=.str (PySem.Str.ofString "0123456789")) rfl m_FIGURES ⟨_,rfl⟩) (by with_unfolding_all rfl)))))) pa_nil))))))),?_⟩
 refine ⟨_,rfl,rfl,_,rfl,?_⟩
 cases l with
 | nil =>
  rw [is_empty]
  refine iteT ?_
  refine iteT ?_
  exact q H (Same.refl _)
 | cons c r =>
  rw [ne_empty]
  refine iteF ?_
  refine ⟨_,rfl,_,rfl,small (by rw [tx_len]; exact hl),_,_,rfl,rfl,_,rfl,?_⟩
  rw [tx_len]
  refine ite2 (fun h=>?_) (fun h=>?_)
  ·have h2:¬ (c :: r).length≤12:=by have:=of_decide_eq_true h; omega
   have:=q H (Same.refl _)
   rw [name_long h2] at this
   exact this
  ·have h2:(c :: r).length≤12:=by
    refine Nat.le_of_not_lt fun z=>h (decide_eq_true ?_)
    omega
   rw [name_short h2] at q
   refine ⟨_,rfl,_,_,c,rfl,rfl,small (by rw [tx_len]; exact hl),at_zero c r,_,_,rfl,rfl,_,rfl,?_⟩
   rw [in_let]
   cases hc:isL c with
   | false =>
    rw [hc] at q
    refine iteF ?_
    exact q H (Same.refl _)
   | true =>
    rw [hc] at q
    refine iteT ?_
    refine ⟨_,rfl,_,rfl,lc_str (x:=tx (c :: r)) (fun i ys H2=>H2=H∧ys=(((c :: r).take i).map fun d=>isL d || isF d).map V.bl) ⟨rfl,rfl⟩ ?_ ?_ ?_⟩
    ·rintro i ys H2 hi ⟨rfl,rfl⟩
     rw [List.length_map,List.length_map,List.length_take]
     exact Nat.lt_of_le_of_lt (show _≤12 by omega) (small1000 (by omega))
    ·rintro i d ys H2 hd ⟨rfl,rfl⟩
     rw [tx_cps] at hd
     refine yes_go ?_
     refine ⟨_,rfl,_,_,rfl,rfl,_,rfl,?_⟩
     rw [in_let,List.take_add_one,hd]
     cases h3:isL d with
     | true =>
      refine iteT ?_
      refine ⟨rfl,?_⟩
      simp [h3]
     | false =>
      refine iteF ?_
      refine ⟨_,rfl,_,_,rfl,rfl,?_⟩
      rw [in_fig]
      refine ⟨rfl,?_⟩
      simp [h3]
    ·rintro ys H2 ⟨rfl,rfl⟩ p hp
     rw [tx_size,List.take_of_length_le (Nat.le_refl _)]
     refine ⟨_,_,rfl,SqL.of upd_same,?_⟩
     rw [all_id]
     have:=q _ (same_new hp (.lst ((((c :: r)).map fun d=>isL d || isF d).map V.bl)))
     rw [Bool.true_and] at this
     exact this
def sp_is_good_use (K:PySem.W.Frag) : Sp:=fun vs H Q _=>∃ (a:Addr) (ws:List (List Nat)),vs=[.ref a]∧SqL K H a ((ws.map tx).map V.str)∧(∀ w ∈ ws,w.length≤400)∧∀ H',Same H H'→Q (.bl (goodU ws)) H'
theorem sc_is_good_use:FnScope ["words"] ["words"] (defScope s_is_good_use):=⟨rfl,rfl,rfl,by decide +kernel,rfl,by decide +kernel,by decide +kernel⟩
theorem ok_is_good_use (T:Txt P w K mg a) : FnOk P w K mg base CX0 2 a.f_is_good_use a.fd_is_good_use ["words"] (sp_is_good_use K):=by
 have g_is_name:=ok_is_name (P:=P) (w:=w) (base:=base) T
 have d_is_name:=T.d_is_name
 have z_len:=T.z_len
 refine T.d_is_good_use.fn.ok sc_is_good_use (fun vs H Q E h=>?_) (fun cdv A outer s H vs Q E hr h=>?_)
 ·obtain ⟨a,ws,rfl,_⟩:=h
  rfl
 obtain ⟨wa,ws,rfl,hS,hw,q⟩:=h
 have hu:=Nat.lt_of_succ_lt (hu_of hr)
 refine ⟨_,(pss_one (ps_ret (pe_and (pe_cmpR op_eq (pe_callB call_len_seq rfl z_len PySem.boot_len (pa_cons (pv 0) pa_nil)) pe_int (nomark _)) (pe_one (pe_callD d_is_name g_is_name (hr.mono (by decide)) rfl (pa_cons (pe_ix ix_list (pv 0) pe_int (fun _ _=>rfl)) pa_nil)))))),?_⟩
 refine ⟨_,rfl,_,_,rfl,.inl hS,rfl,_,rfl,?_⟩
 match ws,hS,hw,q with
 | [],hS,hw,q=>exact ite2 (fun c=>absurd (of_decide_eq_true c) (by intro z; cases z)) (fun _=>q H (Same.refl H))
 | [_],hS,hw,q=>exact ite2 (fun c=>absurd (of_decide_eq_true c) (by intro z; cases z)) (fun _=>q H (Same.refl H))
 | _ :: _ :: _ :: _,hS,hw,q=>exact ite2 (fun c=>absurd (V.int.inj (of_decide_eq_true c)) (by simp only [List.length_map,List.length_cons]; omega)) (fun _=>q H (Same.refl H))
 | [u,w],hS,hw,q =>
  refine iteT ?_
  have hl:=hw w (by simp)
  exact ⟨_,rfl,_,_,_,V.str (tx w),rfl,rfl,hS,rfl,w,rfl,by omega,fun H2 s2=>q H2 s2⟩
def sp_used_part (K:PySem.W.Frag) (CB CR CN:Addr) : Sp:=fun vs H Q E=>∃ (d wa pa:Addr) (ns:List (List Nat)) (rs:List (List Row2)) (m:Nat) (as:List Nat) (t:List Nat) (k:Kd),vs=[.ref d,.ref wa,.ref pa]∧Names ns (m+1)∧Parts2 H d ns rs m∧SqL K H wa (((wordsL t).map tx).map V.str)∧SqL K H pa (((as.map (nm ns)).map tx).map V.str)∧(∀ a ∈ as,a < m)∧KdOk ns m t k∧t.length≤400∧k≠.row ∧
  (k = .bad→∀ H',Same H H'→E (.ref CB) none H')∧(k = .lack→∀ H',Same H H'→E (.ref CN) none H')∧(∀ j,k = .use j→(j ∈ as→∀ H',Same H H'→E (.ref CR) none H')∧(j ∉ as→∀ H',Same H H'→Q (.str (tx (nm ns j))) H'))
theorem sc_used_part:FnScope ["parts","words","path","used"] ["parts","words","path"] (defScope s_used_part):=⟨rfl,rfl,rfl,by decide +kernel,rfl,by decide +kernel,by decide +kernel⟩
theorem ok_used_part (T:Txt P w K mg a) : FnOk P w K mg base (CXe P w) 3 a.f_used_part a.fd_used_part ["parts","words","path"] (sp_used_part K a.c_BadRow a.c_Ring a.c_NoPart):=by
 have g_is_good_use:=ok_is_good_use (P:=P) (w:=w) (base:=base) T
 have d_is_good_use:=T.d_is_good_use
 have x_BadRow:=T.x_BadRow
 have x_NoPart:=T.x_NoPart
 have x_Ring:=T.x_Ring
 refine T.d_used_part.fn.okE sc_used_part (fun vs H Q E h=>?_) (fun cdv A outer s H vs Q E hr h=>?_)
 ·obtain ⟨d,wa,pa,ns,rs,m,as,t,k,rfl,_⟩:=h
  rfl
 obtain ⟨d,wa,pa,ns,rs,m,as,t,k,rfl,N,hP,hW,hA,lt,kd,tl,hk,q1,q2,q3⟩:=h
 have hu:=Nat.lt_of_succ_lt (hu_of hr)
 refine ⟨_,(pss_cons (ps_if (pt_not (pt_val (pe_callD d_is_good_use g_is_good_use (hr.mono (by decide)) rfl (pa_cons (pv 1) pa_nil)) (fun _=>rfl))) (pss_one (ps_raise rfl wish_cx x_BadRow rfl (pa_cons pe_str pa_nil))) pss_nil)
   (pss_cons (ps_set (i:=3) sc_used_part.nd rfl (Or.inl rfl) (pe_ix ix_list (pv 1) pe_int (fun _ _=>rfl)))
   (pss_cons (ps_if (pt_cmpR op_in_seq (pv 3) (pv 2) (by with_unfolding_all rfl)) (pss_one (ps_raise rfl wish_cx x_Ring rfl (pa_cons (pe_fstr (pj_cons pp_str (pj_cons (pp_repr (pv 3)) (pj_cons pp_str pj_nil)))) pa_nil))) pss_nil)
   (pss_cons (ps_if (pt_cmpR (op_notin_dict (hu_of hr)) (pv 3) (pv 0) (by with_unfolding_all rfl)) (pss_one (ps_raise rfl wish_cx x_NoPart rfl (pa_cons (pe_fstr (pj_cons pp_str (pj_cons (pp_repr (pv 3)) pj_nil))) pa_nil))) pss_nil)
   (pss_one (ps_ret (pv 3))))))),?_⟩
 refine ⟨_,rfl,wa,wordsL t,rfl,hW,row_words tl,fun H2 s2=>?_⟩
 cases k with
 | row=>exact absurd rfl hk
 | bad =>
  rw [bad_good kd.1 kd.2]
  refine ⟨_,rfl,?_⟩
  refine iteT ?_
  exact ⟨le1,q1 rfl H2 s2⟩
 | lack =>
  have kd:wordsL t=[useW,nm ns m]:=kd
  rw [kd] at hW ⊢
  have hn:=N.name m (by omega)
  have hl:=name_lt hn
  rw [show goodU [useW,nm ns m]=isName (nm ns m) from rfl,hn]
  refine ⟨_,rfl,?_⟩
  refine iteF ?_
  refine ⟨_,rfl,_,_,_,V.str (tx (nm ns m)),rfl,rfl,s2.seq hW,rfl,?_⟩
  refine ⟨_,rfl,_,rfl,_,_,rfl,.inl (s2.seq hA),rfl,flat_strs _,_,rfl,?_⟩
  show if inV (.str (tx (nm ns m))) (((as.map (nm ns)).map tx).map V.str)=true then _ else _
  rw [inV_no N (Nat.le_refl _) lt (fun z=>absurd (lt m z) (Nat.lt_irrefl _))]
  refine iteF ?_
  obtain ⟨pk,hd,hv,hvn⟩:=hP.same s2
  refine ⟨_,rfl,_,rfl,d,_,rfl,dget2 hd hvn,_,rfl,?_⟩
  refine iteT ?_
  exact ⟨⟨trivial,⟨nm ns m,rfl,by omega,hl.2.2⟩,trivial⟩,fun z=>⟨le1,q2 rfl H2 s2⟩⟩
 | use j =>
  obtain ⟨hj,kd⟩ : j < m∧wordsL t=[useW,nm ns j]:=kd
  rw [kd] at hW ⊢
  have hn:=N.name j (by omega)
  have hl:=name_lt hn
  rw [show goodU [useW,nm ns j]=isName (nm ns j) from rfl,hn]
  refine ⟨_,rfl,?_⟩
  refine iteF ?_
  refine ⟨_,rfl,_,_,_,V.str (tx (nm ns j)),rfl,rfl,s2.seq hW,rfl,?_⟩
  refine ⟨_,rfl,_,rfl,_,_,rfl,.inl (s2.seq hA),rfl,flat_strs _,_,rfl,?_⟩
  show if inV (.str (tx (nm ns j))) (((as.map (nm ns)).map tx).map V.str)=true then _ else _
  rw [inV_names N hj lt]
  refine ite2 (fun c=>?_) (fun c=>?_)
  ·exact ⟨⟨trivial,⟨nm ns j,rfl,by omega,hl.2.2⟩,trivial,trivial⟩,fun z=>⟨le1,(q3 j rfl).1 (of_decide_eq_true c) H2 s2⟩⟩
  obtain ⟨pk,hd,hv,hvn⟩:=hP.same s2
  refine ⟨_,rfl,_,rfl,d,_,rfl,dget2 hd (hv j hj),_,rfl,?_⟩
  refine iteF ?_
  exact ⟨_,rfl,(q3 j rfl).2 (fun z=>c (decide_eq_true z)) H2 s2⟩
def sp_words_in:Sp:=fun vs H Q _=>∃ l:List Nat,vs=[.str (tx l)]∧l.length≤200000∧∀ p H',H p=none→Same H H'→H' p=some (.lst (((wordsL l).map tx).map V.str))→Q (.ref p) H'
theorem sc_words_in:FnScope ["row"] ["row"] (defScope s_words_in):=⟨rfl,rfl,rfl,by decide +kernel,rfl,by decide +kernel,by decide +kernel⟩
theorem ok_words_in (T:Txt P w K mg a) : FnOk P w K mg base CX0 1 a.f_words_in a.fd_words_in ["row"] sp_words_in:=by
 refine T.d_words_in.fn.ok sc_words_in (fun vs H Q E h=>?_) (fun cdv A outer s H vs Q E hr h=>?_)
 ·obtain ⟨l,rfl,_⟩:=h
  rfl
 obtain ⟨l,rfl,hl,q⟩:=h
 have hu:=Nat.lt_of_succ_lt (hu_of hr)
 refine ⟨_,(pss_one (ps_ret (pe_lc rfl (lcok (caps:=[]) (js:=[]) (cap:=trivial)) (pi_list (pe_bm PySem.F.plainAttrs_str PySem.F.slot_str_split PySem.F.type_str_split mt_split1 (pv 0) (pa_cons pe_str pa_nil))) (fun _ _ _ _=>(pts_one (pt_cmpR op_ne (pv 0) pe_str (nomark _)))) (fun _ _ _ _=>(pv 0))))),?_⟩
 have hs:=splitL_sum 32 l
 refine ⟨_,rfl,rfl,_,32,rfl,congrArg (fun z=>[V.str z]) c32,?_,fun p1 hp1=>?_⟩
 ·rw [tx_len]
  exact small2 (by omega)
 rw [split_tx]
 refine ⟨p1,rfl,⟨_,SqL.of upd_same⟩,lc_list (xs:=((splitL 32 l).map tx).map V.str) (fun i ys H2=>H2=upd H p1 (.lst (((splitL 32 l).map tx).map V.str))∧ys=((neW ((splitL 32 l).take i)).map tx).map V.str) ⟨rfl,rfl⟩ ?_ ?_ ?_ ?_⟩
 ·rintro i ys H2 _ ⟨rfl,_⟩
  exact SqL.of upd_same
 ·rintro i ys H2 hi ⟨rfl,rfl⟩
  rw [List.length_map,List.length_map]
  have h1:(neW ((splitL 32 l).take i)).length≤((splitL 32 l).take i).length:=List.length_filter_le _ _
  rw [List.length_take] at h1
  exact Nat.lt_of_lt_of_le (show _ < 1000000 by omega) (small2 (Nat.le_refl _))
 ·rintro i x ys H2 hx ⟨rfl,rfl⟩
  obtain ⟨w,hw,rfl⟩:=get_strs hx
  refine ⟨_,rfl,rfl,_,rfl,?_⟩
  rw [List.take_add_one,hw]
  show if (!decide (V.str (tx w)=V.str (PySem.Str.ofString "")))=true then _ else _
  rw [show (some w).toList=[w] from rfl,neW_snoc]
  refine ite2 (fun c=>?_) (fun c=>?_)
  ·refine ⟨_,rfl,rfl,?_⟩
   have hne:w≠[]:=by
    intro e
    rw [e,ce] at c
    rw [decide_eq_true rfl] at c
    cases c
   rw [if_neg hne]
   simp
  ·have hne:w=[]:=by
    by_cases e:V.str (tx w)=V.str (PySem.Str.ofString "")
    ·rw [ce] at e
     exact tx_inj (V.str.inj e)
    ·rw [decide_eq_false e] at c
     exact absurd rfl c
   rw [if_pos hne]
   exact ⟨rfl,rfl⟩
 ·rintro ys H2 ⟨rfl,rfl⟩ p hp
  have el:(((splitL 32 l).map tx).map V.str).length=(splitL 32 l).length:=by rw [List.length_map,List.length_map]
  rw [el,List.take_of_length_le (Nat.le_refl _)]
  have g1:=same_new hp1 (.lst (((splitL 32 l).map tx).map V.str))
  exact q p _ (g1.free hp) (g1.trans (same_new hp _)) upd_same

theorem sc_look_through:FnScope ["parts","path","counts","rows","row","words","used"] ["parts","path","counts"] (defScope s_look_through):=⟨rfl,rfl,rfl,by decide +kernel,rfl,by decide +kernel,by decide +kernel⟩
def sp_look (C:Du→Addr) (n:Nat) : Sp:=fun vs H Q E=>∃ (d pa c:Addr) (ns:List (List Nat)) (rs:List (List Row2)) (m:Nat) (as:List Nat) (i:Nat) (L:List Nat),vs=[.ref d,.ref pa,.ref c]∧Shelf2 ns rs m∧Names ns (m+1)∧m≤8∧Parts2 H d ns rs m∧H pa=some (.lst ((((as++[i]).map (nm ns)).map tx).map V.str)) ∧
  (∀ a ∈ as++[i],a < m)∧(∀ (k j a:Nat),(as++[i])[k]? = some a→(as++[i])[j]? = some a→k=j)∧as.length+n=9∧H c=some (.dK (cKL ns rs L))∧d≠c∧OrdL rs m L∧GoodL rs L∧(∀ a ∈ as++[i],a ∉ L) ∧
  (∀ x L',dfs rs n as i L=(some x,L')→∀ H',SameX c H H'→E (.ref (C x)) none H') ∧
  (∀ L',dfs rs n as i L=(none,L')→Post rs m as i L L'→∀ H',H' c=some (.dK (cKL ns rs L'))→SameX c H H'→Q .non H')
theorem ok_look_through_n (T:Txt P w K mg a) : ∀ n:Nat,FnOk P w K mg base (CXe P w) (n+4) a.f_look_through a.fd_look_through ["parts","path","counts"] (sp_look (duC a.c_BadRow a.c_Ring a.c_NoPart a.c_TooLong) n)
 | 0=>⟨fun vs H Q E h=>(by obtain ⟨d,pa,c,ns,rs,m,as,i,L,_,_,_,hm,_,_,lt,nd,hf,_⟩:=h; have:=nd_len nd lt; rw [List.length_append,List.length_singleton] at this; omega),fun A outer s H args us vs Q E _ _ _ _ h=>(by obtain ⟨d,pa,c,ns,rs,m,as,i,L,_,_,_,hm,_,_,lt,nd,hf,_⟩:=h; have:=nd_len nd lt; rw [List.length_append,List.length_singleton] at this; omega)⟩
 | n+1=>by
  have g_look_through:=ok_look_through_n T n
  have d_look_through:=T.d_look_through
  have g_is_use:=ok_is_use (P:=P) (w:=w) (base:=base) T
  have d_is_use:=T.d_is_use
  have g_rows_in:=ok_rows_in (P:=P) (w:=w) (base:=base) T
  have d_rows_in:=T.d_rows_in
  have g_used_part:=ok_used_part (P:=P) (w:=w) (base:=base) T
  have d_used_part:=T.d_used_part
  have g_words_in:=ok_words_in (P:=P) (w:=w) (base:=base) T
  have d_words_in:=T.d_words_in

  refine T.d_look_through.fn.okE sc_look_through (fun vs H Q E h=>?_) (fun cdv A outer s H vs Q E hr h=>?_)
  ·obtain ⟨d,pa,c,ns,rs,m,as,i,L,rfl,_⟩:=h
   rfl
  obtain ⟨d,pa,c,ns,rs,m,as,i,L,rfl,S,N,hm,hP,hA,lt,nd,hf,hc,hdc,o0,g0,x0,q1,q2⟩:=h
  have hu:=Nat.lt_of_succ_lt (hu_of hr)
  refine ⟨_,(pss_cons (ps_set (i:=3) sc_look_through.nd rfl (Or.inl rfl) pe_int)
   (pss_cons (ps_for PassesOwn.leaving rfl (pi_list (pe_callD d_rows_in g_rows_in (hr.mono (by omega)) rfl (pa_cons (pe_dget (hu_of hr) (pv 0) (pe_ix ix_list (pv 1) (pe_un un_neg pe_int) (fun _ _=>rfl)) (fun _ _=>rfl)) pa_nil))) (pg_name (i:=4) sc_look_through.nd rfl (Or.inl rfl)) (pss_cons (ps_set (i:=5) sc_look_through.nd rfl (Or.inl rfl) (pe_callD d_words_in g_words_in (hr.mono (by omega)) rfl (pa_cons (pv 4) pa_nil)))
   (pss_one (ps_if (pt_val (pe_callD d_is_use g_is_use (hr.mono (by omega)) rfl (pa_cons (pv 5) pa_nil)) (fun _=>rfl)) (pss_cons (ps_set (i:=6) sc_look_through.nd rfl (Or.inl rfl) (pe_callX pass_cx d_used_part g_used_part (hr.mono (by omega)) rfl (pa_cons (pv 0) (pa_cons (pv 5) (pa_cons (pv 1) pa_nil)))))
   (pss_cons (ps_if (pt_cmpR (op_notin_dict (hu_of hr)) (pv 6) (pv 2) (by with_unfolding_all rfl)) (pss_one (ps_expr (pe_callX pass_cx d_look_through g_look_through hr rfl (pa_cons (pv 0) (pa_cons (pe_op op_cat (pv 1) (pe_lst (pa_cons (pv 6) pa_nil))) (pa_cons (pv 2) pa_nil)))))) pss_nil)
   (pss_one (ps_set (i:=3) sc_look_through.nd rfl (Or.inl rfl) (pe_op op_add (pv 3) (pe_dget (hu_of hr) (pv 2) (pv 6) (fun _ _=>rfl))))))) (pss_one (ps_set (i:=3) sc_look_through.nd rfl (Or.inl rfl) (pe_op op_add (pv 3) pe_int)))))))
   (pss_one (ps_dput (hu_of hr) (pv 2) (pe_ix ix_list (pv 1) (pe_un un_neg pe_int) (fun _ _=>rfl)) (pv 3) rfl)))),?_⟩
  have el:(((as++[i]).map (nm ns)).map tx).map V.str=((as.map (nm ns)).map tx).map V.str++[V.str (tx (nm ns i))]:=by simp
  have him:i < m:=lt i (by simp)
  have hpl:=nd_len nd lt
  obtain ⟨pk,hd,hv,hvn⟩:=id hP
  have hpc:pa≠c:=ne_of hA hc (by intro z; cases z)
  obtain ⟨R,hR⟩ : ∃ R,goM (fun j L=>dfs rs n (as++[i]) j L) (as++[i]) (rw2 rs i) L=R:=⟨_,rfl⟩
  have q1':∀ x L',R=(some x,L')→∀ H',SameX c H H'→E (.ref ((duC a.c_BadRow a.c_Ring a.c_NoPart a.c_TooLong) x)) none H':=fun x L' e=>q1 x L' (dfs_some (hR.trans e))
  have q2':∀ L',R=(none,L')→Post rs m as i L (L'++[i])→∀ H',H' c=some (.dK (cKL ns rs (L'++[i])))→SameX c H H'→Q .non H':=fun L' e=>q2 _ (dfs_none (hR.trans e))
  clear q1 q2
  refine ⟨_,rfl,_,rfl,_,rfl,_,_,_,_,rfl,rfl,SqL.of hA,by rw [el]; exact atI_last _ _,d,_,rfl,dget2 hd (hv i him),_,rfl,S.tlen him,fun pr hpr=>?_⟩
  rw [S.split him]
  have g1:=same_new hpr (.lst (((texts2 rs i).map tx).map V.str))
  have hprc:pr≠c:=Ne.symm (ne_of_none hc hpr)
  have hA1:=g1 pa _ hA
  have hc1:=g1 c _ hc
  have hP1:=hP.same g1
  have hr1:upd H pr (.lst (((texts2 rs i).map tx).map V.str)) pr=some (.lst (((texts2 rs i).map tx).map V.str)):=upd_same
  generalize upd H pr (.lst (((texts2 rs i).map tx).map V.str))=H1 at g1 hA1 hc1 hP1 hr1 ⊢
  refine ⟨pr,rfl,⟨_,SqL.of hr1⟩,for_list (K:=K) (a:=pr) (xs:=((texts2 rs i).map tx).map V.str) (fun k σ H2=>∃ (vr vw vu:Option V) (Lk:List Nat),σ=[some (.ref d),some (.ref pa),some (.ref c),some (.int (cTo rs i k:Nat)),vr,vw,vu]∧H2 c=some (.dK (cKL ns rs Lk))∧Seen rs m as i L k Lk∧goM (fun j L=>dfs rs n (as++[i]) j L) (as++[i]) ((rw2 rs i).drop k) Lk=R∧SameX c H1 H2)
   ⟨none,none,none,L,rfl,hc1,Seen.zero o0 g0 x0,hR,SameX.refl _ _⟩ ?_ ?_ ?_⟩
  ·rintro k σ H2 _ ⟨vr,vw,vu,Lk,rfl,_,_,_,sx⟩
   exact SqL.of (sx pr _ hprc hr1)
  ·rintro k y σ H2 hy ⟨vr,vw,vu,Lk,rfl,hc2,se,eR,sx⟩
   obtain ⟨r,hr',rfl⟩:=texts2_get hy
   have ro:=S.ok i him r (List.mem_of_getElem? hr')
   have rl:=ro.len
   rw [drop_get hr'] at eR
   refine ⟨_,rfl,r.t,rfl,by omega,fun pw H3 hpw s3 h3=>?_⟩
   refine ⟨_,rfl,pw,wordsL r.t,rfl,SqL.of h3,fun H4 s4=>?_⟩
   refine ⟨_,rfl,?_⟩
   have s24:=s3.trans s4
   have hcs:=cTo_succ hr'
   have sx1:SameX c H H2:=(SameX.of g1).trans sx
   by_cases hk0:r.k = .row
   ·have kd:=ro.kd
    rw [hk0] at kd
    rw [decide_eq_false (show ¬ (wordsL r.t).head? = some useW from kd)]
    refine iteF ?_
    refine ⟨_,rfl,_,_,rfl,rfl,?_⟩
    have e1:rowC rs r=1:=by unfold rowC; rw [hk0]
    rw [e1] at hcs
    refine ⟨some (V.str (tx r.t)),some (V.ref pw),vu,Lk,?_,s24 c _ hc2,se.next hr' (.inl hk0),(goM_row hk0).symm.trans eR,sx.trans (.of s24)⟩
    exact congrArg (fun z=>[some (V.ref d),some (V.ref pa),some (V.ref c),some (V.int z),some (V.str (tx r.t)),some (V.ref pw),vu]) (show ((cTo rs i k:Nat) : Int)+1=((cTo rs i (k+1) : Nat) : Int) by rw [hcs]; omega)
   ·rw [decide_eq_true (kd_head ro.kd hk0)]
    refine iteT ?_
    have hA2:=sx pa _ hpc hA1
    have hP2:=hP1.sameX hdc sx
    refine ⟨_,rfl,_,rfl,_,rfl,d,pw,pa,ns,rs,m,as++[i],r.t,r.k,rfl,N,hP2.same s24,SqL.of (s4 pw _ h3),SqL.of (s24 pa _ hA2),lt,ro.kd,rl,hk0,fun e H5 s5=>q1' .bad _ (eR.symm.trans (goM_bad e)) H5 (sx1.trans (.of (s24.trans s5))),fun e H5 s5=>q1' .lack _ (eR.symm.trans (goM_lack e)) H5 (sx1.trans (.of (s24.trans s5))),fun j ej=>⟨fun hj H5 s5=>q1' .ring _ (eR.symm.trans (goM_ring ej hj)) H5 (sx1.trans (.of (s24.trans s5))),fun hj H5 s5=>?_⟩⟩
    have s25:=s24.trans s5
    have kd:=ro.kd
    rw [ej] at kd
    have hjm:j < m:=kd.1
    have e1:rowC rs r=CT rs j:=by unfold rowC; rw [ej]
    rw [e1] at hcs
    try dsimp only [gName]
    with_reducible refine cut_seq (fun σ' H'=>∃ (Lj:List Nat),σ' = [some (.ref d),some (.ref pa),some (.ref c),some (.int (cTo rs i k:Nat)),some (.str (tx r.t)),some (.ref pw),some (.str (tx (nm ns j)))]∧H' c=some (.dK (cKL ns rs Lj))∧Seen rs m as i L (k+1) Lj∧j ∈ Lj∧goM (fun j L=>dfs rs n (as++[i]) j L) (as++[i]) ((rw2 rs i).drop (k+1)) Lj=R∧SameX c H1 H') ?_ (fun key=>?_)
    ·rintro σ' H' ⟨Lj,rfl,hc3,se3,hj3,eR3,sx3⟩
     refine ⟨_,rfl,_,rfl,_,rfl,c,_,rfl,dget2 hc3 (cKL_in N hjm se3.o.lt hj3),_,_,rfl,rfl,?_⟩
     refine ⟨some (V.str (tx r.t)),some (V.ref pw),some (V.str (tx (nm ns j))),Lj,?_,hc3,se3,eR3,sx3⟩
     exact congrArg (fun z=>[some (V.ref d),some (V.ref pa),some (V.ref c),some (V.int z),some (V.str (tx r.t)),some (V.ref pw),some (V.str (tx (nm ns j)))]) (show ((cTo rs i k:Nat) : Int)+((CT rs j:Nat) : Int)=((cTo rs i (k+1) : Nat) : Int) by rw [hcs]; omega)
    ·have c5:H5 c=some (.dK (cKL ns rs Lk)):=s25 c _ hc2
     by_cases hjL:j ∈ Lk
     ·refine ⟨_,rfl,_,rfl,c,_,rfl,dget2 c5 (cKL_in N hjm se.o.lt hjL),_,rfl,?_⟩
      refine iteF ?_
      exact key _ _ ⟨Lk,rfl,c5,se.next hr' (.inr ⟨j,ej,hjL⟩),hjL,(goM_in ej hj hjL).symm.trans eR,sx.trans (.of s25)⟩
     ·refine ⟨_,rfl,_,rfl,c,_,rfl,dget2 c5 (cKL_out N hjm se.o.lt hjL),_,rfl,?_⟩
      refine iteT ?_
      refine ⟨_,rfl,_,rfl,_,rfl,le1,fun p6 hp6=>?_⟩
      have s26:=s25.trans (same_new hp6 (.lst [V.str (tx (nm ns j))]))
      refine ⟨_,_,_,_,rfl,rfl,s26 pa _ hA2,upd_same,?_,fun p7 hp7=>?_⟩
      ·rw [List.length_map,List.length_map,List.length_map]
       exact small (by simp only [List.length_cons,List.length_nil]; omega)
      have s27:=s26.trans (same_new hp7 (.lst ((((as++[i]).map (nm ns)).map tx).map V.str++[V.str (tx (nm ns j))])))
      have sx7:SameX c H1 _:=sx.trans (.of s27)
      have sx07:SameX c H _:=sx1.trans (.of s27)
      refine ⟨_,rfl,d,p7,c,ns,rs,m,as++[i],j,Lk,rfl,S,N,hm,hP2.same s27,?_,lt_snoc lt hjm,nd_snoc nd hj,?_,s27 c _ hc2,hdc,se.o,se.good,fun a ha=>?_,fun x L' e H8 sx8=>q1' x L' (eR.symm.trans (goM_callX ej hj hjL e)) H8 (sx07.trans sx8),fun L' e po H8 hc8 sx8=>?_⟩
      ·rw [upd_same]
       simp
      ·rw [List.length_append,List.length_singleton]
       omega
      ·rcases List.mem_append.mp ha with h | h
       ·exact se.off a h
       ·rw [List.mem_singleton.mp h]; exact hjL
      ·exact key _ _ ⟨L',rfl,hc8,se.call hr' ej po,po.inn,(goM_call ej hj hjL e).symm.trans eR,sx7.trans sx8⟩
  ·rintro σ H2 ⟨vr,vw,vu,Lk,rfl,hc2,se,eR,sx⟩
   have hlen:(((texts2 rs i).map tx).map V.str).length=(rw2 rs i).length:=by
    rw [List.length_map,List.length_map]
    exact List.length_map _
   rw [hlen] at se eR ⊢
   rw [List.drop_of_length_le (Nat.le_refl _)] at eR
   have hiL:i ∉ Lk:=se.off i (by simp)
   have hll:=nd_len se.o.nd se.o.lt
   have hu2:∀ b ∈ uses2 rs i,b ∈ Lk:=uses_good (by have:=se.done; rw [List.take_of_length_le (Nat.le_refl _)] at this; exact this)
   rw [cTo_all,← ct_eq se.o hm hu2]
   have hput:putK (cKL ns rs Lk) (.inr (tx (nm ns i))) (.int (CT rs i:Nat))=cKL ns rs (Lk++[i]):=by
    rw [putK_new _ (cKL_out N him se.o.lt hiL)]
    unfold cKL
    rw [List.map_append]
    rfl
   have hl3:(cKL ns rs Lk).length=Lk.length:=List.length_map _
   refine ⟨_,rfl,_,rfl,_,rfl,_,rfl,_,_,_,_,rfl,rfl,SqL.of (sx pa _ hpc hA1),by rw [el]; exact atI_last _ _,c,_,rfl,DPut.k (k:=.inr (tx (nm ns i))) hc2 (small1000 (by omega)),?_⟩
   exact q2' Lk eR.symm (se.fin him nd) _ (by rw [upd_same,hput]) (((SameX.of g1).trans sx).trans SameX.upd)
theorem ok_look_through (T:Txt P w K mg a) : FnOk P w K mg base (CXe P w) 13 a.f_look_through a.fd_look_through ["parts","path","counts"] (sp_look (duC a.c_BadRow a.c_Ring a.c_NoPart a.c_TooLong) (13 - 4)):=ok_look_through_n T (13 - 4)

theorem sc_put_together:FnScope ["parts","name","told","k","row","words"] ["parts","name"] (defScope s_put_together):=⟨rfl,rfl,rfl,by decide +kernel,rfl,by decide +kernel,by decide +kernel⟩
def sp_put (n:Nat) : Sp:=fun vs H Q _=>∃ (d:Addr) (ns:List (List Nat)) (rs:List (List Row2)) (m i:Nat) (L:List Nat) (k0:Nat),vs=[.ref d,.str (tx (nm ns i))]∧Shelf2 ns rs m∧Names ns (m+1)∧m≤8∧Parts2 H d ns rs m∧OrdL rs m L∧GoodL rs L∧L[k0]? = some i∧k0 < n∧CT rs i≤400 ∧
  ∀ p H' refs,H p=none→Same H H'→H' p=some (.lst refs)→refs.length=CT rs i→Q (.ref p) H'
theorem ok_put_together_n (T:Txt P w K mg a) : ∀ m:Nat,FnOk P w K mg base CX0 (m+4) a.f_put_together a.fd_put_together ["parts","name"] (sp_put m)
 | 0=>⟨fun vs H Q E h=>(by obtain ⟨d,ns,rs,m,i,L,k0,_,_,_,_,_,_,_,_,h1,_⟩:=h; omega),fun A outer s H args us vs Q E _ _ _ _ h=>(by obtain ⟨d,ns,rs,m,i,L,k0,_,_,_,_,_,_,_,_,h1,_⟩:=h; omega)⟩
 | n+1=>by
  have g_put_together:=ok_put_together_n T n
  have d_put_together:=T.d_put_together
  have g_is_use:=ok_is_use (P:=P) (w:=w) (base:=base) T
  have d_is_use:=T.d_is_use
  have g_rows_in:=ok_rows_in (P:=P) (w:=w) (base:=base) T
  have d_rows_in:=T.d_rows_in
  have g_words_in:=ok_words_in (P:=P) (w:=w) (base:=base) T
  have d_words_in:=T.d_words_in
  have z_enumerate:=T.z_enumerate

  refine T.d_put_together.fn.ok sc_put_together (fun vs H Q E h=>?_) (fun cdv A outer s H vs Q E hr h=>?_)
  ·obtain ⟨d,ns,rs,m,i,L,k0,rfl,_⟩:=h
   rfl
  obtain ⟨d,ns,rs,m,i,L,k0,rfl,S,N,hm,hP,O,G,hk0,hkn,h400,q⟩:=h
  have hu:=Nat.lt_of_succ_lt (hu_of hr)
  refine ⟨_,(pss_cons (ps_set (i:=2) sc_put_together.nd rfl (Or.inl rfl) (pe_lst pa_nil))
   (pss_cons (ps_for PassesOwn.never rfl (pi_enum rfl z_enumerate (pe_callD d_rows_in g_rows_in (hr.mono (by omega)) rfl (pa_cons (pe_dget (hu_of hr) (pv 0) (pv 1) (fun _ _=>rfl)) pa_nil))) (pg_tup rfl (pgs_cons (pg_name (i:=3) sc_put_together.nd rfl (Or.inl rfl)) (pgs_cons (pg_name (i:=4) sc_put_together.nd rfl (Or.inl rfl)) pgs_nil))) (pss_cons (ps_set (i:=5) sc_put_together.nd rfl (Or.inl rfl) (pe_callD d_words_in g_words_in (hr.mono (by omega)) rfl (pa_cons (pv 4) pa_nil)))
   (pss_one (ps_if (pt_val (pe_callD d_is_use g_is_use (hr.mono (by omega)) rfl (pa_cons (pv 5) pa_nil)) (fun _=>rfl)) (pss_one (ps_expr (pe_bm PySem.F.plainAttrs_list PySem.F.slot_list_extend PySem.F.type_list_extend mt_extend (pv 2) (pa_cons (pe_callD d_put_together g_put_together hr rfl (pa_cons (pv 0) (pa_cons (pe_ix ix_list (pv 5) pe_int (fun _ _=>rfl)) pa_nil))) pa_nil)))) (pss_one (ps_expr (pe_bm PySem.F.plainAttrs_list PySem.F.slot_list_append PySem.F.type_list_append mt_append (pv 2) (pa_cons (pe_tup (pa_cons (pv 1) (pa_cons (pv 3) (pa_cons (pv 4) pa_nil)))) pa_nil))))))))
   (pss_one (ps_ret (pv 2))))),?_⟩
  have hiL:i ∈ L:=List.mem_of_getElem? hk0
  have hi:i < m:=O.lt i hiL
  have hct:=ct_in O hm hiL
  refine ⟨small (by simp),fun pt hpt=>?_⟩
  have g0:=same_new hpt (.lst [])
  obtain ⟨pk,hd,hv,hvn⟩:=hP.same g0
  have ht0:upd H pt (.lst []) pt=some (.lst []):=upd_same
  refine ⟨_,rfl,_,rfl,d,_,rfl,dget2 hd (hv i hi),_,rfl,S.tlen hi,fun pr hpr=>?_⟩
  rw [S.split hi]
  have g1:=g0.trans (same_new hpr (.lst (((texts2 rs i).map tx).map V.str)))
  have hpt1:pr≠pt:=Ne.symm (ne_of_none ht0 hpr)
  have ht1:=same_new hpr (.lst (((texts2 rs i).map tx).map V.str)) pt _ ht0
  have hP1:=hP.same g1
  have hr1:upd (upd H pt (.lst [])) pr (.lst (((texts2 rs i).map tx).map V.str)) pr=some (.lst (((texts2 rs i).map tx).map V.str)):=upd_same
  generalize upd (upd H pt (.lst [])) pr (.lst (((texts2 rs i).map tx).map V.str))=H1 at g1 ht1 hP1 hr1 ⊢
  have hdt:d≠pt:=by
   obtain ⟨pk,h,_⟩:=hP
   exact ne_of_none h hpt
  refine ⟨pr,rfl,⟨_,SqL.of hr1⟩,for_enum (K:=K) (a:=pr) (xs:=((texts2 rs i).map tx).map V.str) (fun k σ H2=>∃ (vk vr vw:Option V) (refs:List V),σ=[some (.ref d),some (.str (tx (nm ns i))),some (.ref pt),vk,vr,vw]∧H2 pt=some (.lst refs)∧refs.length=cTo rs i k∧SameX pt H1 H2)
   ⟨none,none,none,[],rfl,ht1,rfl,SameX.refl _ _⟩ ?_ ?_ ?_⟩
  ·rintro k σ H2 _ ⟨vk,vr,vw,refs,rfl,_,_,sx⟩
   exact SqL.of (sx pr _ hpt1 hr1)
  ·rintro k y σ H2 p hy ⟨vk,vr,vw,refs,rfl,ht2,tu,sx⟩ hp
   obtain ⟨r,hr',rfl⟩:=texts2_get hy
   have ro:=S.ok i hi r (List.mem_of_getElem? hr')
   have rl:=ro.len
   have g2:=same_new hp (.tup [.int (k:Int),.str (tx r.t)])
   refine ⟨p,_,rfl,SqT.of upd_same,rfl,_,_,rfl,_,_,rfl,rfl,?_⟩
   refine ⟨_,rfl,r.t,rfl,by omega,fun pw H3 hpw s3 h3=>?_⟩
   refine ⟨_,rfl,pw,wordsL r.t,rfl,SqL.of h3,fun H4 s4=>?_⟩
   refine ⟨_,rfl,?_⟩
   have s24:=(g2.trans s3).trans s4
   have hcs:=cTo_succ hr'
   have hle:=cTo_le rs i (k+1)
   have kd:=ro.kd
   rcases G i hiL r (List.mem_of_getElem? hr') with hk | ⟨j,hj,hjL⟩
   ·rw [hk] at kd
    rw [decide_eq_false (show ¬ (wordsL r.t).head? = some useW from kd)]
    refine iteF ?_
    have e1:rowC rs r=1:=by unfold rowC; rw [hk]
    refine ⟨_,rfl,.inl ⟨rfl,_,SqL.of (s24 pt _ ht2)⟩,_,rfl,_,rfl,_,rfl,small (by simp),fun p6 hp6=>?_⟩
    have s26:=s24.trans (same_new hp6 (.tup [.str (tx (nm ns i)),.int (k:Int),.str (tx r.t)]))
    refine ⟨_,_,_,rfl,rfl,s26 pt _ ht2,small1000 (by omega),?_⟩
    exact ⟨_,_,_,refs++[.ref p6],rfl,upd_same,by rw [List.length_append,tu,hcs,e1]; rfl,(sx.trans (.of s26)).trans SameX.upd⟩
   ·rw [hj] at kd
    obtain ⟨hjm,hws⟩ : j < m∧wordsL r.t=[useW,nm ns j]:=kd
    rw [decide_eq_true (show (wordsL r.t).head? = some useW by rw [hws]; rfl)]
    refine iteT ?_
    rw [hws] at h3
    have e1:rowC rs r=CT rs j:=by unfold rowC; rw [hj]
    obtain ⟨k',hk',ek'⟩:=O.ord k0 i hk0 j (mem_uses (List.mem_of_getElem? hr') hj)
    refine ⟨_,rfl,.inl ⟨rfl,_,SqL.of (s24 pt _ ht2)⟩,_,rfl,_,rfl,_,_,_,V.str (tx (nm ns j)),rfl,rfl,SqL.of (s4 pw _ h3),rfl,d,ns,rs,m,j,L,k',rfl,S,N,hm,(hP1.sameX hdt sx).same s24,O,G,ek',by omega,by omega,fun p5 H5 refs2 hp5 s5 h5 tu5=>?_⟩
    have s25:=s24.trans s5
    refine ⟨_,_,_,_,rfl,rfl,s25 pt _ ht2,h5,small (by omega),?_⟩
    exact ⟨_,_,_,refs++refs2,rfl,upd_same,by rw [List.length_append,tu,tu5,hcs,e1],(sx.trans (.of s25)).trans SameX.upd⟩
  ·rintro σ H2 ⟨vk,vr,vw,refs,rfl,ht2,tu,sx⟩
   have hlen:(((texts2 rs i).map tx).map V.str).length=(rw2 rs i).length:=by
    rw [List.length_map,List.length_map]
    exact List.length_map _
   rw [hlen,cTo_all,← hct] at tu
   refine ⟨_,rfl,q pt H2 refs hpt (fun b o hb=>?_) ht2 tu⟩
   exact sx b o (ne_of_none hb hpt) (g1 b o hb)
theorem ok_put_together (T:Txt P w K mg a) : FnOk P w K mg base CX0 13 a.f_put_together a.fd_put_together ["parts","name"] (sp_put (13 - 4)):=ok_put_together_n T (13 - 4)
def sp_joined (C:Du→Addr) : Sp:=fun vs H Q E=>∃ (d:Addr) (ns:List (List Nat)) (rs:List (List Row2)) (m i:Nat),vs=[.ref d,.str (tx (nm ns i))]∧Shelf2 ns rs m∧Names ns (m+1)∧m≤8∧Parts2 H d ns rs m∧i≤m∧(i=m→E (.ref (C .lack)) none H) ∧
  (i < m→(∀ x,dueO rs i=some x→∀ H',Same H H'→E (.ref (C x)) none H')∧(dueO rs i=none→∀ p H' refs,Same H H'→H' p=some (.lst refs)→refs.length=CT rs i→Q (.ref p) H'))
theorem sc_joined:FnScope ["parts","name","counts"] ["parts","name"] (defScope s_joined):=⟨rfl,rfl,rfl,by decide +kernel,rfl,by decide +kernel,by decide +kernel⟩
theorem ok_joined (T:Txt P w K mg a) : FnOk P w K mg base (CXe P w) 14 a.f_joined a.fd_joined ["parts","name"] (sp_joined (duC a.c_BadRow a.c_Ring a.c_NoPart a.c_TooLong)):=by
 have g_look_through:=ok_look_through (P:=P) (w:=w) (base:=base) T
 have d_look_through:=T.d_look_through
 have g_put_together:=ok_put_together (P:=P) (w:=w) (base:=base) T
 have d_put_together:=T.d_put_together
 have x_NoPart:=T.x_NoPart
 have x_TooLong:=T.x_TooLong
 have m_MOST_ROWS:=T.m_MOST_ROWS
 obtain ⟨t_MOST_ROWS,m_MOST_ROWS⟩:=m_MOST_ROWS
 refine T.d_joined.fn.okE sc_joined (fun vs H Q E h=>?_) (fun cdv A outer s H vs Q E hr h=>?_)
 ·obtain ⟨d,ns,rs,m,i,rfl,_⟩:=h
  rfl
 obtain ⟨d,ns,rs,m,i,rfl,S,N,hm,hP,hi,q0,q⟩:=h
 have hu:=Nat.lt_of_succ_lt (hu_of hr)
 refine ⟨_,(pss_cons (ps_if (pt_cmpR (op_notin_dict (hu_of hr)) (pv 1) (pv 0) (by with_unfolding_all rfl)) (pss_one (ps_raise rfl wish_cx x_NoPart rfl (pa_cons (pe_fstr (pj_cons pp_str (pj_cons (pp_repr (pv 1)) pj_nil))) pa_nil))) pss_nil)
   (pss_cons (ps_set (i:=2) sc_joined.nd rfl (Or.inl rfl) pe_dnewK)
   (pss_cons (ps_expr (pe_callX pass_cx d_look_through g_look_through (hr.mono (by decide)) rfl (pa_cons (pv 0) (pa_cons (pe_lst (pa_cons (pv 1) pa_nil)) (pa_cons (pv 2) pa_nil)))))
   (pss_cons (ps_if (pt_cmpR op_gt (pe_dget (hu_of hr) (pv 2) (pv 1) (fun _ _=>rfl)) (pe_glob (v:=.int 400) rfl m_MOST_ROWS ⟨_,rfl⟩) (nomark _)) (pss_one (ps_raise rfl wish_cx x_TooLong rfl (pa_cons (pe_fstr (pj_cons pp_str (pj_cons (pp_repr (pv 1)) (pj_cons pp_str (pj_cons (pp_int (pe_glob (v:=.int 400) rfl m_MOST_ROWS ⟨_,rfl⟩)) (pj_cons pp_str pj_nil)))))) pa_nil))) pss_nil)
   (pss_one (ps_ret (pe_callD d_put_together g_put_together (hr.mono (by decide)) rfl (pa_cons (pv 0) (pa_cons (pv 1) pa_nil))))))))),?_⟩
 have hnm:=name_lt (N.name i (by omega))
 obtain ⟨pk,hd,hv,hvn⟩:=id hP
 by_cases e:i=m
 ·subst e
  refine ⟨_,rfl,_,rfl,d,_,rfl,dget2 hd hvn,_,rfl,?_⟩
  refine iteT ?_
  exact ⟨⟨trivial,⟨nm ns i,rfl,by omega,hnm.2.2⟩,trivial⟩,fun z=>⟨le1,q0 rfl⟩⟩
 have him:i < m:=by omega
 obtain ⟨q1,q2⟩:=q him
 refine ⟨_,rfl,_,rfl,d,_,rfl,dget2 hd (hv i him),_,rfl,?_⟩
 refine iteF ?_
 intro pc hpc
 have g1:=same_new hpc (.dK [])
 refine ⟨_,rfl,_,rfl,le1,fun pp hpp=>?_⟩
 have hc1:upd H pc (.dK []) pc=some (.dK []):=upd_same
 have g2:=g1.trans (same_new hpp (.lst [V.str (tx (nm ns i))]))
 have hc2:=same_new hpp (.lst [V.str (tx (nm ns i))]) pc _ hc1
 have npc:∀ b o,H b=some o→b≠pc:=fun b o hb=>ne_of_none hb hpc
 refine ⟨_,rfl,d,pp,pc,ns,rs,m,[],i,[],rfl,S,N,hm,hP.same g2,?_,fun a ha=>by rw [List.mem_singleton.mp ha]; exact him,one_nd i,rfl,hc2,npc d _ hd,OrdL.nil rs m,(fun a h=>nomatch h),(fun a _ z=>nomatch z),fun x L' e H3 sx=>q1 x (by simp only [dueO,e]) H3 (fun b o hb=>sx b o (npc b o hb) (g2 b o hb)),fun L' e po H3 hc3 sx=>?_⟩
 ·rw [upd_same]; rfl
 have s3:Same H H3:=fun b o hb=>sx b o (npc b o hb) (g2 b o hb)
 have hdue:dueO rs i=if 400 < CT rs i then some .long else none:=by simp only [dueO,e]
 refine ⟨_,rfl,_,rfl,pc,_,rfl,dget2 hc3 (cKL_in N him po.o.lt po.inn),_,_,rfl,rfl,_,rfl,?_⟩
 refine ite2 (fun c=>?_) (fun c=>?_)
 ·have h4:400 < CT rs i:=by have:=of_decide_eq_true c; omega
  refine ⟨⟨trivial,⟨nm ns i,rfl,by omega,hnm.2.2⟩,trivial,trivial,trivial,trivial⟩,fun z=>⟨le1,q1 .long (by rw [hdue,if_pos h4]) H3 s3⟩⟩
 ·have h4:CT rs i≤400:=by
   refine Nat.le_of_not_lt fun z=>c (decide_eq_true ?_)
   omega
  obtain ⟨k0,hk0⟩:=List.getElem?_of_mem po.inn
  have hk1:=(List.getElem?_eq_some_iff.mp hk0).1
  have hk2:=nd_len po.o.nd po.o.lt
  exact ⟨_,rfl,_,rfl,d,ns,rs,m,i,L',k0,rfl,S,N,hm,hP.same s3,po.o,po.good,hk0,by omega,h4,fun p H' refs hp s4 h5 tu=>q2 (by rw [hdue,if_neg (by omega)]) p H' refs (s3.trans s4) h5 tu⟩
def sp_l_refusal:Sp:=fun vs H Q _=>∃ (d:Addr) (ns:List (List Nat)) (rs:List (List Row2)) (m i:Nat) (o:Option Du),vs=[.ref d,.str (tx (nm ns i))]∧Shelf2 ns rs m∧Names ns (m+1)∧m≤8∧Parts2 H d ns rs m∧DueAt rs m i o∧∀ p H',Same H H'→H' p=some (.lst ((whichB o).map V.bl))→Q (.ref p) H'
theorem sc_l_refusal:FnScope ["parts","name","which","e"] ["parts","name"] (defScope s_l_refusal):=⟨rfl,rfl,rfl,by decide +kernel,rfl,by decide +kernel,by decide +kernel⟩
theorem ok_l_refusal (T:Txt P w K mg a) : FnOk P w K mg base CX0 15 a.f_l_refusal a.fd_l_refusal ["parts","name"] sp_l_refusal:=by
 have g_joined:=ok_joined (P:=P) (w:=w) (base:=base) T
 have d_joined:=T.d_joined
 have z_ValueError:=T.z_ValueError
 have z_isinstance:=T.z_isinstance
 have x_BadCall:=T.x_BadCall
 have x_BadForm:=T.x_BadForm
 have x_BadName:=T.x_BadName
 have x_BadPaper:=T.x_BadPaper
 have x_BadRow:=T.x_BadRow
 have x_BadWord:=T.x_BadWord
 have x_Deep:=T.x_Deep
 have x_NoFoot:=T.x_NoFoot
 have x_NoGrowth:=T.x_NoGrowth
 have x_NoLaying:=T.x_NoLaying
 have x_NoMark:=T.x_NoMark
 have x_NoPart:=T.x_NoPart
 have x_NoRow:=T.x_NoRow
 have x_NoShort:=T.x_NoShort
 have x_NothingDone:=T.x_NothingDone
 have x_Ring:=T.x_Ring
 have x_TooLong:=T.x_TooLong
 have x_TrueleafError:=T.x_TrueleafError
 have x_Twice:=T.x_Twice
 refine T.d_l_refusal.fn.ok sc_l_refusal (fun vs H Q E h=>?_) (fun cdv A outer s H vs Q E hr h=>?_)
 ·obtain ⟨d,ns,rs,m,i,o,rfl,_⟩:=h
  rfl
 obtain ⟨d,ns,rs,m,i,o,rfl,S,N,hm,hP,due,q⟩:=h
 have hu:=Nat.lt_of_succ_lt (hu_of hr)
 refine ⟨_,(pss_cons (ps_set (i:=2) sc_l_refusal.nd rfl (Or.inl rfl) (pe_lst pa_nil))
   (pss_cons (ps_try_as (i:=3) sc_l_refusal.nd rfl rfl d_joined g_joined (hr.mono (by decide)) rfl (fun _=>(pa_cons (pv 0) (pa_cons (pv 1) pa_nil))) rfl x_TrueleafError ⟨rfl,rfl⟩ (fun _=>(pss_one (ps_set (i:=2) sc_l_refusal.nd rfl (Or.inl rfl) (pe_lst (pa_cons (pe_callB (r:=rIsiX K) call_isiX rfl z_isinstance PyProof.Rows.boot_isinstance (pa_cons (pv 3) (pa_cons (pe_glob (v:=.ref a.c_BadRow) rfl x_BadRow.mg rfl) pa_nil))) (pa_cons (pe_callB (r:=rIsiX K) call_isiX rfl z_isinstance PyProof.Rows.boot_isinstance (pa_cons (pv 3) (pa_cons (pe_glob (v:=.ref a.c_Ring) rfl x_Ring.mg rfl) pa_nil))) (pa_cons (pe_callB (r:=rIsiX K) call_isiX rfl z_isinstance PyProof.Rows.boot_isinstance (pa_cons (pv 3) (pa_cons (pe_glob (v:=.ref a.c_NoPart) rfl x_NoPart.mg rfl) pa_nil))) (pa_cons (pe_callB (r:=rIsiX K) call_isiX rfl z_isinstance PyProof.Rows.boot_isinstance (pa_cons (pv 3) (pa_cons (pe_glob (v:=.ref a.c_TooLong) rfl x_TooLong.mg rfl) pa_nil))) (pa_cons (pe_callB (r:=rIsiX K) call_isiX rfl z_isinstance PyProof.Rows.boot_isinstance (pa_cons (pv 3) (pa_cons (pe_bltn (v:=.ty "ValueError") rfl z_ValueError boot_ValueError rfl) pa_nil))) (pa_cons (pe_or (pe_callB (r:=rIsiX K) call_isiX rfl z_isinstance PyProof.Rows.boot_isinstance (pa_cons (pv 3) (pa_cons (pe_glob (v:=.ref a.c_BadCall) rfl x_BadCall.mg rfl) pa_nil))) (pe_or (pe_callB (r:=rIsiX K) call_isiX rfl z_isinstance PyProof.Rows.boot_isinstance (pa_cons (pv 3) (pa_cons (pe_glob (v:=.ref a.c_Deep) rfl x_Deep.mg rfl) pa_nil))) (pe_or (pe_callB (r:=rIsiX K) call_isiX rfl z_isinstance PyProof.Rows.boot_isinstance (pa_cons (pv 3) (pa_cons (pe_glob (v:=.ref a.c_NoShort) rfl x_NoShort.mg rfl) pa_nil))) (pe_one (pe_callB (r:=rIsiX K) call_isiX rfl z_isinstance PyProof.Rows.boot_isinstance (pa_cons (pv 3) (pa_cons (pe_glob (v:=.ref a.c_BadForm) rfl x_BadForm.mg rfl) pa_nil))))))) (pa_cons (pe_or (pe_callB (r:=rIsiX K) call_isiX rfl z_isinstance PyProof.Rows.boot_isinstance (pa_cons (pv 3) (pa_cons (pe_glob (v:=.ref a.c_BadWord) rfl x_BadWord.mg rfl) pa_nil))) (pe_or (pe_callB (r:=rIsiX K) call_isiX rfl z_isinstance PyProof.Rows.boot_isinstance (pa_cons (pv 3) (pa_cons (pe_glob (v:=.ref a.c_BadPaper) rfl x_BadPaper.mg rfl) pa_nil))) (pe_or (pe_callB (r:=rIsiX K) call_isiX rfl z_isinstance PyProof.Rows.boot_isinstance (pa_cons (pv 3) (pa_cons (pe_glob (v:=.ref a.c_NoGrowth) rfl x_NoGrowth.mg rfl) pa_nil))) (pe_one (pe_callB (r:=rIsiX K) call_isiX rfl z_isinstance PyProof.Rows.boot_isinstance (pa_cons (pv 3) (pa_cons (pe_glob (v:=.ref a.c_Twice) rfl x_Twice.mg rfl) pa_nil))))))) (pa_cons (pe_or (pe_callB (r:=rIsiX K) call_isiX rfl z_isinstance PyProof.Rows.boot_isinstance (pa_cons (pv 3) (pa_cons (pe_glob (v:=.ref a.c_NoFoot) rfl x_NoFoot.mg rfl) pa_nil))) (pe_or (pe_callB (r:=rIsiX K) call_isiX rfl z_isinstance PyProof.Rows.boot_isinstance (pa_cons (pv 3) (pa_cons (pe_glob (v:=.ref a.c_NoMark) rfl x_NoMark.mg rfl) pa_nil))) (pe_or (pe_callB (r:=rIsiX K) call_isiX rfl z_isinstance PyProof.Rows.boot_isinstance (pa_cons (pv 3) (pa_cons (pe_glob (v:=.ref a.c_NoLaying) rfl x_NoLaying.mg rfl) pa_nil))) (pe_one (pe_callB (r:=rIsiX K) call_isiX rfl z_isinstance PyProof.Rows.boot_isinstance (pa_cons (pv 3) (pa_cons (pe_glob (v:=.ref a.c_BadName) rfl x_BadName.mg rfl) pa_nil))))))) (pa_cons (pe_or (pe_callB (r:=rIsiX K) call_isiX rfl z_isinstance PyProof.Rows.boot_isinstance (pa_cons (pv 3) (pa_cons (pe_glob (v:=.ref a.c_NoRow) rfl x_NoRow.mg rfl) pa_nil))) (pe_one (pe_callB (r:=rIsiX K) call_isiX rfl z_isinstance PyProof.Rows.boot_isinstance (pa_cons (pv 3) (pa_cons (pe_glob (v:=.ref a.c_NothingDone) rfl x_NothingDone.mg rfl) pa_nil))))) pa_nil))))))))))))))
   (pss_one (ps_ret (pv 2))))),?_⟩
 refine ⟨small (by simp),fun p1 hp1=>?_⟩
 have g1:=same_new hp1 (.lst [])
 have h1:upd H p1 (.lst []) p1=some (.lst []):=upd_same
 generalize upd H p1 (.lst [])=H0 at g1 h1 ⊢
 rcases due with ⟨e,rfl⟩ | ⟨hi,rfl⟩
 ·refine ⟨_,rfl,_,rfl,d,ns,rs,m,i,rfl,S,N,hm,hP.same g1,by omega,fun _=>⟨_,rfl,T.t_NoPart_TrueleafError,fun x hx=>?_⟩,fun z=>absurd e (by omega)⟩
  obtain ⟨H1,hH1⟩ : ∃ H1,H1=H0:=⟨_,rfl⟩
  rw [← hH1] at hx ⊢
  have s1:Same H0 H1:=by rw [hH1]; exact Same.refl _
  dsimp only [duC]
  have s5:=same_new hx (excO x a.c_NoPart)
  have k5:(upd H1 x (excO x a.c_NoPart)) x=some (excO x a.c_NoPart):=upd_same
  generalize upd H1 x (excO x a.c_NoPart)=H5 at s5 k5 ⊢
  refine ⟨_,rfl,x,a.c_NoPart,_,false,rfl,k5,T.lk_NoPart,.inl ⟨_,rfl,T.ki_NoPart_BadRow⟩,_,rfl,x,a.c_NoPart,_,false,rfl,k5,T.lk_NoPart,.inl ⟨_,rfl,T.ki_NoPart_Ring⟩,_,rfl,x,a.c_NoPart,_,true,rfl,k5,T.lk_NoPart,.inl ⟨_,rfl,T.ki_NoPart_NoPart⟩,_,rfl,x,a.c_NoPart,_,false,rfl,k5,T.lk_NoPart,.inl ⟨_,rfl,T.ki_NoPart_TooLong⟩,_,rfl,x,a.c_NoPart,_,true,rfl,k5,T.lk_NoPart,.inr ⟨_,rfl,T.ki_NoPart_ValueError⟩,_,rfl,x,a.c_NoPart,_,false,rfl,k5,T.lk_NoPart,.inl ⟨_,rfl,T.ki_NoPart_BadCall⟩,_,rfl,?_⟩
  refine iteF ?_
  refine ⟨_,rfl,x,a.c_NoPart,_,false,rfl,k5,T.lk_NoPart,.inl ⟨_,rfl,T.ki_NoPart_Deep⟩,_,rfl,?_⟩
  refine iteF ?_
  refine ⟨_,rfl,x,a.c_NoPart,_,false,rfl,k5,T.lk_NoPart,.inl ⟨_,rfl,T.ki_NoPart_NoShort⟩,_,rfl,?_⟩
  refine iteF ?_
  refine ⟨_,rfl,x,a.c_NoPart,_,false,rfl,k5,T.lk_NoPart,.inl ⟨_,rfl,T.ki_NoPart_BadForm⟩,_,rfl,x,a.c_NoPart,_,false,rfl,k5,T.lk_NoPart,.inl ⟨_,rfl,T.ki_NoPart_BadWord⟩,_,rfl,?_⟩
  refine iteF ?_
  refine ⟨_,rfl,x,a.c_NoPart,_,false,rfl,k5,T.lk_NoPart,.inl ⟨_,rfl,T.ki_NoPart_BadPaper⟩,_,rfl,?_⟩
  refine iteF ?_
  refine ⟨_,rfl,x,a.c_NoPart,_,false,rfl,k5,T.lk_NoPart,.inl ⟨_,rfl,T.ki_NoPart_NoGrowth⟩,_,rfl,?_⟩
  refine iteF ?_
  refine ⟨_,rfl,x,a.c_NoPart,_,false,rfl,k5,T.lk_NoPart,.inl ⟨_,rfl,T.ki_NoPart_Twice⟩,_,rfl,x,a.c_NoPart,_,false,rfl,k5,T.lk_NoPart,.inl ⟨_,rfl,T.ki_NoPart_NoFoot⟩,_,rfl,?_⟩
  refine iteF ?_
  refine ⟨_,rfl,x,a.c_NoPart,_,false,rfl,k5,T.lk_NoPart,.inl ⟨_,rfl,T.ki_NoPart_NoMark⟩,_,rfl,?_⟩
  refine iteF ?_
  refine ⟨_,rfl,x,a.c_NoPart,_,false,rfl,k5,T.lk_NoPart,.inl ⟨_,rfl,T.ki_NoPart_NoLaying⟩,_,rfl,?_⟩
  refine iteF ?_
  refine ⟨_,rfl,x,a.c_NoPart,_,false,rfl,k5,T.lk_NoPart,.inl ⟨_,rfl,T.ki_NoPart_BadName⟩,_,rfl,x,a.c_NoPart,_,false,rfl,k5,T.lk_NoPart,.inl ⟨_,rfl,T.ki_NoPart_NoRow⟩,_,rfl,?_⟩
  refine iteF ?_
  refine ⟨_,rfl,x,a.c_NoPart,_,false,rfl,k5,T.lk_NoPart,.inl ⟨_,rfl,T.ki_NoPart_NothingDone⟩,small (by simp),fun p hp=>?_⟩
  exact ⟨_,rfl,q p _ ((g1.trans s1).trans (s5.trans (same_new hp _))) upd_same⟩
 ·refine ⟨_,rfl,_,rfl,d,ns,rs,m,i,rfl,S,N,hm,hP.same g1,by omega,fun e=>absurd e (by omega),fun _=>⟨fun y ey H1 s1=>?_,fun en p H1 refs s1 _ _=>?_⟩⟩
  ·rw [ey] at q
   cases y with
   | bad =>
    refine ⟨_,rfl,T.t_BadRow_TrueleafError,fun x hx=>?_⟩
    dsimp only [duC]
    have s5:=same_new hx (excO x a.c_BadRow)
    have k5:(upd H1 x (excO x a.c_BadRow)) x=some (excO x a.c_BadRow):=upd_same
    generalize upd H1 x (excO x a.c_BadRow)=H5 at s5 k5 ⊢
    refine ⟨_,rfl,x,a.c_BadRow,_,true,rfl,k5,T.lk_BadRow,.inl ⟨_,rfl,T.ki_BadRow_BadRow⟩,_,rfl,x,a.c_BadRow,_,false,rfl,k5,T.lk_BadRow,.inl ⟨_,rfl,T.ki_BadRow_Ring⟩,_,rfl,x,a.c_BadRow,_,false,rfl,k5,T.lk_BadRow,.inl ⟨_,rfl,T.ki_BadRow_NoPart⟩,_,rfl,x,a.c_BadRow,_,false,rfl,k5,T.lk_BadRow,.inl ⟨_,rfl,T.ki_BadRow_TooLong⟩,_,rfl,x,a.c_BadRow,_,true,rfl,k5,T.lk_BadRow,.inr ⟨_,rfl,T.ki_BadRow_ValueError⟩,_,rfl,x,a.c_BadRow,_,false,rfl,k5,T.lk_BadRow,.inl ⟨_,rfl,T.ki_BadRow_BadCall⟩,_,rfl,?_⟩
    refine iteF ?_
    refine ⟨_,rfl,x,a.c_BadRow,_,false,rfl,k5,T.lk_BadRow,.inl ⟨_,rfl,T.ki_BadRow_Deep⟩,_,rfl,?_⟩
    refine iteF ?_
    refine ⟨_,rfl,x,a.c_BadRow,_,false,rfl,k5,T.lk_BadRow,.inl ⟨_,rfl,T.ki_BadRow_NoShort⟩,_,rfl,?_⟩
    refine iteF ?_
    refine ⟨_,rfl,x,a.c_BadRow,_,false,rfl,k5,T.lk_BadRow,.inl ⟨_,rfl,T.ki_BadRow_BadForm⟩,_,rfl,x,a.c_BadRow,_,false,rfl,k5,T.lk_BadRow,.inl ⟨_,rfl,T.ki_BadRow_BadWord⟩,_,rfl,?_⟩
    refine iteF ?_
    refine ⟨_,rfl,x,a.c_BadRow,_,false,rfl,k5,T.lk_BadRow,.inl ⟨_,rfl,T.ki_BadRow_BadPaper⟩,_,rfl,?_⟩
    refine iteF ?_
    refine ⟨_,rfl,x,a.c_BadRow,_,false,rfl,k5,T.lk_BadRow,.inl ⟨_,rfl,T.ki_BadRow_NoGrowth⟩,_,rfl,?_⟩
    refine iteF ?_
    refine ⟨_,rfl,x,a.c_BadRow,_,false,rfl,k5,T.lk_BadRow,.inl ⟨_,rfl,T.ki_BadRow_Twice⟩,_,rfl,x,a.c_BadRow,_,false,rfl,k5,T.lk_BadRow,.inl ⟨_,rfl,T.ki_BadRow_NoFoot⟩,_,rfl,?_⟩
    refine iteF ?_
    refine ⟨_,rfl,x,a.c_BadRow,_,false,rfl,k5,T.lk_BadRow,.inl ⟨_,rfl,T.ki_BadRow_NoMark⟩,_,rfl,?_⟩
    refine iteF ?_
    refine ⟨_,rfl,x,a.c_BadRow,_,false,rfl,k5,T.lk_BadRow,.inl ⟨_,rfl,T.ki_BadRow_NoLaying⟩,_,rfl,?_⟩
    refine iteF ?_
    refine ⟨_,rfl,x,a.c_BadRow,_,false,rfl,k5,T.lk_BadRow,.inl ⟨_,rfl,T.ki_BadRow_BadName⟩,_,rfl,x,a.c_BadRow,_,false,rfl,k5,T.lk_BadRow,.inl ⟨_,rfl,T.ki_BadRow_NoRow⟩,_,rfl,?_⟩
    refine iteF ?_
    refine ⟨_,rfl,x,a.c_BadRow,_,false,rfl,k5,T.lk_BadRow,.inl ⟨_,rfl,T.ki_BadRow_NothingDone⟩,small (by simp),fun p hp=>?_⟩
    exact ⟨_,rfl,q p _ ((g1.trans s1).trans (s5.trans (same_new hp _))) upd_same⟩
   | ring =>
    refine ⟨_,rfl,T.t_Ring_TrueleafError,fun x hx=>?_⟩
    dsimp only [duC]
    have s5:=same_new hx (excO x a.c_Ring)
    have k5:(upd H1 x (excO x a.c_Ring)) x=some (excO x a.c_Ring):=upd_same
    generalize upd H1 x (excO x a.c_Ring)=H5 at s5 k5 ⊢
    refine ⟨_,rfl,x,a.c_Ring,_,false,rfl,k5,T.lk_Ring,.inl ⟨_,rfl,T.ki_Ring_BadRow⟩,_,rfl,x,a.c_Ring,_,true,rfl,k5,T.lk_Ring,.inl ⟨_,rfl,T.ki_Ring_Ring⟩,_,rfl,x,a.c_Ring,_,false,rfl,k5,T.lk_Ring,.inl ⟨_,rfl,T.ki_Ring_NoPart⟩,_,rfl,x,a.c_Ring,_,false,rfl,k5,T.lk_Ring,.inl ⟨_,rfl,T.ki_Ring_TooLong⟩,_,rfl,x,a.c_Ring,_,true,rfl,k5,T.lk_Ring,.inr ⟨_,rfl,T.ki_Ring_ValueError⟩,_,rfl,x,a.c_Ring,_,false,rfl,k5,T.lk_Ring,.inl ⟨_,rfl,T.ki_Ring_BadCall⟩,_,rfl,?_⟩
    refine iteF ?_
    refine ⟨_,rfl,x,a.c_Ring,_,false,rfl,k5,T.lk_Ring,.inl ⟨_,rfl,T.ki_Ring_Deep⟩,_,rfl,?_⟩
    refine iteF ?_
    refine ⟨_,rfl,x,a.c_Ring,_,false,rfl,k5,T.lk_Ring,.inl ⟨_,rfl,T.ki_Ring_NoShort⟩,_,rfl,?_⟩
    refine iteF ?_
    refine ⟨_,rfl,x,a.c_Ring,_,false,rfl,k5,T.lk_Ring,.inl ⟨_,rfl,T.ki_Ring_BadForm⟩,_,rfl,x,a.c_Ring,_,false,rfl,k5,T.lk_Ring,.inl ⟨_,rfl,T.ki_Ring_BadWord⟩,_,rfl,?_⟩
    refine iteF ?_
    refine ⟨_,rfl,x,a.c_Ring,_,false,rfl,k5,T.lk_Ring,.inl ⟨_,rfl,T.ki_Ring_BadPaper⟩,_,rfl,?_⟩
    refine iteF ?_
    refine ⟨_,rfl,x,a.c_Ring,_,false,rfl,k5,T.lk_Ring,.inl ⟨_,rfl,T.ki_Ring_NoGrowth⟩,_,rfl,?_⟩
    refine iteF ?_
    refine ⟨_,rfl,x,a.c_Ring,_,false,rfl,k5,T.lk_Ring,.inl ⟨_,rfl,T.ki_Ring_Twice⟩,_,rfl,x,a.c_Ring,_,false,rfl,k5,T.lk_Ring,.inl ⟨_,rfl,T.ki_Ring_NoFoot⟩,_,rfl,?_⟩
    refine iteF ?_
    refine ⟨_,rfl,x,a.c_Ring,_,false,rfl,k5,T.lk_Ring,.inl ⟨_,rfl,T.ki_Ring_NoMark⟩,_,rfl,?_⟩
    refine iteF ?_
    refine ⟨_,rfl,x,a.c_Ring,_,false,rfl,k5,T.lk_Ring,.inl ⟨_,rfl,T.ki_Ring_NoLaying⟩,_,rfl,?_⟩
    refine iteF ?_
    refine ⟨_,rfl,x,a.c_Ring,_,false,rfl,k5,T.lk_Ring,.inl ⟨_,rfl,T.ki_Ring_BadName⟩,_,rfl,x,a.c_Ring,_,false,rfl,k5,T.lk_Ring,.inl ⟨_,rfl,T.ki_Ring_NoRow⟩,_,rfl,?_⟩
    refine iteF ?_
    refine ⟨_,rfl,x,a.c_Ring,_,false,rfl,k5,T.lk_Ring,.inl ⟨_,rfl,T.ki_Ring_NothingDone⟩,small (by simp),fun p hp=>?_⟩
    exact ⟨_,rfl,q p _ ((g1.trans s1).trans (s5.trans (same_new hp _))) upd_same⟩
   | lack =>
    refine ⟨_,rfl,T.t_NoPart_TrueleafError,fun x hx=>?_⟩
    dsimp only [duC]
    have s5:=same_new hx (excO x a.c_NoPart)
    have k5:(upd H1 x (excO x a.c_NoPart)) x=some (excO x a.c_NoPart):=upd_same
    generalize upd H1 x (excO x a.c_NoPart)=H5 at s5 k5 ⊢
    refine ⟨_,rfl,x,a.c_NoPart,_,false,rfl,k5,T.lk_NoPart,.inl ⟨_,rfl,T.ki_NoPart_BadRow⟩,_,rfl,x,a.c_NoPart,_,false,rfl,k5,T.lk_NoPart,.inl ⟨_,rfl,T.ki_NoPart_Ring⟩,_,rfl,x,a.c_NoPart,_,true,rfl,k5,T.lk_NoPart,.inl ⟨_,rfl,T.ki_NoPart_NoPart⟩,_,rfl,x,a.c_NoPart,_,false,rfl,k5,T.lk_NoPart,.inl ⟨_,rfl,T.ki_NoPart_TooLong⟩,_,rfl,x,a.c_NoPart,_,true,rfl,k5,T.lk_NoPart,.inr ⟨_,rfl,T.ki_NoPart_ValueError⟩,_,rfl,x,a.c_NoPart,_,false,rfl,k5,T.lk_NoPart,.inl ⟨_,rfl,T.ki_NoPart_BadCall⟩,_,rfl,?_⟩
    refine iteF ?_
    refine ⟨_,rfl,x,a.c_NoPart,_,false,rfl,k5,T.lk_NoPart,.inl ⟨_,rfl,T.ki_NoPart_Deep⟩,_,rfl,?_⟩
    refine iteF ?_
    refine ⟨_,rfl,x,a.c_NoPart,_,false,rfl,k5,T.lk_NoPart,.inl ⟨_,rfl,T.ki_NoPart_NoShort⟩,_,rfl,?_⟩
    refine iteF ?_
    refine ⟨_,rfl,x,a.c_NoPart,_,false,rfl,k5,T.lk_NoPart,.inl ⟨_,rfl,T.ki_NoPart_BadForm⟩,_,rfl,x,a.c_NoPart,_,false,rfl,k5,T.lk_NoPart,.inl ⟨_,rfl,T.ki_NoPart_BadWord⟩,_,rfl,?_⟩
    refine iteF ?_
    refine ⟨_,rfl,x,a.c_NoPart,_,false,rfl,k5,T.lk_NoPart,.inl ⟨_,rfl,T.ki_NoPart_BadPaper⟩,_,rfl,?_⟩
    refine iteF ?_
    refine ⟨_,rfl,x,a.c_NoPart,_,false,rfl,k5,T.lk_NoPart,.inl ⟨_,rfl,T.ki_NoPart_NoGrowth⟩,_,rfl,?_⟩
    refine iteF ?_
    refine ⟨_,rfl,x,a.c_NoPart,_,false,rfl,k5,T.lk_NoPart,.inl ⟨_,rfl,T.ki_NoPart_Twice⟩,_,rfl,x,a.c_NoPart,_,false,rfl,k5,T.lk_NoPart,.inl ⟨_,rfl,T.ki_NoPart_NoFoot⟩,_,rfl,?_⟩
    refine iteF ?_
    refine ⟨_,rfl,x,a.c_NoPart,_,false,rfl,k5,T.lk_NoPart,.inl ⟨_,rfl,T.ki_NoPart_NoMark⟩,_,rfl,?_⟩
    refine iteF ?_
    refine ⟨_,rfl,x,a.c_NoPart,_,false,rfl,k5,T.lk_NoPart,.inl ⟨_,rfl,T.ki_NoPart_NoLaying⟩,_,rfl,?_⟩
    refine iteF ?_
    refine ⟨_,rfl,x,a.c_NoPart,_,false,rfl,k5,T.lk_NoPart,.inl ⟨_,rfl,T.ki_NoPart_BadName⟩,_,rfl,x,a.c_NoPart,_,false,rfl,k5,T.lk_NoPart,.inl ⟨_,rfl,T.ki_NoPart_NoRow⟩,_,rfl,?_⟩
    refine iteF ?_
    refine ⟨_,rfl,x,a.c_NoPart,_,false,rfl,k5,T.lk_NoPart,.inl ⟨_,rfl,T.ki_NoPart_NothingDone⟩,small (by simp),fun p hp=>?_⟩
    exact ⟨_,rfl,q p _ ((g1.trans s1).trans (s5.trans (same_new hp _))) upd_same⟩
   | long =>
    refine ⟨_,rfl,T.t_TooLong_TrueleafError,fun x hx=>?_⟩
    dsimp only [duC]
    have s5:=same_new hx (excO x a.c_TooLong)
    have k5:(upd H1 x (excO x a.c_TooLong)) x=some (excO x a.c_TooLong):=upd_same
    generalize upd H1 x (excO x a.c_TooLong)=H5 at s5 k5 ⊢
    refine ⟨_,rfl,x,a.c_TooLong,_,false,rfl,k5,T.lk_TooLong,.inl ⟨_,rfl,T.ki_TooLong_BadRow⟩,_,rfl,x,a.c_TooLong,_,false,rfl,k5,T.lk_TooLong,.inl ⟨_,rfl,T.ki_TooLong_Ring⟩,_,rfl,x,a.c_TooLong,_,false,rfl,k5,T.lk_TooLong,.inl ⟨_,rfl,T.ki_TooLong_NoPart⟩,_,rfl,x,a.c_TooLong,_,true,rfl,k5,T.lk_TooLong,.inl ⟨_,rfl,T.ki_TooLong_TooLong⟩,_,rfl,x,a.c_TooLong,_,true,rfl,k5,T.lk_TooLong,.inr ⟨_,rfl,T.ki_TooLong_ValueError⟩,_,rfl,x,a.c_TooLong,_,false,rfl,k5,T.lk_TooLong,.inl ⟨_,rfl,T.ki_TooLong_BadCall⟩,_,rfl,?_⟩
    refine iteF ?_
    refine ⟨_,rfl,x,a.c_TooLong,_,false,rfl,k5,T.lk_TooLong,.inl ⟨_,rfl,T.ki_TooLong_Deep⟩,_,rfl,?_⟩
    refine iteF ?_
    refine ⟨_,rfl,x,a.c_TooLong,_,false,rfl,k5,T.lk_TooLong,.inl ⟨_,rfl,T.ki_TooLong_NoShort⟩,_,rfl,?_⟩
    refine iteF ?_
    refine ⟨_,rfl,x,a.c_TooLong,_,false,rfl,k5,T.lk_TooLong,.inl ⟨_,rfl,T.ki_TooLong_BadForm⟩,_,rfl,x,a.c_TooLong,_,false,rfl,k5,T.lk_TooLong,.inl ⟨_,rfl,T.ki_TooLong_BadWord⟩,_,rfl,?_⟩
    refine iteF ?_
    refine ⟨_,rfl,x,a.c_TooLong,_,false,rfl,k5,T.lk_TooLong,.inl ⟨_,rfl,T.ki_TooLong_BadPaper⟩,_,rfl,?_⟩
    refine iteF ?_
    refine ⟨_,rfl,x,a.c_TooLong,_,false,rfl,k5,T.lk_TooLong,.inl ⟨_,rfl,T.ki_TooLong_NoGrowth⟩,_,rfl,?_⟩
    refine iteF ?_
    refine ⟨_,rfl,x,a.c_TooLong,_,false,rfl,k5,T.lk_TooLong,.inl ⟨_,rfl,T.ki_TooLong_Twice⟩,_,rfl,x,a.c_TooLong,_,false,rfl,k5,T.lk_TooLong,.inl ⟨_,rfl,T.ki_TooLong_NoFoot⟩,_,rfl,?_⟩
    refine iteF ?_
    refine ⟨_,rfl,x,a.c_TooLong,_,false,rfl,k5,T.lk_TooLong,.inl ⟨_,rfl,T.ki_TooLong_NoMark⟩,_,rfl,?_⟩
    refine iteF ?_
    refine ⟨_,rfl,x,a.c_TooLong,_,false,rfl,k5,T.lk_TooLong,.inl ⟨_,rfl,T.ki_TooLong_NoLaying⟩,_,rfl,?_⟩
    refine iteF ?_
    refine ⟨_,rfl,x,a.c_TooLong,_,false,rfl,k5,T.lk_TooLong,.inl ⟨_,rfl,T.ki_TooLong_BadName⟩,_,rfl,x,a.c_TooLong,_,false,rfl,k5,T.lk_TooLong,.inl ⟨_,rfl,T.ki_TooLong_NoRow⟩,_,rfl,?_⟩
    refine iteF ?_
    refine ⟨_,rfl,x,a.c_TooLong,_,false,rfl,k5,T.lk_TooLong,.inl ⟨_,rfl,T.ki_TooLong_NothingDone⟩,small (by simp),fun p hp=>?_⟩
    exact ⟨_,rfl,q p _ ((g1.trans s1).trans (s5.trans (same_new hp _))) upd_same⟩
  ·rw [en] at q
   exact ⟨_,rfl,q p1 _ (g1.trans s1) (s1 _ _ h1)⟩
def sp_l_asked (K:PySem.W.Frag) : Sp:=fun vs H Q _=>∃ (d:Addr) (ns:List (List Nat)) (rs:List (List Row2)) (m i:Nat) (o:Option Du),vs=[.ref d,.str (tx (nm ns i)),.str (duS o)]∧Shelf2 ns rs m∧Names ns (m+1)∧m≤8∧Parts2 H d ns rs m∧DueAt rs m i o∧∀ H',Same H H'→Q (.bl true) H'
theorem sc_l_asked:FnScope ["parts","name","due","which"] ["parts","name","due"] (defScope s_l_asked):=⟨rfl,rfl,rfl,by decide +kernel,rfl,by decide +kernel,by decide +kernel⟩
theorem ok_l_asked (T:Txt P w K mg a) : FnOk P w K mg base CX0 16 a.f_l_asked a.fd_l_asked ["parts","name","due"] (sp_l_asked K):=by
 have g_l_refusal:=ok_l_refusal (P:=P) (w:=w) (base:=base) T
 have d_l_refusal:=T.d_l_refusal
 refine T.d_l_asked.fn.ok sc_l_asked (fun vs H Q E h=>?_) (fun cdv A outer s H vs Q E hr h=>?_)
 ·obtain ⟨d,ns,rs,m,i,o,rfl,_⟩:=h
  rfl
 obtain ⟨d,ns,rs,m,i,o,rfl,S,N,hm,hP,due,q⟩:=h
 have hu:=Nat.lt_of_succ_lt (hu_of hr)
 refine ⟨_,(pss_cons (ps_set (i:=3) sc_l_asked.nd rfl (Or.inl rfl) (pe_callD d_l_refusal g_l_refusal (hr.mono (by decide)) rfl (pa_cons (pv 0) (pa_cons (pv 1) pa_nil))))
   (pss_cons (ps_if (pt_cmpR op_eq (pv 2) pe_str (nomark _)) (pss_one (ps_ret (pe_cmpR (op_eqL hu) (pv 3) (pe_lst pa_nil) (nomark _)))) pss_nil)
   (pss_one (ps_ret (pe_cmpR (op_eqL hu) (pv 3) (pe_op op_cat (pe_lst (pa_cons (pe_cmpR op_eq (pv 2) pe_str (nomark _)) (pa_cons (pe_cmpR op_eq (pv 2) pe_str (nomark _)) (pa_cons (pe_cmpR op_eq (pv 2) pe_str (nomark _)) (pa_cons (pe_cmpR op_eq (pv 2) pe_str (nomark _)) (pa_cons pe_bl pa_nil)))))) (pe_op op_rep (pe_lst (pa_cons pe_bl pa_nil)) pe_int)) (nomark _)))))),?_⟩
 refine ⟨_,rfl,_,rfl,d,ns,rs,m,i,o,rfl,S,N,hm,hP,due,fun pw H1 s1 h1=>?_⟩
 cases o with
 | none =>
  refine ⟨_,rfl,rfl,_,rfl,?_⟩
  refine iteT ?_
  refine ⟨_,rfl,small (by simp),fun p1 hp1=>?_⟩
  have g1:=same_new hp1 (.lst [])
  exact ⟨_,_,_,_,rfl,rfl,SqL.of (g1 _ _ h1),SqL.of upd_same,rfl,rfl,q _ (s1.trans g1)⟩
 | some x =>
  refine ⟨_,rfl,rfl,_,rfl,?_⟩
  rw [sNe (duS_ne x)]
  refine iteF ?_
  refine ⟨_,rfl,_,rfl,rfl,_,rfl,rfl,_,rfl,rfl,_,rfl,rfl,small (by simp),fun p2 hp2=>?_⟩
  have ew:[V.bl (decide (V.str (duS (some x))=V.str (PySem.Str.ofString "BadRow"))),V.bl (decide (V.str (duS (some x))=V.str (PySem.Str.ofString "Ring"))),V.bl (decide (V.str (duS (some x))=V.str (PySem.Str.ofString "NoPart"))),V.bl (decide (V.str (duS (some x))=V.str (PySem.Str.ofString "TooLong"))),V.bl true]=((whichB (some x)).take 5).map V.bl:=by cases x <;> decide +kernel
  rw [ew]
  have g2:=same_new hp2 (.lst (((whichB (some x)).take 5).map V.bl))
  have h2:upd H1 p2 (.lst (((whichB (some x)).take 5).map V.bl)) p2=some (.lst (((whichB (some x)).take 5).map V.bl)):=upd_same
  generalize upd H1 p2 (.lst (((whichB (some x)).take 5).map V.bl))=H2 at g2 h2 ⊢
  refine ⟨small (by simp),fun p3 hp3=>?_⟩
  have g3:=same_new hp3 (.lst [V.bl false])
  refine ⟨_,_,_,rfl,rfl,upd_same,by decide,by decide,small (by simp),fun p4 hp4=>?_⟩
  have g4:=same_new hp4 (.lst [V.bl false,V.bl false,V.bl false,V.bl false])
  refine ⟨_,_,_,_,rfl,rfl,g4 _ _ (g3 _ _ h2),upd_same,small (by cases x <;> simp [whichB]),fun p5 hp5=>?_⟩
  have e5:((whichB (some x)).take 5).map V.bl++(List.replicate (4:Int).toNat [V.bl false]).flatten=(whichB (some x)).map V.bl:=by cases x <;> rfl
  have g5:=same_new hp5 (.lst ((whichB (some x)).map V.bl))
  have fb:((whichB (some x)).map V.bl).all flatV=true:=by cases x <;> rfl
  rw [e5]
  refine ⟨_,_,_,_,rfl,rfl,SqL.of (g5 _ _ (g4 _ _ (g3 _ _ (g2 _ _ h1)))),SqL.of upd_same,fb,fb,?_⟩
  show Q (.bl (eqVs _ _)) _
  rw [eqVs_refl fb]
  exact q _ (s1.trans (((g2.trans g3).trans g4).trans g5))
def sp_l_cell_at (K:PySem.W.Frag) : Sp:=fun vs H Q _=>∃ (b:Addr) (ns:List Int) (k:Nat),vs=[.ref b,.int (k:Int)]∧SqL K H b (ns.map V.int)∧Q (.int (ns.getD k 0)) H
theorem sc_l_cell_at:FnScope ["script","k"] ["script","k"] (defScope s_l_cell_at):=⟨rfl,rfl,rfl,by decide +kernel,rfl,by decide +kernel,by decide +kernel⟩
theorem ok_l_cell_at (T:Txt P w K mg a) : FnOk P w K mg base CX0 1 a.f_l_cell_at a.fd_l_cell_at ["script","k"] (sp_l_cell_at K):=by
 have z_len:=T.z_len
 refine T.d_l_cell_at.fn.ok sc_l_cell_at (fun vs H Q E h=>?_) (fun cdv A outer s H vs Q E hr h=>?_)
 ·obtain ⟨b,ns,k,rfl,_⟩:=h
  rfl
 obtain ⟨b,ns,k,rfl,hS,q⟩:=h
 have hu:=Nat.lt_of_succ_lt (hu_of hr)
 refine ⟨_,(pss_cons (ps_if (pt_cmpR op_lt (pv 1) (pe_callB call_len_seq rfl z_len PySem.boot_len (pa_cons (pv 0) pa_nil)) (nomark _)) (pss_one (ps_ret (pe_ix ix_list (pv 0) (pv 1) (fun _ _=>rfl)))) pss_nil)
   (pss_one (ps_ret pe_int))),?_⟩
 refine ⟨_,rfl,_,rfl,_,_,rfl,.inl hS,_,_,rfl,rfl,_,rfl,?_⟩
 refine ite2 (fun c=>?_) (fun c=>?_)
 ·have hk:k < ns.length:=by
   have:=of_decide_eq_true c
   rw [List.length_map] at this
   omega
  refine ⟨_,rfl,_,rfl,_,_,_,_,rfl,rfl,hS,atI_nat (j:=k) (v:=.int (ns.getD k 0)) ?_,q⟩
  rw [List.getElem?_map,List.getElem?_eq_getElem hk,List.getD_eq_getElem?_getD,List.getElem?_eq_getElem hk]
  rfl
 ·have hk:ns.length≤k:=by
   refine Nat.le_of_not_lt fun hk=>c (decide_eq_true ?_)
   rw [List.length_map]
   omega
  have e:ns.getD k 0=0:=by rw [List.getD_eq_getElem?_getD,List.getElem?_eq_none hk]; rfl
  rw [e] at q
  exact q

theorem sc_l_count:FnScope ["shelf","i","counts","many","row"] ["shelf","i","counts"] (defScope s_l_count):=⟨rfl,rfl,rfl,by decide +kernel,rfl,by decide +kernel,by decide +kernel⟩
def sp_cnt (n:Nat) : Sp:=fun vs H Q _=>∃ (ps c:Addr) (sq:List Addr) (ns:List (List Nat)) (rs:List (List Row2)) (m i:Nat) (L:List Nat) (k0:Nat) (M:List Nat),vs=[.ref ps,.int (i:Nat),.ref c]∧ShelfAt H ps sq rs∧Shelf2 ns rs m∧m≤8∧OrdL rs m L∧GoodL rs L∧L[k0]? = some i∧k0 < n∧H c=some (.dK (iKL rs M))∧(∀ (k j a:Nat),M[k]? = some a→M[j]? = some a→k=j)∧(∀ x ∈ M,x < m) ∧
  ∀ M' H',(∀ (k j a:Nat),M'[k]? = some a→M'[j]? = some a→k=j)→(∀ x ∈ M',x < m)→(∀ x ∈ M',x ∈ M∨∃ k',k'≤k0∧L[k']? = some x)→H' c=some (.dK (iKL rs M'))→SameX c H H'→Q (.int (CT rs i:Nat)) H'
theorem ok_l_count_n (T:Txt P w K mg a) : ∀ n:Nat,FnOk P w K mg base CX0 (n+4) a.f_l_count a.fd_l_count ["shelf","i","counts"] (sp_cnt n)
 | 0=>⟨fun vs H Q E h=>(by obtain ⟨ps,c,sq,ns,rs,m,i,L,k0,M,_,_,_,_,_,_,_,h1,_⟩:=h; omega),fun A outer s H args us vs Q E _ _ _ _ h=>(by obtain ⟨ps,c,sq,ns,rs,m,i,L,k0,M,_,_,_,_,_,_,_,h1,_⟩:=h; omega)⟩
 | n+1=>by
  have g_l_count:=ok_l_count_n T n
  have d_l_count:=T.d_l_count

  refine T.d_l_count.fn.ok sc_l_count (fun vs H Q E h=>?_) (fun cdv A outer s H vs Q E hr h=>?_)
  ·obtain ⟨ps,c,sq,ns,rs,m,i,L,k0,M,rfl,_⟩:=h
   rfl
  obtain ⟨ps,c,sq,ns,rs,m,i,L,k0,M,rfl,SA,S,hm,O,G,hk0,hkn,hc,nd,lt,q⟩:=h
  have hu:=Nat.lt_of_succ_lt (hu_of hr)
  refine ⟨_,(pss_cons (ps_if (pt_cmpR (op_notin_dict (hu_of hr)) (pv 1) (pv 2) (by with_unfolding_all rfl)) (pss_cons (ps_set (i:=3) sc_l_count.nd rfl (Or.inl rfl) pe_int)
   (pss_cons (ps_for PassesOwn.never rfl (pi_list (pe_ix ix_list (pv 0) (pv 1) (fun _ _=>rfl))) (pg_name (i:=4) sc_l_count.nd rfl (Or.inl rfl)) (pss_one (ps_if (pt_cmpR op_eq (pe_ix ix_tup (pv 4) pe_int (fun _ _=>rfl)) pe_str (nomark _)) (pss_one (ps_set (i:=3) sc_l_count.nd rfl (Or.inl rfl) (pe_op op_add (pv 3) (pe_callD d_l_count g_l_count hr rfl (pa_cons (pv 0) (pa_cons (pe_ix ix_tup (pv 4) pe_int (fun _ _=>rfl)) (pa_cons (pv 2) pa_nil))))))) (pss_one (ps_set (i:=3) sc_l_count.nd rfl (Or.inl rfl) (pe_op op_add (pv 3) pe_int))))))
   (pss_one (ps_dput (hu_of hr) (pv 2) (pv 1) (pv 3) rfl)))) pss_nil)
   (pss_one (ps_ret (pe_dget (hu_of hr) (pv 2) (pv 1) (fun _ _=>rfl))))),?_⟩
  have hiL:i ∈ L:=List.mem_of_getElem? hk0
  have him:i < m:=O.lt i hiL
  have hct:=ct_in O hm hiL
  try dsimp only [gName]
  with_reducible refine cut_seq (fun σ' H'=>∃ (v3 v4:Option V) (M':List Nat),σ' = [some (.ref ps),some (.int (i:Nat)),some (.ref c),v3,v4]∧(∀ (k j a:Nat),M'[k]? = some a→M'[j]? = some a→k=j)∧(∀ x ∈ M',x < m)∧(∀ x ∈ M',x ∈ M∨∃ k',k'≤k0∧L[k']? = some x)∧i ∈ M'∧H' c=some (.dK (iKL rs M'))∧SameX c H H') ?_ (fun key=>?_)
  ·rintro σ' H' ⟨v3,v4,M',rfl,nd',lt',sub',hi',hc',sx⟩
   exact ⟨_,rfl,_,rfl,c,_,rfl,dgetI hc' (iKL_in hi'),q M' H' nd' lt' sub' hc' sx⟩
  ·by_cases hiM:i ∈ M
   ·refine ⟨_,rfl,_,rfl,c,_,rfl,dgetI hc (iKL_in hiM),_,rfl,?_⟩
    refine iteF ?_
    exact key _ _ ⟨none,none,M,rfl,nd,lt,fun x hx=>.inl hx,hiM,hc,SameX.refl _ _⟩
   ·refine ⟨_,rfl,_,rfl,c,_,rfl,dgetI hc (iKL_out hiM),_,rfl,?_⟩
    refine iteT ?_
    obtain ⟨q',hq'⟩ : ∃ q',sq[i]? = some q':=⟨_,List.getElem?_eq_getElem (by rw [SA.len,S.len]; exact him)⟩
    obtain ⟨refs,hr1,hr2⟩:=SA.at' i q' hq'
    have nq:q'≠c:=ne_of hr1 hc (by intro z; cases z)
    have n1:ps≠c:=ne_of SA.top hc (by intro z; cases z)
    have n2:c ∉ sq:=fun z=>by
     obtain ⟨k,hk⟩:=List.getElem?_of_mem z
     obtain ⟨r',h1,_⟩:=SA.at' k c hk
     rw [hc] at h1; cases h1
    have ht:∀ xs,H c≠some (.tup xs):=fun xs z=>by rw [hc] at z; cases z
    refine ⟨_,rfl,_,rfl,ps,_,_,V.ref q',rfl,rfl,SqL.of SA.top,atI_nat (by rw [List.getElem?_map,hq']; rfl),q',rfl,⟨_,SqL.of hr1⟩,for_list (K:=K) (a:=q') (xs:=refs) (fun k σ H2=>∃ (v4:Option V) (M':List Nat),σ=[some (.ref ps),some (.int (i:Nat)),some (.ref c),some (.int (cTo rs i k:Nat)),v4]∧(∀ (k j a:Nat),M'[k]? = some a→M'[j]? = some a→k=j)∧(∀ x ∈ M',x < m)∧(∀ x ∈ M',x ∈ M∨∃ k',k' < k0∧L[k']? = some x)∧H2 c=some (.dK (iKL rs M'))∧SameX c H H2) ⟨none,M,rfl,nd,lt,fun x hx=>.inl hx,hc,SameX.refl _ _⟩ ?_ ?_ ?_⟩
    ·rintro k σ H2 _ ⟨v4,M',rfl,_,_,_,_,sx⟩
     exact SqL.of (sx q' _ nq hr1)
    ·rintro k y σ H2 hy ⟨v4,M',rfl,nd2,lt2,sub2,hc2,sx⟩
     have hkl:k < (rw2 rs i).length:=by rw [← hr2.1]; exact (List.getElem?_eq_some_iff.mp hy).1
     have hrow:(rw2 rs i)[k]? = some (rw2 rs i)[k]:=List.getElem?_eq_getElem hkl
     generalize (rw2 rs i)[k]=r at hrow
     obtain ⟨b,hb1,hb2⟩:=hr2.2 k _ hrow
     have ey:y = .ref b:=Option.some.inj (hy.symm.trans hb1)
     subst ey
     have nb:b≠c:=ne_of hb2 hc (by intro z; cases z)
     have hb:=SqT.of (K:=K) (sx b _ nb hb2)
     have hcs:=cTo_succ hrow
     rcases G i hiL r (List.mem_of_getElem? hrow) with hk | ⟨j,hk,hjL⟩
     ·have e0:rowV2 r=[.str (PySem.Str.ofString "row"),.int (-1),.str (tx r.t)]:=by unfold rowV2; rw [hk]; rfl
      have e1:rowC rs r=1:=by unfold rowC; rw [hk]
      rw [e1] at hcs
      refine ⟨_,rfl,b,_,_,V.str (PySem.Str.ofString "row"),rfl,rfl,hb,by rw [e0]; rfl,rfl,_,rfl,?_⟩
      rw [sNe use_row]
      refine iteF ?_
      refine ⟨_,rfl,_,_,rfl,rfl,?_⟩
      refine ⟨some (V.ref b),M',?_,nd2,lt2,sub2,hc2,sx⟩
      exact congrArg (fun z=>[some (V.ref ps),some (V.int (i:Nat)),some (V.ref c),some (V.int z),some (V.ref b)]) (show ((cTo rs i k:Nat) : Int)+1=((cTo rs i (k+1) : Nat) : Int) by rw [hcs]; omega)
     ·have e0:rowV2 r=[.str (PySem.Str.ofString "use"),.int (j:Nat),.str (tx r.t)]:=by unfold rowV2; rw [hk]; rfl
      have e1:rowC rs r=CT rs j:=by unfold rowC; rw [hk]
      rw [e1] at hcs
      have hj1:atI (rowV2 r) 1=some (V.int (j:Nat)):=by rw [e0]; rfl
      refine ⟨_,rfl,b,_,_,V.str (PySem.Str.ofString "use"),rfl,rfl,hb,by rw [e0]; rfl,rfl,_,rfl,?_⟩
      rw [decide_eq_true rfl]
      refine iteT ?_
      obtain ⟨k',hk',ek'⟩:=O.ord k0 i hk0 j (mem_uses (List.mem_of_getElem? hrow) hk)
      refine ⟨_,rfl,_,rfl,_,rfl,b,_,_,V.int (j:Nat),rfl,rfl,hb,hj1,_,rfl,ps,c,sq,ns,rs,m,j,L,k',M',rfl,SA.sameX sx n1 n2 ht,S,hm,O,G,ek',by omega,hc2,nd2,lt2,fun M3 H3 nd3 lt3 sub3 hc3 sx3=>⟨_,_,rfl,rfl,?_⟩⟩
      refine ⟨some (V.ref b),M3,?_,nd3,lt3,fun x hx=>?_,hc3,sx.trans sx3⟩
      ·exact congrArg (fun z=>[some (V.ref ps),some (V.int (i:Nat)),some (V.ref c),some (V.int z),some (V.ref b)]) (show ((cTo rs i k:Nat) : Int)+((CT rs j:Nat) : Int)=((cTo rs i (k+1) : Nat) : Int) by rw [hcs]; omega)
      ·rcases sub3 x hx with h | ⟨k2,h1,h2⟩
       ·exact sub2 x h
       ·exact .inr ⟨k2,by omega,h2⟩
    ·rintro σ H2 ⟨v4,M',rfl,nd2,lt2,sub2,hc2,sx⟩
     rw [hr2.1,cTo_all,← hct]
     have hiM':i ∉ M':=fun z=>by
      rcases sub2 i z with h | ⟨k',h1,h2⟩
      ·exact hiM h
      ·have:=O.nd k' k0 i h2 hk0
       omega
     have hll:=nd_len nd2 lt2
     have hput:putK (iKL rs M') (.inl (i:Int)) (.int (CT rs i:Nat))=iKL rs (M'++[i]):=by
      rw [putK_new _ (iKL_out hiM')]
      unfold iKL
      rw [List.map_append]
      rfl
     have hl3:(iKL rs M').length=M'.length:=List.length_map _
     refine ⟨_,rfl,_,rfl,_,rfl,c,_,rfl,DPut.k (k:=.inl (i:Int)) hc2 (small1000 (by omega)),?_⟩
     refine key _ _ ⟨_,_,M'++[i],rfl,nd_snoc nd2 hiM',lt_snoc lt2 him,fun x hx=>?_,by simp,by rw [upd_same,hput],sx.trans SameX.upd⟩
     rcases List.mem_append.mp hx with h | h
     ·rcases sub2 x h with h | ⟨k',h1,h2⟩
      ·exact .inl h
      ·exact .inr ⟨k',by omega,h2⟩
     ·rw [List.mem_singleton.mp h]; exact .inr ⟨k0,Nat.le_refl _,hk0⟩
theorem ok_l_count (T:Txt P w K mg a) : FnOk P w K mg base CX0 13 a.f_l_count a.fd_l_count ["shelf","i","counts"] (sp_cnt (13 - 4)):=ok_l_count_n T (13 - 4)
def draw (c k m:Int) : Int:=(c+1) * (48271+7919 * k * k) % 2147483647 * ((c+1) * (48271+7919 * k * k) % 2147483647) % 2147483629 / 7 % m
theorem draw_in (c k:Int) {m:Int} (h:0 < m) : 0≤draw c k m∧draw c k m < m:=⟨Int.emod_nonneg _ (by omega),Int.emod_lt_of_pos _ h⟩
theorem sq_in {k:Int} (h0:0≤k) (h1:k≤100000) : 0≤7919 * k * k∧7919 * k * k≤79190000000000:=by
 have a:=Int.mul_nonneg h0 h0
 have b:k * k≤100000 * 100000:=Int.mul_le_mul h1 h1 h0 (by decide)
 rw [Int.mul_assoc]
 omega
theorem draw_nat (c k:Int) {m:Nat} (h:0 < m) : ∃ d:Nat,draw c k (m:Int)=(d:Int)∧d < m:=by
 have b:=draw_in c k (show (0:Int) < (m:Int) by omega)
 obtain ⟨d,hd⟩:=Int.eq_ofNat_of_zero_le b.1
 exact ⟨d,hd,by omega⟩

def sp_l_draw:Sp:=fun vs H Q _=>∃ c k m:Int,vs=[.int c,.int k,.int m]∧(0≤k∧k≤100000)∧0 < m∧Q (.int (draw c k m)) H
theorem sc_l_draw:FnScope ["cell","k","many","number"] ["cell","k","many"] (defScope s_l_draw):=⟨rfl,rfl,rfl,by decide +kernel,rfl,by decide +kernel,by decide +kernel⟩
theorem ok_l_draw (T:Txt P w K mg a) : FnOk P w K mg base CX0 1 a.f_l_draw a.fd_l_draw ["cell","k","many"] sp_l_draw:=by
 refine T.d_l_draw.fn.ok sc_l_draw (fun vs H Q E h=>?_) (fun cdv A outer s H vs Q E hr h=>?_)
 ·obtain ⟨c,k,m,rfl,_⟩:=h
  rfl
 obtain ⟨c,k,m,rfl,⟨h0,h1⟩,hm,q⟩:=h
 have hu:=Nat.lt_of_succ_lt (hu_of hr)
 refine ⟨_,(pss_cons (ps_set (i:=3) sc_l_draw.nd rfl (Or.inl rfl) (pe_op op_mod (pe_op op_mul (pe_op op_add (pv 0) pe_int) (pe_op op_add pe_int (pe_op op_mul (pe_op op_mul pe_int (pv 1)) (pv 1)))) pe_int))
   (pss_one (ps_ret (pe_op op_mod (pe_op op_fdiv (pe_op op_mod (pe_op op_mul (pv 3) (pv 3)) pe_int) pe_int) (pv 2))))),?_⟩
 have sq:=sq_in h0 h1
 refine ⟨_,rfl,_,_,rfl,rfl,_,rfl,_,_,rfl,rfl,.inl ⟨by decide,by decide⟩,_,rfl,_,_,rfl,rfl,.inr ⟨by omega,by omega⟩,_,_,rfl,rfl,_,_,rfl,rfl,.inr ⟨by omega,by omega⟩,_,_,rfl,rfl,(by decide:(0:Int) < 2147483647),?_⟩
 refine ⟨_,rfl,_,rfl,_,_,rfl,rfl,.inl ⟨by omega,by omega⟩,_,_,rfl,rfl,(by decide:(0:Int) < 2147483629),_,_,rfl,rfl,⟨by decide,by decide⟩,_,rfl,_,_,rfl,rfl,hm,?_⟩
 exact q

theorem sc_l_met:FnScope ["shelf","path","done","row","met"] ["shelf","path","done"] (defScope s_l_met):=⟨rfl,rfl,rfl,by decide +kernel,rfl,by decide +kernel,by decide +kernel⟩
def sp_met (n:Nat) : Sp:=fun vs H Q _=>∃ (ps pa dn:Addr) (sq:List Addr) (ns:List (List Nat)) (rs:List (List Row2)) (m:Nat) (as:List Nat) (i:Nat) (L:List Nat),vs=[.ref ps,.ref pa,.ref dn]∧ShelfAt H ps sq rs∧Shelf2 ns rs m∧m≤8∧H pa=some (.lst (vI (as++[i]))) ∧
  (∀ a ∈ as++[i],a < m)∧(∀ (k j a:Nat),(as++[i])[k]? = some a→(as++[i])[j]? = some a→k=j)∧as.length+n=9∧H dn=some (.lst (vI L))∧ps≠dn∧dn ∉ sq∧pa≠dn∧OrdL rs m L∧GoodL rs L∧(∀ a ∈ as++[i],a ∉ L) ∧
  (∀ x L',dfs rs n as i L=(some x,L')→∀ H',SameX dn H H'→Q (.str (duS (some x))) H') ∧
  (∀ L',dfs rs n as i L=(none,L')→Post rs m as i L L'→∀ H',H' dn=some (.lst (vI L'))→SameX dn H H'→Q (.str (duS none)) H')
theorem ok_l_met_n (T:Txt P w K mg a) : ∀ n:Nat,FnOk P w K mg base CX0 (n+4) a.f_l_met a.fd_l_met ["shelf","path","done"] (sp_met n)
 | 0=>⟨fun vs H Q E h=>(by obtain ⟨ps,pa,dn,sq,ns,rs,m,as,i,L,_,_,_,hm,_,lt,nd,hf,_⟩:=h; have:=nd_len nd lt; rw [List.length_append,List.length_singleton] at this; omega),fun A outer s H args us vs Q E _ _ _ _ h=>(by obtain ⟨ps,pa,dn,sq,ns,rs,m,as,i,L,_,_,_,hm,_,lt,nd,hf,_⟩:=h; have:=nd_len nd lt; rw [List.length_append,List.length_singleton] at this; omega)⟩
 | n+1=>by
  have g_l_met:=ok_l_met_n T n
  have d_l_met:=T.d_l_met

  refine T.d_l_met.fn.ok sc_l_met (fun vs H Q E h=>?_) (fun cdv A outer s H vs Q E hr h=>?_)
  ·obtain ⟨ps,pa,dn,sq,ns,rs,m,as,i,L,rfl,_⟩:=h
   rfl
  obtain ⟨ps,pa,dn,sq,ns,rs,m,as,i,L,rfl,SA,S,hm,hA,lt,nd,hf,hc,n1,n2,n3,o0,g0,x0,q1,q2⟩:=h
  have hu:=Nat.lt_of_succ_lt (hu_of hr)
  refine ⟨_,(pss_cons (ps_for PassesOwn.never rfl (pi_list (pe_ix ix_list (pv 0) (pe_ix ix_list (pv 1) (pe_un un_neg pe_int) (fun _ _=>rfl)) (fun _ _=>rfl))) (pg_name (i:=3) sc_l_met.nd rfl (Or.inl rfl)) (pss_cons (ps_if (pt_cmpR op_eq (pe_ix ix_tup (pv 3) pe_int (fun _ _=>rfl)) pe_str (nomark _)) (pss_one (ps_ret pe_str)) pss_nil)
   (pss_cons (ps_if (pt_cmpR op_eq (pe_ix ix_tup (pv 3) pe_int (fun _ _=>rfl)) pe_str (nomark _)) (pss_one (ps_ret pe_str)) pss_nil)
   (pss_one (ps_if (pt_cmpR op_eq (pe_ix ix_tup (pv 3) pe_int (fun _ _=>rfl)) pe_str (nomark _)) (pss_cons (ps_if (pt_cmpR op_in_seq (pe_ix ix_tup (pv 3) pe_int (fun _ _=>rfl)) (pv 1) (by with_unfolding_all rfl)) (pss_one (ps_ret pe_str)) pss_nil)
   (pss_one (ps_if (pt_cmpR op_notIn_seq (pe_ix ix_tup (pv 3) pe_int (fun _ _=>rfl)) (pv 2) (by with_unfolding_all rfl)) (pss_cons (ps_set (i:=4) sc_l_met.nd rfl (Or.inl rfl) (pe_callD d_l_met g_l_met hr rfl (pa_cons (pv 0) (pa_cons (pe_op op_cat (pv 1) (pe_lst (pa_cons (pe_ix ix_tup (pv 3) pe_int (fun _ _=>rfl)) pa_nil))) (pa_cons (pv 2) pa_nil)))))
   (pss_one (ps_if (pt_cmpR op_ne (pv 4) pe_str (nomark _)) (pss_one (ps_ret (pv 4))) pss_nil))) pss_nil))) pss_nil)))))
   (pss_cons (ps_expr (pe_bm PySem.F.plainAttrs_list PySem.F.slot_list_append PySem.F.type_list_append mt_append (pv 2) (pa_cons (pe_ix ix_list (pv 1) (pe_un un_neg pe_int) (fun _ _=>rfl)) pa_nil)))
   (pss_one (ps_ret pe_str)))),?_⟩
  have him:i < m:=lt i (by simp)
  have hpl:=nd_len nd lt
  obtain ⟨R,hR⟩ : ∃ R,goM (fun j L=>dfs rs n (as++[i]) j L) (as++[i]) (rw2 rs i) L=R:=⟨_,rfl⟩
  have q1':∀ x L',R=(some x,L')→∀ H',SameX dn H H'→Q (.str (duS (some x))) H':=fun x L' e=>q1 x L' (dfs_some (hR.trans e))
  have q2':∀ L',R=(none,L')→Post rs m as i L (L'++[i])→∀ H',H' dn=some (.lst (vI (L'++[i])))→SameX dn H H'→Q (.str (duS none)) H':=fun L' e=>q2 _ (dfs_none (hR.trans e))
  clear q1 q2
  obtain ⟨q',hq'⟩ : ∃ q',sq[i]? = some q':=⟨_,List.getElem?_eq_getElem (by rw [SA.len,S.len]; exact him)⟩
  obtain ⟨refs,hr1,hr2⟩:=SA.at' i q' hq'
  have nq:q'≠dn:=fun e=>n2 (e ▸ List.mem_of_getElem? hq')
  have ht:∀ xs,H dn≠some (.tup xs):=fun xs z=>by rw [hc] at z; cases z
  refine ⟨_,rfl,_,rfl,_,rfl,pa,_,_,V.int (i:Nat),rfl,rfl,SqL.of hA,by rw [vI_snoc]; exact atI_last _ _,ps,_,_,V.ref q',rfl,rfl,SqL.of SA.top,atI_nat (by rw [List.getElem?_map,hq']; rfl),q',rfl,⟨_,SqL.of hr1⟩,for_list (K:=K) (a:=q') (xs:=refs) (fun k σ H2=>∃ (v3 v4:Option V) (Lk:List Nat),σ=[some (.ref ps),some (.ref pa),some (.ref dn),v3,v4]∧H2 dn=some (.lst (vI Lk))∧Seen rs m as i L k Lk∧goM (fun j L=>dfs rs n (as++[i]) j L) (as++[i]) ((rw2 rs i).drop k) Lk=R∧SameX dn H H2) ⟨none,none,L,rfl,hc,Seen.zero o0 g0 x0,hR,SameX.refl _ _⟩ ?_ ?_ ?_⟩
  ·rintro k σ H2 _ ⟨v3,v4,Lk,rfl,_,_,_,sx⟩
   exact SqL.of (sx q' _ nq hr1)
  ·rintro k y σ H2 hy ⟨v3,v4,Lk,rfl,hc2,se,eR,sx⟩
   have hkl:k < (rw2 rs i).length:=by rw [← hr2.1]; exact (List.getElem?_eq_some_iff.mp hy).1
   have hrow:(rw2 rs i)[k]? = some (rw2 rs i)[k]:=List.getElem?_eq_getElem hkl
   generalize (rw2 rs i)[k]=r at hrow
   obtain ⟨b,hb1,hb2⟩:=hr2.2 k _ hrow
   have ey:y = .ref b:=Option.some.inj (hy.symm.trans hb1)
   subst ey
   have nb:b≠dn:=ne_of hb2 hc (by intro z; cases z)
   have hb:=SqT.of (K:=K) (sx b _ nb hb2)
   have ro:=S.ok i him r (List.mem_of_getElem? hrow)
   rw [drop_get hrow] at eR
   have hA2:=sx pa _ n3 hA
   dsimp only [gName]
   cases hk:r.k with
   | bad =>
    have e0:rowV2 r=[.str (PySem.Str.ofString "bad"),.int (-1),.str (tx r.t)]:=by unfold rowV2; rw [hk]; rfl
    refine ⟨_,rfl,b,_,_,V.str (PySem.Str.ofString "bad"),rfl,rfl,hb,by rw [e0]; rfl,rfl,_,rfl,?_⟩
    rw [decide_eq_true rfl]
    refine iteT ?_
    exact q1' .bad _ (eR.symm.trans (goM_bad hk)) _ sx
   | lack =>
    have e0:rowV2 r=[.str (PySem.Str.ofString "lack"),.int (-1),.str (tx r.t)]:=by unfold rowV2; rw [hk]; rfl
    refine ⟨_,rfl,b,_,_,V.str (PySem.Str.ofString "lack"),rfl,rfl,hb,by rw [e0]; rfl,rfl,_,rfl,?_⟩
    rw [sNe bad_lack]
    refine iteF ?_
    refine ⟨_,rfl,b,_,_,V.str (PySem.Str.ofString "lack"),rfl,rfl,hb,by rw [e0]; rfl,rfl,_,rfl,?_⟩
    rw [decide_eq_true rfl]
    refine iteT ?_
    exact q1' .lack _ (eR.symm.trans (goM_lack hk)) _ sx
   | row =>
    have e0:rowV2 r=[.str (PySem.Str.ofString "row"),.int (-1),.str (tx r.t)]:=by unfold rowV2; rw [hk]; rfl
    refine ⟨_,rfl,b,_,_,V.str (PySem.Str.ofString "row"),rfl,rfl,hb,by rw [e0]; rfl,rfl,_,rfl,?_⟩
    rw [sNe bad_row]
    refine iteF ?_
    refine ⟨_,rfl,b,_,_,V.str (PySem.Str.ofString "row"),rfl,rfl,hb,by rw [e0]; rfl,rfl,_,rfl,?_⟩
    rw [sNe lack_row]
    refine iteF ?_
    refine ⟨_,rfl,b,_,_,V.str (PySem.Str.ofString "row"),rfl,rfl,hb,by rw [e0]; rfl,rfl,_,rfl,?_⟩
    rw [sNe use_row]
    refine iteF ?_
    exact ⟨_,_,Lk,rfl,hc2,se.next hrow (.inl hk),(goM_row hk).symm.trans eR,sx⟩
   | use j =>
    have e0:rowV2 r=[.str (PySem.Str.ofString "use"),.int (j:Nat),.str (tx r.t)]:=by unfold rowV2; rw [hk]; rfl
    refine ⟨_,rfl,b,_,_,V.str (PySem.Str.ofString "use"),rfl,rfl,hb,by rw [e0]; rfl,rfl,_,rfl,?_⟩
    rw [sNe bad_use]
    refine iteF ?_
    refine ⟨_,rfl,b,_,_,V.str (PySem.Str.ofString "use"),rfl,rfl,hb,by rw [e0]; rfl,rfl,_,rfl,?_⟩
    rw [sNe lack_use]
    refine iteF ?_
    refine ⟨_,rfl,b,_,_,V.str (PySem.Str.ofString "use"),rfl,rfl,hb,by rw [e0]; rfl,rfl,_,rfl,?_⟩
    rw [decide_eq_true rfl]
    refine iteT ?_
    have kd:=ro.kd
    rw [hk] at kd
    have hjm:j < m:=kd.1
    have hj1:atI (rowV2 r) 1=some (V.int (j:Nat)):=by rw [e0]; rfl
    refine ⟨_,rfl,b,_,_,V.int (j:Nat),rfl,rfl,hb,hj1,_,rfl,pa,_,rfl,.inl (SqL.of hA2),rfl,flat_ints _,_,rfl,?_⟩
    show if inV (.int (j:Nat)) (vI (as++[i]))=true then _ else _
    rw [inV_int]
    refine ite2 (fun c=>q1' .ring _ (eR.symm.trans (goM_ring hk (of_decide_eq_true c))) _ sx) (fun c=>?_)
    have hj:j ∉ as++[i]:=fun z=>c (decide_eq_true z)
    refine ⟨_,rfl,b,_,_,V.int (j:Nat),rfl,rfl,hb,hj1,_,rfl,dn,_,rfl,.inl (SqL.of hc2),rfl,flat_ints _,_,rfl,?_⟩
    show if (!inV (.int (j:Nat)) (vI Lk))=true then _ else _
    rw [inV_int]
    by_cases hjL:j ∈ Lk
    ·rw [decide_eq_true hjL]
     refine iteF ?_
     exact ⟨_,_,Lk,rfl,hc2,se.next hrow (.inr ⟨j,hk,hjL⟩),(goM_in hk hj hjL).symm.trans eR,sx⟩
    ·rw [decide_eq_false hjL]
     refine iteT ?_
     refine ⟨_,rfl,_,rfl,_,rfl,b,_,_,V.int (j:Nat),rfl,rfl,hb,hj1,le1,fun p6 hp6=>?_⟩
     have s6:=same_new hp6 (.lst [V.int (j:Nat)])
     refine ⟨pa,p6,_,_,rfl,rfl,s6 pa _ hA2,upd_same,?_,fun p7 hp7=>?_⟩
     ·rw [vI_len]
      exact small (by simp only [List.length_cons,List.length_nil]; omega)
     have s7:=s6.trans (same_new hp7 (.lst (vI (as++[i])++[V.int (j:Nat)])))
     have h7:upd (upd H2 p6 (.lst [V.int (j:Nat)])) p7 (.lst (vI (as++[i])++[V.int (j:Nat)])) p7=some (.lst (vI (as++[i]++[j]))):=by rw [upd_same,vI_snoc (as++[i]) j]
     have n7:p7≠dn:=Ne.symm (ne_of_none (same_new hp6 (.lst [V.int (j:Nat)]) _ _ hc2) hp7)
     generalize upd (upd H2 p6 (.lst [V.int (j:Nat)])) p7 (.lst (vI (as++[i])++[V.int (j:Nat)]))=H7 at s7 h7 ⊢
     have sx7:SameX dn H H7:=sx.trans (.of s7)
     refine ⟨_,rfl,ps,p7,dn,sq,ns,rs,m,as++[i],j,Lk,rfl,SA.sameX sx7 n1 n2 ht,S,hm,h7,lt_snoc lt hjm,nd_snoc nd hj,?_,s7 dn _ hc2,n1,n2,n7,se.o,se.good,fun a ha=>?_,fun x L' e H8 sx8=>?_,fun L' e po H8 hc8 sx8=>?_⟩
     ·rw [List.length_append,List.length_singleton]
      omega
     ·rcases List.mem_append.mp ha with h | h
      ·exact se.off a h
      ·rw [List.mem_singleton.mp h]; exact hjL
     ·refine ⟨_,rfl,rfl,_,rfl,?_⟩
      rw [sNe (duS_ne x)]
      refine iteT ?_
      exact ⟨_,rfl,q1' x L' (eR.symm.trans (goM_callX hk hj hjL e)) H8 (sx7.trans sx8)⟩
     ·refine ⟨_,rfl,rfl,_,rfl,?_⟩
      refine iteF ?_
      exact ⟨_,_,L',rfl,hc8,se.call hrow hk po,(goM_call hk hj hjL e).symm.trans eR,sx7.trans sx8⟩
  ·rintro σ H2 ⟨v3,v4,Lk,rfl,hc2,se,eR,sx⟩
   rw [hr2.1] at se eR
   rw [List.drop_of_length_le (Nat.le_refl _)] at eR
   have hll:=nd_len se.o.nd se.o.lt
   refine ⟨_,rfl,.inl ⟨rfl,_,SqL.of hc2⟩,_,rfl,_,rfl,pa,_,_,V.int (i:Nat),rfl,rfl,SqL.of (sx pa _ n3 hA),by rw [vI_snoc]; exact atI_last _ _,dn,_,_,rfl,rfl,hc2,small1000 (by rw [vI_len]; omega),?_⟩
   exact q2' Lk eR.symm (se.fin him nd) _ (by rw [upd_same,vI_snoc]) (sx.trans SameX.upd)
theorem ok_l_met (T:Txt P w K mg a) : FnOk P w K mg base CX0 13 a.f_l_met a.fd_l_met ["shelf","path","done"] (sp_met (13 - 4)):=ok_l_met_n T (13 - 4)
def sp_l_names:Sp:=fun vs H Q _=>∃ (c:Int) (m:Nat),vs=[.int c,.int (m:Int)]∧1≤m∧m≤12∧∀ p H' ns,H p=none→Same H H'→Names ns m→H' p=some (.lst ((ns.map tx).map V.str))→Q (.ref p) H'
theorem sc_l_names:FnScope ["cell","many","some","base","names","signs","size","at","j","name","k","here"] ["cell","many"] (defScope s_l_names):=⟨rfl,rfl,rfl,by decide +kernel,rfl,by decide +kernel,by decide +kernel⟩
theorem ok_l_names (T:Txt P w K mg a) : FnOk P w K mg base CX0 2 a.f_l_names a.fd_l_names ["cell","many"] sp_l_names:=by
 have g_l_draw:=ok_l_draw (P:=P) (w:=w) (base:=base) T
 have d_l_draw:=T.d_l_draw
 have z_int:=T.z_int
 have z_range:=T.z_range
 refine T.d_l_names.fn.ok sc_l_names (fun vs H Q E h=>?_) (fun cdv A outer s H vs Q E hr h=>?_)
 ·obtain ⟨c,m,rfl,_⟩:=h
  rfl
 obtain ⟨c,m,rfl,hm1,hm2,q⟩:=h
 have hu:=Nat.lt_of_succ_lt (hu_of hr)
 refine ⟨_,(pss_cons (ps_set (i:=2) sc_l_names.nd rfl (Or.inr rfl) pe_str)
   (pss_cons (ps_lc (k:=3) rfl (lcok (caps:=["cell"]) (js:=[0]) (cap:=⟨⟨rfl,.inl rfl,rfl,.inl rfl⟩,trivial⟩)) (pi_range1 rfl z_range (pa_cons pe_int pa_nil)) (fun _ _ _ _=>pts_nil) (fun _ _ _ _=>(pe_callD d_l_draw g_l_draw (hr.mono (by decide)) rfl (pa_cons (pv 1) (pa_cons (pe_op op_add pe_int (pv 0)) (pa_cons (pe_op op_add pe_int (pe_op op_mul pe_int (pe_callTy call_int1 rfl z_int PyProof.Rows.boot_int (pa_cons (pe_cmpR op_gt (pv 0) pe_int (nomark _)) pa_nil)))) pa_nil))))) sc_l_names.nd rfl rfl)
   (pss_cons (ps_set (i:=4) sc_l_names.nd rfl (Or.inl rfl) (pe_lst pa_nil))
   (pss_cons (ps_if (pt_cmpR op_eq (pe_callD d_l_draw g_l_draw (hr.mono (by decide)) rfl (pa_cons (pv 0) (pa_cons pe_int (pa_cons pe_int pa_nil)))) pe_int (nomark _)) (pss_cons (ps_set (i:=5) sc_l_names.nd rfl (Or.inr rfl) (pe_bm PySem.F.plainAttrs_str PySem.F.slot_str_join PySem.F.type_str_join mt_join pe_str (pa_cons (pe_lc rfl (lcok (caps:=["some"]) (js:=[2]) (cap:=⟨⟨rfl,.inl rfl,rfl,.inl rfl⟩,trivial⟩)) (pi_list (pv 3)) (fun _ _ _ _=>pts_nil) (fun _ _ _ _=>(pe_ix ix_str (pv 1) (pv 0) (fun _ _=>rfl)))) pa_nil)))
   (pss_one (ps_ret (pe_lc rfl (lcok (caps:=["signs"]) (js:=[5]) (cap:=⟨⟨rfl,.inl rfl,rfl,.inl rfl⟩,trivial⟩)) (pi_range1 rfl z_range (pa_cons (pv 1) pa_nil)) (fun _ _ _ _=>pts_nil) (fun _ _ _ _=>(pe_slice sl_str (pv 1) po_none (po_some (pe_op op_add (pv 0) pe_int)))))))) pss_nil)
   (pss_cons (ps_set (i:=6) sc_l_names.nd rfl (Or.inl rfl) (pe_op op_add pe_int (pe_callD d_l_draw g_l_draw (hr.mono (by decide)) rfl (pa_cons (pv 0) (pa_cons pe_int (pa_cons pe_int pa_nil))))))
   (pss_cons (ps_set (i:=7) sc_l_names.nd rfl (Or.inl rfl) (pe_callD d_l_draw g_l_draw (hr.mono (by decide)) rfl (pa_cons (pv 0) (pa_cons pe_int (pa_cons (pv 6) pa_nil)))))
   (pss_cons (ps_for PassesOwn.never rfl (pi_range1 rfl z_range (pa_cons (pv 1) pa_nil)) (pg_name (i:=8) sc_l_names.nd rfl (Or.inl rfl)) (pss_cons (ps_set (i:=9) sc_l_names.nd rfl (Or.inl rfl) pe_str)
   (pss_cons (ps_for PassesOwn.never rfl (pi_range1 rfl z_range (pa_cons (pv 6) pa_nil)) (pg_name (i:=10) sc_l_names.nd rfl (Or.inl rfl)) (pss_cons (ps_set (i:=11) sc_l_names.nd rfl (Or.inl rfl) (pe_op op_add (pe_ix ix_list (pv 3) (pv 10) (fun _ _=>rfl)) (pe_op op_mul (pv 8) (pe_callTy call_int1 rfl z_int PyProof.Rows.boot_int (pa_cons (pe_cmpR op_eq (pv 10) (pv 7) (nomark _)) pa_nil)))))
   (pss_one (ps_set (i:=9) sc_l_names.nd rfl (Or.inl rfl) (pe_op op_add_str (pv 9) (pe_ix ix_str (pv 2) (pe_op op_mod (pv 11) (pe_op op_add pe_int (pe_op op_mul pe_int (pe_callTy call_int1 rfl z_int PyProof.Rows.boot_int (pa_cons (pe_cmpR op_gt (pv 10) pe_int (nomark _)) pa_nil))))) (fun _ _=>rfl)))))))
   (pss_one (ps_expr (pe_bm PySem.F.plainAttrs_list PySem.F.slot_list_append PySem.F.type_list_append mt_append (pv 4) (pa_cons (pv 9) pa_nil)))))))
   (pss_one (ps_ret (pv 4)))))))))),?_⟩
 generalize hS:(PySem.Str.ofString "abcdefghijklmnopqrstuvwxyz0123456789")=S
 have hat:∀ k:Nat,k < 36→atI S.cps.toList (k:Int)=some (al k):=hS ▸ at_both
 have hSl:S.length≤sizeLine:=hS ▸ small (by decide +kernel)
 refine ⟨_,rfl,by decide,by decide,lc_range (fun i ys H2=>H2=H∧∃ bs:List Nat,bs.length=i∧(∀ k b,bs[k]? = some b→b < (if 0 < k then 36 else 26))∧ys=bs.map fun (b:Nat)=>V.int (b:Int)) ⟨rfl,[],rfl,fun k b h=>by simp at h,rfl⟩ ?_ ?_ ?_⟩
 ·rintro i ys H2 hi ⟨rfl,bs,hl,_,rfl⟩
  rw [List.length_map,hl]
  exact Nat.lt_of_lt_of_le (show i < 1000 by simp at hi; omega) (small (Nat.le_refl _))
 ·rintro i ys H2 hi ⟨rfl,bs,hl,hb,rfl⟩
  have hi2:i < 12:=by simpa using hi
  refine yes_go ?_
  refine ⟨_,rfl,_,rfl,_,_,rfl,rfl,_,rfl,_,_,rfl,rfl,.inr ⟨_,rfl,_,_,rfl,rfl,.inl ⟨by decide,by decide⟩,_,_,rfl,rfl,?_⟩⟩
  generalize hm:(26:Int)+10 * (if decide ((0:Int) < 0+(i:Int))=true then 1 else 0)=M
  have hM:M=((if 0 < i then 36 else 26:Nat) : Int):=by
   rw [← hm]
   by_cases h0:0 < i
   ·rw [if_pos (decide_eq_true (by omega)),if_pos h0]; rfl
   ·rw [if_neg (fun z=>h0 (by have:=of_decide_eq_true z; omega)),if_neg h0]; rfl
  obtain ⟨d,e,hd⟩:=draw_nat c (60+(0+(i:Int))) (show 0 < (if 0 < i then 36 else 26:Nat) by split <;> omega)
  refine ⟨c,60+(0+(i:Int)),M,congrArg (fun z=>[V.int c,V.int (60+(0+(i:Int))),V.int z]) hm,⟨by omega,by omega⟩,by rw [hM]; split <;> omega,rfl,bs++[d],by simp [hl],fun k b h=>?_,?_⟩
  ·by_cases hk:k < bs.length
   ·rw [List.getElem?_append_left hk] at h
    exact hb k b h
   ·rw [List.getElem?_append_right (by omega)] at h
    have hk2:k - bs.length=0:=by
     have:=(List.getElem?_eq_some_iff.mp h).1
     simp at this
     omega
    rw [hk2] at h
    have:d=b:=by simpa using h
    have hki:k=i:=by omega
    rw [← this,hki]
    exact hd
  ·rw [hM,e,List.map_append]
   rfl
 rintro ys H2 ⟨rfl,bs,hbl,hb,rfl⟩ pb hpb
 have hbl:bs.length=12:=by simpa using hbl
 have g1:=same_new hpb (.lst (bs.map fun (b:Nat)=>V.int (b:Int)))
 have hpb1:upd H2 pb (.lst (bs.map fun (b:Nat)=>V.int (b:Int))) pb=some (.lst (bs.map fun (b:Nat)=>V.int (b:Int))):=upd_same
 refine ⟨small (by simp),fun pn hpn=>?_⟩
 have g2:=g1.trans (same_new hpn (.lst []))
 have hpb2:=same_new hpn (.lst []) pb _ hpb1
 have hpn2:upd (upd H2 pb (.lst (bs.map fun (b:Nat)=>V.int (b:Int)))) pn (.lst []) pn=some (.lst []):=upd_same
 have hpn0:H2 pn=none:=g1.free hpn
 generalize upd (upd H2 pb (.lst (bs.map fun (b:Nat)=>V.int (b:Int)))) pn (.lst [])=H3 at g2 hpb2 hpn2 ⊢
 have hb36:∀ b ∈ bs,b < 36:=fun b hm=>by
  obtain ⟨k,hk,e⟩:=List.getElem_of_mem hm
  have:=hb k b (by rw [List.getElem?_eq_getElem hk,e])
  split at this <;> omega
 refine ⟨_,rfl,c,58,2,rfl,⟨by decide,by decide⟩,by decide,rfl,_,rfl,?_⟩
 refine ite2 (fun _=>?_) (fun _=>?_)
 ·-- beginnings of one another
  refine ⟨rfl,_,rfl,pb,rfl,⟨_,SqL.of hpb2⟩,lc_list (K:=K) (a:=pb) (xs:=bs.map fun (b:Nat)=>V.int (b:Int)) (fun i ys H4=>H4=H3∧ys=((bs.take i).map al).map fun d=>V.str (tx [d])) ⟨rfl,rfl⟩ ?_ ?_ ?_ ?_⟩
  ·rintro i ys H4 _ ⟨rfl,_⟩
   exact SqL.of hpb2
  ·rintro i ys H4 hi ⟨rfl,rfl⟩
   rw [List.length_map,List.length_map,List.length_take]
   exact Nat.lt_of_le_of_lt (show _≤12 by omega) (small1000 (by omega))
  ·rintro i x ys H4 hx ⟨rfl,rfl⟩
   obtain ⟨b,hb',rfl⟩:=get_map hx
   refine yes_go ?_
   refine ⟨_,rfl,_,rfl,_,_,al b,rfl,rfl,hSl,hat b (hb36 b (List.mem_of_getElem? hb')),rfl,?_⟩
   rw [List.take_add_one,hb']
   simp
  rintro ys H4 ⟨rfl,rfl⟩ pj hpj
  rw [List.length_map,List.take_of_length_le (Nat.le_refl _)]
  have g3:=g2.trans (same_new hpj (.lst ((bs.map al).map fun d=>V.str (tx [d]))))
  refine ⟨_,pj,(bs.map al).map (fun d=>tx [d]),rfl,rfl,SqL.of (by rw [upd_same,List.map_map (f:=fun d=>tx [d])]; rfl),by decide,by rw [sum_one,List.length_map,List.length_map,List.length_map]; omega,?_⟩
  have ej:Txt.join (PySem.Str.ofString "") ((bs.map al).map fun d=>tx [d])=tx (bs.map al):=by
   have:=join_tx [] ((bs.map al).map fun d=>[d])
   rw [List.map_map,join_one] at this
   rw [ce]
   exact this
  rw [ej]
  generalize upd H4 pj (.lst ((bs.map al).map fun d=>V.str (tx [d])))=H5 at g3 ⊢
  refine ⟨_,rfl,_,rfl,by omega,by omega,lc_range (fun i ys H6=>H6=H5∧ys=(((List.range i).map fun j=>(bs.map al).take (j+1)).map tx).map V.str) ⟨rfl,rfl⟩ ?_ ?_ ?_⟩
  ·rintro i ys H6 hi ⟨rfl,rfl⟩
   rw [List.length_map,List.length_map,List.length_map,List.length_range]
   exact Nat.lt_of_lt_of_le (show i < 1000 by simp at hi; omega) (small (Nat.le_refl _))
  ·rintro i ys H6 hi ⟨rfl,rfl⟩
   refine yes_go ?_
   refine ⟨_,rfl,_,rfl,_,_,rfl,rfl,_,rfl,_,rfl,small (by rw [tx_len,List.length_map]; omega),rfl,?_⟩
   rw [show (0:Int)+(i:Int)+1=((i+1:Nat) : Int) by omega,slice_tx,cut_to,List.range_succ,List.map_append,List.map_append,List.map_append]
   rfl
  ·rintro ys H6 ⟨rfl,rfl⟩ p hp
   have em:(m:Int).toNat=m:=by omega
   rw [em]
   refine q p _ ((List.range m).map fun j=>(bs.map al).take (j+1)) (g3.free hp) (g3.trans (same_new hp _)) ⟨by simp,fun i hi=>?_,fun i j hi hj e=>?_⟩ upd_same
   ·rw [nm_map hi,← List.map_take]
    refine Ix.name ⟨?_,by rw [List.length_take]; omega,fun b hb'=>?_,fun b hb'=>hb36 b (List.mem_of_mem_take hb')⟩
    ·intro e
     have:=congrArg List.length e
     rw [List.length_take,hbl,List.length_nil] at this
     omega
    ·rw [List.head?_take] at hb'
     simp at hb'
     have:=hb 0 b (by rw [← List.head?_eq_getElem?]; exact hb')
     simpa using this
   ·rw [nm_map hi,nm_map hj] at e
    have:=congrArg List.length e
    rw [List.length_take,List.length_take,List.length_map,hbl] at this
    omega
 ·-- unlike at one place
  obtain ⟨s0,es,hs0⟩:=draw_nat c 59 (show 0 < 12 by decide)
  refine ⟨_,rfl,c,59,12,rfl,⟨by decide,by decide⟩,by decide,_,_,rfl,rfl,?_⟩
  obtain ⟨size,hsz⟩ : ∃ size:Nat,size=1+s0:=⟨_,rfl⟩
  have esz:(1:Int)+draw c 59 12=(size:Int):=by rw [show draw c 59 12=(s0:Int) from es]; omega
  obtain ⟨at',ea,ha'⟩:=draw_nat c 57 (show 0 < size by omega)
  refine ⟨_,rfl,_,rfl,c,57,(size:Int),congrArg (fun z=>[V.int c,V.int 57,V.int z]) esz,⟨by decide,by decide⟩,by omega,?_⟩
  rw [ea]
  refine ⟨_,rfl,_,rfl,by omega,by omega,for_range (fun j σ H4=>∃ v1 v2 v3 v4:Option V,σ=[some (.int c),some (.int (m:Int)),some (.str S),some (.ref pb),some (.ref pn),none,some (.int (size:Int)),some (.int (at':Int)),v1,v2,v3,v4]∧H4=upd H3 pn (.lst ((((List.range j).map fun i=>(xsB bs size at' i).map al).map tx).map V.str))) ?_ ?_ ?_⟩
  ·refine ⟨none,none,none,none,?_,?_⟩
   ·show [some (V.int c),some (V.int (m:Int)),some (V.str S),some (V.ref pb),some (V.ref pn),none,some (V.int (1+draw c 59 12)),some (V.int (at':Int)),none,none,none,none]=_
    rw [esz]
   ·funext b
    unfold upd
    split
    ·rename_i h; rw [h]; exact hpn2
    ·rfl
  ·rintro j σ H4 hj ⟨v1,v2,v3,v4,rfl,rfl⟩
   have hj2:j < m:=by omega
   have hpb4:upd H3 pn (.lst ((((List.range j).map fun i=>(xsB bs size at' i).map al).map tx).map V.str)) pb=some (.lst (bs.map fun (b:Nat)=>V.int (b:Int))):=by
    rw [upd_ne (ne_of hpb2 hpn2 (by
     intro z
     have z2:=congrArg List.length (HO.lst.inj z)
     rw [List.length_map,hbl] at z2
     simp at z2))]
    exact hpb2
   refine ⟨_,rfl,_,rfl,by omega,by omega,for_range (fun k σ H5=>∃ v3 v4:Option V,σ=[some (.int c),some (.int (m:Int)),some (.str S),some (.ref pb),some (.ref pn),none,some (.int (size:Int)),some (.int (at':Int)),some (.int (0+(j:Int))),some (.str (tx (((xsB bs size at' j).take k).map al))),v3,v4]∧H5=upd H3 pn (.lst ((((List.range j).map fun i=>(xsB bs size at' i).map al).map tx).map V.str))) ?_ ?_ ?_⟩
   ·exact ⟨v3,v4,by rw [ce]; rfl,rfl⟩
   ·rintro k σ H5 hk ⟨v3,v4,rfl,rfl⟩
    have hk2:k < size:=by omega
    have hk3:k < bs.length:=by omega
    have hbk:bs[k]? = some (bs.getD k 0):=by rw [List.getD_eq_getElem?_getD,List.getElem?_eq_getElem hk3]; rfl
    have hx:=xsB_get bs size at' j k hk2
    refine ⟨_,rfl,_,rfl,_,_,_,V.int ((bs.getD k 0:Nat) : Int),rfl,rfl,SqL.of hpb4,?_,_,rfl,_,rfl,_,rfl,rfl,.inr ⟨_,rfl,_,_,rfl,rfl,.inl ⟨by omega,by omega⟩,_,_,rfl,rfl,?_⟩⟩
    ·rw [Int.zero_add]
     refine atI_nat ?_
     rw [List.getElem?_map,hbk]
     rfl
    refine ⟨_,rfl,_,rfl,_,rfl,_,rfl,_,_,rfl,rfl,.inr ⟨_,rfl,_,_,rfl,rfl,.inl ⟨by decide,by decide⟩,_,_,rfl,rfl,_,_,rfl,rfl,?_,?_⟩⟩
    ·show (0:Int) < 26+10 * (if decide ((0:Int) < 0+(k:Int))=true then 1 else 0)
     split <;> omega
    generalize hh:((bs.getD k 0:Nat) : Int)+(0+(j:Int)) * (if decide (V.int (0+(k:Int))=V.int (at':Int))=true then 1 else 0)=hv
    generalize hm:(26:Int)+10 * (if decide ((0:Int) < 0+(k:Int))=true then 1 else 0)=M
    have hM:M=((if 0 < k then 36 else 26:Nat) : Int):=by
     rw [← hm]
     by_cases h0:0 < k
     ·rw [if_pos (decide_eq_true (by omega)),if_pos h0]; rfl
     ·rw [if_neg (fun z=>h0 (by have:=of_decide_eq_true z; omega)),if_neg h0]; rfl
    have hV:hv=((bs.getD k 0+(if k=at' then j else 0) : Nat) : Int):=by
     rw [← hh]
     by_cases h0:k=at'
     ·rw [if_pos (decide_eq_true (by rw [h0,Int.zero_add])),if_pos h0]; omega
     ·rw [if_neg (fun z=>h0 (by have:=V.int.inj (of_decide_eq_true z); omega)),if_neg h0]; omega
    have hR:hv % M=(((bs.getD k 0+(if k=at' then j else 0)) % (if 0 < k then 36 else 26) : Nat) : Int):=by
     rw [hV,hM]
     exact (Int.natCast_emod _ _).symm
    generalize hx9:(bs.getD k 0+(if k=at' then j else 0)) % (if 0 < k then 36 else 26)=x9 at hR hx
    have h36:x9 < 36:=by
     rw [← hx9]
     exact md _ _
    refine ⟨_,_,al x9,rfl,rfl,hSl,?_,_,_,rfl,rfl,?_,?_⟩
    ·show atI S.cps.toList (hv % M)=_
     rw [hR]
     exact hat x9 h36
    ·rw [tx_len,List.length_map,List.length_take]
     show _+1≤sizeLine
     exact small (by omega)
    ·have e9:(tx (((xsB bs size at' j).take k).map al)++(⟨#[al x9]⟩ : Str))=tx (((xsB bs size at' j).take (k+1)).map al):=by
      rw [show (⟨#[al x9]⟩ : Str)=tx [al x9] from rfl,tx_app,List.take_add_one,hx]
      simp
     rw [e9]
     exact ⟨_,_,rfl,rfl⟩
   ·rintro σ H5 ⟨v3,v4,rfl,rfl⟩
    have em:(size:Int).toNat=size:=by omega
    have hl:(xsB bs size at' j).length=size:=by unfold xsB; simp
    rw [em,List.take_of_length_le (by omega)]
    refine ⟨_,rfl,.inl ⟨rfl,_,SqL.of upd_same⟩,_,rfl,_,_,_,rfl,rfl,upd_same,?_,?_⟩
    ·rw [List.length_map,List.length_map,List.length_map,List.length_range]
     exact small1000 (by omega)
    ·refine ⟨_,_,_,_,rfl,?_⟩
     rw [upd_upd,List.range_succ]
     simp
  ·rintro σ H4 ⟨v1,v2,v3,v4,rfl,rfl⟩
   have em:(m:Int).toNat=m:=by omega
   rw [em]
   refine ⟨_,rfl,q pn _ ((List.range m).map fun i=>(xsB bs size at' i).map al) hpn0 (fun b o hb'=>?_) ⟨by simp,fun i hi=>?_,fun i j hi hj e=>?_⟩ upd_same⟩
   ·rw [upd_ne (ne_of_none hb' hpn0)]
    exact g2 b o hb'
   ·rw [nm_map hi]
    exact (xsB_ix (by omega) (by omega)).name
   ·rw [nm_map hi,nm_map hj] at e
    exact xsB_inj ha' (by omega) (by omega) e
def sp_l_parts (K:PySem.W.Frag) : Sp:=fun vs H Q _=>∃ (ps pn:Addr) (c:Int) (ns:List (List Nat)) (qs:List Addr) (rs:List (List Row2)) (m:Nat),vs=[.ref ps,.ref pn,.int c]∧ShelfAt H ps qs rs∧Shelf2 ns rs m∧Names ns (m+1)∧1≤m∧m≤8∧SqL K H pn ((ns.map tx).map V.str) ∧
  ∀ d H' pk,H d=none→Same H H'→H' d=some (.dK pk)→(∀ i,i < m→valV pk (.inr (tx (nm ns i)))=some (.str (tx (joinL [10] (texts2 rs i)))))→valV pk (.inr (tx (nm ns m)))=none→(∀ p ∈ pk,flatV p.2=true)→Q (.ref d) H'
theorem sc_l_parts:FnScope ["shelf","names","cell","many","parts","k","j"] ["shelf","names","cell"] (defScope s_l_parts):=⟨rfl,rfl,rfl,by decide +kernel,rfl,by decide +kernel,by decide +kernel⟩
theorem ok_l_parts (T:Txt P w K mg a) : FnOk P w K mg base CX0 2 a.f_l_parts a.fd_l_parts ["shelf","names","cell"] (sp_l_parts K):=by
 have g_l_draw:=ok_l_draw (P:=P) (w:=w) (base:=base) T
 have d_l_draw:=T.d_l_draw
 have z_len:=T.z_len
 have z_range:=T.z_range
 refine T.d_l_parts.fn.ok sc_l_parts (fun vs H Q E h=>?_) (fun cdv A outer s H vs Q E hr h=>?_)
 ·obtain ⟨ps,pn,c,ns,qs,rs,m,rfl,_⟩:=h
  rfl
 obtain ⟨ps,pn,c,ns,qs,rs,m,rfl,SA,S,N,hm1,hm8,hN,q⟩:=h
 have hu:=Nat.lt_of_succ_lt (hu_of hr)
 refine ⟨_,(pss_cons (ps_set (i:=3) sc_l_parts.nd rfl (Or.inl rfl) (pe_callB call_len_seq rfl z_len PySem.boot_len (pa_cons (pv 0) pa_nil)))
   (pss_cons (ps_set (i:=4) sc_l_parts.nd rfl (Or.inl rfl) pe_dnewK)
   (pss_cons (ps_for PassesOwn.never rfl (pi_range1 rfl z_range (pa_cons (pv 3) pa_nil)) (pg_name (i:=5) sc_l_parts.nd rfl (Or.inl rfl)) (pss_cons (ps_set (i:=6) sc_l_parts.nd rfl (Or.inl rfl) (pe_op op_mod (pe_op op_add (pv 5) (pe_callD d_l_draw g_l_draw (hr.mono (by decide)) rfl (pa_cons (pv 2) (pa_cons pe_int (pa_cons (pv 3) pa_nil))))) (pv 3)))
   (pss_one (ps_dput (hu_of hr) (pv 4) (pe_ix ix_list (pv 1) (pv 6) (fun _ _=>rfl)) (pe_bm PySem.F.plainAttrs_str PySem.F.slot_str_join PySem.F.type_str_join mt_join pe_str (pa_cons (pe_lc rfl (lcok (caps:=[]) (js:=[]) (cap:=trivial)) (pi_list (pe_ix ix_list (pv 0) (pv 6) (fun _ _=>rfl))) (fun _ _ _ _=>pts_nil) (fun _ _ _ _=>(pe_ix (r:=rIxT K) ix_tup (pv 0) pe_int (fun _ _=>rfl)))) pa_nil)) rfl))))
   (pss_one (ps_ret (pv 4)))))),?_⟩
 have hm:=S.len
 have hnl:=N.len
 have hql:qs.length=m:=by rw [SA.len,hm]
 have eM:((((qs.map V.ref).length:Nat)) : Int)=(m:Int):=by rw [List.length_map,hql]
 have em:(m:Int).toNat=m:=by omega
 refine ⟨_,rfl,_,_,rfl,.inl (SqL.of SA.top),?_⟩
 dsimp only [gName]
 rw [eM]
 intro d hd
 obtain ⟨s0,es,hs⟩:=draw_nat c 21 (show 0 < m by omega)
 refine ⟨_,rfl,_,rfl,by omega,by omega,for_range (fun k σ H2=>∃ (v1 v2:Option V) (pk:List (Key × V)),σ=[some (.ref ps),some (.ref pn),some (.int c),some (.int (m:Int)),some (.ref d),v1,v2]∧Same H H2∧H2 d=some (.dK pk)∧Texts2 ns rs m s0 k pk) ⟨none,none,[],rfl,same_new hd _,upd_same,⟨fun k' h=>absurd h (Nat.not_lt_zero _),(fun p h=>nomatch h),Nat.le_refl _,(fun x h=>nomatch h)⟩⟩ ?_ ?_⟩
 ·rintro k σ H2 hk ⟨v1,v2,pk,rfl,s2,hd2,tx2⟩
  have hk2:k < m:=by omega
  refine ⟨_,rfl,_,rfl,_,rfl,c,21,(m:Int),rfl,⟨by decide,by decide⟩,by omega,_,_,rfl,rfl,_,rfl,_,_,rfl,rfl,show (0:Int) < m by omega,?_⟩
  dsimp only [gName]
  have ej:(0+(k:Int)+draw c 21 (m:Int)) % (m:Int)=(((k+s0) % m:Nat) : Int):=by rw [es,Int.zero_add]; exact (Int.natCast_emod _ _).symm
  rw [ej]
  have hj:(k+s0) % m < m:=Nat.mod_lt _ (by omega)
  have hput:=tx2.put N (by omega)
  have hpl:=tx2.len
  generalize (k+s0) % m=j at hj hput ⊢
  obtain ⟨q',hq'⟩ : ∃ q',qs[j]? = some q':=⟨_,List.getElem?_eq_getElem (by omega)⟩
  obtain ⟨refs,hr1,hr2⟩:=SA.at' j q' hq'
  have hfew:=S.few j
  refine ⟨rfl,_,rfl,_,rfl,ps,_,_,V.ref q',rfl,rfl,SqL.of (s2 _ _ SA.top),atI_nat (by rw [List.getElem?_map,hq']; rfl),q',rfl,⟨_,SqL.of (s2 _ _ hr1)⟩,lc_list (K:=K) (a:=q') (xs:=refs) (fun i ys H3=>H3=H2∧ys=((((rw2 rs j).take i).map Row2.t).map tx).map V.str) ⟨rfl,rfl⟩ ?_ ?_ ?_ ?_⟩
  ·rintro i ys H3 _ ⟨rfl,_⟩
   exact SqL.of (s2 _ _ hr1)
  ·rintro i ys H3 hi ⟨rfl,rfl⟩
   rw [List.length_map,List.length_map,List.length_map,List.length_take]
   exact small1000 (by omega)
  ·rintro i x ys H3 hx ⟨rfl,rfl⟩
   have hi:i < (rw2 rs j).length:=by rw [← hr2.1]; exact (List.getElem?_eq_some_iff.mp hx).1
   obtain ⟨b,hb1,hb2⟩:=hr2.2 i _ (List.getElem?_eq_getElem hi)
   have ex:x = .ref b:=Option.some.inj (hx.symm.trans hb1)
   subst ex
   refine yes_go ?_
   refine ⟨_,rfl,b,_,_,V.str (tx (rw2 rs j)[i].t),rfl,rfl,SqT.of (s2 _ _ hb2),atI_nat (j:=2) (rowV2_2 _),rfl,?_⟩
   rw [List.take_add_one,List.getElem?_eq_getElem hi,List.map_append,List.map_append,List.map_append]
   rfl
  rintro ys H3 ⟨rfl,rfl⟩ pj hpj
  rw [hr2.1,List.take_of_length_le (Nat.le_refl _)]
  have g3:=same_new hpj (.lst ((((rw2 rs j).map Row2.t).map tx).map V.str))
  have hsum:((texts2 rs j).map (·.length)).sum≤80000:=by
   have h2:=sum_le (texts2 rs j) 400 fun p hp=>by
    obtain ⟨r,hr,rfl⟩:=List.mem_map.mp hp
    exact (S.ok j (by omega) r hr).len
   have h4:(texts2 rs j).length=(rw2 rs j).length:=List.length_map _
   rw [h4] at h2
   have h5:=Nat.mul_le_mul_right 400 hfew
   omega
  refine ⟨_,pj,(texts2 rs j).map tx,rfl,rfl,SqL.of upd_same,by decide,?_,?_⟩
  ·rw [sum_tx,List.length_map,show (texts2 rs j).length=(rw2 rs j).length from List.length_map _]
   omega
  rw [join_eq10]
  refine ⟨_,rfl,_,rfl,_,rfl,pn,_,_,V.str (tx (nm ns j)),rfl,rfl,(s2.trans g3).seq hN,atI_nat (nm_get (by omega)),d,_,rfl,DPut.k (k:=.inr (tx (nm ns j))) (g3 _ _ hd2) (small1000 (by omega)),?_⟩
  refine ⟨_,_,_,rfl,fun b o hb=>?_,upd_same,hput⟩
  rw [upd_ne (ne_of_none hb hd)]
  exact g3 _ _ (s2 _ _ hb)
 ·rintro σ H2 ⟨v1,v2,pk,rfl,s2,hd2,tx2⟩
  rw [em] at tx2
  exact ⟨_,rfl,q d H2 pk hd s2 hd2 (tx2.fin hs) (tx2.none N) tx2.flat⟩
def sp_l_bad_row:Sp:=fun vs H Q _=>∃ (c:Int) (w:List Nat),vs=[.int c,.str (tx w)]∧isName w=true∧∀ t H',BadRow t→Same H H'→Q (.str (tx t)) H'
theorem sc_l_bad_row:FnScope ["cell","name","some"] ["cell","name"] (defScope s_l_bad_row):=⟨rfl,rfl,rfl,by decide +kernel,rfl,by decide +kernel,by decide +kernel⟩
theorem ok_l_bad_row (T:Txt P w K mg a) : FnOk P w K mg base CX0 2 a.f_l_bad_row a.fd_l_bad_row ["cell","name"] sp_l_bad_row:=by
 have g_l_draw:=ok_l_draw (P:=P) (w:=w) (base:=base) T
 have d_l_draw:=T.d_l_draw
 refine T.d_l_bad_row.fn.ok sc_l_bad_row (fun vs H Q E h=>?_) (fun cdv A outer s H vs Q E hr h=>?_)
 ·obtain ⟨c,w,rfl,_⟩:=h
  rfl
 obtain ⟨c,w,rfl,hw,q⟩:=h
 have hu:=Nat.lt_of_succ_lt (hu_of hr)
 refine ⟨_,(pss_cons (ps_set (i:=2) sc_l_bad_row.nd rfl (Or.inl rfl) (pe_lst (pa_cons pe_str (pa_cons (pe_op op_add_str (pv 1) pe_str) (pa_cons (pe_op op_add_str (pe_op op_add_str (pv 1) pe_str) (pv 1)) (pa_cons (pe_op op_add_str pe_str (pe_slice sl_str (pv 1) po_none (po_some pe_int))) (pa_cons pe_str (pa_cons (pe_op op_add_str (pv 1) pe_str) (pa_cons (pe_op op_add_str (pe_slice sl_str (pv 1) po_none (po_some (pe_un un_neg pe_int))) pe_str) pa_nil)))))))))
   (pss_cons (ps_set (i:=2) sc_l_bad_row.nd rfl (Or.inl rfl) (pe_op op_cat (pv 2) (pe_lst (pa_cons (pe_op op_add_str (pe_op op_add_str (pv 1) (pe_op op_mul_str pe_str (pe_op op_add pe_int (pe_callD d_l_draw g_l_draw (hr.mono (by decide)) rfl (pa_cons (pv 0) (pa_cons pe_int (pa_cons pe_int pa_nil))))))) (pv 1)) (pa_cons (pe_op op_add_str (pv 1) pe_str) (pa_cons (pe_op op_add_str (pe_op op_add_str (pe_slice sl_str (pv 1) po_none (po_some pe_int)) pe_str) (pe_slice sl_str (pv 1) (po_some pe_int) (po_some pe_int))) pa_nil))))))
   (pss_one (ps_ret (pe_op op_add_str (pe_op op_add_str (pe_op op_mul_str pe_str (pe_callD d_l_draw g_l_draw (hr.mono (by decide)) rfl (pa_cons (pv 0) (pa_cons pe_int (pa_cons pe_int pa_nil))))) pe_str) (pe_ix ix_list (pv 2) (pe_callD d_l_draw g_l_draw (hr.mono (by decide)) rfl (pa_cons (pv 0) (pa_cons pe_int (pa_cons pe_int pa_nil)))) (fun _ _=>rfl))))))),?_⟩
 have hl:=(name_lt hw).1
 have cl:∀ (lo hi:Option Int),(cutL w lo hi).length≤12:=fun lo hi=>Nat.le_trans (cut_len w lo hi) hl
 have k1:=cl none (some 11)
 have k2:=cl none (some (-1))
 have k3:=cl none (some 5)
 have k4:=cl (some 5) (some 11)
 refine ⟨_,rfl,_,_,rfl,rfl,small (by rw [cBA,tx_len,tx_len]; simp; omega),_,rfl,_,_,rfl,rfl,small (by rw [c32,tx_len,tx_len]; simp; omega),_,rfl,_,_,rfl,rfl,small (by rw [c32,tx_app,tx_len,tx_len]; simp; omega),_,rfl,_,rfl,_,rfl,small (by rw [tx_len]; omega),_,_,rfl,rfl,small (by rw [cB7,slice_tx,tx_len,tx_len]; simp; omega),_,rfl,_,_,rfl,rfl,small (by rw [cBm,tx_len,tx_len]; simp; omega),_,rfl,_,rfl,_,rfl,_,rfl,small (by rw [tx_len]; omega),_,_,rfl,rfl,small (by rw [cBu,slice_tx,tx_len,tx_len]; simp; omega),small (by simp),fun p1 hp1=>?_⟩
 have ex1:[V.str (PySem.Str.ofString ""),V.str (tx w++PySem.Str.ofString "A"),V.str (tx w++PySem.Str.ofString " "++tx w),V.str (PySem.Str.ofString "7"++Txt.slice (tx w) none (some 11)),V.str (PySem.Str.ofString "abcdefghijkl0"),V.str (tx w++PySem.Str.ofString "-"),V.str (Txt.slice (tx w) none (some (-1))++PySem.Str.ofString "_")]=((opts1 w).map tx).map V.str:=by
  rw [cBA,c32,cB7,cABC,cBm,cBu,ce,slice_tx,slice_tx,tx_app,tx_app,tx_app,tx_app,tx_app,tx_app]
  rfl
 dsimp only [gName]
 rw [ex1]
 have g1:=same_new hp1 (.lst (((opts1 w).map tx).map V.str))
 have h1:upd H p1 (.lst (((opts1 w).map tx).map V.str)) p1=some (.lst (((opts1 w).map tx).map V.str)):=upd_same
 generalize upd H p1 (.lst (((opts1 w).map tx).map V.str))=H1 at g1 h1 ⊢
 obtain ⟨n0,e0,h0⟩:=draw_nat c 11 (show 0 < 300 by decide)
 have e0:1+draw c 11 300=((1+n0:Nat) : Int):=by rw [show draw c 11 300=(n0:Int) from e0]; omega
 have m0:Txt.mul (PySem.Str.ofString " ") (1+draw c 11 300)=tx (repL [32] (1+n0)):=by rw [e0,c32,mul_tx]
 have kk0:MulOk (PySem.Str.ofString " ") (1+draw c 11 300):=by rw [e0,c32]; exact mulOk_small (by omega) (by simp)
 have l0:(repL [32] (1+n0)).length=1+n0:=by rw [repL_len]; simp
 refine ⟨_,rfl,_,rfl,_,rfl,c,11,300,rfl,⟨by decide,by decide⟩,by decide,_,_,rfl,rfl,_,_,rfl,rfl,kk0,?_⟩
 rw [m0]
 refine ⟨_,_,rfl,rfl,small (by rw [tx_len,tx_len]; omega),_,rfl,_,_,rfl,rfl,small (by rw [tx_app,tx_len,tx_len,List.length_append]; omega),_,rfl,_,_,rfl,rfl,small (by rw [cBabc,tx_len,tx_len]; simp; omega),_,rfl,_,rfl,_,rfl,small (by rw [tx_len]; omega),_,_,rfl,rfl,small (by rw [cBc,slice_tx,tx_len,tx_len]; simp; omega),_,rfl,_,rfl,_,rfl,_,rfl,small (by rw [tx_len]; omega),_,_,rfl,rfl,small (by rw [cBc,slice_tx,slice_tx,tx_app,tx_len,tx_len,List.length_append]; simp; omega),small (by simp),fun p2 hp2=>?_⟩
 have ex2:[V.str (tx w++tx (repL [32] (1+n0))++tx w),V.str (tx w++PySem.Str.ofString " a b c"),V.str (Txt.slice (tx w) none (some 5)++PySem.Str.ofString ","++Txt.slice (tx w) (some 5) (some 11))]=((opts2 w (1+n0)).map tx).map V.str:=by
  rw [cBabc,cBc,slice_tx,slice_tx,tx_app,tx_app,tx_app,tx_app,tx_app]
  rfl
 dsimp only
 rw [ex2]
 have g2:=g1.trans (same_new hp2 (.lst (((opts2 w (1+n0)).map tx).map V.str)))
 have h2:upd H1 p2 (.lst (((opts2 w (1+n0)).map tx).map V.str)) p2=some (.lst (((opts2 w (1+n0)).map tx).map V.str)):=upd_same
 have h12:=same_new hp2 (.lst (((opts2 w (1+n0)).map tx).map V.str)) _ _ h1
 generalize upd H1 p2 (.lst (((opts2 w (1+n0)).map tx).map V.str))=H2 at g2 h2 h12 ⊢
 refine ⟨p1,p2,_,_,rfl,rfl,h12,h2,small (by simp [opts1,opts2]),fun p3 hp3=>?_⟩
 rw [← List.map_append,← List.map_append]
 have g3:=g2.trans (same_new hp3 (.lst (((opts1 w++opts2 w (1+n0)).map tx).map V.str)))
 have h3:upd H2 p3 (.lst (((opts1 w++opts2 w (1+n0)).map tx).map V.str)) p3=some (.lst (((opts1 w++opts2 w (1+n0)).map tx).map V.str)):=upd_same
 generalize upd H2 p3 (.lst (((opts1 w++opts2 w (1+n0)).map tx).map V.str))=H3 at g3 h3 ⊢
 obtain ⟨n7,e7,h7⟩:=draw_nat c 7 (show 0 < 3 by decide)
 have e7:draw c 7 3=(n7:Int):=e7
 have m7:Txt.mul (PySem.Str.ofString " ") (draw c 7 3)=tx (repL [32] n7):=by rw [e7,c32,mul_tx]
 have kk7:MulOk (PySem.Str.ofString " ") (draw c 7 3):=by rw [e7,c32]; exact mulOk_small (by omega) (by simp)
 have l7:(repL [32] n7).length=n7:=by rw [repL_len]; simp
 obtain ⟨n9,e9,h9⟩:=draw_nat c 10 (show 0 < 10 by decide)
 have e9:draw c 10 10=(n9:Int):=e9
 have hn9:n9 < (opts1 w++opts2 w (1+n0)).length:=by simp [opts1,opts2]; omega
 have ht:(opts1 w++opts2 w (1+n0))[n9]? = some (opts1 w++opts2 w (1+n0))[n9]:=List.getElem?_eq_getElem hn9
 have hok:=optsB_ok hw (n:=1+n0) (by omega) (by omega) _ (List.getElem_mem hn9)
 generalize (opts1 w++opts2 w (1+n0))[n9]=t at ht hok
 have htl:=hok.len
 have lu:(useW++[32]).length=5:=rfl
 refine ⟨_,rfl,c,7,3,rfl,⟨by decide,by decide⟩,by decide,_,_,rfl,rfl,kk7,?_⟩
 rw [m7]
 refine ⟨_,_,rfl,rfl,small (by rw [cBuse,tx_len,tx_len]; omega),_,rfl,_,rfl,c,10,10,rfl,⟨by decide,by decide⟩,by decide,p3,_,_,V.str (tx t),rfl,rfl,SqL.of h3,?_,_,_,rfl,rfl,small (by rw [cBuse,tx_app,tx_len,tx_len,List.length_append]; omega),?_⟩
 ·rw [e9]
  refine atI_nat ?_
  rw [List.getElem?_map,List.getElem?_map,ht]
  rfl
 rw [cBuse,tx_app,tx_app]
 exact q _ _ (badRow hok (by omega)) g3
def sgns:List Nat:=[33,34,35,36,38,39,40,41,42,43,44,45,46,47,48,49,50,51,52,53,54,55,56,57,58,59,60,61,62,63,64,65,66,67,68,69,70,71,72,73,74,75,76,77,78,79,80,81,82,83,84,85,86,87,88,89,90,91,92,93,94,95,96,97,98,99,100,101,102,103,104,105,106,107,108,109,110,111,112,113,114,115,116,117,118,119,120,121,122,123,124,125,126]
def signAt (c k:Int) : Nat:=sgns.getD (draw c k 93).toNat 0
theorem sgn_in:∀ k:Nat,k < 93→32 < sgns.getD k 0∧sgns.getD k 0 < 127:=by decide +kernel
theorem signAt_in (c k:Int) : 32 < signAt c k∧signAt c k < 127:=by
 have:=draw_in c k (show (0:Int) < 93 by decide)
 exact sgn_in _ (by omega)
def sp_l_sign_by:Sp:=fun vs H Q _=>∃ c k:Int,vs=[.int c,.int k]∧(0≤k∧k≤100000)∧Q (.str (tx [signAt c k])) H
theorem sc_l_sign_by:FnScope ["cell","k","some"] ["cell","k"] (defScope s_l_sign_by):=⟨rfl,rfl,rfl,by decide +kernel,rfl,by decide +kernel,by decide +kernel⟩
theorem ok_l_sign_by (T:Txt P w K mg a) : FnOk P w K mg base CX0 2 a.f_l_sign_by a.fd_l_sign_by ["cell","k"] sp_l_sign_by:=by
 have g_l_draw:=ok_l_draw (P:=P) (w:=w) (base:=base) T
 have d_l_draw:=T.d_l_draw
 refine T.d_l_sign_by.fn.ok sc_l_sign_by (fun vs H Q E h=>?_) (fun cdv A outer s H vs Q E hr h=>?_)
 ·obtain ⟨c,k,rfl,_⟩:=h
  rfl
 obtain ⟨c,k,rfl,hk,q⟩:=h
 have hu:=Nat.lt_of_succ_lt (hu_of hr)
 refine ⟨_,(pss_cons (ps_set (i:=2) sc_l_sign_by.nd rfl (Or.inl rfl) pe_str)
   (pss_one (ps_ret (pe_ix ix_str (pv 2) (pe_callD d_l_draw g_l_draw (hr.mono (by decide)) rfl (pa_cons (pv 0) (pa_cons (pv 1) (pa_cons pe_int pa_nil)))) (fun _ _=>rfl))))),?_⟩
 have b:=draw_in c k (show (0:Int) < 93 by decide)
 obtain ⟨d,hd⟩:=Int.eq_ofNat_of_zero_le b.1
 have e:∀ j:Nat,j < 93→atI (PySem.Str.ofString "!\"#$&'()*+,-./0123456789:;<=>?@ABCDEFGHIJKLMNOPQRSTUVWXYZ[\\]^_`abcdefghijklmnopqrstuvwxyz{|}~").cps.toList (j:Int)=some (sgns.getD j 0):=by decide +kernel
 refine ⟨_,rfl,_,rfl,_,rfl,c,k,93,rfl,hk,by decide,_,_,signAt c k,rfl,rfl,small (by decide +kernel),?_,q⟩
 rw [hd]
 have:=e d (by omega)
 rw [this]
 unfold signAt
 rw [hd]
 rfl
def sp_l_plain_row:Sp:=fun vs H Q _=>∃ (c:Int) (w:List Nat),vs=[.int c,.str (tx w)]∧isName w=true∧∀ t H',Plain t→Same H H'→Q (.str (tx t)) H'
theorem sc_l_plain_row:FnScope ["cell","name","row","k"] ["cell","name"] (defScope s_l_plain_row):=⟨rfl,rfl,rfl,by decide +kernel,rfl,by decide +kernel,by decide +kernel⟩
theorem ok_l_plain_row (T:Txt P w K mg a) : FnOk P w K mg base CX0 3 a.f_l_plain_row a.fd_l_plain_row ["cell","name"] sp_l_plain_row:=by
 have g_l_draw:=ok_l_draw (P:=P) (w:=w) (base:=base) T
 have d_l_draw:=T.d_l_draw
 have g_l_sign_by:=ok_l_sign_by (P:=P) (w:=w) (base:=base) T
 have d_l_sign_by:=T.d_l_sign_by
 have z_range:=T.z_range
 refine T.d_l_plain_row.fn.ok sc_l_plain_row (fun vs H Q E h=>?_) (fun cdv A outer s H vs Q E hr h=>?_)
 ·obtain ⟨c,w,rfl,_⟩:=h
  rfl
 obtain ⟨c,w,rfl,hw,q⟩:=h
 have hu:=Nat.lt_of_succ_lt (hu_of hr)
 refine ⟨_,(pss_cons (ps_set (i:=2) sc_l_plain_row.nd rfl (Or.inl rfl) pe_str)
   (pss_cons (ps_for PassesOwn.never rfl (pi_range1 rfl z_range (pa_cons (pe_callD d_l_draw g_l_draw (hr.mono (by decide)) rfl (pa_cons (pv 0) (pa_cons pe_int (pa_cons pe_int pa_nil)))) pa_nil)) (pg_name (i:=3) sc_l_plain_row.nd rfl (Or.inl rfl)) (pss_one (ps_if (pt_cmpR op_eq (pe_callD d_l_draw g_l_draw (hr.mono (by decide)) rfl (pa_cons (pv 0) (pa_cons (pe_op op_add pe_int (pv 3)) (pa_cons pe_int pa_nil)))) pe_int (nomark _)) (pss_one (ps_set (i:=2) sc_l_plain_row.nd rfl (Or.inl rfl) (pe_op op_add_str (pv 2) pe_str))) (pss_one (ps_set (i:=2) sc_l_plain_row.nd rfl (Or.inl rfl) (pe_op op_add_str (pv 2) (pe_callD d_l_sign_by g_l_sign_by (hr.mono (by decide)) rfl (pa_cons (pv 0) (pa_cons (pe_op op_add pe_int (pv 3)) pa_nil)))))))))
   (pss_cons (ps_set (i:=2) sc_l_plain_row.nd rfl (Or.inl rfl) (pe_ix ix_list (pe_lst (pa_cons (pe_op op_add_str pe_str (pv 1)) (pa_cons (pe_op op_add_str (pe_op op_add_str (pv 1) pe_str) (pv 1)) (pa_cons (pe_op op_add_str pe_str (pv 1)) (pa_cons (pe_op op_add_str pe_str (pv 1)) (pa_cons pe_str (pa_cons pe_str (pa_cons (pv 2) (pa_cons (pv 2) (pa_cons (pv 2) pa_nil)))))))))) (pe_callD d_l_draw g_l_draw (hr.mono (by decide)) rfl (pa_cons (pv 0) (pa_cons pe_int (pa_cons pe_int pa_nil)))) (fun _ _=>rfl)))
   (pss_cons (ps_if (pt_cmpR (op_eqL hu) (pe_slice sl_list (pe_lc rfl (lcok (caps:=[]) (js:=[]) (cap:=trivial)) (pi_list (pe_bm PySem.F.plainAttrs_str PySem.F.slot_str_split PySem.F.type_str_split mt_split1 (pv 2) (pa_cons pe_str pa_nil))) (fun _ _ _ _=>(pts_one (pt_cmpR op_ne (pv 0) pe_str (nomark _)))) (fun _ _ _ _=>(pv 0))) po_none (po_some pe_int)) (pe_lst (pa_cons pe_str pa_nil)) (nomark _)) (pss_one (ps_ret (pe_op op_add_str pe_str (pv 2)))) pss_nil)
   (pss_one (ps_ret (pv 2))))))),?_⟩
 have hl:=(name_lt hw).1
 obtain ⟨n1,e1,h1⟩:=draw_nat c 6 (show 0 < 9 by decide)
 have e1:draw c 6 9=(n1:Int):=e1
 refine ⟨_,rfl,c,6,9,rfl,⟨by decide,by decide⟩,by decide,_,rfl,?_,?_,for_range (fun i σ H2=>H2=H∧∃ (l:List Nat) (v:Option V),σ=[some (.int c),some (.str (tx w)),some (.str (tx l)),v]∧l.length≤i∧10 ∉ l) ⟨rfl,[],none,by rw [ce]; rfl,Nat.le_refl _,by simp⟩ ?_ ?_⟩
 ·rw [e1]; omega
 ·rw [e1]; omega
 ·rintro i σ H2 hi ⟨rfl,l,v,rfl,hll,h10⟩
  rw [e1] at hi
  have hi2:i < 9:=by omega
  refine ⟨_,rfl,_,rfl,_,_,rfl,rfl,c,20+(0+(i:Int)),4,rfl,⟨by omega,by omega⟩,by decide,rfl,_,rfl,?_⟩
  refine ite2 (fun _=>?_) (fun _=>?_)
  ·refine ⟨_,rfl,_,_,rfl,rfl,small (by rw [tx_len,c32,tx_len]; simp; omega),?_⟩
   rw [c32,tx_app]
   exact ⟨rfl,l++[32],_,rfl,by simp; omega,fun z=>(List.mem_append.mp z).elim h10 (by decide)⟩
  ·have hsg:=signAt_in c (40+(0+(i:Int)))
   refine ⟨_,rfl,_,rfl,_,rfl,_,_,rfl,rfl,c,40+(0+(i:Int)),rfl,⟨by omega,by omega⟩,_,_,rfl,rfl,small (by rw [tx_len,tx_len]; simp; omega),?_⟩
   rw [tx_app]
   refine ⟨rfl,l++[signAt c (40+(0+(i:Int)))],_,rfl,by simp; omega,fun z=>(List.mem_append.mp z).elim h10 fun z=>?_⟩
   have:=List.mem_singleton.mp z
   omega
 rintro σ H2 ⟨rfl,l,v,rfl,hll,h10⟩
 rw [e1] at hll
 have hll:l.length≤9:=by omega
 have lu:useW.length=4:=rfl
 have bl:∀ {n:Nat},n≤1000→n≤sizeLine:=small
 refine ⟨_,rfl,_,_,rfl,rfl,small (by rw [cUSES,tx_len,tx_len]; simp; omega),_,rfl,_,_,rfl,rfl,small (by rw [cMID,tx_len,tx_len]; simp; omega),_,rfl,_,_,rfl,rfl,small (by rw [cMID,tx_app,tx_len,tx_len]; simp; omega),_,rfl,_,_,rfl,rfl,small (by rw [cUSE,tx_len,tx_len]; omega),_,rfl,_,_,rfl,rfl,small (by rw [cBANG,tx_len,tx_len]; simp; omega),_,rfl,_,rfl,_,rfl,small (by simp),fun p1 hp1=>?_⟩
 have ex:[V.str (PySem.Str.ofString ".uses "++tx w),V.str (tx w++PySem.Str.ofString " .use "++tx w),V.str (PySem.Str.ofString ".use"++tx w),V.str (PySem.Str.ofString "!.use "++tx w),V.str (PySem.Str.ofString ""),V.str (PySem.Str.ofString "  "),V.str (tx l),V.str (tx l),V.str (tx l)]=((opts w l).map tx).map V.str:=by
  rw [cUSES,cMID,cUSE,cBANG,cBB,ce,tx_app,tx_app,tx_app,tx_app,tx_app]
  rfl
 rw [ex]
 obtain ⟨n2,e2,h2⟩:=draw_nat c 5 (show 0 < 9 by decide)
 have e2:draw c 5 9=(n2:Int):=e2
 have hn2:n2 < (opts w l).length:=h2
 have ht:(opts w l)[n2]? = some ((opts w l)[n2]):=List.getElem?_eq_getElem hn2
 obtain ⟨ht1,ht2⟩:=opts_ok hw (show l.length≤40 by omega) h10 _ (List.getElem_mem hn2)
 generalize (opts w l)[n2]=t at ht ht1 ht2
 have g1:=same_new hp1 (.lst (((opts w l).map tx).map V.str))
 refine ⟨_,rfl,c,5,9,rfl,⟨by decide,by decide⟩,by decide,_,_,_,V.str (tx t),rfl,rfl,SqL.of upd_same,?_,?_⟩
 ·rw [e2]
  refine atI_nat ?_
  rw [List.getElem?_map,List.getElem?_map,ht]
  rfl
 generalize upd H2 p1 (.lst (((opts w l).map tx).map V.str))=H3 at g1 ⊢
 have hs:=splitL_sum 32 t
 refine ⟨_,rfl,rfl,_,32,rfl,congrArg (fun z=>[V.str z]) c32,?_,fun p2 hp2=>?_⟩
 ·rw [tx_len]
  exact small (by omega)
 rw [split_tx]
 have g2:=g1.trans (same_new hp2 (.lst (((splitL 32 t).map tx).map V.str)))
 have hq2:upd H3 p2 (.lst (((splitL 32 t).map tx).map V.str)) p2=some (.lst (((splitL 32 t).map tx).map V.str)):=upd_same
 generalize upd H3 p2 (.lst (((splitL 32 t).map tx).map V.str))=H4 at g2 hq2 ⊢
 refine ⟨p2,rfl,⟨_,SqL.of hq2⟩,lc_list (xs:=((splitL 32 t).map tx).map V.str) (fun i ys H5=>H5=H4∧ys=((neW ((splitL 32 t).take i)).map tx).map V.str) ⟨rfl,rfl⟩ ?_ ?_ ?_ ?_⟩
 ·rintro i ys H5 _ ⟨rfl,_⟩
  exact SqL.of hq2
 ·rintro i ys H5 hi ⟨rfl,rfl⟩
  rw [List.length_map,List.length_map]
  have h1:(neW ((splitL 32 t).take i)).length≤((splitL 32 t).take i).length:=List.length_filter_le _ _
  rw [List.length_take] at h1
  exact Nat.lt_of_lt_of_le (show _ < 1000000 by omega) (small2 (Nat.le_refl _))
 ·rintro i x ys H5 hx ⟨rfl,rfl⟩
  obtain ⟨w',hw',rfl⟩:=get_strs hx
  refine ⟨_,rfl,rfl,_,rfl,?_⟩
  rw [List.take_add_one,hw']
  show if (!decide (V.str (tx w')=V.str (PySem.Str.ofString "")))=true then _ else _
  rw [show (some w').toList=[w'] from rfl,neW_snoc]
  refine ite2 (fun c=>?_) (fun c=>?_)
  ·refine ⟨_,rfl,rfl,?_⟩
   have hne:w'≠[]:=by
    intro e
    rw [e,ce] at c
    rw [decide_eq_true rfl] at c
    cases c
   rw [if_neg hne]
   simp
  ·have hne:w' = []:=by
    by_cases e:V.str (tx w')=V.str (PySem.Str.ofString "")
    ·rw [ce] at e
     exact tx_inj (V.str.inj e)
    ·rw [decide_eq_false e] at c
     exact absurd rfl c
   rw [if_pos hne]
   exact ⟨rfl,rfl⟩
 rintro ys H5 ⟨rfl,rfl⟩ p3 hp3
 have el:(((splitL 32 t).map tx).map V.str).length=(splitL 32 t).length:=by rw [List.length_map,List.length_map]
 rw [el,List.take_of_length_le (Nat.le_refl _)]
 have g3:=g2.trans (same_new hp3 (.lst (((wordsL t).map tx).map V.str)))
 have hq3:upd H5 p3 (.lst (((wordsL t).map tx).map V.str)) p3=some (.lst (((wordsL t).map tx).map V.str)):=upd_same
 rw [show neW (splitL 32 t)=wordsL t from rfl]
 refine ⟨_,rfl,p3,_,rfl,SqL.of upd_same,fun p4 hp4=>?_⟩
 have e9:cutV (((wordsL t).map tx).map V.str) none (some 1)=(((wordsL t).take 1).map tx).map V.str:=by
  rw [cutV_map]
  have:=cut_to ((wordsL t).map tx) 1
  rw [show (1:Int)=((1:Nat) : Int) from rfl,this,List.map_take,List.map_take,List.map_take]
 have g4:=g3.trans (same_new hp4 (.lst (cutV (((wordsL t).map tx).map V.str) none (some 1))))
 have hq4:upd (upd H5 p3 (.lst (((wordsL t).map tx).map V.str))) p4 (.lst (cutV (((wordsL t).map tx).map V.str) none (some 1))) p4=some (.lst ((((wordsL t).take 1).map tx).map V.str)):=by rw [upd_same,e9]
 refine ⟨le1,fun p5 hp5=>?_⟩
 have g5:=g4.trans (same_new hp5 (.lst [V.str (PySem.Str.ofString ".use")]))
 have hq5:=same_new hp5 (.lst [V.str (PySem.Str.ofString ".use")]) p4 _ hq4
 refine ⟨_,_,_,_,rfl,rfl,SqL.of hq5,SqL.of upd_same,flat_strs _,rfl,_,rfl,?_⟩
 refine ite2 (fun c=>?_) (fun c=>?_)
 ·refine ⟨_,rfl,_,_,rfl,rfl,small (by rw [cX,tx_len,tx_len]; simp; omega),?_⟩
  rw [cX,tx_app]
  refine q _ _ ⟨fun z=>?_,by simp; omega,?_⟩ g5
  ·rcases List.mem_cons.mp z with z | z
   ·cases z
   ·exact ht2 z
  ·show (wordsL (120 :: t)).head?≠_
   rw [words_head t (by decide)]
   intro z
   have:=Option.some.inj z
   unfold useW at this
   exact absurd (List.cons.inj this).1 (by decide)
 ·refine ⟨_,rfl,q t _ ⟨ht2,by omega,fun z=>c ?_⟩ g5⟩
  cases e:wordsL t with
  | nil=>rw [e] at z; cases z
  | cons a r =>
   rw [e] at z
   have:a=useW:=Option.some.inj z
   subst this
   rw [show (PySem.Str.ofString ".use")=tx useW from cUSE]
   show eqVs [V.str (tx useW)] [V.str (tx useW)]=true
   exact eqVs_refl1 _
def sp_l_use_row:Sp:=fun vs H Q _=>∃ (c:Int) (w:List Nat),vs=[.int c,.str (tx w)]∧isName w=true∧∀ t,10 ∉ t→t.length≤400→wordsL t=[useW,w]→Q (.str (tx t)) H
theorem sc_l_use_row:FnScope ["cell","name","ahead"] ["cell","name"] (defScope s_l_use_row):=⟨rfl,rfl,rfl,by decide +kernel,rfl,by decide +kernel,by decide +kernel⟩
theorem ok_l_use_row (T:Txt P w K mg a) : FnOk P w K mg base CX0 2 a.f_l_use_row a.fd_l_use_row ["cell","name"] sp_l_use_row:=by
 have g_l_draw:=ok_l_draw (P:=P) (w:=w) (base:=base) T
 have d_l_draw:=T.d_l_draw
 refine T.d_l_use_row.fn.ok sc_l_use_row (fun vs H Q E h=>?_) (fun cdv A outer s H vs Q E hr h=>?_)
 ·obtain ⟨c,w,rfl,_⟩:=h
  rfl
 obtain ⟨c,w,rfl,hw,q⟩:=h
 have hu:=Nat.lt_of_succ_lt (hu_of hr)
 refine ⟨_,(pss_cons (ps_set (i:=2) sc_l_use_row.nd rfl (Or.inl rfl) (pe_op op_add_str (pe_op op_add_str (pe_op op_mul_str pe_str (pe_callD d_l_draw g_l_draw (hr.mono (by decide)) rfl (pa_cons (pv 0) (pa_cons pe_int (pa_cons pe_int pa_nil))))) pe_str) (pe_op op_mul_str pe_str (pe_op op_add pe_int (pe_callD d_l_draw g_l_draw (hr.mono (by decide)) rfl (pa_cons (pv 0) (pa_cons pe_int (pa_cons pe_int pa_nil))))))))
   (pss_one (ps_ret (pe_op op_add_str (pe_op op_add_str (pv 2) (pv 1)) (pe_op op_mul_str pe_str (pe_callD d_l_draw g_l_draw (hr.mono (by decide)) rfl (pa_cons (pv 0) (pa_cons pe_int (pa_cons pe_int pa_nil))))))))),?_⟩
 obtain ⟨n1,e1,h1⟩:=draw_nat c 7 (show 0 < 3 by decide)
 obtain ⟨n2,e2,h2⟩:=draw_nat c 8 (show 0 < 2 by decide)
 obtain ⟨n3,e3,h3⟩:=draw_nat c 9 (show 0 < 2 by decide)
 have e1:draw c 7 3=(n1:Int):=e1
 have e2:1+draw c 8 2=((1+n2:Nat) : Int):=by rw [show draw c 8 2=(n2:Int) from e2]; omega
 have e3:draw c 9 2=(n3:Int):=e3
 have hl:=(name_lt hw).1
 have m1:Txt.mul (PySem.Str.ofString " ") (draw c 7 3)=tx (repL [32] n1):=by rw [e1,c32,mul_tx]
 have m2:Txt.mul (PySem.Str.ofString " ") (1+draw c 8 2)=tx (repL [32] (1+n2)):=by rw [e2,c32,mul_tx]
 have m3:Txt.mul (PySem.Str.ofString " ") (draw c 9 2)=tx (repL [32] n3):=by rw [e3,c32,mul_tx]
 have k1:MulOk (PySem.Str.ofString " ") (draw c 7 3):=by rw [e1,c32]; exact mulOk_small (by omega) (by simp)
 have k2:MulOk (PySem.Str.ofString " ") (1+draw c 8 2):=by rw [e2,c32]; exact mulOk_small (by omega) (by simp)
 have k3:MulOk (PySem.Str.ofString " ") (draw c 9 2):=by rw [e3,c32]; exact mulOk_small (by omega) (by simp)
 have l1:(repL [32] n1).length=n1:=by rw [repL_len]; simp
 have l2:(repL [32] (1+n2)).length=1+n2:=by rw [repL_len]; simp
 have l3:(repL [32] n3).length=n3:=by rw [repL_len]; simp
 have lu:useW.length=4:=rfl
 refine ⟨_,rfl,c,7,3,rfl,⟨by decide,by decide⟩,by decide,_,_,rfl,rfl,k1,?_⟩
 rw [m1,cUSE]
 refine ⟨_,_,rfl,rfl,small (by rw [tx_len,tx_len]; omega),_,rfl,c,8,2,rfl,⟨by decide,by decide⟩,by decide,_,_,rfl,rfl,_,_,rfl,rfl,k2,?_⟩
 rw [m2,tx_app]
 refine ⟨_,_,rfl,rfl,small (by rw [tx_len,tx_len,List.length_append]; omega),?_⟩
 rw [tx_app]
 refine ⟨_,rfl,_,rfl,_,_,rfl,rfl,small (by rw [tx_len,tx_len,List.length_append,List.length_append]; omega),_,rfl,c,9,2,rfl,⟨by decide,by decide⟩,by decide,_,_,rfl,rfl,k3,?_⟩
 rw [m3,tx_app]
 refine ⟨_,_,rfl,rfl,small (by rw [tx_len,tx_len,List.length_append,List.length_append,List.length_append]; omega),?_⟩
 rw [tx_app]
 exact q (useRow n1 n2 n3 w) (useRow_no10 _ _ _ hw) (by rw [useRow_len]; omega) (useRow_words _ _ _ hw)
def sp_l_shelf_row (K:PySem.W.Frag) : Sp:=fun vs H Q _=>∃ (c:Int) (j m f:Nat) (pn:Addr) (ns:List (List Nat)),vs=[.int c,.int (j:Int),.ref pn,.int (f:Int)]∧j < m∧m≤8∧Names ns (m+1)∧SqL K H pn ((ns.map tx).map V.str)∧∀ p H' r,H p=none→Same H H'→H' p=some (.tup (rowV2 r))→Row2Ok ns m r→Q (.ref p) H'
theorem sc_l_shelf_row:FnScope ["cell","j","names","faults","many","way","name","other"] ["cell","j","names","faults"] (defScope s_l_shelf_row):=⟨rfl,rfl,rfl,by decide +kernel,rfl,by decide +kernel,by decide +kernel⟩
theorem ok_l_shelf_row (T:Txt P w K mg a) : FnOk P w K mg base CX0 4 a.f_l_shelf_row a.fd_l_shelf_row ["cell","j","names","faults"] (sp_l_shelf_row K):=by
 have g_l_bad_row:=ok_l_bad_row (P:=P) (w:=w) (base:=base) T
 have d_l_bad_row:=T.d_l_bad_row
 have g_l_draw:=ok_l_draw (P:=P) (w:=w) (base:=base) T
 have d_l_draw:=T.d_l_draw
 have g_l_plain_row:=ok_l_plain_row (P:=P) (w:=w) (base:=base) T
 have d_l_plain_row:=T.d_l_plain_row
 have g_l_use_row:=ok_l_use_row (P:=P) (w:=w) (base:=base) T
 have d_l_use_row:=T.d_l_use_row
 have z_len:=T.z_len
 refine T.d_l_shelf_row.fn.ok sc_l_shelf_row (fun vs H Q E h=>?_) (fun cdv A outer s H vs Q E hr h=>?_)
 ·obtain ⟨c,j,m,f,pn,ns,rfl,_⟩:=h
  rfl
 obtain ⟨c,j,m,f,pn,ns,rfl,hj,hm,N,hN,q⟩:=h
 have hu:=Nat.lt_of_succ_lt (hu_of hr)
 refine ⟨_,(pss_cons (ps_set (i:=4) sc_l_shelf_row.nd rfl (Or.inl rfl) (pe_op op_sub (pe_callB call_len_seq rfl z_len PySem.boot_len (pa_cons (pv 2) pa_nil)) pe_int))
   (pss_cons (ps_set (i:=5) sc_l_shelf_row.nd rfl (Or.inl rfl) (pe_callD d_l_draw g_l_draw (hr.mono (by decide)) rfl (pa_cons (pv 0) (pa_cons pe_int (pa_cons pe_int pa_nil)))))
   (pss_cons (ps_set (i:=6) sc_l_shelf_row.nd rfl (Or.inl rfl) (pe_ix ix_list (pv 2) (pe_callD d_l_draw g_l_draw (hr.mono (by decide)) rfl (pa_cons (pv 0) (pa_cons pe_int (pa_cons (pv 4) pa_nil)))) (fun _ _=>rfl)))
   (pss_cons (ps_if (PW.pt (pw_and (pt_cmpR op_lt (pv 5) pe_int (nomark _)) (pw_and1 (pt_cmpR op_lt (pe_op op_add (pv 1) pe_int) (pv 4) (nomark _))))) (pss_cons (ps_set (i:=7) sc_l_shelf_row.nd rfl (Or.inl rfl) (pe_op op_add (pe_op op_add (pv 1) pe_int) (pe_callD d_l_draw g_l_draw (hr.mono (by decide)) rfl (pa_cons (pv 0) (pa_cons pe_int (pa_cons (pe_op op_sub (pe_op op_sub (pv 4) (pv 1)) pe_int) pa_nil))))))
   (pss_one (ps_ret (pe_tup (pa_cons pe_str (pa_cons (pv 7) (pa_cons (pe_callD d_l_use_row g_l_use_row (hr.mono (by decide)) rfl (pa_cons (pv 0) (pa_cons (pe_ix ix_list (pv 2) (pv 7) (fun _ _=>rfl)) pa_nil))) pa_nil))))))) pss_nil)
   (pss_cons (ps_if (PW.pt (pw_and (pt_cmpR op_eq (pv 5) pe_int (nomark _)) (pw_and1 (pt_cmpR op_eq (pe_op op_mod (pv 3) pe_int) pe_int (nomark _))))) (pss_cons (ps_set (i:=7) sc_l_shelf_row.nd rfl (Or.inl rfl) (pe_callD d_l_draw g_l_draw (hr.mono (by decide)) rfl (pa_cons (pv 0) (pa_cons pe_int (pa_cons (pv 4) pa_nil)))))
   (pss_one (ps_ret (pe_tup (pa_cons pe_str (pa_cons (pv 7) (pa_cons (pe_callD d_l_use_row g_l_use_row (hr.mono (by decide)) rfl (pa_cons (pv 0) (pa_cons (pe_ix ix_list (pv 2) (pv 7) (fun _ _=>rfl)) pa_nil))) pa_nil))))))) pss_nil)
   (pss_cons (ps_if (PW.pt (pw_and (pt_cmpR op_eq (pv 5) pe_int (nomark _)) (pw_and1 (pt_cmpR op_eq (pe_op op_mod (pe_op op_fdiv (pv 3) pe_int) pe_int) pe_int (nomark _))))) (pss_one (ps_ret (pe_tup (pa_cons pe_str (pa_cons (pe_un un_neg pe_int) (pa_cons (pe_callD d_l_use_row g_l_use_row (hr.mono (by decide)) rfl (pa_cons (pv 0) (pa_cons (pe_ix ix_list (pv 2) (pv 4) (fun _ _=>rfl)) pa_nil))) pa_nil)))))) pss_nil)
   (pss_cons (ps_if (PW.pt (pw_and (pt_cmpR op_eq (pv 5) pe_int (nomark _)) (pw_and1 (pt_cmpR op_eq (pe_op op_mod (pe_op op_fdiv (pv 3) pe_int) pe_int) pe_int (nomark _))))) (pss_one (ps_ret (pe_tup (pa_cons pe_str (pa_cons (pe_un un_neg pe_int) (pa_cons (pe_callD d_l_bad_row g_l_bad_row (hr.mono (by decide)) rfl (pa_cons (pv 0) (pa_cons (pv 6) pa_nil))) pa_nil)))))) pss_nil)
   (pss_one (ps_ret (pe_tup (pa_cons pe_str (pa_cons (pe_un un_neg pe_int) (pa_cons (pe_callD d_l_plain_row g_l_plain_row (hr.mono (by decide)) rfl (pa_cons (pv 0) (pa_cons (pv 6) pa_nil))) pa_nil))))))))))))),?_⟩
 have hl:=N.len
 have eM:((((ns.map tx).map V.str).length:Nat) : Int) - 1=(m:Int):=by rw [List.length_map,List.length_map,hl]; omega
 refine ⟨_,rfl,_,_,rfl,.inl hN,_,_,rfl,rfl,?_⟩
 dsimp only [gName]
 rw [eM]
 obtain ⟨n3,e3,h3⟩:=draw_nat c 3 (show 0 < m by omega)
 have hix:∀ i:Nat,i < m+1→atI ((ns.map tx).map V.str) (i:Int)=some (V.str (tx (nm ns i))):=fun i h=>atI_nat (nm_get (by omega))
 refine ⟨_,rfl,c,2,16,rfl,⟨by decide,by decide⟩,by decide,?_⟩
 refine ⟨_,rfl,_,rfl,_,rfl,c,3,(m:Int),rfl,⟨by decide,by decide⟩,by omega,pn,_,_,V.str (tx (nm ns n3)),rfl,rfl,hN,?_,?_⟩
 ·rw [e3]
  exact hix n3 (by omega)
 refine ⟨_,rfl,_,_,rfl,rfl,_,rfl,?_⟩
 refine andF ?_ (fun key=>?_)
 ·refine ⟨_,rfl,rfl,_,rfl,?_⟩
  refine andF ?_ (fun key=>⟨_,rfl,_,_,rfl,rfl,(by show (0:Int) < 2; decide),rfl,_,rfl,?_⟩)
  ·refine ⟨_,rfl,rfl,_,rfl,?_⟩
   refine andF ?_ (fun key=>⟨_,rfl,_,_,rfl,rfl,⟨by decide,by decide⟩,_,_,rfl,rfl,(by show (0:Int) < 2; decide),rfl,_,rfl,?_⟩)
   ·refine ⟨_,rfl,rfl,_,rfl,?_⟩
    refine andF ?_ (fun key=>⟨_,rfl,_,_,rfl,rfl,⟨by decide,by decide⟩,_,_,rfl,rfl,(by show (0:Int) < 2; decide),rfl,_,rfl,?_⟩)
    ·refine ⟨_,rfl,_,rfl,_,rfl,c,nm ns n3,rfl,N.name n3 (by omega),fun t H2 ht s2=>⟨small (by simp),fun p hp=>?_⟩⟩
     exact q p _ ⟨.row,t⟩ (s2.free hp) (s2.trans (same_new hp _)) upd_same ⟨ht.no10,ht.len,ht.plain⟩
    ·refine ite2 (fun _=>?_) (fun _=>key)
     refine ⟨_,rfl,_,rfl,_,rfl,c,nm ns n3,rfl,N.name n3 (by omega),fun t H2 ht s2=>⟨small (by simp),fun p hp=>?_⟩⟩
     exact q p _ ⟨.bad,t⟩ (s2.free hp) (s2.trans (same_new hp _)) upd_same ⟨ht.no10,ht.len,ht.head,ht.bad⟩
   ·refine ite2 (fun _=>?_) (fun _=>key)
    refine ⟨_,rfl,_,rfl,_,rfl,_,rfl,pn,_,_,V.str (tx (nm ns m)),rfl,rfl,hN,hix _ (by omega),c,nm ns m,rfl,N.name _ (by omega),fun t ht1 ht2 ht3=>⟨small (by simp),fun p hp=>?_⟩⟩
    exact q p _ ⟨.lack,t⟩ hp (same_new hp _) upd_same ⟨ht1,ht2,ht3⟩
  ·refine ite2 (fun _=>?_) (fun _=>key)
   obtain ⟨n4,e4,h4⟩:=draw_nat c 4 (show 0 < m by omega)
   refine ⟨_,rfl,_,rfl,c,4,(m:Int),rfl,⟨by decide,by decide⟩,by omega,?_⟩
   dsimp only [gName]
   rw [e4]
   refine ⟨_,rfl,_,rfl,_,rfl,_,rfl,pn,_,_,V.str (tx (nm ns n4)),rfl,rfl,hN,hix _ (by omega),c,nm ns n4,rfl,N.name _ (by omega),fun t ht1 ht2 ht3=>⟨small (by simp),fun p hp=>?_⟩⟩
   exact q p _ ⟨.use n4,t⟩ hp (same_new hp _) upd_same ⟨ht1,ht2,h4,ht3⟩
 ·refine ⟨_,rfl,_,_,rfl,rfl,_,rfl,_,_,rfl,rfl,_,rfl,?_⟩
  refine ite2 (fun cc=>?_) (fun _=>key)
  have hjm:j+1 < m:=by have:=of_decide_eq_true cc; omega
  obtain ⟨n4,e4,h4⟩:=draw_nat c 4 (show 0 < m - j - 1 by omega)
  have em:(m:Int) - (j:Int) - 1=((m - j - 1:Nat) : Int):=by omega
  refine ⟨_,rfl,_,_,rfl,rfl,_,rfl,_,rfl,_,rfl,_,_,rfl,rfl,_,_,rfl,rfl,c,4,((m - j - 1:Nat) : Int),congrArg (fun z=>[V.int c,V.int 4,V.int z]) em,⟨by decide,by decide⟩,by omega,_,_,rfl,rfl,?_⟩
  have eo:(j:Int)+1+draw c 4 ((m - j - 1:Nat) : Int)=((j+1+n4:Nat) : Int):=by rw [e4]; omega
  dsimp only [gName]
  rw [eo]
  refine ⟨_,rfl,_,rfl,_,rfl,_,rfl,pn,_,_,V.str (tx (nm ns (j+1+n4))),rfl,rfl,hN,hix _ (by omega),c,nm ns (j+1+n4),rfl,N.name _ (by omega),fun t ht1 ht2 ht3=>⟨small (by simp),fun p hp=>?_⟩⟩
  exact q p _ ⟨.use (j+1+n4),t⟩ hp (same_new hp _) upd_same ⟨ht1,ht2,by omega,ht3⟩
def sp_l_shelf (K:PySem.W.Frag) : Sp:=fun vs H Q _=>∃ (sc pn:Addr) (xs:List Int) (ns:List (List Nat)) (m f:Nat),vs=[.ref sc,.ref pn,.int (f:Int)]∧SqL K H sc (xs.map V.int)∧xs.length≤63∧1≤m∧m≤8∧Names ns (m+1)∧SqL K H pn ((ns.map tx).map V.str) ∧
  ∀ ps H' qs rs,H ps=none→Same H H'→ShelfAt H' ps qs rs→Shelf2 ns rs m→Q (.ref ps) H'
theorem sc_l_shelf:FnScope ["script","names","faults","many","shelf","cell","j"] ["script","names","faults"] (defScope s_l_shelf):=⟨rfl,rfl,rfl,by decide +kernel,rfl,by decide +kernel,by decide +kernel⟩
theorem ok_l_shelf (T:Txt P w K mg a) : FnOk P w K mg base CX0 5 a.f_l_shelf a.fd_l_shelf ["script","names","faults"] (sp_l_shelf K):=by
 have g_l_draw:=ok_l_draw (P:=P) (w:=w) (base:=base) T
 have d_l_draw:=T.d_l_draw
 have g_l_shelf_row:=ok_l_shelf_row (P:=P) (w:=w) (base:=base) T
 have d_l_shelf_row:=T.d_l_shelf_row
 have z_len:=T.z_len
 have z_range:=T.z_range
 refine T.d_l_shelf.fn.ok sc_l_shelf (fun vs H Q E h=>?_) (fun cdv A outer s H vs Q E hr h=>?_)
 ·obtain ⟨sc,pn,xs,ns,m,f,rfl,_⟩:=h
  rfl
 obtain ⟨sc,pn,xs,ns,m,f,rfl,hX,hxl,hm1,hm,N,hN,q⟩:=h
 have hu:=Nat.lt_of_succ_lt (hu_of hr)
 refine ⟨_,(pss_cons (ps_set (i:=3) sc_l_shelf.nd rfl (Or.inl rfl) (pe_op op_sub (pe_callB call_len_seq rfl z_len PySem.boot_len (pa_cons (pv 1) pa_nil)) pe_int))
   (pss_cons (ps_lc (k:=4) rfl (lcok (caps:=[]) (js:=[]) (cap:=trivial)) (pi_range1 rfl z_range (pa_cons (pv 3) pa_nil)) (fun _ _ _ _=>pts_nil) (fun _ _ _ _=>(pe_lst pa_nil)) sc_l_shelf.nd rfl rfl)
   (pss_cons (ps_for PassesOwn.never rfl (pi_list (pe_slice sl_list (pv 0) (po_some pe_int) (po_some pe_int))) (pg_name (i:=5) sc_l_shelf.nd rfl (Or.inl rfl)) (pss_cons (ps_set (i:=6) sc_l_shelf.nd rfl (Or.inl rfl) (pe_callD d_l_draw g_l_draw (hr.mono (by decide)) rfl (pa_cons (pv 5) (pa_cons pe_int (pa_cons (pv 3) pa_nil)))))
   (pss_one (ps_expr (pe_bm PySem.F.plainAttrs_list PySem.F.slot_list_append PySem.F.type_list_append mt_append (pe_ix ix_list (pv 4) (pv 6) (fun _ _=>rfl)) (pa_cons (pe_callD d_l_shelf_row g_l_shelf_row (hr.mono (by decide)) rfl (pa_cons (pv 5) (pa_cons (pv 6) (pa_cons (pv 1) (pa_cons (pv 2) pa_nil))))) pa_nil))))))
   (pss_cons (ps_for PassesOwn.never rfl (pi_range1 rfl z_range (pa_cons (pv 3) pa_nil)) (pg_name (i:=6) sc_l_shelf.nd rfl (Or.inl rfl)) (pss_one (ps_if (pt_cmpR (op_eqNil hu) (pe_ix ix_list (pv 4) (pv 6) (fun _ _=>rfl)) (pe_lst pa_nil) (nomark _)) (pss_one (ps_expr (pe_bm PySem.F.plainAttrs_list PySem.F.slot_list_append PySem.F.type_list_append mt_append (pe_ix ix_list (pv 4) (pv 6) (fun _ _=>rfl)) (pa_cons (pe_tup (pa_cons pe_str (pa_cons (pe_un un_neg pe_int) (pa_cons pe_str pa_nil)))) pa_nil)))) pss_nil)))
   (pss_one (ps_ret (pv 4))))))),?_⟩
 have hl:=N.len
 have eM:((((ns.map tx).map V.str).length:Nat) : Int) - 1=(m:Int):=by rw [List.length_map,List.length_map,hl]; omega
 refine ⟨_,rfl,_,_,rfl,.inl hN,_,_,rfl,rfl,?_⟩
 dsimp only [gName]
 rw [eM]
 have em:(m:Int).toNat=m:=by omega
 refine ⟨_,rfl,_,rfl,by omega,by omega,lc_range (fun i ys H2=>∃ qs:List Addr,ys=qs.map V.ref∧qs.length=i∧Same H H2∧(∀ (i j:Nat) (q:Addr),qs[i]? = some q→qs[j]? = some q→i=j)∧(∀ q ∈ qs,H q=none∧H2 q=some (.lst []))) ⟨[],rfl,rfl,Same.refl H,fun i j q h=>by simp at h,(fun q h=>nomatch h)⟩ ?_ ?_ ?_⟩
 ·rintro i ys H2 hi ⟨qs,rfl,hql,_⟩
  rw [List.length_map,hql]
  exact small1000 (by omega)
 ·rintro i ys H2 hi ⟨qs,rfl,hql,s2,nd,hq⟩
  refine yes_go ?_
  refine ⟨small (by simp),fun p hp=>?_⟩
  have g:=same_new hp (.lst [])
  refine ⟨qs++[p],by simp,by simp [hql],s2.trans g,fun i j q' h1 h2=>?_,fun q' h=>?_⟩
  ·have hlt:∀ k,(qs++[p])[k]? = some q'→(k < qs.length∧qs[k]? = some q')∨(k=qs.length∧q' = p):=fun k hk=>by
    by_cases hkl:k < qs.length
    ·rw [List.getElem?_append_left hkl] at hk
     exact .inl ⟨hkl,hk⟩
    ·rw [List.getElem?_append_right (by omega)] at hk
     have hz:k - qs.length=0:=by
      have:=(List.getElem?_eq_some_iff.mp hk).1
      simp at this
      omega
     rw [hz] at hk
     exact .inr ⟨by omega,by simpa using hk.symm⟩
   have np:∀ k,qs[k]? = some p→False:=fun k hk=>by
    have:=(hq p (List.mem_of_getElem? hk)).2
    rw [hp] at this
    cases this
   rcases hlt i h1 with ⟨h3,h4⟩ | ⟨h3,h4⟩ <;> rcases hlt j h2 with ⟨h5,h6⟩ | ⟨h5,h6⟩
   ·exact nd i j q' h4 h6
   ·subst h6; exact absurd h4 (np i)
   ·subst h4; exact absurd h6 (np j)
   ·omega
  ·rcases List.mem_append.mp h with h | h
   ·obtain ⟨h1,h2⟩:=hq q' h
    exact ⟨h1,g _ _ h2⟩
   ·rw [List.mem_singleton.mp h]
    exact ⟨s2.free hp,upd_same⟩
 rintro ys H2 ⟨qs,rfl,hql,s2,nd,hq⟩ ps hps
 rw [em] at hql
 have g3:=s2.trans (same_new hps (.lst (qs.map V.ref)))
 have SA:ShelfAt (upd H2 ps (.lst (qs.map V.ref))) ps qs (List.replicate m []):=by
  refine ⟨upd_same,by simp [hql],nd,fun h=>?_,fun i q' h=>⟨[],same_new hps _ _ _ (hq q' (List.mem_of_getElem? h)).2,?_⟩⟩
  ·have:=(hq ps h).2
   rw [hps] at this
   cases this
  ·rw [rw2_nils]
   exact ⟨rfl,fun k r h=>by simp at h⟩
 have F0:Fill ns (List.replicate m []) m 0:=⟨by simp,fun i=>by rw [rw2_nils]; exact Nat.le_refl _,fun i _ r h=>by rw [rw2_nils] at h; cases h⟩
 have hps0:H ps=none:=s2.free hps
 have hq0:∀ q' ∈ qs,H q' = none:=fun q' h=>(hq q' h).1
 generalize upd H2 ps (.lst (qs.map V.ref))=H3 at g3 SA ⊢
 refine ⟨_,rfl,_,rfl,_,rfl,sc,_,rfl,g3.seq hX,fun pc hpc=>?_⟩
 rw [cutV_map]
 have hcl:=cut_len xs (some 1) (some 190)
 have hcl2:((cutL xs (some 1) (some 190)).map V.int).length≤63:=by rw [List.length_map]; omega
 have g4:=same_new hpc (.lst ((cutL xs (some 1) (some 190)).map V.int))
 have npc:∀ q' ∈ qs,q'≠pc:=fun q' h=>by
  obtain ⟨i,hi⟩:=List.getElem?_of_mem h
  obtain ⟨refs,h1,_⟩:=SA.at' i q' hi
  exact ne_of_none h1 hpc
 have hpc1:upd H3 pc (.lst ((cutL xs (some 1) (some 190)).map V.int)) pc=some (.lst ((cutL xs (some 1) (some 190)).map V.int)):=upd_same
 refine ⟨pc,rfl,⟨_,SqL.of upd_same⟩,for_list (K:=K) (a:=pc) (xs:=(cutL xs (some 1) (some 190)).map V.int) (fun i σ H5=>∃ (v1 v2:Option V) (rs:List (List Row2)),σ=[some (.ref sc),some (.ref pn),some (.int (f:Int)),some (.int (m:Int)),some (.ref ps),v1,v2]∧H5 pc=some (.lst ((cutL xs (some 1) (some 190)).map V.int))∧Same H H5∧ShelfAt H5 ps qs rs∧Fill ns rs m i) ?_ ?_ ?_ ?_⟩
 ·exact ⟨none,none,_,rfl,hpc1,g3.trans g4,SA.same g4,F0⟩
 ·rintro i σ H5 _ ⟨v1,v2,rs,rfl,h5,_⟩
  exact SqL.of h5
 ·rintro i x σ H5 hx ⟨v1,v2,rs,rfl,h5,s5,SA5,F⟩
  obtain ⟨c,rfl⟩:=get_int hx
  have hi:i < 63:=by have:=(List.getElem?_eq_some_iff.mp hx).1; omega
  obtain ⟨j,ej,hj⟩:=draw_nat c 1 (show 0 < m by omega)
  refine ⟨_,rfl,_,rfl,c,1,(m:Int),rfl,⟨by decide,by decide⟩,by omega,?_⟩
  dsimp only [gName]
  rw [ej]
  obtain ⟨q',hq'⟩ : ∃ q',qs[j]? = some q':=⟨_,List.getElem?_eq_getElem (by omega)⟩
  obtain ⟨refs,hr1,hr2⟩:=SA5.at' j q' hq'
  refine ⟨_,rfl,_,rfl,ps,_,_,V.ref q',rfl,rfl,SqL.of SA5.top,atI_nat (by rw [List.getElem?_map,hq']; rfl),.inl ⟨rfl,_,SqL.of hr1⟩,_,rfl,_,rfl,_,rfl,_,rfl,c,j,m,f,pn,ns,rfl,hj,hm,N,s5.seq hN,fun p H6 r hp s6 h6 ro=>?_⟩
  have hlr:refs.length≤63:=by have:=F.few j; rw [hr2.1]; omega
  refine ⟨q',_,_,rfl,rfl,s6 _ _ hr1,small1000 (by omega),?_⟩
  refine ⟨_,_,rs.set j (rw2 rs j++[r]),rfl,?_,fun b o hb=>?_,(SA5.same s6).push hq' (s6 _ _ hr1) h6,F.push hj ro (by omega) (by have:=F.few j; omega)⟩
  ·rw [upd_ne (Ne.symm (npc q' (List.mem_of_getElem? hq')))]
   exact s6 _ _ h5
  ·rw [upd_ne (ne_of_none hb (hq0 q' (List.mem_of_getElem? hq')))]
   exact s6 _ _ (s5 _ _ hb)
 rintro σ H5 ⟨v1,v2,rs,rfl,h5,s5,SA5,F⟩
 have F:Fill ns rs m 63:=⟨F.len,fun i=>Nat.le_trans (F.few i) hcl2,F.ok⟩
 refine ⟨_,rfl,_,rfl,by omega,by omega,for_range (fun i σ H6=>∃ (v2:Option V) (rs:List (List Row2)),σ=[some (.ref sc),some (.ref pn),some (.int (f:Int)),some (.int (m:Int)),some (.ref ps),v1,v2]∧Same H H6∧ShelfAt H6 ps qs rs∧Fill ns rs m 63∧∀ k,k < i→rw2 rs k≠[]) ⟨v2,rs,rfl,s5,SA5,F,fun k h=>absurd h (Nat.not_lt_zero _)⟩ ?_ ?_⟩
 ·clear F SA5 s5 h5
  rintro i σ H6 hi ⟨v3,rs,rfl,s6,SA6,F,hne⟩
  have hi2:i < m:=by omega
  obtain ⟨q',hq'⟩ : ∃ q',qs[i]? = some q':=⟨_,List.getElem?_eq_getElem (by omega)⟩
  obtain ⟨refs,hr1,hr2⟩:=SA6.at' i q' hq'
  have ix:atI (qs.map V.ref) (0+(i:Int))=some (V.ref q'):=by rw [Int.zero_add]; exact atI_nat (by rw [List.getElem?_map,hq']; rfl)
  refine ⟨_,rfl,_,rfl,ps,_,_,V.ref q',rfl,rfl,SqL.of SA6.top,ix,small (by simp),fun p hp=>?_⟩
  have g:=same_new hp (.lst [])
  refine ⟨q',p,refs,rfl,rfl,SqL.of (g _ _ hr1),SqL.of upd_same,_,rfl,?_⟩
  refine ite2 (fun c=>?_) (fun c=>?_)
  ·have hre:refs=[]:=List.isEmpty_iff.mp c
   have hrw:rw2 rs i=[]:=List.length_eq_zero_iff.mp (by rw [← hr2.1,hre]; rfl)
   refine ⟨_,rfl,_,rfl,ps,_,_,V.ref q',rfl,rfl,SqL.of (g _ _ SA6.top),ix,.inl ⟨rfl,_,SqL.of (g _ _ hr1)⟩,_,rfl,small (by simp),fun p2 hp2=>?_⟩
   have g2:=g.trans (same_new hp2 (.tup [V.str (PySem.Str.ofString "row"),V.int (-1),V.str (PySem.Str.ofString "")]))
   have hp2':upd (upd H6 p (.lst [])) p2 (.tup [V.str (PySem.Str.ofString "row"),V.int (-1),V.str (PySem.Str.ofString "")]) p2=some (.tup (rowV2 ⟨.row,[]⟩)):=by
    rw [upd_same,ce]
    rfl
   refine ⟨q',_,_,rfl,rfl,g2 _ _ hr1,small1000 (by rw [hre]; simp),?_⟩
   refine ⟨_,rs.set i (rw2 rs i++[⟨.row,[]⟩]),rfl,fun b o hb=>?_,(SA6.same g2).push hq' (g2 _ _ hr1) hp2',F.push hi2 (r:=⟨.row,[]⟩) ⟨by simp,by simp,(show (wordsL ([] : List Nat)).head?≠some useW by decide)⟩ (Nat.le_refl _) (by rw [hrw]; decide),fun k hk=>?_⟩
   ·rw [upd_ne (ne_of_none hb (hq0 q' (List.mem_of_getElem? hq')))]
    exact g2 _ _ (s6 _ _ hb)
   ·rw [rw2_set _ (by rw [F.len]; exact hi2)]
    by_cases e:k=i
    ·rw [if_pos e]; simp
    ·rw [if_neg e]; exact hne k (by omega)
  ·refine ⟨_,rs,rfl,s6.trans g,SA6.same g,F,fun k hk=>?_⟩
   by_cases e:k=i
   ·subst e
    intro z
    refine c (List.isEmpty_iff.mpr (List.length_eq_zero_iff.mp ?_))
    rw [hr2.1,z]
    rfl
   ·exact hne k (by omega)
 ·rintro σ H6 ⟨v3,rs',rfl,s6,SA6,F',hne⟩
  rw [em] at hne
  have fl:=F'.len
  exact ⟨_,rfl,q ps H6 qs rs' hps0 s6 SA6 ⟨fl,fun i hi=>hne i hi,fun i=>Nat.le_trans (F'.few i) (by decide),F'.ok⟩⟩
theorem sc_law:FnScope ["script","first","many","names","shelf","parts","handed","i","due","total"] ["script"] (defScope s_law):=⟨rfl,rfl,rfl,by decide +kernel,rfl,by decide +kernel,by decide +kernel⟩
theorem ok_law (T:Txt P w K mg a) : FnOk P w K mg base CX0 17 a.f_law a.fd_law ["script"] (sp_law K):=by
 have g_l_asked:=ok_l_asked (P:=P) (w:=w) (base:=base) T
 have d_l_asked:=T.d_l_asked
 have g_l_cell_at:=ok_l_cell_at (P:=P) (w:=w) (base:=base) T
 have d_l_cell_at:=T.d_l_cell_at
 have g_l_count:=ok_l_count (P:=P) (w:=w) (base:=base) T
 have d_l_count:=T.d_l_count
 have g_l_draw:=ok_l_draw (P:=P) (w:=w) (base:=base) T
 have d_l_draw:=T.d_l_draw
 have g_l_met:=ok_l_met (P:=P) (w:=w) (base:=base) T
 have d_l_met:=T.d_l_met
 have g_l_names:=ok_l_names (P:=P) (w:=w) (base:=base) T
 have d_l_names:=T.d_l_names
 have g_l_parts:=ok_l_parts (P:=P) (w:=w) (base:=base) T
 have d_l_parts:=T.d_l_parts
 have g_l_shelf:=ok_l_shelf (P:=P) (w:=w) (base:=base) T
 have d_l_shelf:=T.d_l_shelf
 have g_joined:=ok_joined (P:=P) (w:=w) (base:=base) T
 have d_joined:=T.d_joined
 have z_dict:=T.z_dict
 have z_len:=T.z_len
 have z_range:=T.z_range
 refine T.d_law.fn.ok sc_law (fun vs H Q E h=>?_) (fun cdv A outer s H vs Q E hr h=>?_)
 ·obtain ⟨a,ns,rfl,_⟩:=h
  rfl
 obtain ⟨sa,xs,rfl,hX,hxl,q⟩:=h
 have hu:=Nat.lt_of_succ_lt (hu_of hr)
 refine ⟨_,(pss_cons (ps_set (i:=1) sc_law.nd rfl (Or.inl rfl) (pe_callD d_l_cell_at g_l_cell_at (hr.mono (by decide)) rfl (pa_cons (pv 0) (pa_cons pe_int pa_nil))))
   (pss_cons (ps_set (i:=2) sc_law.nd rfl (Or.inl rfl) (pe_op op_add pe_int (pe_callD d_l_draw g_l_draw (hr.mono (by decide)) rfl (pa_cons (pv 1) (pa_cons pe_int (pa_cons pe_int pa_nil))))))
   (pss_cons (ps_set (i:=3) sc_law.nd rfl (Or.inl rfl) (pe_callD d_l_names g_l_names (hr.mono (by decide)) rfl (pa_cons (pv 1) (pa_cons (pe_op op_add (pv 2) pe_int) pa_nil))))
   (pss_cons (ps_set (i:=4) sc_law.nd rfl (Or.inl rfl) (pe_callD d_l_shelf g_l_shelf (hr.mono (by decide)) rfl (pa_cons (pv 0) (pa_cons (pv 3) (pa_cons (pe_callD d_l_draw g_l_draw (hr.mono (by decide)) rfl (pa_cons (pv 1) (pa_cons pe_int (pa_cons pe_int pa_nil)))) pa_nil)))))
   (pss_cons (ps_set (i:=5) sc_law.nd rfl (Or.inl rfl) (pe_callD d_l_parts g_l_parts (hr.mono (by decide)) rfl (pa_cons (pv 4) (pa_cons (pv 3) (pa_cons (pv 1) pa_nil)))))
   (pss_cons (ps_set (i:=6) sc_law.nd rfl (Or.inl rfl) (pe_callTy call_dict_of rfl z_dict PyProof.Rows.boot_dict (pa_cons (pv 5) pa_nil)))
   (pss_cons (ps_for PassesOwn.never rfl (pi_range1 rfl z_range (pa_cons (pv 2) pa_nil)) (pg_name (i:=7) sc_law.nd rfl (Or.inl rfl)) (pss_cons (ps_set (i:=8) sc_law.nd rfl (Or.inl rfl) (pe_callD d_l_met g_l_met (hr.mono (by decide)) rfl (pa_cons (pv 4) (pa_cons (pe_lst (pa_cons (pv 7) pa_nil)) (pa_cons (pe_lst pa_nil) pa_nil)))))
   (pss_cons (ps_set (i:=9) sc_law.nd rfl (Or.inl rfl) pe_int)
   (pss_cons (ps_if (pt_cmpR op_eq (pv 8) pe_str (nomark _)) (pss_cons (ps_set (i:=9) sc_law.nd rfl (Or.inl rfl) (pe_callD d_l_count g_l_count (hr.mono (by decide)) rfl (pa_cons (pv 4) (pa_cons (pv 7) (pa_cons pe_dnewK pa_nil)))))
   (pss_one (ps_if (pt_cmpR op_gt (pv 9) pe_int (nomark _)) (pss_one (ps_set (i:=8) sc_law.nd rfl (Or.inl rfl) pe_str)) pss_nil))) pss_nil)
   (pss_cons (ps_if (pt_not (pt_val (pe_callD d_l_asked g_l_asked (hr.mono (by decide)) rfl (pa_cons (pv 6) (pa_cons (pe_ix ix_list (pv 3) (pv 7) (fun _ _=>rfl)) (pa_cons (pv 8) pa_nil)))) (fun _=>rfl))) (pss_one (ps_ret pe_bl)) pss_nil)
   (pss_one (ps_if (PW.pt (pw_and (pt_cmpR op_eq (pv 8) pe_str (nomark _)) (pw_and1 (pt_cmpR op_ne (pe_callB call_len_seq rfl z_len PySem.boot_len (pa_cons (pe_callX passN d_joined g_joined (hr.mono (by decide)) rfl (pa_cons (pv 6) (pa_cons (pe_ix ix_list (pv 3) (pv 7) (fun _ _=>rfl)) pa_nil))) pa_nil)) (pv 9) (nomark _))))) (pss_one (ps_ret pe_bl)) pss_nil)))))))
   (pss_one (ps_ret (pe_and (pe_callD d_l_asked g_l_asked (hr.mono (by decide)) rfl (pa_cons (pv 6) (pa_cons (pe_ix ix_list (pv 3) (pv 2) (fun _ _=>rfl)) (pa_cons pe_str pa_nil)))) (pe_one (pe_cmpR (op_eqD hu) (pv 6) (pv 5) (nomark _))))))))))))),?_⟩
 refine ⟨_,rfl,sa,xs,0,rfl,hX,?_⟩
 generalize xs.getD 0 0=c
 obtain ⟨n1,e1,h1⟩:=draw_nat c 22 (show 0 < 8 by decide)
 obtain ⟨m,hm⟩ : ∃ m:Nat,m=1+n1:=⟨_,rfl⟩
 have e1:1+draw c 22 8=(m:Int):=by rw [show draw c 22 8=(n1:Int) from e1]; omega
 have em:(m:Int).toNat=m:=by omega
 have hm1:1≤m:=by omega
 have hm8:m≤8:=by omega
 clear hm h1
 refine ⟨_,rfl,c,22,8,rfl,⟨by decide,by decide⟩,by decide,_,_,rfl,rfl,?_⟩
 dsimp only [gName]
 rw [e1]
 refine ⟨_,rfl,_,rfl,_,_,rfl,rfl,c,m+1,rfl,by omega,by omega,fun pn H1 ns hpn s1 N hn=>?_⟩
 have hnl:=N.len
 obtain ⟨f,ef,hf⟩:=draw_nat c 24 (show 0 < 8 by decide)
 have ef:draw c 24 8=(f:Int):=ef
 refine ⟨_,rfl,_,rfl,_,rfl,c,24,8,rfl,⟨by decide,by decide⟩,by decide,sa,pn,xs,ns,m,f,by rw [ef]; rfl,s1.seq hX,hxl,hm1,hm8,N,SqL.of hn,fun ps H2 sq rs hps s2 SA S=>?_⟩
 have hn2:=s2 _ _ hn
 refine ⟨_,rfl,_,rfl,_,rfl,ps,pn,c,ns,sq,rs,m,rfl,SA,S,N,hm1,hm8,SqL.of hn2,fun pd H4 pk hpd s4 hd4 hv hvn fl=>?_⟩
 refine ⟨_,rfl,pd,pk,rfl,.inl hd4,fun ph hph=>?_⟩
 have g5:=same_new hph (.dK pk)
 have hh5:upd H4 ph (.dK pk) ph=some (.dK pk):=upd_same
 generalize upd H4 ph (.dK pk)=H5 at g5 hh5 ⊢
 have s35:=s4.trans g5
 have hn5:=s35 _ _ hn2
 have hd5:=g5 _ _ hd4
 have SA5:=SA.same s35
 have hP5:Parts2 H5 ph ns rs m:=⟨pk,hh5,hv,hvn⟩
 clear hX s1 hn hn2 SA hd4 s35
 have ixn:∀ {i:Nat},i < m+1→atI ((ns.map tx).map V.str) (i:Int)=some (V.str (tx (nm ns i))):=fun h=>atI_nat (nm_get (by omega))
 refine ⟨_,rfl,_,rfl,by omega,by omega,for_range (fun i σ H6=>∃ (v7 v8 v9:Option V),σ=[some (.ref sa),some (.int c),some (.int (m:Int)),some (.ref pn),some (.ref ps),some (.ref pd),some (.ref ph),v7,v8,v9]∧Same H5 H6) ⟨none,none,none,rfl,Same.refl _⟩ ?_ ?_⟩
 ·rintro i σ H6 hi ⟨v7,v8,v9,rfl,s6⟩
  have him:i < m:=by omega
  rw [Int.zero_add]
  refine ⟨_,rfl,_,rfl,le1,fun p2 hp2=>?_⟩
  have t1:=same_new hp2 (.lst [V.int (i:Nat)])
  have k2:upd H6 p2 (.lst [V.int (i:Nat)]) p2=some (.lst [V.int (i:Nat)]):=upd_same
  generalize upd H6 p2 (.lst [V.int (i:Nat)])=H7 at t1 k2 ⊢
  refine ⟨small (by simp),fun p3 hp3=>?_⟩
  have t2:=same_new hp3 (.lst [])
  have k3:upd H7 p3 (.lst []) p3=some (.lst []):=upd_same
  have k23:=t2 _ _ k2
  have n23:p2≠p3:=ne_of_none k2 hp3
  have SA7:=(SA5.same s6).same t1
  have np:ps≠p3:=ne_of_none SA7.top hp3
  have nq:p3 ∉ sq:=fun z=>by
   obtain ⟨k,hk⟩:=List.getElem?_of_mem z
   obtain ⟨r',h1,_⟩:=SA7.at' k p3 hk
   rw [hp3] at h1; cases h1
  have back:∀ {H':Hp},SameX p3 (upd H7 p3 (.lst [])) H'→Same H6 H':=fun sx b o hb=>sx b o (ne_of_none (t1 _ _ hb) hp3) (t2 _ _ (t1 _ _ hb))
  refine ⟨ps,p2,p3,sq,ns,rs,m,[],i,[],rfl,SA7.same t2,S,hm8,k23,fun a ha=>by rw [List.mem_singleton.mp ha]; exact him,one_nd i,rfl,k3,np,nq,n23,OrdL.nil rs m,(fun a h=>nomatch h),(fun a _ z=>nomatch z),fun x L' e H8 sx=>?_,fun L' e po H8 hc8 sx=>?_⟩
  ·refine cut_seq (fun σ' H'=>H' = H8∧σ' = [some (.ref sa),some (.int c),some (.int (m:Int)),some (.ref pn),some (.ref ps),some (.ref pd),some (.ref ph),some (.int (i:Nat)),some (.str (duS (some x))),v9]) ?_ (fun key=>key _ _ ⟨rfl,rfl⟩)
   rintro σ1 H1' ⟨e1',rfl⟩
   rw [e1']
   clear e1' H1'
   refine cut_seq (fun σ' H'=>H' = H8∧σ' = [some (.ref sa),some (.int c),some (.int (m:Int)),some (.ref pn),some (.ref ps),some (.ref pd),some (.ref ph),some (.int (i:Nat)),some (.str (duS (some x))),some (.int 0)]) ?_ (fun key=>key _ _ ⟨rfl,rfl⟩)
   rintro σ0 H0 ⟨e1',rfl⟩
   rw [e1']
   clear e1' H0
   refine cut_seq (fun σ' H'=>∃ (o:Option Du) (tot:Int),σ' = [some (.ref sa),some (.int c),some (.int (m:Int)),some (.ref pn),some (.ref ps),some (.ref pd),some (.ref ph),some (.int (i:Nat)),some (.str (duS o)),some (.int tot)]∧o=dueO rs i∧(o=none→tot=(CT rs i:Nat))∧Same H6 H') (by
   rintro σ' H8' ⟨o,tot,rfl,eo,et,s8⟩
   have s58:=s6.trans s8
   refine ⟨_,rfl,_,rfl,_,rfl,pn,_,_,V.str (tx (nm ns i)),rfl,rfl,SqL.of (s58 _ _ hn5),ixn (by omega),_,rfl,ph,ns,rs,m,i,o,rfl,S,N,hm8,hP5.same s58,.inr ⟨him,eo⟩,fun H9 s9=>⟨_,rfl,?_⟩⟩
   refine iteF ?_
   have s59:=s58.trans s9
   cases o with
   | some x =>
    refine ⟨_,rfl,rfl,_,rfl,?_⟩
    rw [sNe (duS_ne x)]
    refine iteF ?_
    exact ⟨_,_,_,rfl,s6.trans (s8.trans s9)⟩
   | none =>
    have et:=et rfl
    subst et
    refine ⟨_,rfl,rfl,_,rfl,?_⟩
    rw [show decide (V.str (duS none)=V.str (PySem.Str.ofString ""))=true from decide_eq_true rfl]
    refine iteT ?_
    refine ⟨_,rfl,_,rfl,_,rfl,pn,_,_,V.str (tx (nm ns i)),rfl,rfl,SqL.of (s59 _ _ hn5),ixn (by omega),ph,ns,rs,m,i,rfl,S,N,hm8,hP5.same s59,by omega,fun z=>absurd z (by omega),fun _=>⟨fun x ex=>(by have:=eo.trans ex; cases this),fun _ p H10 refs s10 h10 l10=>?_⟩⟩
    refine ⟨_,_,rfl,.inl (SqL.of h10),_,rfl,rfl,_,rfl,?_⟩
    rw [l10]
    refine ite2 (fun c=>?_) (fun c=>?_)
    ·rw [decide_eq_true rfl] at c
     cases c
    ·exact ⟨_,_,_,rfl,s6.trans ((s8.trans s9).trans s10)⟩
   ) (fun key=>?_)
   refine ⟨_,rfl,rfl,_,rfl,?_⟩
   rw [sNe (duS_ne x)]
   refine iteF ?_
   exact key _ _ ⟨some x,0,rfl,by simp only [dueO,e],(fun z=>nomatch z),back sx⟩
  ·refine cut_seq (fun σ' H'=>H' = H8∧σ' = [some (.ref sa),some (.int c),some (.int (m:Int)),some (.ref pn),some (.ref ps),some (.ref pd),some (.ref ph),some (.int (i:Nat)),some (.str (duS none)),v9]) ?_ (fun key=>key _ _ ⟨rfl,rfl⟩)
   rintro σ1 H1' ⟨e1',rfl⟩
   rw [e1']
   clear e1' H1'
   refine cut_seq (fun σ' H'=>H' = H8∧σ' = [some (.ref sa),some (.int c),some (.int (m:Int)),some (.ref pn),some (.ref ps),some (.ref pd),some (.ref ph),some (.int (i:Nat)),some (.str (duS none)),some (.int 0)]) ?_ (fun key=>key _ _ ⟨rfl,rfl⟩)
   rintro σ0 H0 ⟨e1',rfl⟩
   rw [e1']
   clear e1' H0
   refine cut_seq (fun σ' H'=>∃ (o:Option Du) (tot:Int),σ' = [some (.ref sa),some (.int c),some (.int (m:Int)),some (.ref pn),some (.ref ps),some (.ref pd),some (.ref ph),some (.int (i:Nat)),some (.str (duS o)),some (.int tot)]∧o=dueO rs i∧(o=none→tot=(CT rs i:Nat))∧Same H6 H') (by
   rintro σ' H8' ⟨o,tot,rfl,eo,et,s8⟩
   have s58:=s6.trans s8
   refine ⟨_,rfl,_,rfl,_,rfl,pn,_,_,V.str (tx (nm ns i)),rfl,rfl,SqL.of (s58 _ _ hn5),ixn (by omega),_,rfl,ph,ns,rs,m,i,o,rfl,S,N,hm8,hP5.same s58,.inr ⟨him,eo⟩,fun H9 s9=>⟨_,rfl,?_⟩⟩
   refine iteF ?_
   have s59:=s58.trans s9
   cases o with
   | some x =>
    refine ⟨_,rfl,rfl,_,rfl,?_⟩
    rw [sNe (duS_ne x)]
    refine iteF ?_
    exact ⟨_,_,_,rfl,s6.trans (s8.trans s9)⟩
   | none =>
    have et:=et rfl
    subst et
    refine ⟨_,rfl,rfl,_,rfl,?_⟩
    rw [show decide (V.str (duS none)=V.str (PySem.Str.ofString ""))=true from decide_eq_true rfl]
    refine iteT ?_
    refine ⟨_,rfl,_,rfl,_,rfl,pn,_,_,V.str (tx (nm ns i)),rfl,rfl,SqL.of (s59 _ _ hn5),ixn (by omega),ph,ns,rs,m,i,rfl,S,N,hm8,hP5.same s59,by omega,fun z=>absurd z (by omega),fun _=>⟨fun x ex=>(by have:=eo.trans ex; cases this),fun _ p H10 refs s10 h10 l10=>?_⟩⟩
    refine ⟨_,_,rfl,.inl (SqL.of h10),_,rfl,rfl,_,rfl,?_⟩
    rw [l10]
    refine ite2 (fun c=>?_) (fun c=>?_)
    ·rw [decide_eq_true rfl] at c
     cases c
    ·exact ⟨_,_,_,rfl,s6.trans ((s8.trans s9).trans s10)⟩
   ) (fun key=>?_)
   have hdue:dueO rs i=if 400 < CT rs i then some .long else none:=by simp only [dueO,e]
   refine ⟨_,rfl,rfl,_,rfl,?_⟩
   rw [show decide (V.str (duS none)=V.str (PySem.Str.ofString ""))=true from decide_eq_true rfl]
   refine iteT ?_
   refine ⟨_,rfl,_,rfl,fun p4 hp4=>?_⟩
   have t4:=same_new hp4 (.dK [])
   have s8:=back sx
   obtain ⟨k0,hk0⟩:=List.getElem?_of_mem po.inn
   have hk1:=(List.getElem?_eq_some_iff.mp hk0).1
   have hk2:=nd_len po.o.nd po.o.lt
   refine ⟨ps,p4,sq,ns,rs,m,i,L',k0,[],rfl,(SA5.same (s6.trans s8)).same t4,S,hm8,po.o,po.good,hk0,by omega,upd_same,(fun k j a h=>by simp at h),(fun a h=>nomatch h),fun M' H9 _ _ _ hc9 sx9=>?_⟩
   have s9:Same H6 H9:=fun b o hb=>sx9 b o (ne_of_none (s8 _ _ hb) hp4) (t4 _ _ (s8 _ _ hb))
   refine ⟨_,rfl,_,_,rfl,rfl,_,rfl,?_⟩
   refine ite2 (fun c=>?_) (fun c=>?_)
   ·have h4:400 < CT rs i:=by have:=of_decide_eq_true c; omega
    exact key _ _ ⟨some .long,_,rfl,by rw [hdue,if_pos h4],(fun z=>nomatch z),s9⟩
   ·have h4:¬ 400 < CT rs i:=fun z=>c (decide_eq_true (by omega))
    exact key _ _ ⟨none,_,rfl,by rw [hdue,if_neg h4],fun _=>rfl,s9⟩
 ·rintro σ H6 ⟨v7,v8,v9,rfl,s6⟩
  exact ⟨_,rfl,_,rfl,_,rfl,pn,_,_,V.str (tx (nm ns m)),rfl,rfl,SqL.of (s6 _ _ hn5),ixn (by omega),ph,ns,rs,m,m,some .lack,rfl,S,N,hm8,hP5.same s6,.inl ⟨rfl,rfl⟩,fun H7 s7=>⟨_,rfl,iteT ⟨_,rfl,_,rfl,ph,pd,pk,rfl,rfl,s7 _ _ (s6 _ _ hh5),s7 _ _ (s6 _ _ hd5),fl,q _⟩⟩⟩
end
noncomputable abbrev fdA (n:Str) (s:Stmt) (d kV dc pm:Value) (an:Option Addr) (cd ct:Value) : FuncData:=PySem.W.fnOf n n (defArgs s) (defBody s) (defScope s) d kV dc pm an cd ct
abbrev Na (K:PySem.W.Frag) (n:Str) (f:Addr) : Prop:=PySem.W.nsIn K mainGlobals n=some (some (.ref f))
abbrev Lk (K:PySem.W.Frag) (f:Addr) (n:Str) (s:Stmt) (d oc:Value) (od:Option Addr) (sl:Array (Option Value)) (kV dc pm:Value) (an:Option Addr) (cd ct:Value) : Prop:=K.lookup f=some ⟨oc,od,.func (fdA n s d kV dc pm an cd ct),sl⟩
abbrev Cd (K:PySem.W.Frag) (c:Value) (n:Str) : Prop:=PySem.W.codeIn K c n=true
abbrev Kp (K:PySem.W.Frag) (f:Addr) : Prop:=PySem.W.keepIn K (.ref f)=true
abbrev Zn (K:PySem.W.Frag) (n:Str) : Prop:=PySem.W.nsIn K mainGlobals n=some none
def kitL (K:PySem.W.Frag) (l:List (Addr × Value × Bool)) : Bool:=l.all fun p=>PySem.W.kitOne K (.ref p.1) p.2.1 == some p.2.2
theorem kit_at {K:PySem.W.Frag} {l:List (Addr × Value × Bool)} (h:kitL K l=true) (i:Nat) {x:Addr} {y:Value} {b:Bool} (e:l[i]? = some (x,y,b)) : PySem.W.kitOne K (.ref x) y=some b:=eq_of_beq (List.all_eq_true.mp h _ (List.mem_of_getElem? e))
theorem us1 {us:List Value} (h:us.length=1) : ∃ a0,us=[a0]:=by
 match us,h with
 | [a0],_=>exact ⟨a0,rfl⟩
theorem us2 {us:List Value} (h:us.length=2) : ∃ a0 a1,us=[a0,a1]:=by
 match us,h with
 | [a0,a1],_=>exact ⟨a0,a1,rfl⟩
theorem us3 {us:List Value} (h:us.length=3) : ∃ a0 a1 a2,us=[a0,a1,a2]:=by
 match us,h with
 | [a0,a1,a2],_=>exact ⟨a0,a1,a2,rfl⟩
theorem us4 {us:List Value} (h:us.length=4) : ∃ a0 a1 a2 a3,us=[a0,a1,a2,a3]:=by
 match us,h with
 | [a0,a1,a2,a3],_=>exact ⟨a0,a1,a2,a3,rfl⟩
theorem txt_mk {P:Program} {w:World} {K:PySem.W.Frag} {h:Heap} {mg:Str→Option Value} (X:K.In h) (G:h.Ns mainGlobals mg)
  {od0 an0 od1 an1 od2 an2 od3 an3 od4 an4 od5 an5 od6 an6 od7 an7 od8 an8 od9 an9 od10 an10 od11 an11 od12 an12 od13 an13 od14 an14 od15 an15 od16 an16 od17 an17 od18 an18 od19 an19 od20 an20 od21 an21 od22 an22 od23 an23:Option Addr} {sl0 sl1 sl2 sl3 sl4 sl5 sl6 sl7 sl8 sl9 sl10 sl11 sl12 sl13 sl14 sl15 sl16 sl17 sl18 sl19 sl20 sl21 sl22 sl23:Array (Option Value)} {oc0 kV0 dc0 pm0 cd0 ct0 oc1 kV1 dc1 pm1 cd1 ct1 oc2 kV2 dc2 pm2 cd2 ct2 oc3 kV3 dc3 pm3 cd3 ct3 oc4 kV4 dc4 pm4 cd4 ct4 oc5 kV5 dc5 pm5 cd5 ct5 oc6 kV6 dc6 pm6 cd6 ct6 oc7 kV7 dc7 pm7 cd7 ct7 oc8 kV8 dc8 pm8 cd8 ct8 oc9 kV9 dc9 pm9 cd9 ct9 oc10 kV10 dc10 pm10 cd10 ct10 oc11 kV11 dc11 pm11 cd11 ct11 oc12 kV12 dc12 pm12 cd12 ct12 oc13 kV13 dc13 pm13 cd13 ct13 oc14 kV14 dc14 pm14 cd14 ct14 oc15 kV15 dc15 pm15 cd15 ct15 oc16 kV16 dc16 pm16 cd16 ct16 oc17 kV17 dc17 pm17 cd17 ct17 oc18 kV18 dc18 pm18 cd18 ct18 oc19 kV19 dc19 pm19 cd19 ct19 oc20 kV20 dc20 pm20 cd20 ct20 oc21 kV21 dc21 pm21 cd21 ct21 oc22 kV22 dc22 pm22 cd22 ct22 oc23 kV23 dc23 pm23 cd23 ct23:Value} {f0 f1 f2 f3 f4 f5 f6 f7 f8 f9 f10 f11 f12 f13 f14 f15 f16 f17 f18 f19 f20 f21 f22 f23:Addr}
  (a0:Na K "is_use" f0) (l0:Lk K f0 "is_use" s_is_use .none oc0 od0 sl0 kV0 dc0 pm0 an0 cd0 ct0) (c0:Cd K cd0 "is_use") (k0:Kp K f0)
  (a1:Na K "rows_in" f1) (l1:Lk K f1 "rows_in" s_rows_in .none oc1 od1 sl1 kV1 dc1 pm1 an1 cd1 ct1) (c1:Cd K cd1 "rows_in") (k1:Kp K f1)
  (a2:Na K "is_name" f2) (l2:Lk K f2 "is_name" s_is_name .none oc2 od2 sl2 kV2 dc2 pm2 an2 cd2 ct2) (c2:Cd K cd2 "is_name") (k2:Kp K f2)
  (a3:Na K "is_good_use" f3) (l3:Lk K f3 "is_good_use" s_is_good_use .none oc3 od3 sl3 kV3 dc3 pm3 an3 cd3 ct3) (c3:Cd K cd3 "is_good_use") (k3:Kp K f3)
  (a4:Na K "used_part" f4) (l4:Lk K f4 "used_part" s_used_part .none oc4 od4 sl4 kV4 dc4 pm4 an4 cd4 ct4) (c4:Cd K cd4 "used_part") (k4:Kp K f4)
  (a5:Na K "words_in" f5) (l5:Lk K f5 "words_in" s_words_in .none oc5 od5 sl5 kV5 dc5 pm5 an5 cd5 ct5) (c5:Cd K cd5 "words_in") (k5:Kp K f5)
  (a6:Na K "look_through" f6) (l6:Lk K f6 "look_through" s_look_through .none oc6 od6 sl6 kV6 dc6 pm6 an6 cd6 ct6) (c6:Cd K cd6 "look_through") (k6:Kp K f6)
  (a7:Na K "put_together" f7) (l7:Lk K f7 "put_together" s_put_together .none oc7 od7 sl7 kV7 dc7 pm7 an7 cd7 ct7) (c7:Cd K cd7 "put_together") (k7:Kp K f7)
  (a8:Na K "joined" f8) (l8:Lk K f8 "joined" s_joined .none oc8 od8 sl8 kV8 dc8 pm8 an8 cd8 ct8) (c8:Cd K cd8 "joined") (k8:Kp K f8)
  (a9:Na K "_law_refusal" f9) (l9:Lk K f9 "_law_refusal" s_l_refusal .none oc9 od9 sl9 kV9 dc9 pm9 an9 cd9 ct9) (c9:Cd K cd9 "_law_refusal") (k9:Kp K f9)
  (a10:Na K "_law_asked" f10) (l10:Lk K f10 "_law_asked" s_l_asked .none oc10 od10 sl10 kV10 dc10 pm10 an10 cd10 ct10) (c10:Cd K cd10 "_law_asked") (k10:Kp K f10)
  (a11:Na K "_law_cell_at" f11) (l11:Lk K f11 "_law_cell_at" s_l_cell_at .none oc11 od11 sl11 kV11 dc11 pm11 an11 cd11 ct11) (c11:Cd K cd11 "_law_cell_at") (k11:Kp K f11)
  (a12:Na K "_law_count" f12) (l12:Lk K f12 "_law_count" s_l_count .none oc12 od12 sl12 kV12 dc12 pm12 an12 cd12 ct12) (c12:Cd K cd12 "_law_count") (k12:Kp K f12)
  (a13:Na K "_law_draw" f13) (l13:Lk K f13 "_law_draw" s_l_draw .none oc13 od13 sl13 kV13 dc13 pm13 an13 cd13 ct13) (c13:Cd K cd13 "_law_draw") (k13:Kp K f13)
  (a14:Na K "_law_met" f14) (l14:Lk K f14 "_law_met" s_l_met .none oc14 od14 sl14 kV14 dc14 pm14 an14 cd14 ct14) (c14:Cd K cd14 "_law_met") (k14:Kp K f14)
  (a15:Na K "_law_names" f15) (l15:Lk K f15 "_law_names" s_l_names .none oc15 od15 sl15 kV15 dc15 pm15 an15 cd15 ct15) (c15:Cd K cd15 "_law_names") (k15:Kp K f15)
  (a16:Na K "_law_parts" f16) (l16:Lk K f16 "_law_parts" s_l_parts .none oc16 od16 sl16 kV16 dc16 pm16 an16 cd16 ct16) (c16:Cd K cd16 "_law_parts") (k16:Kp K f16)
  (a17:Na K "_law_bad_row" f17) (l17:Lk K f17 "_law_bad_row" s_l_bad_row .none oc17 od17 sl17 kV17 dc17 pm17 an17 cd17 ct17) (c17:Cd K cd17 "_law_bad_row") (k17:Kp K f17)
  (a18:Na K "_law_sign_by" f18) (l18:Lk K f18 "_law_sign_by" s_l_sign_by .none oc18 od18 sl18 kV18 dc18 pm18 an18 cd18 ct18) (c18:Cd K cd18 "_law_sign_by") (k18:Kp K f18)
  (a19:Na K "_law_plain_row" f19) (l19:Lk K f19 "_law_plain_row" s_l_plain_row .none oc19 od19 sl19 kV19 dc19 pm19 an19 cd19 ct19) (c19:Cd K cd19 "_law_plain_row") (k19:Kp K f19)
  (a20:Na K "_law_use_row" f20) (l20:Lk K f20 "_law_use_row" s_l_use_row .none oc20 od20 sl20 kV20 dc20 pm20 an20 cd20 ct20) (c20:Cd K cd20 "_law_use_row") (k20:Kp K f20)
  (a21:Na K "_law_shelf_row" f21) (l21:Lk K f21 "_law_shelf_row" s_l_shelf_row .none oc21 od21 sl21 kV21 dc21 pm21 an21 cd21 ct21) (c21:Cd K cd21 "_law_shelf_row") (k21:Kp K f21)
  (a22:Na K "_law_shelf" f22) (l22:Lk K f22 "_law_shelf" s_l_shelf .none oc22 od22 sl22 kV22 dc22 pm22 an22 cd22 ct22) (c22:Cd K cd22 "_law_shelf") (k22:Kp K f22)
  (a23:Na K "law" f23) (l23:Lk K f23 "law" s_law .none oc23 od23 sl23 kV23 dc23 pm23 an23 cd23 ct23) (c23:Cd K cd23 "law") (k23:Kp K f23)
  (z_ValueError:Zn K "ValueError")
  (z_all:Zn K "all")
  (z_dict:Zn K "dict")
  (z_enumerate:Zn K "enumerate")
  (z_int:Zn K "int")
  (z_isinstance:Zn K "isinstance")
  (z_len:Zn K "len")
  (z_range:Zn K "range")
  {c_BadCall:Addr} (m_BadCall:PySem.W.nsIn K mainGlobals "BadCall" = some (some (.ref c_BadCall))) (e_BadCall:PySem.W.excIn K c_BadCall veTail "ValueError.__new__" = true)
  {c_BadForm:Addr} (m_BadForm:PySem.W.nsIn K mainGlobals "BadForm" = some (some (.ref c_BadForm))) (e_BadForm:PySem.W.excIn K c_BadForm veTail "ValueError.__new__" = true)
  {c_BadName:Addr} (m_BadName:PySem.W.nsIn K mainGlobals "BadName" = some (some (.ref c_BadName))) (e_BadName:PySem.W.excIn K c_BadName veTail "ValueError.__new__" = true)
  {c_BadPaper:Addr} (m_BadPaper:PySem.W.nsIn K mainGlobals "BadPaper" = some (some (.ref c_BadPaper))) (e_BadPaper:PySem.W.excIn K c_BadPaper veTail "ValueError.__new__" = true)
  {c_BadRow:Addr} (m_BadRow:PySem.W.nsIn K mainGlobals "BadRow" = some (some (.ref c_BadRow))) (e_BadRow:PySem.W.excIn K c_BadRow veTail "ValueError.__new__" = true)
  {c_BadWord:Addr} (m_BadWord:PySem.W.nsIn K mainGlobals "BadWord" = some (some (.ref c_BadWord))) (e_BadWord:PySem.W.excIn K c_BadWord veTail "ValueError.__new__" = true)
  {c_Deep:Addr} (m_Deep:PySem.W.nsIn K mainGlobals "Deep" = some (some (.ref c_Deep))) (e_Deep:PySem.W.excIn K c_Deep veTail "ValueError.__new__" = true)
  {c_NoFoot:Addr} (m_NoFoot:PySem.W.nsIn K mainGlobals "NoFoot" = some (some (.ref c_NoFoot))) (e_NoFoot:PySem.W.excIn K c_NoFoot veTail "ValueError.__new__" = true)
  {c_NoGrowth:Addr} (m_NoGrowth:PySem.W.nsIn K mainGlobals "NoGrowth" = some (some (.ref c_NoGrowth))) (e_NoGrowth:PySem.W.excIn K c_NoGrowth veTail "ValueError.__new__" = true)
  {c_NoLaying:Addr} (m_NoLaying:PySem.W.nsIn K mainGlobals "NoLaying" = some (some (.ref c_NoLaying))) (e_NoLaying:PySem.W.excIn K c_NoLaying veTail "ValueError.__new__" = true)
  {c_NoMark:Addr} (m_NoMark:PySem.W.nsIn K mainGlobals "NoMark" = some (some (.ref c_NoMark))) (e_NoMark:PySem.W.excIn K c_NoMark veTail "ValueError.__new__" = true)
  {c_NoPart:Addr} (m_NoPart:PySem.W.nsIn K mainGlobals "NoPart" = some (some (.ref c_NoPart))) (e_NoPart:PySem.W.excIn K c_NoPart veTail "ValueError.__new__" = true)
  {c_NoRow:Addr} (m_NoRow:PySem.W.nsIn K mainGlobals "NoRow" = some (some (.ref c_NoRow))) (e_NoRow:PySem.W.excIn K c_NoRow veTail "ValueError.__new__" = true)
  {c_NoShort:Addr} (m_NoShort:PySem.W.nsIn K mainGlobals "NoShort" = some (some (.ref c_NoShort))) (e_NoShort:PySem.W.excIn K c_NoShort veTail "ValueError.__new__" = true)
  {c_NothingDone:Addr} (m_NothingDone:PySem.W.nsIn K mainGlobals "NothingDone" = some (some (.ref c_NothingDone))) (e_NothingDone:PySem.W.excIn K c_NothingDone veTail "ValueError.__new__" = true)
  {c_Ring:Addr} (m_Ring:PySem.W.nsIn K mainGlobals "Ring" = some (some (.ref c_Ring))) (e_Ring:PySem.W.excIn K c_Ring veTail "ValueError.__new__" = true)
  {c_TooLong:Addr} (m_TooLong:PySem.W.nsIn K mainGlobals "TooLong" = some (some (.ref c_TooLong))) (e_TooLong:PySem.W.excIn K c_TooLong veTail "ValueError.__new__" = true)
  {c_TrueleafError:Addr} (m_TrueleafError:PySem.W.nsIn K mainGlobals "TrueleafError" = some (some (.ref c_TrueleafError))) (e_TrueleafError:PySem.W.excIn K c_TrueleafError veTail "ValueError.__new__" = true)
  {c_Twice:Addr} (m_Twice:PySem.W.nsIn K mainGlobals "Twice" = some (some (.ref c_Twice))) (e_Twice:PySem.W.excIn K c_Twice veTail "ValueError.__new__" = true)
  (t_BadRow_TrueleafError:Takes K c_BadRow c_TrueleafError)
  (t_Ring_TrueleafError:Takes K c_Ring c_TrueleafError)
  (t_NoPart_TrueleafError:Takes K c_NoPart c_TrueleafError)
  (t_TooLong_TrueleafError:Takes K c_TooLong c_TrueleafError)
  (lk_BadRow:excLk K c_BadRow=true)
  (lk_Ring:excLk K c_Ring=true)
  (lk_NoPart:excLk K c_NoPart=true)
  (lk_TooLong:excLk K c_TooLong=true)
  (kits:kitL K [(c_BadRow,(.ref c_BadRow),true),(c_BadRow,(.ref c_Ring),false),(c_BadRow,(.ref c_NoPart),false),(c_BadRow,(.ref c_TooLong),false),(c_BadRow,(.type "ValueError"),true),(c_BadRow,(.ref c_BadCall),false),(c_BadRow,(.ref c_Deep),false),(c_BadRow,(.ref c_NoShort),false),(c_BadRow,(.ref c_BadForm),false),(c_BadRow,(.ref c_BadWord),false),(c_BadRow,(.ref c_BadPaper),false),(c_BadRow,(.ref c_NoGrowth),false),(c_BadRow,(.ref c_Twice),false),(c_BadRow,(.ref c_NoFoot),false),(c_BadRow,(.ref c_NoMark),false),(c_BadRow,(.ref c_NoLaying),false),(c_BadRow,(.ref c_BadName),false),(c_BadRow,(.ref c_NoRow),false),(c_BadRow,(.ref c_NothingDone),false),(c_Ring,(.ref c_BadRow),false),(c_Ring,(.ref c_Ring),true),(c_Ring,(.ref c_NoPart),false),(c_Ring,(.ref c_TooLong),false),(c_Ring,(.type "ValueError"),true),(c_Ring,(.ref c_BadCall),false),(c_Ring,(.ref c_Deep),false),(c_Ring,(.ref c_NoShort),false),(c_Ring,(.ref c_BadForm),false),(c_Ring,(.ref c_BadWord),false),(c_Ring,(.ref c_BadPaper),false),(c_Ring,(.ref c_NoGrowth),false),(c_Ring,(.ref c_Twice),false),(c_Ring,(.ref c_NoFoot),false),(c_Ring,(.ref c_NoMark),false),(c_Ring,(.ref c_NoLaying),false),(c_Ring,(.ref c_BadName),false),(c_Ring,(.ref c_NoRow),false),(c_Ring,(.ref c_NothingDone),false),(c_NoPart,(.ref c_BadRow),false),(c_NoPart,(.ref c_Ring),false),(c_NoPart,(.ref c_NoPart),true),(c_NoPart,(.ref c_TooLong),false),(c_NoPart,(.type "ValueError"),true),(c_NoPart,(.ref c_BadCall),false),(c_NoPart,(.ref c_Deep),false),(c_NoPart,(.ref c_NoShort),false),(c_NoPart,(.ref c_BadForm),false),(c_NoPart,(.ref c_BadWord),false),(c_NoPart,(.ref c_BadPaper),false),(c_NoPart,(.ref c_NoGrowth),false),(c_NoPart,(.ref c_Twice),false),(c_NoPart,(.ref c_NoFoot),false),(c_NoPart,(.ref c_NoMark),false),(c_NoPart,(.ref c_NoLaying),false),(c_NoPart,(.ref c_BadName),false),(c_NoPart,(.ref c_NoRow),false),(c_NoPart,(.ref c_NothingDone),false),(c_TooLong,(.ref c_BadRow),false),(c_TooLong,(.ref c_Ring),false),(c_TooLong,(.ref c_NoPart),false),(c_TooLong,(.ref c_TooLong),true),(c_TooLong,(.type "ValueError"),true),(c_TooLong,(.ref c_BadCall),false),(c_TooLong,(.ref c_Deep),false),(c_TooLong,(.ref c_NoShort),false),(c_TooLong,(.ref c_BadForm),false),(c_TooLong,(.ref c_BadWord),false),(c_TooLong,(.ref c_BadPaper),false),(c_TooLong,(.ref c_NoGrowth),false),(c_TooLong,(.ref c_Twice),false),(c_TooLong,(.ref c_NoFoot),false),(c_TooLong,(.ref c_NoMark),false),(c_TooLong,(.ref c_NoLaying),false),(c_TooLong,(.ref c_BadName),false),(c_TooLong,(.ref c_NoRow),false),(c_TooLong,(.ref c_NothingDone),false)]=true)
  {t_FIGURES:Tok} (m_FIGURES:PySem.W.nsIn K mainGlobals "FIGURES" = some (some (.str (PySem.Str.ofString "0123456789") t_FIGURES)))
  {t_LETTERS:Tok} (m_LETTERS:PySem.W.nsIn K mainGlobals "LETTERS" = some (some (.str (PySem.Str.ofString "abcdefghijklmnopqrstuvwxyz") t_LETTERS)))
  {t_LONGEST_NAME:Tok} (m_LONGEST_NAME:PySem.W.nsIn K mainGlobals "LONGEST_NAME" = some (some (.int 12 t_LONGEST_NAME)))
  {t_MOST_ROWS:Tok} (m_MOST_ROWS:PySem.W.nsIn K mainGlobals "MOST_ROWS" = some (some (.int 400 t_MOST_ROWS))) :
  ∃ a:Adr,Txt P w K mg a:=by
 refine ⟨{ f_is_use:=f0,fd_is_use:=fdA "is_use" s_is_use .none kV0 dc0 pm0 an0 cd0 ct0,f_rows_in:=f1,fd_rows_in:=fdA "rows_in" s_rows_in .none kV1 dc1 pm1 an1 cd1 ct1,f_is_name:=f2,fd_is_name:=fdA "is_name" s_is_name .none kV2 dc2 pm2 an2 cd2 ct2,f_is_good_use:=f3,fd_is_good_use:=fdA "is_good_use" s_is_good_use .none kV3 dc3 pm3 an3 cd3 ct3,f_used_part:=f4,fd_used_part:=fdA "used_part" s_used_part .none kV4 dc4 pm4 an4 cd4 ct4,f_words_in:=f5,fd_words_in:=fdA "words_in" s_words_in .none kV5 dc5 pm5 an5 cd5 ct5,f_look_through:=f6,fd_look_through:=fdA "look_through" s_look_through .none kV6 dc6 pm6 an6 cd6 ct6,f_put_together:=f7,fd_put_together:=fdA "put_together" s_put_together .none kV7 dc7 pm7 an7 cd7 ct7,f_joined:=f8,fd_joined:=fdA "joined" s_joined .none kV8 dc8 pm8 an8 cd8 ct8,f_l_refusal:=f9,fd_l_refusal:=fdA "_law_refusal" s_l_refusal .none kV9 dc9 pm9 an9 cd9 ct9,f_l_asked:=f10,fd_l_asked:=fdA "_law_asked" s_l_asked .none kV10 dc10 pm10 an10 cd10 ct10,f_l_cell_at:=f11,fd_l_cell_at:=fdA "_law_cell_at" s_l_cell_at .none kV11 dc11 pm11 an11 cd11 ct11,f_l_count:=f12,fd_l_count:=fdA "_law_count" s_l_count .none kV12 dc12 pm12 an12 cd12 ct12,f_l_draw:=f13,fd_l_draw:=fdA "_law_draw" s_l_draw .none kV13 dc13 pm13 an13 cd13 ct13,f_l_met:=f14,fd_l_met:=fdA "_law_met" s_l_met .none kV14 dc14 pm14 an14 cd14 ct14,f_l_names:=f15,fd_l_names:=fdA "_law_names" s_l_names .none kV15 dc15 pm15 an15 cd15 ct15,f_l_parts:=f16,fd_l_parts:=fdA "_law_parts" s_l_parts .none kV16 dc16 pm16 an16 cd16 ct16,f_l_bad_row:=f17,fd_l_bad_row:=fdA "_law_bad_row" s_l_bad_row .none kV17 dc17 pm17 an17 cd17 ct17,f_l_sign_by:=f18,fd_l_sign_by:=fdA "_law_sign_by" s_l_sign_by .none kV18 dc18 pm18 an18 cd18 ct18,f_l_plain_row:=f19,fd_l_plain_row:=fdA "_law_plain_row" s_l_plain_row .none kV19 dc19 pm19 an19 cd19 ct19,f_l_use_row:=f20,fd_l_use_row:=fdA "_law_use_row" s_l_use_row .none kV20 dc20 pm20 an20 cd20 ct20,f_l_shelf_row:=f21,fd_l_shelf_row:=fdA "_law_shelf_row" s_l_shelf_row .none kV21 dc21 pm21 an21 cd21 ct21,f_l_shelf:=f22,fd_l_shelf:=fdA "_law_shelf" s_l_shelf .none kV22 dc22 pm22 an22 cd22 ct22,f_law:=f23,fd_law:=fdA "law" s_law .none kV23 dc23 pm23 an23 cd23 ct23,c_BadCall:=c_BadCall,c_BadForm:=c_BadForm,c_BadName:=c_BadName,c_BadPaper:=c_BadPaper,c_BadRow:=c_BadRow,c_BadWord:=c_BadWord,c_Deep:=c_Deep,c_NoFoot:=c_NoFoot,c_NoGrowth:=c_NoGrowth,c_NoLaying:=c_NoLaying,c_NoMark:=c_NoMark,c_NoPart:=c_NoPart,c_NoRow:=c_NoRow,c_NoShort:=c_NoShort,c_NothingDone:=c_NothingDone,c_Ring:=c_Ring,c_TooLong:=c_TooLong,c_TrueleafError:=c_TrueleafError,c_Twice:=c_Twice },{
  d_is_use:=defok_mk X G a0 l0 c0 k0 fun _ _ _ _ _ _ us hl=>by obtain ⟨_,rfl⟩:=us1 hl; rfl,
  d_rows_in:=defok_mk X G a1 l1 c1 k1 fun _ _ _ _ _ _ us hl=>by obtain ⟨_,rfl⟩:=us1 hl; rfl,
  d_is_name:=defok_mk X G a2 l2 c2 k2 fun _ _ _ _ _ _ us hl=>by obtain ⟨_,rfl⟩:=us1 hl; rfl,
  d_is_good_use:=defok_mk X G a3 l3 c3 k3 fun _ _ _ _ _ _ us hl=>by obtain ⟨_,rfl⟩:=us1 hl; rfl,
  d_used_part:=defok_mk X G a4 l4 c4 k4 fun _ _ _ _ _ _ us hl=>by obtain ⟨_,⟨_,⟨_,rfl⟩⟩⟩:=us3 hl; rfl,
  d_words_in:=defok_mk X G a5 l5 c5 k5 fun _ _ _ _ _ _ us hl=>by obtain ⟨_,rfl⟩:=us1 hl; rfl,
  d_look_through:=defok_mk X G a6 l6 c6 k6 fun _ _ _ _ _ _ us hl=>by obtain ⟨_,⟨_,⟨_,rfl⟩⟩⟩:=us3 hl; rfl,
  d_put_together:=defok_mk X G a7 l7 c7 k7 fun _ _ _ _ _ _ us hl=>by obtain ⟨_,⟨_,rfl⟩⟩:=us2 hl; rfl,
  d_joined:=defok_mk X G a8 l8 c8 k8 fun _ _ _ _ _ _ us hl=>by obtain ⟨_,⟨_,rfl⟩⟩:=us2 hl; rfl,
  d_l_refusal:=defok_mk X G a9 l9 c9 k9 fun _ _ _ _ _ _ us hl=>by obtain ⟨_,⟨_,rfl⟩⟩:=us2 hl; rfl,
  d_l_asked:=defok_mk X G a10 l10 c10 k10 fun _ _ _ _ _ _ us hl=>by obtain ⟨_,⟨_,⟨_,rfl⟩⟩⟩:=us3 hl; rfl,
  d_l_cell_at:=defok_mk X G a11 l11 c11 k11 fun _ _ _ _ _ _ us hl=>by obtain ⟨_,⟨_,rfl⟩⟩:=us2 hl; rfl,
  d_l_count:=defok_mk X G a12 l12 c12 k12 fun _ _ _ _ _ _ us hl=>by obtain ⟨_,⟨_,⟨_,rfl⟩⟩⟩:=us3 hl; rfl,
  d_l_draw:=defok_mk X G a13 l13 c13 k13 fun _ _ _ _ _ _ us hl=>by obtain ⟨_,⟨_,⟨_,rfl⟩⟩⟩:=us3 hl; rfl,
  d_l_met:=defok_mk X G a14 l14 c14 k14 fun _ _ _ _ _ _ us hl=>by obtain ⟨_,⟨_,⟨_,rfl⟩⟩⟩:=us3 hl; rfl,
  d_l_names:=defok_mk X G a15 l15 c15 k15 fun _ _ _ _ _ _ us hl=>by obtain ⟨_,⟨_,rfl⟩⟩:=us2 hl; rfl,
  d_l_parts:=defok_mk X G a16 l16 c16 k16 fun _ _ _ _ _ _ us hl=>by obtain ⟨_,⟨_,⟨_,rfl⟩⟩⟩:=us3 hl; rfl,
  d_l_bad_row:=defok_mk X G a17 l17 c17 k17 fun _ _ _ _ _ _ us hl=>by obtain ⟨_,⟨_,rfl⟩⟩:=us2 hl; rfl,
  d_l_sign_by:=defok_mk X G a18 l18 c18 k18 fun _ _ _ _ _ _ us hl=>by obtain ⟨_,⟨_,rfl⟩⟩:=us2 hl; rfl,
  d_l_plain_row:=defok_mk X G a19 l19 c19 k19 fun _ _ _ _ _ _ us hl=>by obtain ⟨_,⟨_,rfl⟩⟩:=us2 hl; rfl,
  d_l_use_row:=defok_mk X G a20 l20 c20 k20 fun _ _ _ _ _ _ us hl=>by obtain ⟨_,⟨_,rfl⟩⟩:=us2 hl; rfl,
  d_l_shelf_row:=defok_mk X G a21 l21 c21 k21 fun _ _ _ _ _ _ us hl=>by obtain ⟨_,⟨_,⟨_,⟨_,rfl⟩⟩⟩⟩:=us4 hl; rfl,
  d_l_shelf:=defok_mk X G a22 l22 c22 k22 fun _ _ _ _ _ _ us hl=>by obtain ⟨_,⟨_,⟨_,rfl⟩⟩⟩:=us3 hl; rfl,
  d_law:=defok_mk X G a23 l23 c23 k23 fun _ _ _ _ _ _ us hl=>by obtain ⟨_,rfl⟩:=us1 hl; rfl,
  z_ValueError:=PySem.W.mg_none_of X G z_ValueError,
  z_all:=PySem.W.mg_none_of X G z_all,
  z_dict:=PySem.W.mg_none_of X G z_dict,
  z_enumerate:=PySem.W.mg_none_of X G z_enumerate,
  z_int:=PySem.W.mg_none_of X G z_int,
  z_isinstance:=PySem.W.mg_none_of X G z_isinstance,
  z_len:=PySem.W.mg_none_of X G z_len,
  z_range:=PySem.W.mg_none_of X G z_range,
  x_BadCall:=⟨PySem.W.mg_of X G m_BadCall,e_BadCall⟩,
  x_BadForm:=⟨PySem.W.mg_of X G m_BadForm,e_BadForm⟩,
  x_BadName:=⟨PySem.W.mg_of X G m_BadName,e_BadName⟩,
  x_BadPaper:=⟨PySem.W.mg_of X G m_BadPaper,e_BadPaper⟩,
  x_BadRow:=⟨PySem.W.mg_of X G m_BadRow,e_BadRow⟩,
  x_BadWord:=⟨PySem.W.mg_of X G m_BadWord,e_BadWord⟩,
  x_Deep:=⟨PySem.W.mg_of X G m_Deep,e_Deep⟩,
  x_NoFoot:=⟨PySem.W.mg_of X G m_NoFoot,e_NoFoot⟩,
  x_NoGrowth:=⟨PySem.W.mg_of X G m_NoGrowth,e_NoGrowth⟩,
  x_NoLaying:=⟨PySem.W.mg_of X G m_NoLaying,e_NoLaying⟩,
  x_NoMark:=⟨PySem.W.mg_of X G m_NoMark,e_NoMark⟩,
  x_NoPart:=⟨PySem.W.mg_of X G m_NoPart,e_NoPart⟩,
  x_NoRow:=⟨PySem.W.mg_of X G m_NoRow,e_NoRow⟩,
  x_NoShort:=⟨PySem.W.mg_of X G m_NoShort,e_NoShort⟩,
  x_NothingDone:=⟨PySem.W.mg_of X G m_NothingDone,e_NothingDone⟩,
  x_Ring:=⟨PySem.W.mg_of X G m_Ring,e_Ring⟩,
  x_TooLong:=⟨PySem.W.mg_of X G m_TooLong,e_TooLong⟩,
  x_TrueleafError:=⟨PySem.W.mg_of X G m_TrueleafError,e_TrueleafError⟩,
  x_Twice:=⟨PySem.W.mg_of X G m_Twice,e_Twice⟩,
  t_BadRow_TrueleafError:=t_BadRow_TrueleafError,
  t_Ring_TrueleafError:=t_Ring_TrueleafError,
  t_NoPart_TrueleafError:=t_NoPart_TrueleafError,
  t_TooLong_TrueleafError:=t_TooLong_TrueleafError,
  lk_BadRow:=lk_BadRow,
  lk_Ring:=lk_Ring,
  lk_NoPart:=lk_NoPart,
  lk_TooLong:=lk_TooLong,
  ki_BadRow_BadRow:=kit_at kits 0 rfl,
  ki_BadRow_Ring:=kit_at kits 1 rfl,
  ki_BadRow_NoPart:=kit_at kits 2 rfl,
  ki_BadRow_TooLong:=kit_at kits 3 rfl,
  ki_BadRow_ValueError:=kit_at kits 4 rfl,
  ki_BadRow_BadCall:=kit_at kits 5 rfl,
  ki_BadRow_Deep:=kit_at kits 6 rfl,
  ki_BadRow_NoShort:=kit_at kits 7 rfl,
  ki_BadRow_BadForm:=kit_at kits 8 rfl,
  ki_BadRow_BadWord:=kit_at kits 9 rfl,
  ki_BadRow_BadPaper:=kit_at kits 10 rfl,
  ki_BadRow_NoGrowth:=kit_at kits 11 rfl,
  ki_BadRow_Twice:=kit_at kits 12 rfl,
  ki_BadRow_NoFoot:=kit_at kits 13 rfl,
  ki_BadRow_NoMark:=kit_at kits 14 rfl,
  ki_BadRow_NoLaying:=kit_at kits 15 rfl,
  ki_BadRow_BadName:=kit_at kits 16 rfl,
  ki_BadRow_NoRow:=kit_at kits 17 rfl,
  ki_BadRow_NothingDone:=kit_at kits 18 rfl,
  ki_Ring_BadRow:=kit_at kits 19 rfl,
  ki_Ring_Ring:=kit_at kits 20 rfl,
  ki_Ring_NoPart:=kit_at kits 21 rfl,
  ki_Ring_TooLong:=kit_at kits 22 rfl,
  ki_Ring_ValueError:=kit_at kits 23 rfl,
  ki_Ring_BadCall:=kit_at kits 24 rfl,
  ki_Ring_Deep:=kit_at kits 25 rfl,
  ki_Ring_NoShort:=kit_at kits 26 rfl,
  ki_Ring_BadForm:=kit_at kits 27 rfl,
  ki_Ring_BadWord:=kit_at kits 28 rfl,
  ki_Ring_BadPaper:=kit_at kits 29 rfl,
  ki_Ring_NoGrowth:=kit_at kits 30 rfl,
  ki_Ring_Twice:=kit_at kits 31 rfl,
  ki_Ring_NoFoot:=kit_at kits 32 rfl,
  ki_Ring_NoMark:=kit_at kits 33 rfl,
  ki_Ring_NoLaying:=kit_at kits 34 rfl,
  ki_Ring_BadName:=kit_at kits 35 rfl,
  ki_Ring_NoRow:=kit_at kits 36 rfl,
  ki_Ring_NothingDone:=kit_at kits 37 rfl,
  ki_NoPart_BadRow:=kit_at kits 38 rfl,
  ki_NoPart_Ring:=kit_at kits 39 rfl,
  ki_NoPart_NoPart:=kit_at kits 40 rfl,
  ki_NoPart_TooLong:=kit_at kits 41 rfl,
  ki_NoPart_ValueError:=kit_at kits 42 rfl,
  ki_NoPart_BadCall:=kit_at kits 43 rfl,
  ki_NoPart_Deep:=kit_at kits 44 rfl,
  ki_NoPart_NoShort:=kit_at kits 45 rfl,
  ki_NoPart_BadForm:=kit_at kits 46 rfl,
  ki_NoPart_BadWord:=kit_at kits 47 rfl,
  ki_NoPart_BadPaper:=kit_at kits 48 rfl,
  ki_NoPart_NoGrowth:=kit_at kits 49 rfl,
  ki_NoPart_Twice:=kit_at kits 50 rfl,
  ki_NoPart_NoFoot:=kit_at kits 51 rfl,
  ki_NoPart_NoMark:=kit_at kits 52 rfl,
  ki_NoPart_NoLaying:=kit_at kits 53 rfl,
  ki_NoPart_BadName:=kit_at kits 54 rfl,
  ki_NoPart_NoRow:=kit_at kits 55 rfl,
  ki_NoPart_NothingDone:=kit_at kits 56 rfl,
  ki_TooLong_BadRow:=kit_at kits 57 rfl,
  ki_TooLong_Ring:=kit_at kits 58 rfl,
  ki_TooLong_NoPart:=kit_at kits 59 rfl,
  ki_TooLong_TooLong:=kit_at kits 60 rfl,
  ki_TooLong_ValueError:=kit_at kits 61 rfl,
  ki_TooLong_BadCall:=kit_at kits 62 rfl,
  ki_TooLong_Deep:=kit_at kits 63 rfl,
  ki_TooLong_NoShort:=kit_at kits 64 rfl,
  ki_TooLong_BadForm:=kit_at kits 65 rfl,
  ki_TooLong_BadWord:=kit_at kits 66 rfl,
  ki_TooLong_BadPaper:=kit_at kits 67 rfl,
  ki_TooLong_NoGrowth:=kit_at kits 68 rfl,
  ki_TooLong_Twice:=kit_at kits 69 rfl,
  ki_TooLong_NoFoot:=kit_at kits 70 rfl,
  ki_TooLong_NoMark:=kit_at kits 71 rfl,
  ki_TooLong_NoLaying:=kit_at kits 72 rfl,
  ki_TooLong_BadName:=kit_at kits 73 rfl,
  ki_TooLong_NoRow:=kit_at kits 74 rfl,
  ki_TooLong_NothingDone:=kit_at kits 75 rfl,
  m_FIGURES:=⟨t_FIGURES,PySem.W.mg_of X G m_FIGURES⟩,
  m_LETTERS:=⟨t_LETTERS,PySem.W.mg_of X G m_LETTERS⟩,
  m_LONGEST_NAME:=⟨t_LONGEST_NAME,PySem.W.mg_of X G m_LONGEST_NAME⟩,
  m_MOST_ROWS:=⟨t_MOST_ROWS,PySem.W.mg_of X G m_MOST_ROWS⟩ }⟩
theorem walk {l:PySem.W.OpenLaw} {q:Program} {loose:List Str} {XP:(Str→Option Value)→Heap→Prop} {YP:World→Heap→Prop} {d:DefRec} {K:Params→PySem.W.Frag} (hn:l.most=some 63) (hdf:d.params.defaults=[]) (hnm:d.name = "law")
  (hY:∀ (w:World) (h:Heap),YP w h→(K w.params).In h)
  (F:∀ (w:World) (mg:Str→Option Value) (h:Heap),(K w.params).In h→h.Ns mainGlobals mg→∃ a:Adr,Txt l.prog w (K w.params) mg a) :
  PySem.W.WalkO q loose XP YP l.row.toRowW d [] (fun f vs=>PySem.call f vs):=
 L2.walk_of (n:=63) (k:=17) (x := "script") (CX:=fun _=>CX0) (sp:=fun w=>sp_law (K w.params)) hn (by decide) hdf ⟨rfl,by decide,by decide⟩ hY (fun w mg fa h KX G hmg=>by
  obtain ⟨a,T⟩:=F w mg h KX G
  have e0:=hmg.symm.trans (hnm ▸ T.d_law.mg)
  cases e0
  refine ⟨a.fd_law,fun s u=>.of_eq (T.d_law.ba [u] rfl),fun base _ _=>ok_law T⟩) (fun _ _ a ns hl _ hS=>⟨a,ns,rfl,hS,hl,fun _=>rfl⟩) fun _ _ _ _ _ z=>z
end K07
open PySem PySem.W PyProof.Rows
set_option maxRecDepth 100000 in
set_option maxHeartbeats 0 in
theorem PySem.Challenge.cw_trueleaf_k07_parts_refused_holds : PySem.Challenge.rw_trueleaf_k07_parts_refused.Holds := by
 w_on; o_law
 refine holds_open (q:=K07.vw) (loose:=K07.ls) (Xt:=K07.xt) (XP:=XL K07.vw []) (Yf:=Hook.obs K07.hk) (Ya:=Hook.val K07.hk) (YP:=InK K07.kk) K07.left
  (Hook.of K07.hk) (Hook.keeps K07.hk) (fun s e=>xl_of s (Bool.and_eq_true_iff.mp e).1) XL.keeps (by rfl) (by rfl) (by rfl)
  (fun s e=>recFacts_of (Bool.and_eq_true_iff.mp e).2) (by rfl) (by assumption) (by decide +kernel) ⟨rfl,rfl,rfl,rfl,rfl,by decide +kernel⟩ ?hw ?hc
 (case hw=>w_witness2)
 k_fill
 refine K07.walk (l:=PySem.Challenge.rw_trueleaf_k07_parts_refused) rfl rfl rfl (fun w h Y=>Y) ?F
 case F =>
  intro w mg h KX G
  refine' K07.txt_mk KX G ?a0 ?l0 ?c0 ?k0 ?a1 ?l1 ?c1 ?k1 ?a2 ?l2 ?c2 ?k2 ?a3 ?l3 ?c3 ?k3 ?a4 ?l4 ?c4 ?k4 ?a5 ?l5 ?c5 ?k5 ?a6 ?l6 ?c6 ?k6 ?a7 ?l7 ?c7 ?k7 ?a8 ?l8 ?c8 ?k8 ?a9 ?l9 ?c9 ?k9 ?a10 ?l10 ?c10 ?k10 ?a11 ?l11 ?c11 ?k11 ?a12 ?l12 ?c12 ?k12 ?a13 ?l13 ?c13 ?k13 ?a14 ?l14 ?c14 ?k14 ?a15 ?l15 ?c15 ?k15 ?a16 ?l16 ?c16 ?k16 ?a17 ?l17 ?c17 ?k17 ?a18 ?l18 ?c18 ?k18 ?a19 ?l19 ?c19 ?k19 ?a20 ?l20 ?c20 ?k20 ?a21 ?l21 ?c21 ?k21 ?a22 ?l22 ?c22 ?k22 ?a23 ?l23 ?c23 ?k23 ?z_ValueError ?z_all ?z_dict ?z_enumerate ?z_int ?z_isinstance ?z_len ?z_range ?m_BadCall ?e_BadCall ?m_BadForm ?e_BadForm ?m_BadName ?e_BadName ?m_BadPaper ?e_BadPaper ?m_BadRow ?e_BadRow ?m_BadWord ?e_BadWord ?m_Deep ?e_Deep ?m_NoFoot ?e_NoFoot ?m_NoGrowth ?e_NoGrowth ?m_NoLaying ?e_NoLaying ?m_NoMark ?e_NoMark ?m_NoPart ?e_NoPart ?m_NoRow ?e_NoRow ?m_NoShort ?e_NoShort ?m_NothingDone ?e_NothingDone ?m_Ring ?e_Ring ?m_TooLong ?e_TooLong ?m_TrueleafError ?e_TrueleafError ?m_Twice ?e_Twice ?t_BadRow_TrueleafError ?t_Ring_TrueleafError ?t_NoPart_TrueleafError ?t_TooLong_TrueleafError ?lk_BadRow ?lk_Ring ?lk_NoPart ?lk_TooLong ?kits ?m_FIGURES ?m_LETTERS ?m_LONGEST_NAME ?m_MOST_ROWS
  (case a0 | l0 | c0 | k0 | a1 | l1 | c1 | k1 | a2 | l2 | c2 | k2 | a3 | l3 | c3 | k3 | a4 | l4 | c4 | k4 | a5 | l5 | c5 | k5 | a6 | l6 | c6 | k6 | a7 | l7 | c7 | k7 | a8 | l8 | c8 | k8 | a9 | l9 | c9 | k9 | a10 | l10 | c10 | k10 | a11 | l11 | c11 | k11 | a12 | l12 | c12 | k12 | a13 | l13 | c13 | k13 | a14 | l14 | c14 | k14 | a15 | l15 | c15 | k15 | a16 | l16 | c16 | k16 | a17 | l17 | c17 | k17 | a18 | l18 | c18 | k18 | a19 | l19 | c19 | k19 | a20 | l20 | c20 | k20 | a21 | l21 | c21 | k21 | a22 | l22 | c22 | k22 | a23 | l23 | c23 | k23 | z_ValueError | z_all | z_dict | z_enumerate | z_int | z_isinstance | z_len | z_range | m_BadCall=>(first | k_is | (delta K07.Na; k_is) | (delta K07.Lk K07.fdA; k_is) | (delta K07.Cd; k_is) | (delta K07.Kp; k_is) | (delta K07.Zn; k_is)))
  (case e_BadCall=>k_exc)
  (case m_BadForm=>(first | k_is | (delta K07.Na; k_is) | (delta K07.Lk K07.fdA; k_is) | (delta K07.Cd; k_is) | (delta K07.Kp; k_is) | (delta K07.Zn; k_is)))
  (case e_BadForm=>k_exc)
  (case m_BadName=>(first | k_is | (delta K07.Na; k_is) | (delta K07.Lk K07.fdA; k_is) | (delta K07.Cd; k_is) | (delta K07.Kp; k_is) | (delta K07.Zn; k_is)))
  (case e_BadName=>k_exc)
  (case m_BadPaper=>(first | k_is | (delta K07.Na; k_is) | (delta K07.Lk K07.fdA; k_is) | (delta K07.Cd; k_is) | (delta K07.Kp; k_is) | (delta K07.Zn; k_is)))
  (case e_BadPaper=>k_exc)
  (case m_BadRow=>(first | k_is | (delta K07.Na; k_is) | (delta K07.Lk K07.fdA; k_is) | (delta K07.Cd; k_is) | (delta K07.Kp; k_is) | (delta K07.Zn; k_is)))
  (case e_BadRow=>k_exc)
  (case m_BadWord=>(first | k_is | (delta K07.Na; k_is) | (delta K07.Lk K07.fdA; k_is) | (delta K07.Cd; k_is) | (delta K07.Kp; k_is) | (delta K07.Zn; k_is)))
  (case e_BadWord=>k_exc)
  (case m_Deep=>(first | k_is | (delta K07.Na; k_is) | (delta K07.Lk K07.fdA; k_is) | (delta K07.Cd; k_is) | (delta K07.Kp; k_is) | (delta K07.Zn; k_is)))
  (case e_Deep=>k_exc)
  (case m_NoFoot=>(first | k_is | (delta K07.Na; k_is) | (delta K07.Lk K07.fdA; k_is) | (delta K07.Cd; k_is) | (delta K07.Kp; k_is) | (delta K07.Zn; k_is)))
  (case e_NoFoot=>k_exc)
  (case m_NoGrowth=>(first | k_is | (delta K07.Na; k_is) | (delta K07.Lk K07.fdA; k_is) | (delta K07.Cd; k_is) | (delta K07.Kp; k_is) | (delta K07.Zn; k_is)))
  (case e_NoGrowth=>k_exc)
  (case m_NoLaying=>(first | k_is | (delta K07.Na; k_is) | (delta K07.Lk K07.fdA; k_is) | (delta K07.Cd; k_is) | (delta K07.Kp; k_is) | (delta K07.Zn; k_is)))
  (case e_NoLaying=>k_exc)
  (case m_NoMark=>(first | k_is | (delta K07.Na; k_is) | (delta K07.Lk K07.fdA; k_is) | (delta K07.Cd; k_is) | (delta K07.Kp; k_is) | (delta K07.Zn; k_is)))
  (case e_NoMark=>k_exc)
  (case m_NoPart=>(first | k_is | (delta K07.Na; k_is) | (delta K07.Lk K07.fdA; k_is) | (delta K07.Cd; k_is) | (delta K07.Kp; k_is) | (delta K07.Zn; k_is)))
  (case e_NoPart=>k_exc)
  (case m_NoRow=>(first | k_is | (delta K07.Na; k_is) | (delta K07.Lk K07.fdA; k_is) | (delta K07.Cd; k_is) | (delta K07.Kp; k_is) | (delta K07.Zn; k_is)))
  (case e_NoRow=>k_exc)
  (case m_NoShort=>(first | k_is | (delta K07.Na; k_is) | (delta K07.Lk K07.fdA; k_is) | (delta K07.Cd; k_is) | (delta K07.Kp; k_is) | (delta K07.Zn; k_is)))
  (case e_NoShort=>k_exc)
  (case m_NothingDone=>(first | k_is | (delta K07.Na; k_is) | (delta K07.Lk K07.fdA; k_is) | (delta K07.Cd; k_is) | (delta K07.Kp; k_is) | (delta K07.Zn; k_is)))
  (case e_NothingDone=>k_exc)
  (case m_Ring=>(first | k_is | (delta K07.Na; k_is) | (delta K07.Lk K07.fdA; k_is) | (delta K07.Cd; k_is) | (delta K07.Kp; k_is) | (delta K07.Zn; k_is)))
  (case e_Ring=>k_exc)
  (case m_TooLong=>(first | k_is | (delta K07.Na; k_is) | (delta K07.Lk K07.fdA; k_is) | (delta K07.Cd; k_is) | (delta K07.Kp; k_is) | (delta K07.Zn; k_is)))
  (case e_TooLong=>k_exc)
  (case m_TrueleafError=>(first | k_is | (delta K07.Na; k_is) | (delta K07.Lk K07.fdA; k_is) | (delta K07.Cd; k_is) | (delta K07.Kp; k_is) | (delta K07.Zn; k_is)))
  (case e_TrueleafError=>k_exc)
  (case m_Twice=>(first | k_is | (delta K07.Na; k_is) | (delta K07.Lk K07.fdA; k_is) | (delta K07.Cd; k_is) | (delta K07.Kp; k_is) | (delta K07.Zn; k_is)))
  (case e_Twice=>k_exc)
  (case t_BadRow_TrueleafError=>((show PySem.W.exmOne _ _ _=some true); kts_exm))
  (case t_Ring_TrueleafError=>((show PySem.W.exmOne _ _ _=some true); kts_exm))
  (case t_NoPart_TrueleafError=>((show PySem.W.exmOne _ _ _=some true); kts_exm))
  (case t_TooLong_TrueleafError=>((show PySem.W.exmOne _ _ _=some true); kts_exm))
  (case lk_BadRow=>kernel_rfl)
  (case lk_Ring=>kernel_rfl)
  (case lk_NoPart=>kernel_rfl)
  (case lk_TooLong=>kernel_rfl)
  (case kits=>kernel_rfl)
  (case m_FIGURES | m_LETTERS | m_LONGEST_NAME | m_MOST_ROWS=>(first | k_is | (delta K07.Na; k_is) | (delta K07.Lk K07.fdA; k_is) | (delta K07.Cd; k_is) | (delta K07.Kp; k_is) | (delta K07.Zn; k_is)))
