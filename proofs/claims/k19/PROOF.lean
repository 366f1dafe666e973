import PyProof.Rows.All
import Wide.All
import OpenK.AllK
import Wide.FinOn
import Lean
import PyProof.EqAt
import PyProof.EqKinds
import PyProof.TupleCall
import PyProof.NeKinds
import KE.LcSums
import PyProof.ExcBaseAll.ValueError
import KE.KTryMore
import KE.RegKTryMore
import PyProof.StrLawsRepr
import PyProof.ReprStr
import PyProof.EnumMake
import PyProof.EnumFor
import KE.KEqDict
import PyProof.Rows.Range3
import PyProof.SumWalkG
import PyProof.ZipIter
import KE.KIsAll
import PyProof.ExcArgsOwn
import PyProof.ExcAttrAll.ValueError
import PyProof.RulesAs
import PyProof.NsDelKeeps
import KE.KDictOf
import PyProof.IsiH_list
import PyProof.RaisesAny
import PyProof.SumWalkG
import PyProof.Draws
import PySem.Challenge.RW_trueleaf_k19_whole_a_step_in_a_short
set_option Elab.async false
set_option linter.all false
set_option maxRecDepth 100000
set_option maxHeartbeats 4000000
namespace L2
open PySem
def defArgs (s:Stmt) : Arguments:=match s with
 | .FunctionDef _ a _ _ _ _ _ _ _ _=>a
 | _=>{ posonlyargs:=[],args:=[],vararg:=none,kwonlyargs:=[],kw_defaults:=[],kwarg:=none,defaults:=[] }
def defBody (s:Stmt) : List Stmt:=match s with
 | .FunctionDef _ _ b _ _ _ _ _ _ _=>b
 | _=>[]
def defScope (s:Stmt) : Scope:=match s with
 | .FunctionDef _ _ _ _ _ _ sc _ _ _=>sc
 | _=>{ kind:=.function,names:=[],isGenerator:=false,isCoroutine:=false }

end L2
namespace K19
open PySem PySem.W L2 PyProof.Rows
noncomputable def top (i:Nat) : Stmt:=PySem.Challenge.pw_trueleaf_k19_whole_a_step_in_a_short.main.body.getD i (.Pass ⟨0,0,0,0⟩)
noncomputable abbrev os (s:String) : Str:=Str.ofString s
noncomputable abbrev kh (P:Params) (s:Str) : Int:=PyData.keyHash P s
noncomputable abbrev cO (n:String) (a b c:Nat) (l1 l2 l5:Int) (r0:Addr) (m:Int) (r1 r2 r3 r4:Addr) (x y:Int) (d:Nat) : Obj:=⟨.type "code",none,.fields #[.str (os n) a,.str (os n) b,.str (os "/claim/cut.py") c,.int l1 0,.int l2 0,.int 0 0,.int 0 0,.int l5 0,.ref r0,.bool true,.int m 0,.ref r1,.none,.ref r2,.ref r3,.ref r4,.int x 0,.int y 0,.str (os "/claim/cut.py") d],#[]⟩
noncomputable abbrev fO (n:String) (i:Nat) (d:Value) (m:String) (k:Nat) (r:Addr) : Obj:=⟨.type "function",none,.func (fnOf (os n) (os n) (defArgs (top i)) (defBody (top i)) (defScope (top i)) d .none .none (.str (os m) k) none (.ref r) .none),#[]⟩
noncomputable def kk:Params→Frag:=fun P=>(nat_lit 2,⟨(.none),none,.dict ([]).toArray 0,#[]⟩) ::
 (nat_lit 3,⟨(.type "dict"),none,.dict (List.toArray (⟨kh P (os "__name__"),(.str (os "__name__") 165),(.str (os "law_trueleaf_k19_whole_a_step_in_a_short") 391)⟩ :: ⟨kh P (os "__doc__"),(.str (os "__doc__") 166),(.none)⟩ :: ⟨kh P (os "__package__"),(.str (os "__package__") 167),(.none)⟩ :: ⟨kh P (os "__loader__"),(.str (os "__loader__") 168),(.builtin "__main__.__loader__#opaque")⟩ :: ⟨kh P (os "__spec__"),(.str (os "__spec__") 169),(.none)⟩ :: ⟨kh P (os "__annotations__"),(.str (os "__annotations__") 170),(.ref 6)⟩ :: ⟨kh P (os "__builtins__"),(.str (os "__builtins__") 171),(.ref 4)⟩ :: ⟨kh P (os "__file__"),(.str (os "__file__") 173),(.str (os "/claim/cut.py") 172)⟩ :: ⟨kh P (os "__cached__"),(.str (os "__cached__") 174),(.none)⟩ :: ⟨kh P (os "TrueleafError"),(.str (os "TrueleafError") 206),(.ref 24)⟩ :: ⟨kh P (os "TooLong"),(.str (os "TooLong") 222),(.ref 37)⟩ :: ⟨kh P (os "BadCall"),(.str (os "BadCall") 238),(.ref 49)⟩ :: ⟨kh P (os "NoShort"),(.str (os "NoShort") 254),(.ref 61)⟩ :: ⟨kh P (os "copied"),(.str (os "copied") 262),(.ref 68)⟩ :: ⟨kh P (os "calls_in"),(.str (os "calls_in") 268),(.ref 73)⟩ :: ⟨kh P (os "MOST_WORDS"),(.str (os "MOST_WORDS") 272),(.int 400 271)⟩ :: ⟨kh P (os "MOST_CALLS"),(.str (os "MOST_CALLS") 274),(.int 400 273)⟩ :: ⟨kh P (os "MOST_CALLS_OF_SHORT"),(.str (os "MOST_CALLS_OF_SHORT") 276),(.int 60 275)⟩ :: ⟨kh P (os "size_of"),(.str (os "size_of") 286),(.ref 81)⟩ :: ⟨kh P (os "new_short"),(.str (os "new_short") 299),(.ref 88)⟩ :: ⟨kh P (os "put_out"),(.str (os "put_out") 309),(.ref 95)⟩ :: ⟨kh P (os "one_step"),(.str (os "one_step") 318),(.ref 102)⟩ :: ⟨kh P (os "by_name"),(.str (os "by_name") 324),(.ref 107)⟩ :: ⟨kh P (os "short_called"),(.str (os "short_called") 334),(.ref 114)⟩ :: ⟨kh P (os "size_among"),(.str (os "size_among") 350),(.ref 121)⟩ :: ⟨kh P (os "sum_of_rows"),(.str (os "sum_of_rows") 356),(.ref 126)⟩ :: ⟨kh P (os "words_out"),(.str (os "words_out") 362),(.ref 131)⟩ :: ⟨kh P (os "stepped"),(.str (os "stepped") 373),(.ref 138)⟩ :: ⟨kh P (os "arguments_stepped"),(.str (os "arguments_stepped") 384),(.ref 145)⟩ :: ⟨kh P (os "filled"),(.str (os "filled") 390),(.ref 150)⟩ :: ⟨kh P (os "_law_cell_at"),(.str (os "_law_cell_at") 400),(.ref 157)⟩ :: ⟨kh P (os "_law_draw"),(.str (os "_law_draw") 410),(.ref 164)⟩ :: ⟨kh P (os "_law_alike"),(.str (os "_law_alike") 419),(.ref 171)⟩ :: ⟨kh P (os "_law_copy"),(.str (os "_law_copy") 425),(.ref 176)⟩ :: ⟨kh P (os "_law_names"),(.str (os "_law_names") 431),(.ref 181)⟩ :: ⟨kh P (os "_law_word_by"),(.str (os "_law_word_by") 437),(.ref 186)⟩ :: ⟨kh P (os "_law_end_argument"),(.str (os "_law_end_argument") 448),(.ref 193)⟩ :: ⟨kh P (os "_law_nodes"),(.str (os "_law_nodes") 461),(.ref 200)⟩ :: ⟨kh P (os "_law_size"),(.str (os "_law_size") 467),(.ref 205)⟩ :: ⟨kh P (os "_law_short"),(.str (os "_law_short") 473),(.ref 210)⟩ :: ⟨kh P (os "_law_shorts"),(.str (os "_law_shorts") 488),(.ref 217)⟩ :: ⟨kh P (os "_law_flat"),(.str (os "_law_flat") 494),(.ref 222)⟩ :: ⟨kh P (os "_law_flats"),(.str (os "_law_flats") 503),(.ref 229)⟩ :: ⟨kh P (os "_law_sound"),(.str (os "_law_sound") 509),(.ref 234)⟩ :: ⟨kh P (os "_law_many"),(.str (os "_law_many") 519),(.ref 241)⟩ :: ⟨kh P (os "_law_made"),(.str (os "_law_made") 528),(.ref 248)⟩ :: ⟨kh P (os "_law_put"),(.str (os "_law_put") 537),(.ref 255)⟩ :: ⟨kh P (os "_law_anew"),(.str (os "_law_anew") 552),(.ref 262)⟩ :: ⟨kh P (os "law"),(.str (os "law") 558),(.ref 267)⟩ :: [])) 49,#[]⟩) ::
 (nat_lit 15,⟨(.type "tuple"),none,(.seq #[.type "ValueError"]),#[]⟩) ::
 (nat_lit 22,⟨(.type "tuple"),none,(.seq #[]),#[]⟩) ::
 (nat_lit 23,⟨(.type "dict"),none,.dict (List.toArray (⟨kh P (os "__module__"),(.str (os "__module__") 196),(.str (os "trueleaf.errors") 187)⟩ :: ⟨kh P (os "__firstlineno__"),(.str (os "__firstlineno__") 200),(.int 2 199)⟩ :: ⟨kh P (os "__static_attributes__"),(.str (os "__static_attributes__") 201),(.ref 22)⟩ :: ⟨kh P (os "__weakref__"),(.str (os "__weakref__") 203),(.ref 25)⟩ :: ⟨kh P (os "__doc__"),(.str (os "__doc__") 204),(.none)⟩ :: [])) 3,#[]⟩) ::
 (nat_lit 24,⟨(.type "type"),none,(.cls (PySem.ClassData.mk (os "TrueleafError") [.type "ValueError"] [.ref 24,.type "ValueError",.type "Exception",.type "BaseException",.type "object"] 23 (os "TrueleafError") true [] [.ref 37,.ref 49,.ref 61] false none false)),#[Option.some (.ref 15),none,Option.some (.str (os "TrueleafError") 189),Option.some (.str (os "TrueleafError") 197),Option.some (.builtin "ValueError.__new__"),Option.some (.bool true)]⟩) ::
 (nat_lit 25,⟨(.type "getset_descriptor"),none,(.fields #[.str (os "__weakref__") 202,.ref 24,.builtin "ExceptionGroup.__weakref__",.none]),#[]⟩) ::
 (nat_lit 28,⟨(.type "tuple"),none,(.seq #[.ref 24]),#[]⟩) ::
 (nat_lit 35,⟨(.type "tuple"),none,(.seq #[]),#[]⟩) ::
 (nat_lit 36,⟨(.type "dict"),none,.dict (List.toArray (⟨kh P (os "__module__"),(.str (os "__module__") 214),(.str (os "trueleaf.errors") 187)⟩ :: ⟨kh P (os "__firstlineno__"),(.str (os "__firstlineno__") 218),(.int 4 217)⟩ :: ⟨kh P (os "__static_attributes__"),(.str (os "__static_attributes__") 219),(.ref 35)⟩ :: ⟨kh P (os "__doc__"),(.str (os "__doc__") 220),(.none)⟩ :: [])) 2,#[]⟩) ::
 (nat_lit 37,⟨(.type "type"),none,(.cls (PySem.ClassData.mk (os "TooLong") [.ref 24] [.ref 37,.ref 24,.type "ValueError",.type "Exception",.type "BaseException",.type "object"] 36 (os "TooLong") true [] [] false none false)),#[Option.some (.ref 28),none,Option.some (.str (os "TooLong") 207),Option.some (.str (os "TooLong") 215),Option.some (.builtin "ValueError.__new__"),Option.some (.bool true)]⟩) ::
 (nat_lit 40,⟨(.type "tuple"),none,(.seq #[.ref 24]),#[]⟩) ::
 (nat_lit 47,⟨(.type "tuple"),none,(.seq #[]),#[]⟩) ::
 (nat_lit 48,⟨(.type "dict"),none,.dict (List.toArray (⟨kh P (os "__module__"),(.str (os "__module__") 230),(.str (os "trueleaf.errors") 187)⟩ :: ⟨kh P (os "__firstlineno__"),(.str (os "__firstlineno__") 234),(.int 6 233)⟩ :: ⟨kh P (os "__static_attributes__"),(.str (os "__static_attributes__") 235),(.ref 47)⟩ :: ⟨kh P (os "__doc__"),(.str (os "__doc__") 236),(.none)⟩ :: [])) 2,#[]⟩) ::
 (nat_lit 49,⟨(.type "type"),none,(.cls (PySem.ClassData.mk (os "BadCall") [.ref 24] [.ref 49,.ref 24,.type "ValueError",.type "Exception",.type "BaseException",.type "object"] 48 (os "BadCall") true [] [] false none false)),#[Option.some (.ref 40),none,Option.some (.str (os "BadCall") 223),Option.some (.str (os "BadCall") 231),Option.some (.builtin "ValueError.__new__"),Option.some (.bool true)]⟩) ::
 (nat_lit 52,⟨(.type "tuple"),none,(.seq #[.ref 24]),#[]⟩) ::
 (nat_lit 59,⟨(.type "tuple"),none,(.seq #[]),#[]⟩) ::
 (nat_lit 60,⟨(.type "dict"),none,.dict (List.toArray (⟨kh P (os "__module__"),(.str (os "__module__") 246),(.str (os "trueleaf.errors") 187)⟩ :: ⟨kh P (os "__firstlineno__"),(.str (os "__firstlineno__") 250),(.int 8 249)⟩ :: ⟨kh P (os "__static_attributes__"),(.str (os "__static_attributes__") 251),(.ref 59)⟩ :: ⟨kh P (os "__doc__"),(.str (os "__doc__") 252),(.none)⟩ :: [])) 2,#[]⟩) ::
 (nat_lit 61,⟨(.type "type"),none,(.cls (PySem.ClassData.mk (os "NoShort") [.ref 24] [.ref 61,.ref 24,.type "ValueError",.type "Exception",.type "BaseException",.type "object"] 60 (os "NoShort") true [] [] false none false)),#[Option.some (.ref 52),none,Option.some (.str (os "NoShort") 239),Option.some (.str (os "NoShort") 247),Option.some (.builtin "ValueError.__new__"),Option.some (.bool true)]⟩) ::
 (nat_lit 67,⟨(.type "code"),none,(.fields #[.str (os "copied") 257,.str (os "copied") 258,.str (os "/claim/cut.py") 259,.int 11 0,.int 1 0,.int 0 0,.int 0 0,.int 3 0,.ref 64,.bool true,.int 181 0,.ref 65,.none,.none,.none,.ref 66,.int 260 0,.int 11 0,.str (os "/claim/cut.py") 261]),#[]⟩) ::
 (nat_lit 68,fO "copied" 6 (.none) "trueleaf.trees" 255 67) ::
 (nat_lit 72,⟨(.type "code"),none,(.fields #[.str (os "calls_in") 263,.str (os "calls_in") 264,.str (os "/claim/cut.py") 265,.int 19 0,.int 1 0,.int 0 0,.int 0 0,.int 3 0,.ref 69,.bool true,.int 181 0,.ref 70,.none,.none,.none,.ref 71,.int 266 0,.int 19 0,.str (os "/claim/cut.py") 267]),#[]⟩) ::
 (nat_lit 73,fO "calls_in" 7 (.none) "trueleaf.trees" 255 72) ::
 (nat_lit 74,⟨(.type "tuple"),none,(.seq #[.int 0 277]),#[]⟩) ::
 (nat_lit 80,cO "size_of" 278 279 280 29 3 3 75 181 76 77 78 79 284 29 285) ::
 (nat_lit 81,fO "size_of" 12 (.ref 74) "trueleaf.shorts" 269 80) ::
 (nat_lit 87,cO "new_short" 287 288 289 31 4 3 82 181 83 84 85 86 297 31 298) ::
 (nat_lit 88,fO "new_short" 13 (.none) "trueleaf.shorts" 269 87) ::
 (nat_lit 94,cO "put_out" 300 301 302 40 2 3 89 181 90 91 92 93 307 40 308) ::
 (nat_lit 95,fO "put_out" 14 (.none) "trueleaf.shorts" 269 94) ::
 (nat_lit 101,cO "one_step" 310 311 312 46 3 3 96 181 97 98 99 100 316 46 317) ::
 (nat_lit 102,fO "one_step" 15 (.none) "trueleaf.shorts" 269 101) ::
 (nat_lit 106,⟨(.type "code"),none,(.fields #[.str (os "by_name") 319,.str (os "by_name") 320,.str (os "/claim/cut.py") 321,.int 48 0,.int 1 0,.int 0 0,.int 0 0,.int 3 0,.ref 103,.bool true,.int 181 0,.ref 104,.none,.none,.none,.ref 105,.int 322 0,.int 48 0,.str (os "/claim/cut.py") 323]),#[]⟩) ::
 (nat_lit 107,fO "by_name" 16 (.none) "trueleaf.shorts" 269 106) ::
 (nat_lit 113,cO "short_called" 325 326 327 50 2 3 108 181 109 110 111 112 332 50 333) ::
 (nat_lit 114,fO "short_called" 17 (.none) "trueleaf.shorts" 269 113) ::
 (nat_lit 120,cO "size_among" 335 336 337 58 3 3 115 181 116 117 118 119 348 58 349) ::
 (nat_lit 121,fO "size_among" 18 (.none) "trueleaf.shorts" 269 120) ::
 (nat_lit 125,⟨(.type "code"),none,(.fields #[.str (os "sum_of_rows") 351,.str (os "sum_of_rows") 352,.str (os "/claim/cut.py") 353,.int 75 0,.int 3 0,.int 0 0,.int 0 0,.int 3 0,.ref 122,.bool true,.int 181 0,.ref 123,.none,.none,.none,.ref 124,.int 354 0,.int 75 0,.str (os "/claim/cut.py") 355]),#[]⟩) ::
 (nat_lit 126,fO "sum_of_rows" 19 (.none) "trueleaf.shorts" 269 125) ::
 (nat_lit 130,⟨(.type "code"),none,(.fields #[.str (os "words_out") 357,.str (os "words_out") 358,.str (os "/claim/cut.py") 359,.int 77 0,.int 3 0,.int 0 0,.int 0 0,.int 3 0,.ref 127,.bool true,.int 181 0,.ref 128,.none,.none,.none,.ref 129,.int 360 0,.int 77 0,.str (os "/claim/cut.py") 361]),#[]⟩) ::
 (nat_lit 131,fO "words_out" 20 (.none) "trueleaf.shorts" 269 130) ::
 (nat_lit 137,cO "stepped" 363 364 365 88 3 3 132 181 133 134 135 136 371 88 372) ::
 (nat_lit 138,fO "stepped" 21 (.none) "trueleaf.shorts" 269 137) ::
 (nat_lit 144,cO "arguments_stepped" 374 375 376 99 3 3 139 181 140 141 142 143 382 99 383) ::
 (nat_lit 145,fO "arguments_stepped" 22 (.none) "trueleaf.shorts" 269 144) ::
 (nat_lit 149,⟨(.type "code"),none,(.fields #[.str (os "filled") 385,.str (os "filled") 386,.str (os "/claim/cut.py") 387,.int 105 0,.int 2 0,.int 0 0,.int 0 0,.int 3 0,.ref 146,.bool true,.int 181 0,.ref 147,.none,.none,.none,.ref 148,.int 388 0,.int 105 0,.str (os "/claim/cut.py") 389]),#[]⟩) ::
 (nat_lit 150,fO "filled" 23 (.none) "trueleaf.shorts" 269 149) ::
 (nat_lit 156,cO "_law_cell_at" 393 394 395 116 2 3 151 181 152 153 154 155 398 116 399) ::
 (nat_lit 157,fO "_law_cell_at" 25 (.none) "law_trueleaf_k19_whole_a_step_in_a_short" 391 156) ::
 (nat_lit 163,cO "_law_draw" 401 402 403 120 3 3 158 181 159 160 161 162 408 120 409) ::
 (nat_lit 164,fO "_law_draw" 26 (.none) "law_trueleaf_k19_whole_a_step_in_a_short" 391 163) ::
 (nat_lit 170,cO "_law_alike" 411 412 413 123 2 3 165 181 166 167 168 169 417 123 418) ::
 (nat_lit 171,fO "_law_alike" 27 (.none) "law_trueleaf_k19_whole_a_step_in_a_short" 391 170) ::
 (nat_lit 175,⟨(.type "code"),none,(.fields #[.str (os "_law_copy") 420,.str (os "_law_copy") 421,.str (os "/claim/cut.py") 422,.int 141 0,.int 1 0,.int 0 0,.int 0 0,.int 3 0,.ref 172,.bool true,.int 181 0,.ref 173,.none,.none,.none,.ref 174,.int 423 0,.int 141 0,.str (os "/claim/cut.py") 424]),#[]⟩) ::
 (nat_lit 176,fO "_law_copy" 28 (.none) "law_trueleaf_k19_whole_a_step_in_a_short" 391 175) ::
 (nat_lit 180,⟨(.type "code"),none,(.fields #[.str (os "_law_names") 426,.str (os "_law_names") 427,.str (os "/claim/cut.py") 428,.int 147 0,.int 2 0,.int 0 0,.int 0 0,.int 3 0,.ref 177,.bool true,.int 181 0,.ref 178,.none,.none,.none,.ref 179,.int 429 0,.int 147 0,.str (os "/claim/cut.py") 430]),#[]⟩) ::
 (nat_lit 181,fO "_law_names" 29 (.none) "law_trueleaf_k19_whole_a_step_in_a_short" 391 180) ::
 (nat_lit 185,⟨(.type "code"),none,(.fields #[.str (os "_law_word_by") 432,.str (os "_law_word_by") 433,.str (os "/claim/cut.py") 434,.int 163 0,.int 1 0,.int 0 0,.int 0 0,.int 3 0,.ref 182,.bool true,.int 181 0,.ref 183,.none,.none,.none,.ref 184,.int 435 0,.int 163 0,.str (os "/claim/cut.py") 436]),#[]⟩) ::
 (nat_lit 186,fO "_law_word_by" 30 (.none) "law_trueleaf_k19_whole_a_step_in_a_short" 391 185) ::
 (nat_lit 192,cO "_law_end_argument" 438 439 440 166 1 3 187 181 188 189 190 191 446 166 447) ::
 (nat_lit 193,fO "_law_end_argument" 31 (.none) "law_trueleaf_k19_whole_a_step_in_a_short" 391 192) ::
 (nat_lit 199,cO "_law_nodes" 449 450 451 175 3 3 194 181 195 196 197 198 459 175 460) ::
 (nat_lit 200,fO "_law_nodes" 32 (.none) "law_trueleaf_k19_whole_a_step_in_a_short" 391 199) ::
 (nat_lit 204,⟨(.type "code"),none,(.fields #[.str (os "_law_size") 462,.str (os "_law_size") 463,.str (os "/claim/cut.py") 464,.int 194 0,.int 3 0,.int 0 0,.int 0 0,.int 3 0,.ref 201,.bool true,.int 181 0,.ref 202,.none,.none,.none,.ref 203,.int 465 0,.int 194 0,.str (os "/claim/cut.py") 466]),#[]⟩) ::
 (nat_lit 205,fO "_law_size" 33 (.none) "law_trueleaf_k19_whole_a_step_in_a_short" 391 204) ::
 (nat_lit 209,⟨(.type "code"),none,(.fields #[.str (os "_law_short") 468,.str (os "_law_short") 469,.str (os "/claim/cut.py") 470,.int 212 0,.int 4 0,.int 0 0,.int 0 0,.int 3 0,.ref 206,.bool true,.int 181 0,.ref 207,.none,.none,.none,.ref 208,.int 471 0,.int 212 0,.str (os "/claim/cut.py") 472]),#[]⟩) ::
 (nat_lit 210,fO "_law_short" 34 (.none) "law_trueleaf_k19_whole_a_step_in_a_short" 391 209) ::
 (nat_lit 216,cO "_law_shorts" 474 475 476 220 3 3 211 181 212 213 214 215 486 220 487) ::
 (nat_lit 217,fO "_law_shorts" 35 (.none) "law_trueleaf_k19_whole_a_step_in_a_short" 391 216) ::
 (nat_lit 221,⟨(.type "code"),none,(.fields #[.str (os "_law_flat") 489,.str (os "_law_flat") 490,.str (os "/claim/cut.py") 491,.int 231 0,.int 2 0,.int 0 0,.int 0 0,.int 3 0,.ref 218,.bool true,.int 181 0,.ref 219,.none,.none,.none,.ref 220,.int 492 0,.int 231 0,.str (os "/claim/cut.py") 493]),#[]⟩) ::
 (nat_lit 222,fO "_law_flat" 36 (.none) "law_trueleaf_k19_whole_a_step_in_a_short" 391 221) ::
 (nat_lit 228,cO "_law_flats" 495 496 497 245 1 3 223 181 224 225 226 227 501 245 502) ::
 (nat_lit 229,fO "_law_flats" 37 (.none) "law_trueleaf_k19_whole_a_step_in_a_short" 391 228) ::
 (nat_lit 233,⟨(.type "code"),none,(.fields #[.str (os "_law_sound") 504,.str (os "_law_sound") 505,.str (os "/claim/cut.py") 506,.int 250 0,.int 3 0,.int 0 0,.int 0 0,.int 3 0,.ref 230,.bool true,.int 181 0,.ref 231,.none,.none,.none,.ref 232,.int 507 0,.int 250 0,.str (os "/claim/cut.py") 508]),#[]⟩) ::
 (nat_lit 234,fO "_law_sound" 38 (.none) "law_trueleaf_k19_whole_a_step_in_a_short" 391 233) ::
 (nat_lit 240,cO "_law_many" 510 511 512 271 1 3 235 181 236 237 238 239 517 271 518) ::
 (nat_lit 241,fO "_law_many" 39 (.none) "law_trueleaf_k19_whole_a_step_in_a_short" 391 240) ::
 (nat_lit 247,cO "_law_made" 520 521 522 279 2 3 242 181 243 244 245 246 526 279 527) ::
 (nat_lit 248,fO "_law_made" 40 (.none) "law_trueleaf_k19_whole_a_step_in_a_short" 391 247) ::
 (nat_lit 254,cO "_law_put" 529 530 531 286 2 3 249 181 250 251 252 253 535 286 536) ::
 (nat_lit 255,fO "_law_put" 41 (.none) "law_trueleaf_k19_whole_a_step_in_a_short" 391 254) ::
 (nat_lit 261,cO "_law_anew" 538 539 540 293 3 3 256 181 257 258 259 260 550 293 551) ::
 (nat_lit 262,fO "_law_anew" 42 (.none) "law_trueleaf_k19_whole_a_step_in_a_short" 391 261) ::
 (nat_lit 266,⟨(.type "code"),none,(.fields #[.str (os "law") 553,.str (os "law") 554,.str (os "/claim/cut.py") 555,.int 305 0,.int 1 0,.int 0 0,.int 0 0,.int 3 0,.ref 263,.bool true,.int 181 0,.ref 264,.none,.none,.none,.ref 265,.int 556 0,.int 305 0,.str (os "/claim/cut.py") 557]),#[]⟩) ::
 (nat_lit 267,fO "law" 43 (.none) "law_trueleaf_k19_whole_a_step_in_a_short" 391 266) :: []
noncomputable def vw:Program:={ PySem.Challenge.pw_trueleaf_k19_whole_a_step_in_a_short with main:={ PySem.Challenge.pw_trueleaf_k19_whole_a_step_in_a_short.main with body:=top 1 :: top 2 :: top 3 :: top 4 :: top 6 :: top 7 :: top 9 :: top 10 :: top 11 :: top 13 :: top 14 :: top 15 :: top 16 :: top 17 :: top 18 :: top 19 :: top 20 :: top 21 :: top 22 :: top 23 :: top 25 :: top 26 :: top 27 :: top 28 :: top 29 :: top 30 :: top 31 :: top 32 :: top 33 :: top 34 :: top 35 :: top 36 :: top 37 :: top 38 :: top 39 :: top 40 :: top 41 :: top 42 :: top 43 :: [] } }
noncomputable abbrev ls:List Str:=[os "size_of"]
noncomputable abbrev hk:Hook:=kHook kk (nat_lit 2 :: nat_lit 3 :: nat_lit 15 :: nat_lit 22 :: nat_lit 23 :: nat_lit 24 :: nat_lit 25 :: nat_lit 28 :: nat_lit 35 :: nat_lit 36 :: nat_lit 37 :: nat_lit 40 :: nat_lit 47 :: nat_lit 48 :: nat_lit 49 :: nat_lit 52 :: nat_lit 59 :: nat_lit 60 :: nat_lit 61 :: nat_lit 67 :: nat_lit 68 :: nat_lit 72 :: nat_lit 73 :: nat_lit 74 :: nat_lit 80 :: nat_lit 81 :: nat_lit 87 :: nat_lit 88 :: nat_lit 94 :: nat_lit 95 :: nat_lit 101 :: nat_lit 102 :: nat_lit 106 :: nat_lit 107 :: nat_lit 113 :: nat_lit 114 :: nat_lit 120 :: nat_lit 121 :: nat_lit 125 :: nat_lit 126 :: nat_lit 130 :: nat_lit 131 :: nat_lit 137 :: nat_lit 138 :: nat_lit 144 :: nat_lit 145 :: nat_lit 149 :: nat_lit 150 :: nat_lit 156 :: nat_lit 157 :: nat_lit 163 :: nat_lit 164 :: nat_lit 170 :: nat_lit 171 :: nat_lit 175 :: nat_lit 176 :: nat_lit 180 :: nat_lit 181 :: nat_lit 185 :: nat_lit 186 :: nat_lit 192 :: nat_lit 193 :: nat_lit 199 :: nat_lit 200 :: nat_lit 204 :: nat_lit 205 :: nat_lit 209 :: nat_lit 210 :: nat_lit 216 :: nat_lit 217 :: nat_lit 221 :: nat_lit 222 :: nat_lit 228 :: nat_lit 229 :: nat_lit 233 :: nat_lit 234 :: nat_lit 240 :: nat_lit 241 :: nat_lit 247 :: nat_lit 248 :: nat_lit 254 :: nat_lit 255 :: nat_lit 261 :: nat_lit 262 :: nat_lit 266 :: nat_lit 267 :: []) (fun _=>by kernel_rfl)
noncomputable abbrev rr:RowW:=OpenRow.toRowW (OpenLaw.row PySem.Challenge.rw_trueleaf_k19_whole_a_step_in_a_short)
noncomputable abbrev xt:Shared→Bool:=fun s=>xlAt vw [] s && recOk (RowW.records rr) s
set_option maxHeartbeats 0 in
theorem left:LeftO PySem.Challenge.pw_trueleaf_k19_whole_a_step_in_a_short vw ls xt (Hook.obs hk) (Hook.val hk) 3884:=by
 intro w
 kernel_rfl
end K19
set_option maxHeartbeats 4000000
namespace L2
open PySem PySem.Spec PyProof.Rows

abbrev Key:=Sum Int Str
def keyIs:Key→Value→Bool
 | .inl k,v=>Value.isInt k v
 | .inr x,v=>Value.isStrOf x v
def keyH (w:World) : Key→Int
 | .inl k=>hashInt k
 | .inr x=>hashStr w x
theorem keyIs_shape:∀ {k:Key} {v:Value},keyIs k v=true→(∃ i t,k=Sum.inl i∧v=Value.int i t)∨(∃ x t,k=Sum.inr x∧v=Value.str x t)
 | .inl i,v,h=>by
  obtain ⟨t,e⟩:=Value.isInt_shape (k:=i) (v:=v) h
  exact .inl ⟨i,t,rfl,e⟩
 | .inr x,v,h=>by
  obtain ⟨t,e⟩:=Value.isStrOf_shape (x:=x) (v:=v) h
  exact .inr ⟨x,t,rfl,e⟩
theorem keyIs_int (i:Int) (t:Tok) : keyIs (.inl i) (.int i t)=true:=by simp [keyIs,Value.isInt]
theorem keyIs_str (x:Str) (t:Tok) : keyIs (.inr x) (.str x t)=true:=by simp [keyIs,Value.isStrOf]
theorem key_ll (a b:Int) : decide ((Sum.inl a:Key)=Sum.inl b)=(a == b):=by
 by_cases e:a=b
 ·subst e; simp
 ·have h:¬ (Sum.inl a:Key)=Sum.inl b:=fun q=>e (Sum.inl.inj q)
  rw [decide_eq_false h]
  exact (beq_eq_false_iff_ne.mpr e).symm
theorem key_rr (a b:Str) : decide ((Sum.inr a:Key)=Sum.inr b)=decide (a=b):=by
 by_cases e:a=b
 ·subst e; simp
 ·have h:¬ (Sum.inr a:Key)=Sum.inr b:=fun q=>e (Sum.inr.inj q)
  rw [decide_eq_false h,decide_eq_false e]
theorem key_lr (a:Int) (b:Str) : decide ((Sum.inl a:Key)=Sum.inr b)=false:=decide_eq_false (fun q=>nomatch q)
theorem key_rl (a:Str) (b:Int) : decide ((Sum.inr a:Key)=Sum.inl b)=false:=decide_eq_false (fun q=>nomatch q)

def mixKind (prog:Program) (w:World) : PySem.KeyKind prog w Key where
 is:=keyIs
 hash:=keyH w
 inj:=fun v a b ha hb=>by
  rcases keyIs_shape ha with ⟨i,t,rfl,rfl⟩ | ⟨x,t,rfl,rfl⟩
  ·rcases keyIs_shape hb with ⟨j,u,rfl,e⟩ | ⟨y,u,rfl,e⟩
   ·injection e with e1 _; rw [e1]
   ·exact nomatch e
  ·rcases keyIs_shape hb with ⟨j,u,rfl,e⟩ | ⟨y,u,rfl,e⟩
   ·exact nomatch e
   ·injection e with e1 _; rw [e1]
 byValue:=fun k v h=>by
  rcases keyIs_shape h with ⟨i,t,rfl,rfl⟩ | ⟨x,t,rfl,rfl⟩ <;> rfl
 pyHash:=fun hv h=>by
  rcases keyIs_shape hv with ⟨i,t,rfl,rfl⟩ | ⟨x,t,rfl,rfl⟩
  ·exact wpAny_pyHash_int h
  ·exact wpAny_pyHash_str h
 eqBool:=fun hu hv h=>by
  rcases keyIs_shape hu with ⟨i,t,rfl,rfl⟩ | ⟨x,t,rfl,rfl⟩
  ·rcases keyIs_shape hv with ⟨j,u,rfl,rfl⟩ | ⟨y,u,rfl,rfl⟩
   ·rw [key_ll] at h; exact wpAny_eqBool_int h
   ·rw [key_lr] at h; exact SeqAt.EqAt.int_str i t y u _ _ _ _ h
  ·rcases keyIs_shape hv with ⟨j,u,rfl,rfl⟩ | ⟨y,u,rfl,rfl⟩
   ·rw [key_rl] at h; exact SeqAt.EqAt.str_int x t j u _ _ _ _ h
   ·rw [key_rr] at h; exact wpAny_eqBool_str h
 «strs»:=fun k x t v h=>by
  rcases keyIs_shape h with ⟨i,u,rfl,e⟩ | ⟨y,u,rfl,e⟩
  ·exact nomatch e
  ·injection e with e1 _
   subst e1
   cases v <;> rfl

theorem mixKind_int (prog:Program) (w:World) (i:Int) (t:Tok) : (mixKind prog w).is (.inl i) (.int i t)=true:=keyIs_int i t
theorem mixKind_str (prog:Program) (w:World) (x:Str) (t:Tok) : (mixKind prog w).is (.inr x) (.str x t)=true:=keyIs_str x t

inductive V where
 | non | bl (b:Bool) | int (i:Int) | str (x:Str) | byt (b:Array UInt8) | flt (b:UInt64) | ref (a:Addr) | ty (n:String)
 deriving DecidableEq

def RelV:V→Value→Prop
 | .non,u=>u=Value.none
 | .bl b,u=>u=Value.bool b
 | .int i,u=>∃ t,u=Value.int i t
 | .str x,u=>∃ t,u=Value.str x t
 | .byt b,u=>∃ t,u=Value.bytes b t
 | .flt b,u=>∃ t,u=Value.float b t
 | .ref a,u=>u=Value.ref a
 | .ty n,u=>u=Value.type n

abbrev Vals:List V→List Value→Prop:=Paired RelV
theorem Vals.length {xs:List V} {us:List Value} (r:Vals xs us) : xs.length=us.length:=Paired.length r
theorem Vals.get:∀ {xs:List V} {us:List Value} {i:Nat} {x:V},Vals xs us→xs[i]? = some x→∃ u,us[i]? = some u∧RelV x u
 | _,_,_,_,.nil,e=>by simp at e
 | _,_,0,_,.cons r _,e=>by simp at e; subst e; exact ⟨_,rfl,r⟩
 | _,_,i+1,x,.cons _ t,e=>by
  obtain ⟨u,h1,h2⟩:=Vals.get (i:=i) (x:=x) t (by simpa using e)
  exact ⟨u,by simpa using h1,h2⟩
theorem Vals.set {x:V} {u:Value} (r:RelV x u) : ∀ {xs:List V} {us:List Value} (i:Nat),Vals xs us→Vals (xs.set i x) (us.set i u)
 | _,_,_,.nil=>.nil
 | _,_,0,.cons _ t=>.cons r t
 | _,_,i+1,.cons q t=>.cons q (Vals.set r i t)
theorem Vals.append:∀ {xs ys:List V} {us ws:List Value},Vals xs us→Vals ys ws→Vals (xs++ys) (us++ws)
 | _,_,_,_,.nil,s=>s
 | _,_,_,_,.cons r t,s=>.cons r (Vals.append t s)
theorem Vals.take:∀ {xs:List V} {us:List Value} (n:Nat),Vals xs us→Vals (xs.take n) (us.take n)
 | _,_,0,_=>.nil
 | _,_,_+1,.nil=>.nil
 | _,_,n+1,.cons r t=>.cons r (Vals.take n t)
theorem Vals.drop:∀ {xs:List V} {us:List Value} (n:Nat),Vals xs us→Vals (xs.drop n) (us.drop n)
 | _,_,0,r=>r
 | _,_,_+1,.nil=>.nil
 | _,_,n+1,.cons _ t=>Vals.drop n t
def RelO:Option V→Option Value→Prop
 | some v,some u=>RelV v u
 | none,none=>True
 | _,_=>False
def KV {κ:Type} : List (κ × V)→List (κ × Value)→Prop:=Paired fun (p:κ × V) (q:κ × Value)=>p.1=q.1∧RelV p.2 q.2

def kV:Key→V
 | .inl i=>.int i
 | .inr x=>.str x

inductive HO where
  | lst (xs:List V)
  | tup (xs:List V)
  | dK (kvs:List (Key × V)) | dT (kvs:List (List Key × V))
  | set (S:Int→Bool) (n:Nat)
  | ins (C dx:Addr) (fs:List (Str × V))
  | own (x:Addr)
  | xd (fs:List (Str × V))
  | met (f x:Addr)
  | rng (lo hi:Int)
  | frz (o:Obj) (u:HO)
  | tbl (ps:Array Value)
  | ext (φ:Heap→Prop)

abbrev Hp:=Addr→Option HO
def upd (H:Hp) (a:Addr) (o:HO) : Hp:=fun b=>if b=a then some o else H b
theorem upd_same {H:Hp} {a:Addr} {o:HO} : upd H a o a=some o:=by unfold upd; rw [if_pos rfl]
theorem upd_ne {H:Hp} {a b:Addr} {o:HO} (h:b≠a) : upd H a o b=H b:=by unfold upd; rw [if_neg h]
theorem upd_upd {H:Hp} {a:Addr} {o u:HO} : upd (upd H a o) a u=upd H a u:=by
 funext b; unfold upd; split <;> rfl
theorem ne_of {H:Hp} {a b:Addr} {o u:HO} (h:H a=some o) (h':H b=some u) (d:o≠u) : a≠b:=by
 intro e; subst e; rw [h] at h'; exact d (Option.some.inj h')
theorem ne_of_none {H:Hp} {a b:Addr} {o:HO} (h:H a=some o) (h':H b=none) : a≠b:=by
 intro e; subst e; rw [h] at h'; cases h'

section
variable (P:Program) (w:World)
def ObjOk (H:Hp) (h:Heap) (a:Addr) : HO→Prop
 | .lst xs=>xs.length≤sizeLine∧∃ (its:List Value) (n:Nat),Vals xs its∧h.get? a=some { cls:=.type "list",data:=.seq its.toArray n }
 | .tup xs=>xs.length≤sizeLine∧∃ its:List Value,Vals xs its∧IsTup h a its.toArray
 | .dK kvs=>kvs.length≤sizeLine∧(a == sysModules)=false∧∃ vs,KV kvs vs∧h.DictOf (mixKind P w) a vs
 | .dT kvs=>kvs.length≤sizeLine∧(a == sysModules)=false∧∃ xs:List (List Key × Addr × Value),
   Paired (fun (p:List Key × V) (q:List Key × Addr × Value)=>p.1=q.1∧H q.2.1=some (.tup (p.1.map kV))∧RelV p.2 q.2.2) kvs xs ∧
   ∃ o es ep,h.get? a=some o∧o.ExactDict∧o.data = .dict es ep∧es.toList=xs.map (entryOfKey (tupleKind (mixKind P w)))∧(xs.map (·.1)).Nodup
 | .set S n=>h.SetOf (intKind P w) a S n
 | .ins C dx fs=>H dx=some (.own a)∧fs.length≤1000∧dx≠a∧h.get? a=some (PySem.W.instObj C dx) ∧
   ∃ mA,h.Ns1 dx mA∧(∀ f,RelO (fs.lookup f) (mA f))∧PySem.Within mA (fs.map (·.1))
 | .own _=>∃ o,h.get? a=some o
 | .xd fs=>∃ mA,h.Ns1 a mA∧∀ f,RelO (fs.lookup f) (mA f)
 | .rng lo hi=>∃ t u v,h.get? a=some { cls:=.type "range",data:=.fields #[.int lo t,.int hi u,.int 1 v] }
 | .frz o u=>h.get? a=some o∧ObjOk H h a u
 | .tbl ps=>h.get? a=some { cls:=.none,data:=.fields ps }
 | .met f x=>h.get? a=some (PySem.W.methodObj (.ref f) (.ref x))
 | .ext φ=>φ h∧(∃ o,h.get? a=some o)∧∀ h1 h2:Heap,φ h1→(∀ o,h1.get? a=some o→h2.get? a=some o)→φ h2
def HOk (H:Hp) (h:Heap) : Prop:=∀ a o,H a=some o→ObjOk P w H h a o
end

section
variable {P:Program} {w:World} {H H':Hp} {h h':Heap} {a:Addr} {o:HO}
theorem ObjOk.lt (x:ObjOk P w H h a o) : a < h.objs.size:=by
 cases o with
 | lst xs=>obtain ⟨_,_,_,_,e⟩:=x; exact Heap.lt_size e
 | tup xs=>obtain ⟨_,_,_,p⟩:=x; exact p.lt
 | dK kvs=>obtain ⟨_,_,_,_,o,_,_,e,_⟩:=x; exact Heap.lt_size e
 | dT kvs=>obtain ⟨_,_,_,_,o,_,_,e,_⟩:=x; exact Heap.lt_size e
 | set S n=>obtain ⟨o,_,_,_,e,_⟩:=x; exact Heap.lt_size e
 | ins C dx fs=>obtain ⟨_,_,_,e,_⟩:=x; exact Heap.lt_size e
 | own y=>obtain ⟨_,e⟩:=x; exact Heap.lt_size e
 | xd fs=>obtain ⟨_,⟨_,_,_,e,_⟩,_⟩:=x; exact Heap.lt_size e
 | rng lo hi=>obtain ⟨_,_,_,e⟩:=x; exact Heap.lt_size e
 | frz ob u=>obtain ⟨e,_⟩:=x; exact Heap.lt_size e
 | tbl ps=>exact Heap.lt_size (show h.get? a=some _ from x)
 | met f y=>exact Heap.lt_size (show h.get? a=some _ from x)
 | ext φ=>obtain ⟨_,⟨_,e⟩,_⟩:=x; exact Heap.lt_size e
theorem Paired.mapP {α β:Type} {F G:α→β→Prop} : ∀ {l₁:List α} {l₂:List β},Paired F l₁ l₂→(∀ a b,F a b→G a b)→Paired G l₁ l₂
 | _,_,.nil,_=>.nil
 | _,_,.cons r t,f=>.cons (f _ _ r) (Paired.mapP t f)
theorem ObjOk.stay (x:ObjOk P w H h a o) (k:∀ b u,(b=a∨H b=some (.own a))→h.get? b=some u→h'.get? b=some u)
  (ho:∀ b,H b=some (.own a)→H' b=some (.own a)) (ht:∀ b xs,H b=some (.tup xs)→H' b=some (.tup xs)) : ObjOk P w H' h' a o:=by
 induction o with
 | lst xs=>obtain ⟨z,its,n,r,e⟩:=x; exact ⟨z,its,n,r,k _ _ (.inl rfl) e⟩
 | tup xs=>obtain ⟨z,its,r,ob,e,c⟩:=x; exact ⟨z,its,r,ob,k _ _ (.inl rfl) e,c⟩
 | dK kvs=>obtain ⟨z,y,vs,r,ob,es,ep,e,c⟩:=x; exact ⟨z,y,vs,r,ob,es,ep,k _ _ (.inl rfl) e,c⟩
 | dT kvs =>
  obtain ⟨z,y,xs,r,ob,es,ep,e,c⟩:=x
  exact ⟨z,y,xs,Paired.mapP r fun p q z=>⟨z.1,ht _ _ z.2.1,z.2.2⟩,ob,es,ep,k _ _ (.inl rfl) e,c⟩
 | set S n=>obtain ⟨ob,es,ep,t,e,c⟩:=x; exact ⟨ob,es,ep,t,k _ _ (.inl rfl) e,c⟩
 | ins C dx fs =>
  obtain ⟨d,z,ne,e,mA,⟨od,es,ep,e2,c⟩,r⟩:=x
  exact ⟨ho _ d,z,ne,k _ _ (.inl rfl) e,mA,⟨od,es,ep,k _ _ (.inr d) e2,c⟩,r⟩
 | own y=>obtain ⟨ob,e⟩:=x; exact ⟨ob,k _ _ (.inl rfl) e⟩
 | xd fs=>obtain ⟨mA,⟨od,es,ep,e,c⟩,r⟩:=x; exact ⟨mA,⟨od,es,ep,k _ _ (.inl rfl) e,c⟩,r⟩
 | rng lo hi=>obtain ⟨t,u,v,e⟩:=x; exact ⟨t,u,v,k _ _ (.inl rfl) e⟩
 | frz ob u ih=>obtain ⟨e,q⟩:=x; exact ⟨k _ _ (.inl rfl) e,ih q⟩
 | tbl ps =>
  have e:h.get? a=some { cls:=.none,data:=.fields ps }:=x
  show h'.get? a=some { cls:=.none,data:=.fields ps }
  exact k a _ (.inl rfl) e
 | met f y =>
  have e:h.get? a=some (PySem.W.methodObj (.ref f) (.ref y)):=x
  show h'.get? a=some (PySem.W.methodObj (.ref f) (.ref y))
  exact k a _ (.inl rfl) e
 | ext φ=>obtain ⟨p,⟨o,e⟩,st⟩:=x; exact ⟨st _ _ p fun o q=>k _ _ (.inl rfl) q,⟨o,k _ _ (.inl rfl) e⟩,st⟩
theorem HOk.lt (x:HOk P w H h) (e:H a=some o) : a < h.objs.size:=(x a o e).lt
theorem HOk.fresh (x:HOk P w H h) (e:h.objs.size≤a) : H a=none:=by
 cases q:H a with
 | none=>rfl
 | some u=>exact absurd (Nat.lt_of_lt_of_le (x.lt q) e) (Nat.lt_irrefl _)
theorem HOk.kept (x:HOk P w H h) (k:∀ b u,h.get? b=some u→h'.get? b=some u) : HOk P w H h':=fun a o e =>
 (x a o e).stay (fun b u _ q=>k b u q) (fun _ q=>q) fun _ _ q=>q
theorem HOk.laid (x:HOk P w H h) (k:∀ b u,h.get? b=some u→h'.get? b=some u) (hp:h.objs.size≤a) (new:ObjOk P w (upd H a o) h' a o) : HOk P w (upd H a o) h':=fun b u e=>by
 have hn:=x.fresh hp
 by_cases hb:b=a
 ·subst hb; rw [upd_same] at e; cases e; exact new
 ·rw [upd_ne hb] at e
  exact (x b u e).stay (fun c v _ q=>k c v q) (fun c q=>by rw [upd_ne (ne_of_none q hn)]; exact q) fun c xs q=>by rw [upd_ne (ne_of_none q hn)]; exact q
end

def Rd (H:Hp) (a:Addr) (u:HO) : Prop:=H a=some u∨∃ o,H a=some (.frz o u)
theorem Rd.ok {P:Program} {w:World} {H:Hp} {h:Heap} {a:Addr} {u:HO} (r:Rd H a u) (x:HOk P w H h) : ObjOk P w H h a u:=by
 rcases r with r | ⟨o,r⟩
 ·exact x a u r
 ·obtain ⟨_,q⟩:=x a _ r
  exact q
def Mut:Option HO→Prop
 | some (.lst _)=>True
 | some (.dK _)=>True
 | some (.dT _)=>True
 | some (.set _ _)=>True
 | some (.ins _ _ _)=>True
 | some (.ext _)=>True
 | _=>False
section
variable {P:Program} {w:World} {H:Hp} {h h':Heap} {x e:Addr} {o':HO}
theorem HOk.write (ok:HOk P w H h) (mu:Mut (H x)) (he:e=x∨H e=some (.own x)) (k:∀ b u,b≠e→h.get? b=some u→h'.get? b=some u) (heo:∃ u,h'.get? e=some u)
  (new:ObjOk P w (upd H x o') h' x o') : HOk P w (upd H x o') h':=fun b u q=>by
 have nown:∀ c y,H c=some (.own y)→c≠x:=fun c y r z=>by subst z; rw [r] at mu; exact mu
 have ntup:∀ c xs,H c=some (.tup xs)→c≠x:=fun c xs r z=>by subst z; rw [r] at mu; exact mu
 by_cases hb:b=x
 ·subst hb; rw [upd_same] at q; cases q; exact new
 ·rw [upd_ne hb] at q
  by_cases hbe:b=e
  ·have q':H b=some (.own x):=by
    rcases he with z | z
    ·exact absurd (hbe.trans z) hb
    ·rw [hbe]; exact z
   rw [q] at q'; cases q'
   obtain ⟨v,hv⟩:=heo
   exact ⟨v,by rw [hbe]; exact hv⟩
  ·refine (ok b u q).stay (fun c v hc r=>k c v ?_ r) (fun c r=>by rw [upd_ne (nown c b r)]; exact r) fun c xs r=>by rw [upd_ne (ntup c xs r)]; exact r
   rcases hc with rfl | hc
   ·exact hbe
   ·rintro rfl
    rcases he with z | z
    ·exact nown c b hc z
    ·rw [hc] at z; cases z; exact hb rfl
end

structure Un (fs ex:List Addr) (H H':Hp) (h h':Heap) : Prop where
 keep:∀ b o,h.get? b=some o→H b=none→b ∉ fs→b ∉ ex→h'.get? b=some o
 slot:∀ b o,h.get? b=some o→H b=none→b ∈ fs→b ∉ ex→∃ sl,h'.get? b=some { o with slots:=sl }
 free:∀ b o,h.get? b=some o→H b=none→b ∉ ex→H' b=none
 there:∀ b o,h.get? b=some o→b ∉ ex→∃ o',h'.get? b=some o'
 tups:∀ b xs,H b=some (.tup xs)→H' b=some (.tup xs)
 frzs:∀ b o u,H b=some (.frz o u)→H' b=some (.frz o u)
 tbls:∀ b ps,H b=some (.tbl ps)→∃ more,H' b=some (.tbl (ps++more))
section
variable {fs fs' ex ex':List Addr} {H H1 H2:Hp} {h h1 h2 h':Heap} {a x e:Addr} {o:HO}
theorem Un.any (u:Un fs ex H H1 h h1) {b:Addr} {ob:Obj} (q:h.get? b=some ob) (n:H b=none) (hx:b ∉ ex) : ∃ sl,h1.get? b=some { ob with slots:=sl }:=by
 by_cases hb:b ∈ fs
 ·exact u.slot b ob q n hb hx
 ·exact ⟨ob.slots,u.keep b ob q n hb hx⟩
theorem Un.trans (a:Un fs ex H H1 h h1) (b:Un fs ex H1 H2 h1 h2) : Un fs ex H H2 h h2 where
 keep:=fun c ob q n hc hx=>b.keep c ob (a.keep c ob q n hc hx) (a.free c ob q n hx) hc hx
 slot:=fun c ob q n hc hx=>by
  obtain ⟨sl,e1⟩:=a.slot c ob q n hc hx
  obtain ⟨sl',e2⟩:=b.slot c _ e1 (a.free c ob q n hx) hc hx
  exact ⟨sl',e2⟩
 free:=fun c ob q n hx=>by
  obtain ⟨o',e1⟩:=a.there c ob q hx
  exact b.free c o' e1 (a.free c ob q n hx) hx
 there:=fun c ob q hx=>by
  obtain ⟨o',e1⟩:=a.there c ob q hx
  exact b.there c o' e1 hx
 tups:=fun c xs q=>b.tups c xs (a.tups c xs q)
 frzs:=fun c ob xs q=>b.frzs c ob xs (a.frzs c ob xs q)
 tbls:=fun c ps q=>by
  obtain ⟨m1,e1⟩:=a.tbls c ps q
  obtain ⟨m2,e2⟩:=b.tbls c _ e1
  exact ⟨m1++m2,by rw [e2,Array.append_assoc]⟩
theorem Un.kept (k:∀ b u,h.get? b=some u→h'.get? b=some u) : Un fs ex H H h h':=
 ⟨fun b ob q _ _ _=>k b ob q,fun b ob q _ _ _=>⟨ob.slots,k b ob q⟩,fun _ _ _ n _=>n,fun b ob q _=>⟨ob,k b ob q⟩,fun _ _ q=>q,fun _ _ _ q=>q,fun _ ps q=>⟨#[],by rw [q]; simp⟩⟩
theorem Un.refl:Un fs ex H H h h:=Un.kept fun _ _ q=>q
theorem Un.laid (k:∀ b u,h.get? b=some u→h'.get? b=some u) (hp:h.objs.size≤a) (hn:H a=none) : Un fs ex H (upd H a o) h h' where
 keep:=fun b u q _ _ _=>k b u q
 slot:=fun b u q _ _ _=>⟨u.slots,k b u q⟩
 free:=fun b u q n _=>by rw [upd_ne (Nat.ne_of_lt (Nat.lt_of_lt_of_le (Heap.lt_size q) hp))]; exact n
 there:=fun b u q _=>⟨u,k b u q⟩
 tups:=fun b xs q=>by rw [upd_ne (ne_of_none q hn)]; exact q
 frzs:=fun b u xs q=>by rw [upd_ne (ne_of_none q hn)]; exact q
 tbls:=fun b ps q=>⟨#[],by rw [upd_ne (ne_of_none q hn),q]; simp⟩
theorem Un.write (mu:Mut (H x)) (he:e=x∨H e=some (.own x)) (k:∀ b u,b≠e→h.get? b=some u→h'.get? b=some u) (heo:∃ u,h'.get? e=some u) : Un fs ex H (upd H x o) h h':=by
 have hx:∀ b,H b=none→b≠x:=fun b n z=>by subst z; rw [n] at mu; exact mu
 have hb:∀ b,H b=none→b≠e:=fun b n z=>by
  subst z
  rcases he with r | r
  ·exact hx b n r
  ·rw [n] at r; cases r
 have hm:∀ b u,H b=some u→¬ Mut (some u)→b≠x:=fun b u q nm z=>by subst z; rw [q] at mu; exact nm mu
 refine ⟨fun b u q n _ _=>k b u (hb b n) q,fun b u q n _ _=>⟨u.slots,k b u (hb b n) q⟩,fun b u q n _=>by rw [upd_ne (hx b n)]; exact n,fun b u q _=>?_,
  fun b xs q=>by rw [upd_ne (hm b _ q fun z=>z)]; exact q,fun b u xs q=>by rw [upd_ne (hm b _ q fun z=>z)]; exact q,fun b ps q=>⟨#[],by rw [upd_ne (hm b _ q fun z=>z),q]; simp⟩⟩
 by_cases hbe:b=e
 ·subst hbe; exact heo
 ·exact ⟨u,k b u hbe q⟩
end

def trk (h:Heap) (H:Hp) : List Addr:=(List.range h.objs.size).filter fun a=>(H a).isSome
def hidT (h:Heap) (H:Hp) : Heap:=PySem.W.hideAll h (trk h H)
theorem hidT_size (h:Heap) (H:Hp) : (hidT h H).objs.size=h.objs.size:=PySem.W.hideAll_size _ _
theorem hidT_get {h:Heap} {H:Hp} {b:Addr} {o:Obj} (e:h.get? b=some o) (n:H b=none) : (hidT h H).get? b=some o:=
 PySem.W.hideAll_get _ e fun hm=>by
  have q:(H b).isSome=true:=(List.mem_filter.mp hm).2
  rw [n] at q; simp at q
theorem of_hidT {h:Heap} {H:Hp} {b:Addr} {o:Obj} (e:(hidT h H).get? b=some o) : h.get? b=some o∧H b=none:=by
 have e':h.get? b=some o:=PySem.W.of_hideAll (trk h H) e
 refine ⟨e',?_⟩
 cases q:H b with
 | none=>rfl
 | some x =>
  have hm:b ∈ trk h H:=List.mem_filter.mpr ⟨List.mem_range.mpr (Heap.lt_size e'),by simp [q]⟩
  have z:(hidT h H).get? b=none:=PySem.W.hideAll_none (trk h H) hm
  rw [z] at e; cases e

def allNews (g h:Heap) (L:Addr) : List (Addr × Obj):=(List.range h.objs.size).filterMap fun a=>if a=L∨(g.get? a).isSome=true then none else (h.get? a).map fun o=>(a,o)
def rest (g h:Heap) (L d:Addr) : List (Addr × Obj):=(allNews g h L).filter fun p=>decide (p.1≠d)

structure Mod (K:PySem.W.Frag) (mg:Str→Option Value) (base:Heap) : Prop where
 kin:K.In base
 glob:base.Ns mainGlobals mg
 blt:∃ mb,base.Ns builtinsNs mb∧∀ x:Str,x≠"__name__"→mb x=bootBuiltins x
 nolimit:base.NoLimit

structure Cx where
 prog:Program
 w:World
 K:PySem.W.Frag
 mg:Str→Option Value
 base:Heap
 A:Around
 N:List Str
 s₀:Shared
 H₀:Hp
 env:Env
 outer:List Env
 stack:List Env
 ex:List Addr
 fn:Str→Bool
 calm:Bool
 pn:List (Addr × Obj)
 xe:Value→Shared→Prop
def frs (l:List Env) : List Addr:=l.filterMap (·.frame)
abbrev Cx.fs (X:Cx) : List Addr:=frs X.outer

def Vis (sc:Scope) (x:Str) : Prop:=sc.names.lookup x=some .local∨sc.names.lookup x=some .cell∨sc.names.lookup x=some .free
def Loc (sc:Scope) (x:Str) : Prop:=sc.names.lookup x=some .local∨sc.names.lookup x=some .cell
def Look (env:Env) (h:Heap) (m:Str→Option Value) (x:Str) (u:Value) : Prop:=
 (env.kindOf x=some .local∧m x=some u)∨((env.kindOf x=some .cell∨env.kindOf x=some .free)∧∃ c,env.cells.lookup x=some c∧h.IsCell c (some u))

structure Cx.Ok (X:Cx) : Prop where
 mod:Mod X.K X.mg X.base
 kind:X.env.scope.kind = .function
 glob:X.env.globals=mainGlobals
 blt:X.env.builtins=builtinsNs
 above:X.s₀.heap.objs.size≤X.env.locals
 inj:∀ x y c,X.env.cells.lookup x=some c→X.env.cells.lookup y=some c→x=y
 has:∀ x,(X.env.kindOf x=some .cell∨X.env.kindOf x=some .free)→∃ c,X.env.cells.lookup x=some c
 cab:∀ x c,X.fn x=true→X.env.cells.lookup x=some c→X.s₀.heap.objs.size≤c
 hd:X.calm=true→X.A.handled=none
 frames:X.A.frames=some X.stack
 stk:X.stack=X.outer∨(X.stack=X.env :: X.outer∧X.env.frame=some X.env.locals)
 exf:∀ b ∈ X.ex,b≠X.env.locals∧∀ x c,X.env.cells.lookup x=some c→c≠b
 bs:∀ b o,X.base.get? b=some o→X.s₀.heap.get? b=some o∧X.H₀ b=none
 bsz:X.base.objs.size≤X.s₀.heap.objs.size
 noex:∀ b o,X.base.get? b=some o→b ∉ X.ex
 exfs:∀ b ∈ X.ex,b ∉ X.fs
 funs:X.s₀.heap.FunFrames X.base X.outer
 frf:∀ b ∈ X.fs,X.H₀ b=none

structure Inv (X:Cx) (pins:List (Addr × Obj)) (σ:List (Option V)) (H:Hp) (s:Shared) : Prop where
 ok:X.Ok
 os:s.os=X.s₀.os
 bare:AllBare s.gens
 base:Un X.fs X.ex X.H₀ H X.s₀.heap s.heap
 loc:∃ m,s.heap.Ns X.env.locals m∧∀ (i:Nat) (x:Str) (v:V),X.N[i]? = some x→σ[i]? = some (some v)→Vis X.env.scope x→∃ u,RelV v u∧Look X.env s.heap m x u
 cell:∀ x c,X.env.cells.lookup x=some c→∃ v,s.heap.IsCell c v
 free:H X.env.locals=none
 freeC:∀ x c,X.env.cells.lookup x=some c→H c=none
 pin:∀ p ∈ X.pn++pins,s.heap.get? p.1=some p.2∧H p.1=none∧p.1≠X.env.locals∧p.1 ∉ X.fs∧∀ v,p.2.data≠.cell v
 hok:HOk X.prog X.w H s.heap
 len:σ.length=X.N.length

section
variable {X:Cx} {pins:List (Addr × Obj)} {σ:List (Option V)} {H H':Hp} {s:Shared} {h':Heap}

theorem Cx.Ok.nofr (ok:X.Ok) {b:Addr} {o:Obj} (e:X.base.get? b=some o) : b ∉ X.fs:=fun hb=>by
 have:=(ok.funs.mem hb).1
 rw [e] at this; cases this
theorem Inv.bs (I:Inv X pins σ H s) : ∀ b o,X.base.get? b=some o→s.heap.get? b=some o∧H b=none:=fun b o e =>
 ⟨I.base.keep b o (I.ok.bs b o e).1 (I.ok.bs b o e).2 (I.ok.nofr e) (I.ok.noex b o e),I.base.free b o (I.ok.bs b o e).1 (I.ok.bs b o e).2 (I.ok.noex b o e)⟩
theorem Inv.bk (I:Inv X pins σ H s) : ∀ b o,X.base.get? b=some o→s.heap.get? b=some o:=fun b o e=>(I.bs b o e).1
theorem Inv.mod (I:Inv X pins σ H s) : Mod X.K X.mg X.base:=I.ok.mod
theorem Inv.kIn (I:Inv X pins σ H s) : X.K.In s.heap:=I.ok.mod.kin.keeps I.bk
theorem Inv.lt (I:Inv X pins σ H s) : X.env.locals < s.heap.objs.size:=let ⟨_,hn,_⟩:=I.loc; hn.lt
theorem Inv.sz (I:Inv X pins σ H s) : X.s₀.heap.objs.size≤s.heap.objs.size:=Nat.le_trans I.ok.above (Nat.le_of_lt I.lt)
theorem Inv.nofs (I:Inv X pins σ H s) {a:Addr} (h:s.heap.objs.size≤a) : a ∉ X.fs:=fun hb=>by
 obtain ⟨_,o,ho,_⟩:=I.ok.funs.mem hb
 exact absurd (Nat.lt_of_lt_of_le (Heap.lt_size ho) (Nat.le_trans I.sz h)) (Nat.lt_irrefl _)
theorem Inv.cne (I:Inv X pins σ H s) : ∀ x c,X.env.cells.lookup x=some c→c≠X.env.locals:=fun x c e z=>by
 obtain ⟨v,o,ho,hd⟩:=I.cell x c e
 obtain ⟨m,⟨o',es,ep,ho',hd',_⟩,_⟩:=I.loc
 rw [z,ho'] at ho; cases ho; rw [hd'] at hd; cases hd
theorem Inv.funs (I:Inv X pins σ H s) : s.heap.FunFrames X.base X.outer:=by
 have all:∀ (l:List Env),(∀ b ∈ frs l,b ∈ X.fs)→X.s₀.heap.FunFrames X.base l→s.heap.FunFrames X.base l:=by
  intro l
  induction l with
  | nil=>intro _ _; trivial
  | cons env r ih =>
   intro hs hl
   obtain ⟨hk,⟨L,o,hf,hn,ho,hd⟩,hr⟩:=hl
   have hL:L ∈ X.fs:=hs L (by unfold frs; rw [List.filterMap_cons,hf]; exact List.mem_cons_self)
   obtain ⟨sl,e⟩:=I.base.slot L o ho (I.ok.frf L hL) hL fun z=>I.ok.exfs L z hL
   exact ⟨hk,⟨L,_,hf,hn,e,hd⟩,ih (fun b hb=>hs b (by unfold frs; rw [List.filterMap_cons,hf]; exact List.mem_cons_of_mem _ hb)) hr⟩
 exact all X.outer (fun _ hb=>hb) I.ok.funs

theorem Inv.stack (I:Inv X pins σ H s) : s.heap.FunFrames X.base X.stack:=by
 rcases I.ok.stk with e | ⟨e,hf⟩
 ·rw [e]; exact I.funs
 ·rw [e]
  obtain ⟨m,hn,_⟩:=I.loc
  refine .cons (by rw [I.ok.kind]; decide) hf hn ?_ I.funs
  exact Heap.get?_none_of_le (Nat.le_trans I.ok.bsz I.ok.above)
theorem Inv.stkSub (I:Inv X pins σ H s) : ∀ b ∈ frs X.stack,b ∈ X.env.locals :: X.fs:=fun b hb=>by
 rcases I.ok.stk with e | ⟨e,hf⟩
 ·rw [e] at hb; exact List.mem_cons_of_mem _ hb
 ·rw [e] at hb
  unfold frs at hb
  rw [List.filterMap_cons,hf] at hb
  exact hb
theorem Inv.stkFree (I:Inv X pins σ H s) : ∀ b ∈ frs X.stack,H b=none:=fun b hb=>by
 rcases List.mem_cons.mp (I.stkSub b hb) with e | hb
 ·rw [e]; exact I.free
 ·obtain ⟨_,o,ho,_⟩:=I.ok.funs.mem hb
  exact I.base.free b o ho (I.ok.frf b hb) fun z=>I.ok.exfs b z hb

theorem Inv.step {g':Array GenState} {t':Nat} {d':Drawn} {ch:List Addr} (I:Inv X pins σ H s)
  (hch:∀ b ∈ ch,(b ∈ X.ex∨X.s₀.heap.objs.size≤b)∧b≠X.env.locals∧(∀ x c,X.env.cells.lookup x=some c→c≠b)∧∀ p ∈ X.pn++pins,p.1≠b)
  (keep:∀ b o,b≠X.env.locals→b ∉ X.fs→b ∉ ch→s.heap.get? b=some o→H b=none→h'.get? b=some o)
  (slot:∀ b o,b≠X.env.locals→b ∈ X.fs→b ∉ ch→s.heap.get? b=some o→H b=none→∃ sl,h'.get? b=some { o with slots:=sl }) (free:∀ b o,b ∉ ch→s.heap.get? b=some o→H b=none→H' b=none)
  (there:∀ b o,b ∉ ch→s.heap.get? b=some o→∃ o',h'.get? b=some o')
  (tups:∀ b xs,H b=some (.tup xs)→H' b=some (.tup xs)) (frzs:∀ b o u,H b=some (.frz o u)→H' b=some (.frz o u)) (tbls:∀ b ps,H b=some (.tbl ps)→∃ more,H' b=some (.tbl (ps++more)))
  (ns:∀ m,s.heap.Ns X.env.locals m→h'.Ns X.env.locals m) (hok:HOk X.prog X.w H' h') (hg:AllBare g') :
  Inv X pins σ H' { s with heap:=h',gens:=g',drawn:=d',toks:=t' }:=by
 have neL:∀ b o,X.s₀.heap.get? b=some o→b≠X.env.locals:=fun b o e=>Nat.ne_of_lt (Nat.lt_of_lt_of_le (Heap.lt_size e) I.ok.above)
 have neC:∀ b o,X.s₀.heap.get? b=some o→b ∉ X.ex→b ∉ ch:=fun b o e hx hb=>by
  rcases (hch b hb).1 with z | z
  ·exact hx z
  ·exact absurd (Nat.lt_of_lt_of_le (Heap.lt_size e) z) (Nat.lt_irrefl _)
 have cellK:∀ x c,X.env.cells.lookup x=some c→∀ v,s.heap.IsCell c v→h'.IsCell c v:=fun x c e v ⟨o,ho,hd⟩=>by
  have nch:c ∉ ch:=fun z=>(hch c z).2.2.1 x c e rfl
  by_cases hc:c ∈ X.fs
  ·obtain ⟨sl,q⟩:=slot c o (I.cne x c e) hc nch ho (I.freeC x c e)
   exact ⟨_,q,hd⟩
  ·exact ⟨o,keep c o (I.cne x c e) hc nch ho (I.freeC x c e),hd⟩
 refine ⟨I.ok,I.os,hg,⟨fun b o e n hb hx=>?_,fun b o e n hb hx=>?_,fun b o e n hx=>?_,fun b o e hx=>?_,fun b xs e=>tups b xs (I.base.tups b xs e),fun b o xs e=>frzs b o xs (I.base.frzs b o xs e),fun b ps e=>?_⟩,?_,fun x c e=>?_,?_,fun x c e=>?_,fun p hp=>?_,hok,I.len⟩
 ·exact keep b o (neL b o e) hb (neC b o e hx) (I.base.keep b o e n hb hx) (I.base.free b o e n hx)
 ·obtain ⟨sl,e1⟩:=I.base.slot b o e n hb hx
  obtain ⟨sl',e2⟩:=slot b _ (neL b o e) hb (neC b o e hx) e1 (I.base.free b o e n hx)
  exact ⟨sl',e2⟩
 ·obtain ⟨o',e1⟩:=I.base.there b o e hx
  exact free b o' (neC b o e hx) e1 (I.base.free b o e n hx)
 ·obtain ⟨o',e1⟩:=I.base.there b o e hx
  exact there b o' (neC b o e hx) e1
 ·obtain ⟨m1,e1⟩:=I.base.tbls b ps e
  obtain ⟨m2,e2⟩:=tbls b _ e1
  exact ⟨m1++m2,by rw [e2,Array.append_assoc]⟩
 ·obtain ⟨m,hn,hl⟩:=I.loc
  refine ⟨m,ns m hn,fun i x v e1 e2 e3=>?_⟩
  obtain ⟨u,r,l⟩:=hl i x v e1 e2 e3
  refine ⟨u,r,?_⟩
  rcases l with l | ⟨k,c,e,z⟩
  ·exact .inl l
  ·exact .inr ⟨k,c,e,cellK x c e _ z⟩
 ·obtain ⟨v,z⟩:=I.cell x c e
  exact ⟨v,cellK x c e v z⟩
 ·obtain ⟨m,⟨o,_,_,ho,_⟩,_⟩:=I.loc
  exact free _ o (fun z=>(hch _ z).2.1 rfl) ho I.free
 ·obtain ⟨v,o,ho,hd⟩:=I.cell x c e
  exact free c o (fun z=>(hch c z).2.2.1 x c e rfl) ho (I.freeC x c e)
 ·obtain ⟨e,n,ne,nf,d⟩:=I.pin p hp
  have nch:p.1 ∉ ch:=fun z=>(hch p.1 z).2.2.2 p hp rfl
  exact ⟨keep p.1 p.2 ne nf nch e n,free p.1 p.2 nch e n,ne,nf,d⟩
theorem Inv.un {t':Nat} (I:Inv X pins σ H s) (u:Un X.fs [] H H' s.heap h') (hok:HOk X.prog X.w H' h') : Inv X pins σ H' { s with heap:=h',toks:=t' }:=by
 obtain ⟨m,⟨o,es,ep,ho,r⟩,_⟩:=id I.loc
 obtain ⟨sl,hL⟩:=u.any ho I.free (by simp)
 exact I.step (g':=s.gens) (d':=s.drawn) (ch:=[]) (fun _ z=>nomatch z) (fun b o _ hb _ e n=>u.keep b o e n hb (by simp)) (fun b o _ hb _ e n=>u.slot b o e n hb (by simp)) (fun b o _ e n=>u.free b o e n (by simp)) (fun b o _ e=>u.there b o e (by simp)) u.tups u.frzs u.tbls (fun m' hm=>by
  obtain ⟨o',es',ep',ho',r'⟩:=hm
  rw [ho] at ho'; cases ho'
  exact ⟨_,es',ep',hL,r'⟩) hok I.bare
theorem Inv.call {g':Array GenState} {t':Nat} {d':Drawn} {ch:List Addr} (I:Inv X pins σ H s) (u:Un (frs X.stack) ch H H' s.heap h') (hok:HOk X.prog X.w H' h') (hg:AllBare g')
  (hch:∀ b ∈ ch,(b ∈ X.ex∨X.s₀.heap.objs.size≤b)∧b≠X.env.locals∧(∀ x c,X.env.cells.lookup x=some c→c≠b)∧∀ p ∈ X.pn++pins,p.1≠b) :
  Inv X pins σ H' { s with heap:=h',gens:=g',drawn:=d',toks:=t' }:=by
 obtain ⟨m,⟨o,es,ep,ho,r⟩,_⟩:=id I.loc
 obtain ⟨sl,hL⟩:=u.any ho I.free fun z=>(hch _ z).2.1 rfl
 exact I.step (ch:=ch) hch (fun b o hL hb hc e n=>u.keep b o e n (fun z=>(List.mem_cons.mp (I.stkSub b z)).elim hL hb) hc) (fun b o _ _ hc e n=>u.any e n hc) (fun b o hc e n=>u.free b o e n hc) (fun b o hc e=>u.there b o e hc) u.tups u.frzs u.tbls (fun m' hm=>by
  obtain ⟨o',es',ep',ho',r'⟩:=hm
  rw [ho] at ho'; cases ho'
  exact ⟨_,es',ep',hL,r'⟩) hok hg
theorem Inv.turned {t':Nat} {it:Addr} (I:Inv X pins σ H s) (k:∀ b o,b≠it→s.heap.get? b=some o→h'.get? b=some o) (hn:H it=none) (hL:it≠X.env.locals)
  (h1:it ∈ X.ex∨X.s₀.heap.objs.size≤it) (h2:∀ x c,X.env.cells.lookup x=some c→c≠it) (h3:∀ p ∈ X.pn++pins,p.1≠it) : Inv X pins σ H { s with heap:=h',toks:=t' }:=by
 have nit:∀ b u,H b=some u→b≠it:=fun b u e z=>by rw [z,hn] at e; cases e
 refine I.step (g':=s.gens) (d':=s.drawn) (ch:=[it]) (fun b hb=>?_) (fun b o _ _ hc e _=>k b o (fun z=>hc (by simp [z])) e) (fun b o _ _ hc e _=>⟨o.slots,k b o (fun z=>hc (by simp [z])) e⟩) (fun _ _ _ _ n=>n)
  (fun b o hc e=>⟨o,k b o (fun z=>hc (by simp [z])) e⟩) (fun _ _ e=>e) (fun _ _ _ e=>e) (fun b ps e=>⟨#[],by rw [e]; simp⟩) (fun m hm=>?_) (fun b u e=>?_) I.bare
 ·have e:b=it:=by simpa using hb
  subst e
  exact ⟨h1,hL,h2,h3⟩
 ·obtain ⟨o,es,ep,ho,r⟩:=hm
  exact ⟨o,es,ep,k _ o (Ne.symm hL) ho,r⟩
 ·refine (I.hok b u e).stay (fun c v hc q=>k c v ?_ q) (fun _ q=>q) fun _ _ q=>q
  rcases hc with z | z
  ·rw [z]; exact nit b u e
  ·exact nit c _ z
theorem Inv.tok (I:Inv X pins σ H s) (t:Nat) : Inv X pins σ H { s with toks:=t }:=I.un (h':=s.heap) (t':=t) Un.refl I.hok
theorem Inv.kept {t':Nat} (I:Inv X pins σ H s) (k:∀ b u,s.heap.get? b=some u→h'.get? b=some u) : Inv X pins σ H { s with heap:=h',toks:=t' }:=I.un (Un.kept k) (I.hok.kept k)
theorem Inv.laid {a:Addr} {o:HO} {t':Nat} (I:Inv X pins σ H s) (k:∀ b u,s.heap.get? b=some u→h'.get? b=some u) (hp:s.heap.objs.size≤a) (new:ObjOk X.prog X.w (upd H a o) h' a o) :
  Inv X pins σ (upd H a o) { s with heap:=h',toks:=t' }:=I.un (Un.laid k hp (I.hok.fresh hp)) (I.hok.laid k hp new)
theorem Inv.write {x e:Addr} {o:HO} {t':Nat} (I:Inv X pins σ H s) (mu:Mut (H x)) (he:e=x∨H e=some (.own x)) (k:∀ b u,b≠e→s.heap.get? b=some u→h'.get? b=some u) (heo:∃ u,h'.get? e=some u)
  (new:ObjOk X.prog X.w (upd H x o) h' x o) : Inv X pins σ (upd H x o) { s with heap:=h',toks:=t' }:=I.un (Un.write mu he k heo) (I.hok.write mu he k heo new)
theorem Inv.pins_of {pins':List (Addr × Obj)} (I:Inv X pins σ H s) (h:∀ p ∈ pins',s.heap.get? p.1=some p.2∧H p.1=none∧p.1≠X.env.locals∧p.1 ∉ X.fs∧∀ v,p.2.data≠.cell v) : Inv X pins' σ H s:=
 ⟨I.ok,I.os,I.bare,I.base,I.loc,I.cell,I.free,I.freeC,fun p hp=>(List.mem_append.mp hp).elim (fun z=>I.pin p (List.mem_append_left _ z)) (h p),I.hok,I.len⟩

theorem nodup_ix {N:List Str} (hN:N.Nodup) {i j:Nat} {x:Str} (a:N[i]? = some x) (b:N[j]? = some x) : i=j:=by
 obtain ⟨h1,e1⟩:=List.getElem?_eq_some_iff.mp a
 obtain ⟨h2,e2⟩:=List.getElem?_eq_some_iff.mp b
 exact (List.getElem_inj hN).mp (e1.trans e2.symm)

theorem store_ok2 {M:Model} {A:Around} {E:Value→Shared→Prop} {i:Nat} {x:Str} {v:V} {u:Value} {Q:Unit→Shared→Prop} (I:Inv X pins σ H s) (hN:X.N.Nodup) (hi:X.N[i]? = some x) (hx:Loc X.env.scope x) (r:RelV v u)
  (h:∀ s',Inv X pins (σ.set i (some v)) H s'→(∃ a,Heap.SameBut a s.heap s'.heap∧(a=X.env.locals∨X.env.cells.lookup x=some a))→Q () s') (hf:X.fn x=true∨X.env.scope.names.lookup x=some .local:=by first | exact .inl rfl | exact .inr rfl | assumption) : wpAny M A (storeName X.env x u) Q E s:=by
 obtain ⟨m,hn,hl⟩:=id I.loc
 have hcls:(X.env.scope.kind == .class || (X.env.scope.kind == .module && X.env.locals != X.env.globals))=false:=by rw [I.ok.kind]; rfl
 have hiσ:i < σ.length:=by rw [I.len]; exact (List.getElem?_eq_some_iff.mp hi).1
 have cne:=I.cne
 have tracked:∀ {a:Addr} {h':Heap},(∃ o,s.heap.get? a=some o∧H a=none)→Heap.SameBut a s.heap h'→HOk X.prog X.w H h':=fun {a h'} ha hs b ob e=>by
  obtain ⟨_,_,hfree⟩:=ha
  refine (I.hok b ob e).stay (fun c w' hc q=>(hs.2 c ?_).trans q) (fun _ q=>q) fun _ _ q=>q
  rintro rfl
  rcases hc with rfl | hc
  ·rw [hfree] at e; cases e
  ·rw [hfree] at hc; cases hc
 rcases hx with hk | hk
 ·refine wpAny_storeName_local hk hn (fun h' hn' hs=>?_) hcls
  obtain ⟨oL,_,_,hoL,_⟩:=id hn
  refine h _ ⟨I.ok,I.os,I.bare,⟨fun b o e n hb hx=>?_,fun b o e n hb hx=>?_,I.base.free,fun b o e hx=>?_,I.base.tups,I.base.frzs,I.base.tbls⟩,⟨_,hn',fun j y v' e1 e2 e3=>?_⟩,fun y c e=>?_,I.free,I.freeC,fun p hp=>?_,tracked ⟨oL,hoL,I.free⟩ hs,by simpa using I.len⟩ ⟨_,hs,.inl rfl⟩
  ·exact (hs.2 b (Nat.ne_of_lt (Nat.lt_of_lt_of_le (Heap.lt_size e) I.ok.above))).trans (I.base.keep b o e n hb hx)
  ·obtain ⟨sl,e1⟩:=I.base.slot b o e n hb hx
   exact ⟨sl,(hs.2 b (Nat.ne_of_lt (Nat.lt_of_lt_of_le (Heap.lt_size e) I.ok.above))).trans e1⟩
  ·obtain ⟨o',e1⟩:=I.base.there b o e hx
   exact ⟨o',(hs.2 b (Nat.ne_of_lt (Nat.lt_of_lt_of_le (Heap.lt_size e) I.ok.above))).trans e1⟩
  ·by_cases hj:j=i
   ·subst hj
    rw [hi] at e1; cases e1
    rw [List.getElem?_set_self hiσ] at e2
    cases e2
    exact ⟨u,r,.inl ⟨hk,by simp⟩⟩
   ·rw [List.getElem?_set_ne (Ne.symm hj)] at e2
    obtain ⟨u',r',q⟩:=hl j y v' e1 e2 e3
    refine ⟨u',r',?_⟩
    rcases q with ⟨k,e⟩ | ⟨k,c,e,z⟩
    ·refine .inl ⟨k,?_⟩
     have:y≠x:=fun e=>hj (nodup_ix hN e1 (e ▸ hi))
     simp [this,e]
    ·exact .inr ⟨k,c,e,z.sameBut hs (cne y c e)⟩
  ·obtain ⟨w',z⟩:=I.cell y c e
   exact ⟨w',z.sameBut hs (cne y c e)⟩
  ·obtain ⟨e,n,ne,nf,d⟩:=I.pin p hp
   exact ⟨(hs.2 p.1 ne).trans e,n,ne,nf,d⟩
 ·have hfn:X.fn x=true:=by
   rcases hf with z | z
   ·exact z
   ·rw [z] at hk; cases hk
  obtain ⟨c,hc⟩:=I.ok.has x (.inl hk)
  obtain ⟨w',z⟩:=I.cell x c hc
  refine wpAny_storeName_cell I.ok.kind hk hc z (fun h' hc' hs=>?_)
  obtain ⟨oc,hoc,hocd⟩:=id z
  refine h { s with heap:=h' } ⟨I.ok,I.os,I.bare,⟨fun b o e n hb hx=>?_,fun b o e n hb hx=>?_,I.base.free,fun b o e hx=>?_,I.base.tups,I.base.frzs,I.base.tbls⟩,⟨m,hn.sameBut hs (Ne.symm (cne x c hc)),fun j y v' e1 e2 e3=>?_⟩,fun y c' e=>?_,I.free,I.freeC,fun p hp=>?_,tracked ⟨oc,hoc,I.freeC x c hc⟩ hs,by simpa using I.len⟩ ⟨c,hs,.inr hc⟩
  ·exact (hs.2 b (Nat.ne_of_lt (Nat.lt_of_lt_of_le (Heap.lt_size e) (I.ok.cab x c hfn hc)))).trans (I.base.keep b o e n hb hx)
  ·obtain ⟨sl,e1⟩:=I.base.slot b o e n hb hx
   exact ⟨sl,(hs.2 b (Nat.ne_of_lt (Nat.lt_of_lt_of_le (Heap.lt_size e) (I.ok.cab x c hfn hc)))).trans e1⟩
  ·obtain ⟨o',e1⟩:=I.base.there b o e hx
   exact ⟨o',(hs.2 b (Nat.ne_of_lt (Nat.lt_of_lt_of_le (Heap.lt_size e) (I.ok.cab x c hfn hc)))).trans e1⟩
  ·by_cases hj:j=i
   ·subst hj
    rw [hi] at e1; cases e1
    rw [List.getElem?_set_self hiσ] at e2
    cases e2
    exact ⟨u,r,.inr ⟨.inl hk,c,hc,hc'⟩⟩
   ·rw [List.getElem?_set_ne (Ne.symm hj)] at e2
    obtain ⟨u',r',q⟩:=hl j y v' e1 e2 e3
    refine ⟨u',r',?_⟩
    rcases q with q | ⟨k,c',e,z'⟩
    ·exact .inl q
    ·refine .inr ⟨k,c',e,z'.sameBut hs ?_⟩
     rintro rfl
     exact hj (nodup_ix hN e1 (I.ok.inj _ _ _ e hc ▸ hi))
  ·by_cases hcc:c' = c
   ·subst hcc; exact ⟨_,hc'⟩
   ·obtain ⟨w2,z2⟩:=I.cell y c' e
    exact ⟨w2,z2.sameBut hs hcc⟩
  ·obtain ⟨e,n,ne,nf,d⟩:=I.pin p hp
   refine ⟨(hs.2 p.1 ?_).trans e,n,ne,nf,d⟩
   intro q
   rw [q,hoc] at e
   have q':oc=p.2:=Option.some.inj e
   exact d w' (by rw [← q']; exact hocd)
theorem store_ok {M:Model} {A:Around} {E:Value→Shared→Prop} {i:Nat} {x:Str} {v:V} {u:Value} {Q:Unit→Shared→Prop} (I:Inv X pins σ H s) (hN:X.N.Nodup) (hi:X.N[i]? = some x) (hx:Loc X.env.scope x) (r:RelV v u)
  (h:∀ s',Inv X pins (σ.set i (some v)) H s'→Q () s') (hf:X.fn x=true∨X.env.scope.names.lookup x=some .local:=by first | exact .inl rfl | exact .inr rfl | assumption) : wpAny M A (storeName X.env x u) Q E s:=
 store_ok2 I hN hi hx r (fun s' I' _=>h s' I') hf
theorem Inv.call' {s':Shared} {ch:List Addr} (I:Inv X pins σ H s) (ho:s'.os=s.os) (u:Un (frs X.stack) ch H H' s.heap s'.heap) (hok:HOk X.prog X.w H' s'.heap) (hg:AllBare s'.gens)
  (hch:∀ b ∈ ch,(b ∈ X.ex∨X.s₀.heap.objs.size≤b)∧b≠X.env.locals∧(∀ x c,X.env.cells.lookup x=some c→c≠b)∧∀ p ∈ X.pn++pins,p.1≠b) : Inv X pins σ H' s':=by
 obtain ⟨h',g',d',t',o'⟩:=s'
 have e:o' = s.os:=ho
 subst e
 exact I.call (g':=g') (t':=t') (d':=d') u hok hg hch
end

abbrev XK:=Value→Option Addr→Hp→Prop
abbrev St:=List (Option V)
abbrev VK:=V→Hp→Prop
abbrev TE:=St→Hp→VK→Prop
abbrev TT:=St→Hp→(Bool→Hp→Prop)→Prop
abbrev TA:=St→Hp→(List V→Hp→Prop)→Prop
structure Ends where
 nx:St→Hp→Prop
 rt:VK
 bk:St→Hp→Prop:=fun _ _=>False
 ct:St→Hp→Prop:=fun _ _=>False
abbrev TS:=Ends→St→Hp→Prop

def EP (X:Cx) (pins:List (Addr × Obj)) (σ:St) (Q:VK) (u:Value) (s':Shared) : Prop:=∃ v H',Inv X pins σ H' s'∧RelV v u∧Q v H'
def TP (X:Cx) (pins:List (Addr × Obj)) (σ:St) (Q:Bool→Hp→Prop) (b:Bool) (s':Shared) : Prop:=∃ H',Inv X pins σ H' s'∧Q b H'
def AP (X:Cx) (pins:List (Addr × Obj)) (σ:St) (Q:List V→Hp→Prop) (us:List Value) (s':Shared) : Prop:=∃ vs H',Inv X pins σ H' s'∧Vals vs us∧Q vs H'
def SP (X:Cx) (pins:List (Addr × Obj)) (D:Ends) (f:Flow) (s':Shared) : Prop:=
 match f with
 | .next=>∃ σ' H',Inv X pins σ' H' s'∧D.nx σ' H'
 | .brk=>∃ σ' H',Inv X pins σ' H' s'∧D.bk σ' H'
 | .cont=>∃ σ' H',Inv X pins σ' H' s'∧D.ct σ' H'
 | .ret u=>∃ v σ' H',Inv X pins σ' H' s'∧RelV v u∧D.rt v H'

def PE (X:Cx) (e:Expr) (t:TE) : Prop:=
 ∀ (pins:List (Addr × Obj)) (s:Shared) (σ:St) (H:Hp) (Q:VK),Inv X pins σ H s→t σ H Q→wpAny (model X.prog X.w) X.A (eval e X.env) (EP X pins σ Q) X.xe s
def PT (X:Cx) (e:Expr) (t:TT) : Prop:=
 ∀ (pins:List (Addr × Obj)) (s:Shared) (σ:St) (H:Hp) (Q:Bool→Hp→Prop),Inv X pins σ H s→t σ H Q→wpAny (model X.prog X.w) X.A (isTrue e X.env (eval e X.env)) (TP X pins σ Q) X.xe s
def PW (X:Cx) (e:Expr) (t:TT) : Prop:=
 ∀ (whole:Sem Value) (pins:List (Addr × Obj)) (s:Shared) (σ:St) (H:Hp) (Q:Bool→Hp→Prop),Inv X pins σ H s→t σ H Q→wpAny (model X.prog X.w) X.A (isTrue e X.env whole) (TP X pins σ Q) X.xe s
theorem PW.pt {X:Cx} {e:Expr} {t:TT} (h:PW X e t) : PT X e t:=h _
def PA (X:Cx) (es:List Expr) (t:TA) : Prop:=
 ∀ (pos:Pos) (pins:List (Addr × Obj)) (s:Shared) (σ:St) (H:Hp) (Q:List V→Hp→Prop),Inv X pins σ H s→t σ H Q→wpAny (model X.prog X.w) X.A (spliced (backTo pos (starEach es X.env))) (AP X pins σ Q) X.xe s
def PS (X:Cx) (st:Stmt) (t:TS) : Prop:=
 ∀ (pins:List (Addr × Obj)) (s:Shared) (σ:St) (H:Hp) (D:Ends),Inv X pins σ H s→t D σ H→wpAny (model X.prog X.w) X.A (exec st X.env) (SP X pins D) X.xe s
def PSs (X:Cx) (st:List Stmt) (t:TS) : Prop:=
 ∀ (pins:List (Addr × Obj)) (s:Shared) (σ:St) (H:Hp) (D:Ends),Inv X pins σ H s→t D σ H→wpAny (model X.prog X.w) X.A (execs st X.env) (SP X pins D) X.xe s
theorem thn {α:Type} {t:Sem α} {Q Q':α→Shared→Prop} {M:Model} {A:Around} {E:Value→Shared→Prop} {s:Shared} (h:wpAny M A t Q E s) (hQ:∀ a s,Q a s→Q' a s) : wpAny M A t Q' E s:=wpAny_mono h hQ fun _ _ x=>x
section
variable {X:Cx}

def tVar (i:Nat) : TE:=fun σ H Q=>∃ v,σ[i]? = some (some v)∧Q v H
def tC (v:V) : TE:=fun _ H Q=>Q v H
theorem pe_var {i:Nat} {x:Str} {pos:Pos} (hN:X.N[i]? = some x) (hv:Vis X.env.scope x) (hd:(x == ("__debug__" : Str))=false:=by decide) (hcd:(x == ("__classdict__" : Str))=false:=by decide) : PE X (.Name x pos) (tVar i):=by
 intro pins s σ H Q I h
 obtain ⟨v,e,h⟩:=h
 obtain ⟨m,hn,hl⟩:=I.loc
 obtain ⟨u,r,l⟩:=hl i x v hN e hv
 have fin:EP X pins σ Q u s:=⟨v,H,I,r,h⟩
 rcases l with ⟨hk,hm⟩ | ⟨hk,c,hc,hcell⟩
 ·exact wpAny_Name (wpAny_loadName_local I.ok.kind hk hn hm fin) hd
 ·rcases hk with hk | hk
  ·exact wpAny_Name (wpAny_loadName_cell I.ok.kind hk hc hcell fin) hd
  ·exact wpAny_Name (wpAny_loadName_free I.ok.kind hk hc hcell fin hcd) hd
theorem pe_int {i j pos} : PE X (.Constant (.int i) j pos) (tC (.int i)):=fun _ _ _ H _ I h=>wpAny_Constant_int ⟨.int i,H,I.tok _,⟨_,rfl⟩,h⟩
theorem pe_bl {b j pos} : PE X (.Constant (.bool b) j pos) (tC (.bl b)):=fun _ _ _ H _ I h=>Constant_bool ⟨.bl b,H,I,rfl,h⟩
theorem pe_non {j pos} : PE X (.Constant .none j pos) (tC .non):=fun _ _ _ H _ I h=>Constant_none ⟨.non,H,I,rfl,h⟩
theorem pe_str {x j pos} : PE X (.Constant (.str x) j pos) (tC (.str x)):=fun _ _ _ H _ I h=>Calls.Constant_str ⟨.str x,H,I.tok _,⟨_,rfl⟩,h⟩

def Gl (X:Cx) (x:Str) : Prop:=X.env.kindOf x=some .globalImplicit
theorem ld_glob {E:Value→Shared→Prop} {pins:List (Addr × Obj)} {s:Shared} {σ:St} {H:Hp} {x:Str} {u:Value} {pos:Pos} {Q:Value→Shared→Prop} (I:Inv X pins σ H s) (hg:Gl X x) (hm:X.mg x=some u) (h:Q u s)
  (hd:(x == ("__debug__" : Str))=false:=by decide) : wpAny (model X.prog X.w) X.A (eval (.Name x pos) X.env) Q E s:=
 Calls.Name_function_global I.ok.kind hg (Calls.loadGlobal_global (by rw [I.ok.glob]; exact I.mod.glob.keeps I.bk) hm h) hd
theorem ld_blt {E:Value→Shared→Prop} {pins:List (Addr × Obj)} {s:Shared} {σ:St} {H:Hp} {x:Str} {u:Value} {pos:Pos} {Q:Value→Shared→Prop} (I:Inv X pins σ H s) (hg:Gl X x) (hm:X.mg x=none) (hv:bootBuiltins x=some u) (h:Q u s)
  (hn:x≠"__name__":=by decide) (hd:(x == ("__debug__" : Str))=false:=by decide) : wpAny (model X.prog X.w) X.A (eval (.Name x pos) X.env) Q E s:=by
 obtain ⟨mb,h1,h2⟩:=I.mod.blt
 exact Calls.Name_function_global I.ok.kind hg (Calls.loadGlobal_builtin (by rw [I.ok.glob]; exact I.mod.glob.keeps I.bk) hm (by rw [I.ok.blt]; exact h1.keeps I.bk) ((h2 x hn).trans hv) h) hd
theorem pe_glob {x:Str} {v:V} {u:Value} {pos:Pos} (hg:Gl X x) (hm:X.mg x=some u) (r:RelV v u) (hd:(x == ("__debug__" : Str))=false:=by decide) : PE X (.Name x pos) (tC v):=
 fun _ _ _ H _ I h=>ld_glob I hg hm ⟨v,H,I,r,h⟩ hd
theorem pe_bltn {x:Str} {v:V} {u:Value} {pos:Pos} (hg:Gl X x) (hm:X.mg x=none) (hv:bootBuiltins x=some u) (r:RelV v u) (hn:x≠"__name__":=by decide) (hd:(x == ("__debug__" : Str))=false:=by decide) : PE X (.Name x pos) (tC v):=
 fun _ _ _ H _ I h=>ld_blt I hg hm hv ⟨v,H,I,r,h⟩ hn hd

variable {a b:Expr} {ta tb:TE} {pos:Pos}
def tB (t:TE) : TT:=fun σ H Q=>t σ H fun x H1=>∃ c,x = .bl c∧Q c H1
theorem pt_val {e:Expr} {t:TE} (h:PE X e t) (he:∀ whole,isTrue e X.env whole=(do let v ← whole; standAt e.pos; holding [v] (truthy v)):=by intro _; rfl) : PT X e (tB t):=by
 intro pins s σ H Q I hw
 refine isTrue_plain (thn (h pins s σ H _ I hw) fun v s1 ⟨x,H1,I1,r1,q1⟩=>?_) (he _)
 obtain ⟨d,rfl,q⟩:=q1
 cases r1
 exact wpAny_truthy_bool ⟨H1,I1,q⟩

variable {tA tB':TT} {rest:List Expr}
def tAnd (t u:TT) : TT:=fun σ H Q=>t σ H fun c H1=>if c=true then u σ H1 Q else Q false H1
def tOr (t u:TT) : TT:=fun σ H Q=>t σ H fun c H1=>if c=true then Q true H1 else u σ H1 Q
def tNot (t:TT) : TT:=fun σ H Q=>t σ H fun c H1=>Q (!c) H1
theorem pw_and1 (ha:PT X a tA) : PW X (.BoolOp .And [a] pos) tA:=by
 intro wh pins s σ H Q I h
 refine isTrue_and (thn (ha pins s σ H Q I h) fun c s1 e=>?_)
 cases c with
 | true=>exact isTrue_and_nil e
 | false=>exact e
theorem pw_or1 (ha:PT X a tA) : PW X (.BoolOp .Or [a] pos) tA:=by
 intro wh pins s σ H Q I h
 refine isTrue_or (thn (ha pins s σ H Q I h) fun c s1 e=>?_)
 cases c with
 | false=>exact isTrue_or_nil e
 | true=>exact e
theorem pw_and (ha:PT X a tA) (hb:PW X (.BoolOp .And (b :: rest) pos) tB') : PW X (.BoolOp .And (a :: b :: rest) pos) (tAnd tA tB'):=by
 intro wh pins s σ H Q I h
 refine isTrue_and (thn (ha pins s σ H _ I h) fun c s1 ⟨H1,I1,q1⟩=>?_)
 cases c with
 | true=>exact hb wh pins s1 σ H1 Q I1 q1
 | false=>exact ⟨H1,I1,q1⟩
theorem pw_or (ha:PT X a tA) (hb:PW X (.BoolOp .Or (b :: rest) pos) tB') : PW X (.BoolOp .Or (a :: b :: rest) pos) (tOr tA tB'):=by
 intro wh pins s σ H Q I h
 refine isTrue_or (thn (ha pins s σ H _ I h) fun c s1 ⟨H1,I1,q1⟩=>?_)
 cases c with
 | true=>exact ⟨H1,I1,q1⟩
 | false=>exact hb wh pins s1 σ H1 Q I1 q1
theorem pt_not (ha:PT X a tA) : PT X (.UnaryOp .Not a pos) (tNot tA):=by
 intro pins s σ H Q I h
 exact isTrue_not (ha pins s σ H (fun c H1=>Q (!c) H1) I h)
def tAndV (ta tb:TE) : TE:=fun σ H Q=>ta σ H fun x H1=>∃ c,x = .bl c∧if c=true then tb σ H1 Q else Q (.bl false) H1
def tNotV (ta:TE) : TE:=fun σ H Q=>ta σ H fun x H1=>∃ c,x = .bl c∧Q (.bl (!c)) H1
theorem pe_one {op} {t:TE} (h:PE X a t) : PE X (.BoolOp op [a] pos) t:=fun pins s σ H Q I hw=>BoolOp_one (h pins s σ H Q I hw)
theorem pe_and (ha:PE X a ta) (hb:PE X (.BoolOp .And (b :: rest) pos) tb) : PE X (.BoolOp .And (a :: b :: rest) pos) (tAndV ta tb):=by
 intro pins s σ H Q I h
 refine BoolOp_and (thn (ha pins s σ H _ I h) fun v s1 ⟨x,H1,I1,r1,q1⟩=>?_)
 obtain ⟨c,rfl,q1⟩:=q1
 cases r1
 refine wpAny_truthy_bool ?_
 cases c with
 | true=>exact hb pins s1 σ H1 Q I1 q1
 | false=>exact ⟨.bl false,H1,I1,rfl,q1⟩
theorem pe_not (ha:PE X a ta) : PE X (.UnaryOp .Not a pos) (tNotV ta):=by
 intro pins s σ H Q I h
 refine UnaryOp_ (thn (ha pins s σ H _ I h) fun v s1 ⟨x,H1,I1,r1,q1⟩=>?_)
 obtain ⟨c,rfl,q1⟩:=q1
 cases r1
 exact not_of (wpAny_truthy_bool ⟨.bl (!c),H1,I1,rfl,q1⟩)
end

def SqL (K:PySem.W.Frag) (H:Hp) (a:Addr) (xs:List V) : Prop:=
 Rd H a (.lst xs) ∨
  ∃ (o:Obj) (its:Array Value) (n:Nat),K.lookup a=some o∧o.cls = .type "list"∧o.dict=none∧o.data = .seq its n∧its.size≤sizeLine∧Vals xs its.toList
def SqT (K:PySem.W.Frag) (H:Hp) (a:Addr) (xs:List V) : Prop:=
 Rd H a (.tup xs) ∨
  ∃ (o:Obj) (its:Array Value) (n:Nat),K.lookup a=some o∧o.cls = .type "tuple"∧o.data = .seq its n∧its.size≤sizeLine∧Vals xs its.toList
def absV:Value→Option V
 | .none=>some .non
 | .bool b=>some (.bl b)
 | .int i _=>some (.int i)
 | .str x _=>some (.str x)
 | .bytes b _=>some (.byt b)
 | .float b _=>some (.flt b)
 | .ref a=>some (.ref a)
 | .type n=>some (.ty n)
 | _=>none
theorem RelV.abs {x:V} {u:Value} (r:RelV x u) : absV u=some x:=by
 cases x with
 | non=>cases r; rfl
 | bl _=>cases r; rfl
 | int _=>obtain ⟨t,rfl⟩:=r; rfl
 | str _=>obtain ⟨t,rfl⟩:=r; rfl
 | byt _=>obtain ⟨t,rfl⟩:=r; rfl
 | flt _=>obtain ⟨t,rfl⟩:=r; rfl
 | ref _=>cases r; rfl
 | ty _=>cases r; rfl
theorem RelV.inj {x y:V} {u:Value} (r:RelV x u) (q:RelV y u) : x=y:=Option.some.inj (r.abs.symm.trans q.abs)
theorem Vals.inj:∀ {xs ys:List V} {us:List Value},Vals xs us→Vals ys us→xs=ys
 | _,_,_,.nil,.nil=>rfl
 | _,_,_,.cons r t,.cons r' t'=>by rw [r.inj r',Vals.inj t t']
section
variable {X:Cx} {pins:List (Addr × Obj)} {σ:St} {H:Hp} {s:Shared} {a:Addr} {xs ys:List V}
theorem SqL.of {K:PySem.W.Frag} (h:H a=some (.lst xs)) : SqL K H a xs:=.inl (.inl h)
theorem SqT.of {K:PySem.W.Frag} (h:H a=some (.tup xs)) : SqT K H a xs:=.inl (.inl h)
theorem Inv.list (I:Inv X pins σ H s) (h:SqL X.K H a xs) : ∃ its:List Value,Vals xs its∧PlainL s.heap a its.toArray∧xs.length≤sizeLine:=by
 rcases h with h | ⟨o,its,n,hk,hc,hd,hs,hz,r⟩
 ·obtain ⟨z,its,n,r,e⟩:=h.ok I.hok
  exact ⟨its,r,⟨_,n,e,rfl,rfl,rfl⟩,z⟩
 ·refine ⟨its.toList,r,⟨o,n,I.kIn a o hk,hc,hd,by simpa using hs⟩,?_⟩
  have e:=r.length
  simp only [Array.length_toList] at e
  omega
theorem Inv.tuple (I:Inv X pins σ H s) (h:SqT X.K H a xs) : ∃ its:List Value,Vals xs its∧IsTup s.heap a its.toArray∧xs.length≤sizeLine:=by
 rcases h with h | ⟨o,its,n,hk,hc,hs,hz,r⟩
 ·obtain ⟨z,its,r,p⟩:=h.ok I.hok
  exact ⟨its,r,p,z⟩
 ·refine ⟨its.toList,r,⟨o,I.kIn a o hk,hc,n,by simpa using hs⟩,?_⟩
  have e:=r.length
  simp only [Array.length_toList] at e
  omega
theorem Inv.list_inj (I:Inv X pins σ H s) (h:SqL X.K H a xs) (h':SqL X.K H a ys) : xs=ys:=by
 obtain ⟨its,r,⟨o,n,e,_,_,d⟩,_⟩:=I.list h
 obtain ⟨its',r',⟨o',n',e',_,_,d'⟩,_⟩:=I.list h'
 rw [e] at e'; cases e'
 rw [d] at d'
 injection d' with d1 _
 have:its=its':=by simpa using congrArg Array.toList d1
 subst this
 exact r.inj r'
theorem Inv.tuple_inj (I:Inv X pins σ H s) (h:SqT X.K H a xs) (h':SqT X.K H a ys) : xs=ys:=by
 obtain ⟨its,r,⟨o,e,_,n,d⟩,_⟩:=I.tuple h
 obtain ⟨its',r',⟨o',e',_,n',d'⟩,_⟩:=I.tuple h'
 rw [e] at e'; cases e'
 rw [d] at d'
 injection d' with d1 _
 have:its=its':=by simpa using congrArg Array.toList d1
 subst this
 exact r.inj r'
end

abbrev Cx.wish (X:Cx) (E:Value→Shared→Prop) : Cx:={ X with xe:=E }
abbrev Cx.nox (X:Cx) : Cx:=X.wish fun _ _=>False
theorem Cx.Ok.wish {X:Cx} (ok:X.Ok) (E:Value→Shared→Prop) : (X.wish E).Ok:=
 ⟨ok.mod,ok.kind,ok.glob,ok.blt,ok.above,ok.inj,ok.has,ok.cab,ok.hd,ok.frames,ok.stk,ok.exf,ok.bs,ok.bsz,ok.noex,ok.exfs,ok.funs,ok.frf⟩
theorem Cx.Ok.unwish {X:Cx} {E:Value→Shared→Prop} (ok:(X.wish E).Ok) : X.Ok:=
 ⟨ok.mod,ok.kind,ok.glob,ok.blt,ok.above,ok.inj,ok.has,ok.cab,ok.hd,ok.frames,ok.stk,ok.exf,ok.bs,ok.bsz,ok.noex,ok.exfs,ok.funs,ok.frf⟩
section
variable {X:Cx} {pins:List (Addr × Obj)} {σ:St} {H:Hp} {s:Shared} {E:Value→Shared→Prop}
theorem Inv.wish (I:Inv X pins σ H s) (E:Value→Shared→Prop) : Inv (X.wish E) pins σ H s:=⟨I.ok.wish E,I.os,I.bare,I.base,I.loc,I.cell,I.free,I.freeC,I.pin,I.hok,I.len⟩
theorem Inv.unwish (I:Inv (X.wish E) pins σ H s) : Inv X pins σ H s:=⟨I.ok.unwish,I.os,I.bare,I.base,I.loc,I.cell,I.free,I.freeC,I.pin,I.hok,I.len⟩
theorem SP.unwish {D:Ends} {f:Flow} {s':Shared} (h:SP (X.wish E) pins D f s') : SP X pins D f s':=by
 cases f with
 | next=>obtain ⟨σ',H',I,q⟩:=h; exact ⟨σ',H',I.unwish,q⟩
 | brk=>obtain ⟨σ',H',I,q⟩:=h; exact ⟨σ',H',I.unwish,q⟩
 | cont=>obtain ⟨σ',H',I,q⟩:=h; exact ⟨σ',H',I.unwish,q⟩
 | ret u=>obtain ⟨v,σ',H',I,r,q⟩:=h; exact ⟨v,σ',H',I.unwish,r,q⟩
theorem PSs.nox {st:List Stmt} {t:TS} (h:PSs X.nox st t) : PSs X st t:=fun pins s σ H D I hw =>
 wpAny_mono (h pins s σ H D (I.wish _) hw) (fun _ _ q=>q.unwish) fun _ _ z=>False.elim z
end

section
variable {X:Cx} {st:Stmt} {rest:List Stmt} {t u:TS} {e:Expr} {te:TE} {pos:Pos}
def tNext:TS:=fun D σ H=>D.nx σ H
def tSeq (t u:TS) : TS:=fun D σ H=>t { D with nx:=u D } σ H
theorem pss_nil:PSs X [] tNext:=fun _ _ σ H _ I h=>wpAny_execs_nil ⟨σ,H,I,h⟩
theorem pss_cons (h1:PS X st t) (h2:PSs X rest u) : PSs X (st :: rest) (tSeq t u):=by
 intro pins s σ H D I h
 refine wpAny_execs_cons (thn (h1 pins s σ H { D with nx:=u D } I h) fun f s1 q=>?_)
 cases f with
 | next =>
  obtain ⟨σ',H',I',q⟩:=q
  exact h2 pins s1 σ' H' D I' q
 | ret v=>exact q
 | brk=>exact q
 | cont=>exact q
theorem pss_one (h1:PS X st t) : PSs X [st] t:=by
 intro pins s σ H D I h
 refine wpAny_execs_cons (thn (h1 pins s σ H D I h) fun f s1 q=>?_)
 cases f with
 | next=>exact wpAny_execs_nil q
 | ret v=>exact q
 | brk=>exact q
 | cont=>exact q
theorem Inv.quiet {pins:List (Addr × Obj)} {σ:St} {H:Hp} {s:Shared} (I:Inv X pins σ H s) : interactive X.env=false:=by simp [interactive,I.ok.kind]
def tDrop (te:TE) : TS:=fun D σ H=>te σ H fun _ H1=>D.nx σ H1
theorem ps_expr (he:PE X e te) (hs:swapsWith e none pos.line X.env=pure false:=by rfl) : PS X (.Expr e pos) (tDrop te):=by
 intro pins s σ H D I h
 exact wpAny_Expr_any (thn (he pins s σ H _ I h) fun v s1 ⟨x,H1,I1,r1,q1⟩=>⟨σ,H1,I1,q1⟩) I.quiet hs
def tRet (te:TE) : TS:=fun D σ H=>te σ H D.rt
theorem ps_ret (he:PE X e te) : PS X (.Return (some e) pos) (tRet te):=by
 intro pins s σ H D I h
 exact wpAny_Return_some (thn (he pins s σ H _ I h) fun v s1 ⟨x,H1,I1,r1,q1⟩=>⟨x,σ,H1,I1,r1,q1⟩)
def tIfS (c:TT) (t u:TS) : TS:=fun D σ H=>c σ H fun b H1=>if b=true then t D σ H1 else u D σ H1
theorem ps_if {c:Expr} {a b:List Stmt} {tc:TT} (hc:PT X c tc) (ha:PSs X a t) (hb:PSs X b u) : PS X (.If c a b pos) (tIfS tc t u):=by
 intro pins s σ H D I h
 refine wpAny_If (thn (hc pins s σ H _ I h) fun d s1 ⟨H1,I1,q1⟩=>?_)
 cases d with
 | true=>exact ha pins s1 σ H1 D I1 q1
 | false=>exact hb pins s1 σ H1 D I1 q1
end

abbrev TG:=V→St→Hp→(St→Hp→Prop)→Prop
abbrev TGs:=List V→St→Hp→(St→Hp→Prop)→Prop
def PG (X:Cx) (target:Expr) (t:TG) : Prop:=
 ∀ (pins:List (Addr × Obj)) (s:Shared) (σ:St) (H:Hp) (v:V) (u:Value) (Q:St→Hp→Prop),Inv X pins σ H s→RelV v u→t v σ H Q →
  wpAny (model X.prog X.w) X.A (assign target X.env u) (fun _ s'=>∃ σ' H',Inv X pins σ' H' s'∧Q σ' H') X.xe s
def PGs (X:Cx) (ts:List Expr) (t:TGs) : Prop:=
 ∀ (pins:List (Addr × Obj)) (s:Shared) (σ:St) (H:Hp) (vs:List V) (us:List Value) (Q:St→Hp→Prop),Inv X pins σ H s→Vals vs us→t vs σ H Q →
  wpAny (model X.prog X.w) X.A (assignInOrder ((assignEach ts X.env).map (·.2)) us) (fun _ s'=>∃ σ' H',Inv X pins σ' H' s'∧Q σ' H') X.xe s
abbrev TSet:=V→V→V→Hp→(Hp→Prop)→Prop
def PSet (X:Cx) (t:TSet) : Prop:=
 ∀ (pins:List (Addr × Obj)) (s:Shared) (σ:St) (H:Hp) (o i v:V) (ov iv u:Value) (Q:Hp→Prop),Inv X pins σ H s→RelV o ov→RelV i iv→RelV v u→t o i v H Q →
  wpAny (model X.prog X.w) X.A (setItem ov iv u) (fun _ s'=>∃ H',Inv X pins σ H' s'∧Q H') X.xe s
section
variable {X:Cx} {pos:Pos}
def gName (i:Nat) : TG:=fun v σ H Q=>Q (σ.set i (some v)) H
theorem pg_name {i:Nat} {x:Str} (hN:X.N.Nodup) (hi:X.N[i]? = some x) (hx:Loc X.env.scope x) (hf:X.fn x=true∨X.env.scope.names.lookup x=some .local:=by first | exact .inl rfl | exact .inr rfl | assumption) : PG X (.Name x pos) (gName i):=by
 intro pins s σ H v u Q I r h
 exact wpAny_assign_Name (store_ok I hN hi hx r (fun s' I'=>⟨_,H,I',h⟩) hf)
def gNil:TGs:=fun vs σ H Q=>vs=[]∧Q σ H
def gCons (t:TG) (u:TGs) : TGs:=fun vs σ H Q=>∃ v r,vs=v :: r∧t v σ H fun σ' H'=>u r σ' H' Q
theorem pgs_nil:PGs X [] gNil:=by
 intro pins s σ H vs us Q I r h
 obtain ⟨e,h⟩:=h
 subst e
 cases r
 exact assignInOrder_nil ⟨σ,H,I,h⟩
theorem pgs_cons {e:Expr} {es:List Expr} {t:TG} {u:TGs} (h1:PG X e t) (h2:PGs X es u)
  (hs:(assignEach (e :: es) X.env).map (·.2)=assign e X.env :: (assignEach es X.env).map (·.2):=by rfl) : PGs X (e :: es) (gCons t u):=by
 intro pins s σ H vs us Q I r h
 obtain ⟨v,vr,e1,h⟩:=h
 subst e1
 cases r with
 | cons r rr =>
  rw [hs]
  refine assignInOrder_cons (thn (h1 pins s σ H _ _ _ I r h) fun _ s1 ⟨σ1,H1,I1,q1⟩=>?_)
  exact h2 pins s1 σ1 H1 _ _ Q I1 rr q1
def gTup (K:PySem.W.Frag) (n:Nat) (t:TGs) : TG:=fun v σ H Q=>∃ a xs,v = .ref a∧SqT K H a xs∧xs.length=n∧t xs σ H Q
theorem pg_tup {es:List Expr} {k:Nat} {t:TGs} {n:Nat} (hc:X.calm=true) (h:PGs X es t)
  (hn:(assignEach es X.env).length=n:=by rfl) (hst:(assignEach es X.env).findIdx? (·.1)=none:=by rfl) : PG X (.Tuple es k pos) (gTup X.K n t):=by
 intro pins s σ H v u Q I r hw
 obtain ⟨a,xs,e1,hq,hl,hw⟩:=hw
 subst e1
 cases r
 obtain ⟨its,rv,ht,hz⟩:=I.tuple hq
 refine assign_Tuple_tuple (I.ok.hd hc) ht (by simp [hn,← hl,rv.length]) hst fun h' hx=>?_
 have I1:Inv X pins σ H { s with heap:=h' }:=I.kept (t':=s.toks) fun b o e=>hx b o (Nat.ne_of_lt (Heap.lt_size e)) e
 exact h pins _ σ H xs _ Q I1 (by simpa using rv) hw
def gSub (to ti:TE) (t:TSet) : TG:=fun v σ H Q=>to σ H fun o H1=>ti σ H1 fun i H2=>t o i v H2 fun H3=>Q σ H3
theorem pg_sub {o i:Expr} {to ti:TE} {t:TSet} (ho:PE X o to) (hi:PE X i ti) (hs:PSet X t)
  (ha:∀ v,assign (.Subscript o i pos) X.env v=(do
   let ov ← holding [v] (eval o X.env)
   let iv ← holding [v,ov] (eval i X.env)
   standAt pos
   holding [v,ov,iv] (setItem ov iv v)
   release [v,ov,iv] []):=by intro _; rfl) : PG X (.Subscript o i pos) (gSub to ti t):=by
 intro pins s σ H v u Q I r h
 rw [ha]
 refine wpAny_bind (wpAny_holding (thn (ho pins s σ H _ I h) fun ov s1 ⟨x,H1,I1,r1,q1⟩=>?_))
 refine wpAny_bind (wpAny_holding (thn (hi pins s1 σ H1 _ I1 q1) fun iv s2 ⟨y,H2,I2,r2,q2⟩=>?_))
 refine wpAny_bind (wpAny_standAt (wpAny_bind (wpAny_holding (thn (hs pins s2 σ H2 x y v ov iv u _ I2 r1 r2 r q2) fun _ s3 ⟨H3,I3,q3⟩=>?_))))
 exact wpAny_release ⟨σ,H3,I3,q3⟩
def tAsg (te:TE) (g:TG) : TS:=fun D σ H=>te σ H fun x H1=>g x σ H1 D.nx
theorem ps_asg {tg e:Expr} {te:TE} {g:TG} (he:PE X e te) (hg:PG X tg g) (hs:swapsWithSole [tg] e pos.line X.env=pure false:=by rfl) (hw:swappedStores [tg] e X.env=pure none:=by rfl)
  (h1:(assignEach [tg] X.env).map (·.2)=[assign tg X.env]:=by rfl) : PS X (.Assign [tg] e pos) (tAsg te g):=by
 intro pins s σ H D I h
 refine wpAny_Assign_stores (thn (he pins s σ H _ I h) fun v s1 ⟨x,H1,I1,r1,q1⟩=>?_) hs hw
 rw [h1]
 exact thn (hg pins s1 σ H1 x v _ I1 r1 q1) fun _ s2 q=>q
theorem ps_set {i:Nat} {x:Str} {e:Expr} {te:TE} {pos':Pos} (hN:X.N.Nodup) (hi:X.N[i]? = some x) (hx:Loc X.env.scope x) (he:PE X e te) (hs:swapsWith e (some (.Name x pos')) pos.line X.env=pure false:=by rfl) (hf:X.fn x=true∨X.env.scope.names.lookup x=some .local:=by first | exact .inl rfl | exact .inr rfl | assumption) :
  PS X (.Assign [.Name x pos'] e pos) (tAsg te (gName i)):=by
 intro pins s σ H D I h
 refine wpAny_Assign_Name (thn (he pins s σ H _ I h) fun v s1 ⟨y,H1,I1,r1,q1⟩=>?_) hs
 exact store_ok I1 hN hi hx r1 (fun s2 I2=>⟨_,H1,I2,q1⟩) hf
end

section
variable {X:Cx} {pos:Pos}
def tWhile (c:TT) (tb:TS) : TS:=fun D σ H=>∃ W:Nat→St→Hp→Prop,(∃ m,W m σ H)∧∀ m σ H,W m σ H →
 c σ H fun b H1=>if b=true then ∃ N:St→Hp→Prop,(∀ σ' H',N σ' H'→∃ m',m' < m∧W m' σ' H')∧tb { D with nx:=N,ct:=N,bk:=D.nx } σ H1 else D.nx σ H1
theorem ps_while {c:Expr} {body:List Stmt} {tc:TT} {tb:TS} (hp:PassesOwn (model X.prog X.w) X.A X.env X.xe) (hc:PT X c tc) (hb:PSs X body tb) : PS X (.While c body [] pos) (tWhile tc tb):=by
 intro pins s σ H D I h
 obtain ⟨W,⟨m0,w0⟩,turn⟩:=h
 refine wpAny_While (codeAny_whileLoop (fun n s'=>∃ σ' H',Inv X pins σ' H' s'∧W n σ' H') ?_ m0 ⟨σ,H,I,w0⟩)
 rintro n s1 ⟨σ1,H1,I1,w1⟩
 refine wpAny_passesOwn hp (thn (hc pins s1 σ1 H1 _ I1 (turn n σ1 H1 w1)) fun b s2 ⟨H2,I2,q2⟩=>?_)
 cases b with
 | true =>
  obtain ⟨N,hN,q2⟩:=q2
  rw [if_pos rfl]
  refine wpAny_passesOwn hp (thn (hb pins s2 σ1 H2 _ I2 q2) fun f s3 q3=>?_)
  cases f with
  | next =>
   obtain ⟨σ3,H3,I3,n3⟩:=q3
   obtain ⟨m',hm,w3⟩:=hN σ3 H3 n3
   exact ⟨m',hm,σ3,H3,I3,w3⟩
  | cont =>
   obtain ⟨σ3,H3,I3,n3⟩:=q3
   obtain ⟨m',hm,w3⟩:=hN σ3 H3 n3
   exact ⟨m',hm,σ3,H3,I3,w3⟩
  | brk=>exact q3
  | ret v=>exact q3
 | false =>
  rw [if_neg Bool.false_ne_true]
  exact wpAny_execs_nil ⟨σ1,H2,I2,q2⟩
end

structure It where
 go:Nat→Hp→Prop
 yld:Nat→Hp→V→Hp→Prop
 stop:Nat→Hp→Prop
def FpOk (X:Cx) (pins:List (Addr × Obj)) (H:Hp) (b:Addr) : Prop:=
 H b=none∧b≠X.env.locals∧b ∉ X.fs∧(b ∈ X.ex∨X.s₀.heap.objs.size≤b)∧(∀ x c,X.env.cells.lookup x=some c→c≠b)∧∀ p ∈ X.pn++pins,p.1≠b
theorem Inv.fpOk {X:Cx} {pins:List (Addr × Obj)} {σ:St} {H H':Hp} {s:Shared} {b:Addr} (I:Inv X pins σ H s) (hb:s.heap.objs.size≤b) (hn:H' b=none) : FpOk X pins H' b:=by
 refine ⟨hn,Nat.ne_of_gt (Nat.lt_of_lt_of_le I.lt hb),I.nofs hb,.inr (Nat.le_trans I.sz hb),fun x c e z=>?_,fun p hp z=>?_⟩
 ·obtain ⟨v,q⟩:=I.cell x c e
  exact absurd (Nat.lt_of_lt_of_le q.lt (by rw [z]; exact hb)) (Nat.lt_irrefl _)
 ·exact absurd (Nat.lt_of_lt_of_le (Heap.lt_size (I.pin p hp).1) (by rw [z]; exact hb)) (Nat.lt_irrefl _)
structure Turn (P:Program) (w:World) (K:PySem.W.Frag) (tg:Expr) (J:It) (fp:List Addr) (it:Addr) (tn:Nat→Heap→Prop) : Prop where
 mem:it ∈ fp
 obj:∀ i h,tn i h→∀ b ∈ fp,∃ o,h.get? b=some o∧∀ v,o.data≠.cell v
 keep:∀ i h h',tn i h→(∀ b ∈ fp,∀ o,h.get? b=some o→h'.get? b=some o)→tn i h'
 item:∀ (X:Cx),X.prog=P→X.w=w→X.K=K→X.calm=true→∀ (i:Nat) (pins:List (Addr × Obj)) (s:Shared) (σ:St) (H:Hp) (E:Value→Shared→Prop),Inv X pins σ H s→(∀ b ∈ fp,FpOk X pins H b)→tn i s.heap→J.go i H →
  wpAny (model P w) X.A (pyNext (.ref it)) (fun r s1=>∃ u,r=some u ∧
   wpAny (model P w) X.A (letOwnedTupleGo tg (.ref it) u) (fun _ s2=>∃ x H',Inv X pins σ H' s2∧RelV x u∧J.yld i H x H'∧tn (i+1) s2.heap∧∀ b ∈ fp,H' b=none) E s1) E s
 done:∀ (X:Cx),X.prog=P→X.w=w→X.K=K→X.calm=true→∀ (i:Nat) (pins:List (Addr × Obj)) (s:Shared) (σ:St) (H:Hp) (E:Value→Shared→Prop),Inv X pins σ H s→(∀ b ∈ fp,FpOk X pins H b)→tn i s.heap→J.stop i H →
  wpAny (model P w) X.A (pyNext (.ref it)) (fun r s1=>r=none∧Inv X pins σ H s1) E s
 self:∀ (A:Around) (i:Nat) (s:Shared) (Q:Value→Shared→Prop) (E:Value→Shared→Prop),tn i s.heap→Q (.ref it) s→wpAny (model P w) A (pyIter (.ref it)) Q E s
abbrev TI:=St→Hp→(It→Hp→Prop)→Prop
def PIE (X:Cx) (pins:List (Addr × Obj)) (σ:St) (tg:Expr) (R:It→Hp→Prop) (itv:Value) (s2:Shared) : Prop:=
 ∃ (it:Addr) (fp:List Addr) (tn:Nat→Heap→Prop) (J:It) (H':Hp),itv = .ref it∧Inv X pins σ H' s2∧Turn X.prog X.w X.K tg J fp it tn∧tn 0 s2.heap∧(∀ b ∈ fp,FpOk X pins H' b)∧R J H'
def PI (X:Cx) (tg iter:Expr) (wi:TI) : Prop:=
 ∀ (pins:List (Addr × Obj)) (s:Shared) (σ:St) (H:Hp) (R:It→Hp→Prop),Inv X pins σ H s→wi σ H R →
  wpAny (model X.prog X.w) X.A (eval iter X.env) (fun v s1=>wpAny (model X.prog X.w) X.A (pyIter v) (PIE X pins σ tg R) X.xe s1) X.xe s

theorem go_of {M:Model} {A:Around} {E:Value→Shared→Prop} {s:Shared} {tg:Expr} {it:Addr} {u:Value} {o:Obj} {n:String} {vs:Array Value} {Q:Unit→Shared→Prop} (ho:s.heap.get? it=some o) (hc:o.cls = .type n) (hd:o.data = .fields vs)
  (hn:["enumerate","zip","dict_itemiterator","dict_reverseitemiterator","odict_iterator","itertools.zip_longest","itertools.pairwise"].contains n=false) (hQ:Q () s) : wpAny M A (letOwnedTupleGo tg (.ref it) u) Q E s:=by
 unfold letOwnedTupleGo
 cases tg <;> first
  | exact wpAny_pure hQ
  | (cases u <;> first
    | exact wpAny_pure hQ
    | (refine wpAny_bind (wpAny_load ho ?_)
       rw [hc,hd]
       show wpAny M A (if (["enumerate","zip","dict_itemiterator","dict_reverseitemiterator","odict_iterator","itertools.zip_longest","itertools.pairwise"].contains n && vs[0]? == some (rawInt _))=true then _ else _) Q E s
       rw [if_neg (by intro h; rw [hn,Bool.false_and] at h; cases h)]
       exact wpAny_pure hQ))

def Itl (K:PySem.W.Frag) (a:Addr) : It:=
 ⟨fun i H=>∃ xs x,SqL K H a xs∧xs[i]? = some x,fun i H x H'=>H' = H∧∀ xs,SqL K H a xs→xs[i]? = some x,fun i H=>∃ xs,SqL K H a xs∧xs.length≤i⟩
def Itt (K:PySem.W.Frag) (a:Addr) : It:=
 ⟨fun i H=>∃ xs x,SqT K H a xs∧xs[i]? = some x,fun i H x H'=>H' = H∧∀ xs,SqT K H a xs→xs[i]? = some x,fun i H=>∃ xs,SqT K H a xs∧xs.length≤i⟩
def Itr (lo:Int) (n:Nat) : It:=⟨fun i _=>i < n,fun i H x H'=>H' = H∧x = .int (lo+i),fun i _=>n≤i⟩
theorem turn_list {P:Program} {w:World} {K:PySem.W.Frag} {tg:Expr} (a it:Addr) : Turn P w K tg (Itl K a) [it] it (fun i h=>h.IsListIter it a i) where
 mem:=by simp
 obj:=fun i h st b hb=>by
  have e:b=it:=by simpa using hb
  subst e
  obtain ⟨o,e,c,d⟩:=st
  exact ⟨o,e,fun v z=>by rw [d] at z; cases z⟩
 keep:=fun i h h' st k=>st.at fun o e=>k it (by simp) o e
 item:=by
  intro X hP hw hK hc i pins s σ H E I hf st hg
  subst hP hw hK
  obtain ⟨xs,x,hq,hx⟩:=hg
  obtain ⟨its,rv,p,hz⟩:=I.list hq
  obtain ⟨u,hu,ru⟩:=rv.get hx
  obtain ⟨f0,f1,f2,f3,f4,f5⟩:=hf it (by simp)
  refine wpAny_pyNext_list_item st p.isList (x:=u) (by simpa using hu) fun h' st' sb=>?_
  have I1:Inv X pins σ H { s with heap:=h' }:=I.turned (t':=s.toks) (fun b o hb e=>(sb.2 b hb).trans e) f0 f1 f3 f4 f5
  obtain ⟨o,e,c,d⟩:=id st'
  exact ⟨u,rfl,go_of (s:={ s with heap:=h' }) e c d (by decide) ⟨x,H,I1,ru,⟨rfl,fun ys hy=>by rw [I.list_inj hy hq]; exact hx⟩,st',fun b hb=>(hf b hb).1⟩⟩
 done:=by
  intro X hP hw hK hc i pins s σ H E I hf st hg
  subst hP hw hK
  obtain ⟨xs,hq,hx⟩:=hg
  obtain ⟨its,rv,p,hz⟩:=I.list hq
  obtain ⟨f0,f1,f2,f3,f4,f5⟩:=hf it (by simp)
  have hl:=rv.length
  exact wpAny_pyNext_list_end (I.ok.hd hc) st p.isList (by simp; omega) fun h' eb=>⟨rfl,I.turned (t':=s.toks) (fun b o hb e=>eb b o hb e) f0 f1 f3 f4 f5⟩
 self:=fun _ _ _ _ _ st h=>wpAny_pyIter_listiter st h
theorem turn_tuple {P:Program} {w:World} {K:PySem.W.Frag} {tg:Expr} (a it:Addr) : Turn P w K tg (Itt K a) [it] it (fun i h=>h.IsTupleIter it a i) where
 mem:=by simp
 obj:=fun i h st b hb=>by
  have e:b=it:=by simpa using hb
  subst e
  obtain ⟨o,e,c,d⟩:=st
  exact ⟨o,e,fun v z=>by rw [d] at z; cases z⟩
 keep:=fun i h h' st k=>st.at fun o e=>k it (by simp) o e
 item:=by
  intro X hP hw hK hc i pins s σ H E I hf st hg
  subst hP hw hK
  obtain ⟨xs,x,hq,hx⟩:=hg
  obtain ⟨its,rv,p,hz⟩:=I.tuple hq
  obtain ⟨u,hu,ru⟩:=rv.get hx
  obtain ⟨f0,f1,f2,f3,f4,f5⟩:=hf it (by simp)
  refine wpAny_pyNext_tuple_item st (show s.heap.IsTuple a its.toArray from p) (x:=u) (by simpa using hu) fun h' st' sb=>?_
  have I1:Inv X pins σ H { s with heap:=h' }:=I.turned (t':=s.toks) (fun b o hb e=>(sb.2 b hb).trans e) f0 f1 f3 f4 f5
  obtain ⟨o,e,c,d⟩:=id st'
  exact ⟨u,rfl,go_of (s:={ s with heap:=h' }) e c d (by decide) ⟨x,H,I1,ru,⟨rfl,fun ys hy=>by rw [I.tuple_inj hy hq]; exact hx⟩,st',fun b hb=>(hf b hb).1⟩⟩
 done:=by
  intro X hP hw hK hc i pins s σ H E I hf st hg
  subst hP hw hK
  obtain ⟨xs,hq,hx⟩:=hg
  obtain ⟨its,rv,p,hz⟩:=I.tuple hq
  obtain ⟨f0,f1,f2,f3,f4,f5⟩:=hf it (by simp)
  have hl:=rv.length
  exact wpAny_pyNext_tuple_end (I.ok.hd hc) st (show s.heap.IsTuple a its.toArray from p) (by simp; omega) fun h' eb=>⟨rfl,I.turned (t':=s.toks) (fun b o hb e=>eb b o hb e) f0 f1 f3 f4 f5⟩
 self:=fun _ _ _ _ _ st h=>wpAny_pyIter_tupleiter st h
theorem turn_range {P:Program} {w:World} {K:PySem.W.Frag} {tg:Expr} (it:Addr) (lo:Int) (n:Nat) : Turn P w K tg (Itr lo n) [it] it (fun i h=>IsRangeIter h it (lo+(i:Nat) * 1) ((n:Int) - (i:Nat)) 1) where
 mem:=by simp
 obj:=fun i h st b hb=>by
  have e:b=it:=by simpa using hb
  subst e
  exact ⟨_,st,fun v z=>by
   have z':Data.fields _=Data.cell v:=z
   cases z'⟩
 keep:=fun i h h' st k=>k it (by simp) _ st
 item:=by
  intro X hP hw hK hc i pins s σ H E I hf st hg
  subst hP hw hK
  obtain ⟨f0,f1,f2,f3,f4,f5⟩:=hf it (by simp)
  have W:=Walks.range (prog:=X.prog) (w:=X.w) (I.ok.hd hc) it lo 1 n
  refine W.item i s _ _ hg st fun v h' tk hv st' kk=>?_
  obtain ⟨t,rfl⟩:=hv
  have I1:Inv X pins σ H { s with heap:=h',toks:=tk }:=I.turned (fun b o hb e=>kk b o (by simpa using hb) e) f0 f1 f3 f4 f5
  refine ⟨_,rfl,go_of (s:={ s with heap:=h',toks:=tk }) (n := "range_iterator") st' rfl rfl (by decide) ⟨.int (lo+i),H,I1,⟨t,?_⟩,⟨rfl,rfl⟩,st',fun b hb=>(hf b hb).1⟩⟩
  rw [Int.mul_one]
 done:=by
  intro X hP hw hK hc i pins s σ H E I hf st hg
  subst hP hw hK
  obtain ⟨f0,f1,f2,f3,f4,f5⟩:=hf it (by simp)
  exact wpAny_pyNext_range_end (I.ok.hd hc) st (by have:n≤i:=hg; omega) fun h' eb=>⟨rfl,I.turned (t':=s.toks) (fun b o hb e=>eb b o hb e) f0 f1 f3 f4 f5⟩
 self:=fun _ _ _ _ _ st h=>wpAny_pyIter_rangeiter st h
section
variable {X:Cx} {tg:Expr}
def iList (K:PySem.W.Frag) (tl:TE) : TI:=fun σ H R=>tl σ H fun x H1=>∃ a,x = .ref a∧(∃ xs,SqL K H1 a xs)∧R (Itl K a) H1
def iTup (K:PySem.W.Frag) (tl:TE) : TI:=fun σ H R=>tl σ H fun x H1=>∃ a,x = .ref a∧(∃ xs,SqT K H1 a xs)∧R (Itt K a) H1
theorem pi_list {l:Expr} {tl:TE} (hl:PE X l tl) : PI X tg l (iList X.K tl):=by
 intro pins s σ H R I h
 refine thn (hl pins s σ H _ I h) fun v s1 ⟨x,H1,I1,r1,q1⟩=>?_
 obtain ⟨a,e,⟨xs,hq⟩,q⟩:=q1
 subst e
 cases r1
 obtain ⟨its,rv,p,hz⟩:=I1.list hq
 refine wpAny_pyIter_list p.isList ?_
 refine ⟨s1.heap.objs.size,[s1.heap.objs.size],_,_,H1,rfl,I1.kept (t':=s1.toks) fun b o e=>Heap.get?_push_of_some _ e,turn_list a _,⟨_,Heap.get?_push_size _ rfl,rfl,rfl⟩,fun b hb=>?_,q⟩
 have e:b=s1.heap.objs.size:=by simpa using hb
 subst e
 exact I1.fpOk (Nat.le_refl _) (I1.hok.fresh (Nat.le_refl _))
theorem pi_tup {l:Expr} {tl:TE} (hl:PE X l tl) : PI X tg l (iTup X.K tl):=by
 intro pins s σ H R I h
 refine thn (hl pins s σ H _ I h) fun v s1 ⟨x,H1,I1,r1,q1⟩=>?_
 obtain ⟨a,e,⟨xs,hq⟩,q⟩:=q1
 subst e
 cases r1
 obtain ⟨its,rv,p,hz⟩:=I1.tuple hq
 refine wpAny_pyIter_tuple (show s1.heap.IsTuple a its.toArray from p) ?_
 refine ⟨s1.heap.objs.size,[s1.heap.objs.size],_,_,H1,rfl,I1.kept (t':=s1.toks) fun b o e=>Heap.get?_push_of_some _ e,turn_tuple a _,⟨_,Heap.get?_push_size _ rfl,rfl,rfl⟩,fun b hb=>?_,q⟩
 have e:b=s1.heap.objs.size:=by simpa using hb
 subst e
 exact I1.fpOk (Nat.le_refl _) (I1.hok.fresh (Nat.le_refl _))
theorem range_it {pins:List (Addr × Obj)} {σ:St} {H:Hp} {s:Shared} {R:It→Hp→Prop} {E:Value→Shared→Prop} {lo hi:Int} {t u v:Tok} {tk:Nat} (I:Inv X pins σ H s) (h1:-(2 ^ 62)≤lo) (h2:lo < 2 ^ 62) (h3:-(2 ^ 62)≤hi) (h4:hi < 2 ^ 62)
  (q:R (Itr lo (hi - lo).toNat) H) : wpAny (model X.prog X.w) X.A (pyIter (.ref s.heap.objs.size)) (PIE X pins σ tg R) E { s with heap:=s.heap.push { cls:=.type "range",data:=.fields #[.int lo t,.int hi u,.int 1 v] },toks:=tk }:=by
 refine wpAny_pyIter_range (IsRange.new ..) (small_one h1 h2 h3 h4) ?_
 have I1:Inv X pins σ H { s with heap:=s.heap.push { cls:=.type "range",data:=.fields #[.int lo t,.int hi u,.int 1 v] },toks:=tk }:=I.kept fun b o e=>Heap.get?_push_of_some _ e
 refine ⟨(s.heap.push { cls:=.type "range",data:=.fields #[.int lo t,.int hi u,.int 1 v] }).objs.size,[(s.heap.push { cls:=.type "range",data:=.fields #[.int lo t,.int hi u,.int 1 v] }).objs.size],_,_,H,rfl,
  I1.kept (t':=tk) fun b o e=>Heap.get?_push_of_some _ e,turn_range _ lo (hi - lo).toNat,?_,fun b hb=>?_,q⟩
 ·have e1:lo+((0:Nat) : Int) * 1=lo:=by simp
  have e2:(((hi - lo).toNat:Nat) : Int) - ((0:Nat) : Int)=Builtin.Range.rangeSize lo hi 1:=by rw [rangeSize_one]; split <;> omega
  show IsRangeIter _ _ (lo+((0:Nat) : Int) * 1) ((((hi - lo).toNat:Nat) : Int) - ((0:Nat) : Int)) 1
  rw [e1,e2]
  exact Heap.get?_push_size _ rfl
 ·have e:b=(s.heap.push { cls:=.type "range",data:=.fields #[.int lo t,.int hi u,.int 1 v] }).objs.size:=by simpa using hb
  subst e
  exact I1.fpOk (Nat.le_refl _) (I1.hok.fresh (Nat.le_refl _))
def iRng1 (ta:TA) : TI:=fun σ H R=>ta σ H fun vs H1=>∃ j:Int,vs=[.int j]∧-(2 ^ 62)≤j∧j < 2 ^ 62∧R (Itr 0 j.toNat) H1
def iRng2 (ta:TA) : TI:=fun σ H R=>ta σ H fun vs H1=>∃ i j:Int,vs=[.int i,.int j]∧(-(2 ^ 62)≤i∧i < 2 ^ 62∧-(2 ^ 62)≤j∧j < 2 ^ 62)∧R (Itr i (j - i).toNat) H1
theorem pi_range1 {a:Expr} {ta:TA} {p pos:Pos} (hg:Gl X "range") (hm:X.mg "range" = none) (ha:PA X [a] ta) (hs:starEach [a] X.env=[(false,eval a X.env)]:=by rfl) : PI X tg (.Call (.Name "range" p) [a] [] pos) (iRng1 ta):=by
 intro pins s σ H R I h
 refine Call_ (ld_blt I hg hm boot_range (PyProof.Rows.callWith_type1 (thn (ha pos pins s σ H _ I h) fun us s1 ⟨vs,H1,I1,r1,q1⟩=>?_) hs rfl))
 obtain ⟨j,e,q1,q2,q⟩:=q1
 subst e
 cases r1 with
 | cons r rr =>
  cases rr
  obtain ⟨t,rfl⟩:=r
  exact call_range_1 (range_it I1 (by omega) (by omega) q1 q2 (by simpa using q))
theorem pi_range2 {a b:Expr} {ta:TA} {p pos:Pos} (hg:Gl X "range") (hm:X.mg "range" = none) (ha:PA X [a,b] ta) (hs:starEach [a,b] X.env=[(false,eval a X.env),(false,eval b X.env)]:=by rfl) (hs2:starEach [b] X.env=[(false,eval b X.env)]:=by rfl) :
  PI X tg (.Call (.Name "range" p) [a,b] [] pos) (iRng2 ta):=by
 intro pins s σ H R I h
 refine Call_ (ld_blt I hg hm boot_range (PyProof.Rows.callWith_type1 (thn (ha pos pins s σ H _ I h) fun us s1 ⟨vs,H1,I1,r1,q1⟩=>?_) (by rw [hs,hs2]) (by rw [hs2]; rfl)))
 obtain ⟨i,j,e,⟨q1,q2,q3,q4⟩,q⟩:=q1
 subst e
 cases r1 with
 | cons r rr =>
  cases rr with
  | cons r' rr =>
   cases rr
   obtain ⟨t,rfl⟩:=r
   obtain ⟨t',rfl⟩:=r'
   exact call_range_2 (range_it I1 q1 q2 q3 q4 q)

def tFor (wi:TI) (g:TG) (tb:TS) : TS:=fun D σ H=>wi σ H fun J H1=>∃ W:Nat→Nat→St→Hp→Prop,(∃ m,W 0 m σ H1)∧∀ i m σ H,W i m σ H →
 (J.stop i H∧D.nx σ H)∨(J.go i H∧∃ N:St→Hp→Prop,(∀ σ' H',N σ' H'→∃ m',m' < m∧W (i+1) m' σ' H')∧∀ x H',J.yld i H x H'→g x σ H' fun σ2 H2=>tb { D with nx:=N,ct:=N,bk:=D.nx } σ2 H2)
def pinsAt (fp:List Addr) (h:Heap) : List (Addr × Obj):=fp.filterMap fun b=>(h.get? b).map fun o=>(b,o)
theorem mem_pinsAt {fp:List Addr} {h:Heap} {b:Addr} {o:Obj} (hb:b ∈ fp) (e:h.get? b=some o) : (b,o) ∈ pinsAt fp h:=List.mem_filterMap.mpr ⟨b,hb,by rw [e]; rfl⟩
theorem of_pinsAt {fp:List Addr} {h:Heap} {p:Addr × Obj} (hp:p ∈ pinsAt fp h) : p.1 ∈ fp∧h.get? p.1=some p.2:=by
 obtain ⟨b,hb,e⟩:=List.mem_filterMap.mp hp
 cases q:h.get? b with
 | none=>rw [q] at e; cases e
 | some o =>
  rw [q] at e
  have e':(b,o)=p:=Option.some.inj e
  subst e'
  exact ⟨hb,q⟩
theorem Inv.pinned {pins:List (Addr × Obj)} {σ:St} {H:Hp} {s:Shared} {fp:List Addr} (I:Inv X pins σ H s) (hf:∀ b ∈ fp,FpOk X pins H b) (ho:∀ b ∈ fp,∃ o,s.heap.get? b=some o∧∀ v,o.data≠.cell v) : Inv X (pins++pinsAt fp s.heap) σ H s:=
 I.pins_of fun p hp=>(List.mem_append.mp hp).elim (fun z=>I.pin p (List.mem_append_right _ z)) fun z=>by
  obtain ⟨hb,e⟩:=of_pinsAt z
  obtain ⟨f0,f1,f2,_⟩:=hf p.1 hb
  obtain ⟨o,e',d⟩:=ho p.1 hb
  rw [e] at e'; cases e'
  exact ⟨e,f0,f1,f2,d⟩
theorem Inv.unpinned {pins pl:List (Addr × Obj)} {σ:St} {H:Hp} {s:Shared} (I:Inv X (pins++pl) σ H s) : Inv X pins σ H s:=I.pins_of fun p hp=>I.pin p (List.mem_append_right _ (List.mem_append_left _ hp))
theorem ps_for {iter:Expr} {body:List Stmt} {wi:TI} {g:TG} {tb:TS} {pos:Pos} (hp:PassesOwn (model X.prog X.w) X.A X.env X.xe) (hc:X.calm=true) (hi:PI X tg iter wi) (hg:PG X tg g) (hb:PSs X body tb)
  (hs:∀ x,foldedSetIterable iter X.env x=pure x:=by intro _; rfl) : PS X (.For tg iter body [] pos) (tFor wi g tb):=by
 intro pins s σ H D I h
 refine wpAny_For (thn (hi pins s σ H _ I h) fun v s1 h1=>thn h1 fun itv s2 h2=>?_) hs
 obtain ⟨it,fp,tn,J,H2,e,I2,T,st2,f2,W,⟨m0,w0⟩,turn⟩:=h2
 subst e
 -- what stays true of the iterator's objects through the loop
 have stat:∀ {H':Hp},(∀ b ∈ fp,H' b=none)→∀ b ∈ fp,FpOk X pins H' b:=fun hn b hb=>⟨hn b hb,(f2 b hb).2⟩
 refine codeAny_forLoop_any (fun n s'=>∃ i σ' H',Inv X pins σ' H' s'∧tn i s'.heap∧(∀ b ∈ fp,H' b=none)∧W i n σ' H') ?_ m0 ⟨0,σ,H2,I2,st2,fun b hb=>(f2 b hb).1,w0⟩
 rintro n s3 ⟨i,σ3,H3,I3,st3,fr3,w3⟩
 rcases turn i n σ3 H3 w3 with ⟨stop,qn⟩ | ⟨go,N,hN,step⟩
 ·refine wpAny_passesOwn hp (thn (T.done X rfl rfl rfl hc i pins s3 σ3 H3 X.xe I3 (stat fr3) st3 stop) fun r s4 ⟨hr,I4⟩=>?_)
  subst hr
  exact wpAny_execs_nil ⟨σ3,H3,I4,qn⟩
 ·refine wpAny_passesOwn hp (thn (T.item X rfl rfl rfl hc i pins s3 σ3 H3 X.xe I3 (stat fr3) st3 go) fun r s4 ⟨u,hr,h4⟩=>?_)
  subst hr
  refine wpAny_passesOwn hp (thn h4 fun _ s5 ⟨x,H5,I5,r5,y5,st5,fr5⟩=>?_)
  have I5':=I5.pinned (stat fr5) (T.obj _ _ st5)
  refine wpAny_passesOwn hp (thn (hg _ s5 σ3 H5 x u _ I5' r5 (step x H5 y5)) fun _ s6 ⟨σ6,H6,I6,q6⟩=>?_)
  refine wpAny_passesOwn hp (thn (hb _ s6 σ6 H6 _ I6 q6) fun f s7 q7=>?_)
  have again:∀ {σ7:St} {H7:Hp},Inv X (pins++pinsAt fp s5.heap) σ7 H7 s7→N σ7 H7→∃ m,m < n∧∃ i σ' H',Inv X pins σ' H' s7∧tn i s7.heap∧(∀ b ∈ fp,H' b=none)∧W i m σ' H':=fun {σ7 H7} I7 n7=>by
   obtain ⟨m',hm,w7⟩:=hN σ7 H7 n7
   refine ⟨m',hm,i+1,σ7,H7,I7.unpinned,T.keep _ _ _ st5 fun b hb o e=>(I7.pin (b,o) (List.mem_append_right _ (List.mem_append_right _ (mem_pinsAt hb e)))).1,fun b hb=>?_,w7⟩
   obtain ⟨o,e,d⟩:=T.obj _ _ st5 b hb
   exact (I7.pin (b,o) (List.mem_append_right _ (List.mem_append_right _ (mem_pinsAt hb e)))).2.1
  cases f with
  | next=>obtain ⟨σ7,H7,I7,n7⟩:=q7; exact again I7 n7
  | cont=>obtain ⟨σ7,H7,I7,n7⟩:=q7; exact again I7 n7
  | brk=>obtain ⟨σ7,H7,I7,q7⟩:=q7; exact ⟨σ7,H7,I7.unpinned,q7⟩
  | ret v=>obtain ⟨x7,σ7,H7,I7,r7,q7⟩:=q7; exact ⟨x7,σ7,H7,I7.unpinned,r7,q7⟩
end

theorem for_list {K:PySem.W.Frag} {a:Addr} {xs:List V} {g:TG} {tb:TS} {D:Ends} {σ:St} {H:Hp} (Pv:Nat→St→Hp→Prop) (h0:Pv 0 σ H) (hl:∀ i σ H,i≤xs.length→Pv i σ H→SqL K H a xs)
  (hs:∀ i x σ H,xs[i]? = some x→Pv i σ H→g x σ H fun σ2 H2=>tb { D with nx:=Pv (i+1),ct:=Pv (i+1),bk:=D.nx } σ2 H2) (hd:∀ σ H,Pv xs.length σ H→D.nx σ H) :
  ∃ W:Nat→Nat→St→Hp→Prop,(∃ m,W 0 m σ H)∧∀ i m σ H,W i m σ H →
   ((Itl K a).stop i H∧D.nx σ H)∨((Itl K a).go i H∧∃ N:St→Hp→Prop,(∀ σ' H',N σ' H'→∃ m',m' < m∧W (i+1) m' σ' H')∧∀ x H',(Itl K a).yld i H x H'→g x σ H' fun σ2 H2=>tb { D with nx:=N,ct:=N,bk:=D.nx } σ2 H2):=by
 refine ⟨fun i m σ H=>m=xs.length - i∧i≤xs.length∧Pv i σ H,⟨xs.length,by simp,Nat.zero_le _,h0⟩,?_⟩
 rintro i m σ H ⟨rfl,hi,p⟩
 have q:=hl i σ H hi p
 by_cases hlt:i < xs.length
 ·refine .inr ⟨⟨xs,xs[i],q,by simp [hlt]⟩,Pv (i+1),fun σ' H' p'=>⟨xs.length - (i+1),by omega,rfl,hlt,p'⟩,fun x H' y=>?_⟩
  obtain ⟨e,y⟩:=y
  subst e
  exact hs i x σ _ (y xs q) p
 ·have e:i=xs.length:=by omega
  subst e
  exact .inl ⟨⟨xs,q,Nat.le_refl _⟩,hd σ H p⟩
theorem for_range {lo:Int} {n:Nat} {g:TG} {tb:TS} {D:Ends} {σ:St} {H:Hp} (Pv:Nat→St→Hp→Prop) (h0:Pv 0 σ H)
  (hs:∀ i σ H,i < n→Pv i σ H→g (.int (lo+i)) σ H fun σ2 H2=>tb { D with nx:=Pv (i+1),ct:=Pv (i+1),bk:=D.nx } σ2 H2) (hd:∀ σ H,Pv n σ H→D.nx σ H) :
  ∃ W:Nat→Nat→St→Hp→Prop,(∃ m,W 0 m σ H)∧∀ i m σ H,W i m σ H →
   ((Itr lo n).stop i H∧D.nx σ H)∨((Itr lo n).go i H∧∃ N:St→Hp→Prop,(∀ σ' H',N σ' H'→∃ m',m' < m∧W (i+1) m' σ' H')∧∀ x H',(Itr lo n).yld i H x H'→g x σ H' fun σ2 H2=>tb { D with nx:=N,ct:=N,bk:=D.nx } σ2 H2):=by
 refine ⟨fun i m σ H=>m=n - i∧i≤n∧Pv i σ H,⟨n,by simp,Nat.zero_le _,h0⟩,?_⟩
 rintro i m σ H ⟨rfl,hi,p⟩
 by_cases hlt:i < n
 ·refine .inr ⟨hlt,Pv (i+1),fun σ' H' p'=>⟨n - (i+1),by omega,rfl,hlt,p'⟩,fun x H' y=>?_⟩
  obtain ⟨e,y⟩:=y
  subst e y
  exact hs i σ _ hlt p
 ·have e:i=n:=by omega
  subst e
  exact .inl ⟨Nat.le_refl _,hd σ H p⟩

abbrev R2:=V→V→Hp→VK→Prop
def OpR (X:Cx) (f:Value→Value→Sem Value) (r:R2) : Prop:=
 ∀ (pins:List (Addr × Obj)) (s:Shared) (σ:St) (H:Hp) (x y:V) (v u:Value) (Q:VK),Inv X pins σ H s→RelV x v→RelV y u→r x y H Q →
  wpAny (model X.prog X.w) X.A (f v u) (EP X pins σ Q) X.xe s
def UnR (X:Cx) (f:Value→Sem Value) (r:V→Hp→VK→Prop) : Prop:=
 ∀ (pins:List (Addr × Obj)) (s:Shared) (σ:St) (H:Hp) (x:V) (v:Value) (Q:VK),Inv X pins σ H s→RelV x v→r x H Q →
  wpAny (model X.prog X.w) X.A (f v) (EP X pins σ Q) X.xe s
def CallR (X:Cx) (f:Value) (r:List V→Hp→VK→Prop) : Prop:=
 ∀ (pins:List (Addr × Obj)) (s:Shared) (σ:St) (H:Hp) (xs:List V) (us:List Value) (Q:VK),Inv X pins σ H s→Vals xs us→r xs H Q →
  wpAny (model X.prog X.w) X.A (call f us) (EP X pins σ Q) X.xe s
def tOp (r:R2) (ta tb:TE) : TE:=fun σ H Q=>ta σ H fun x H1=>tb σ H1 fun y H2=>r x y H2 Q
def tUn (r:V→Hp→VK→Prop) (ta:TE) : TE:=fun σ H Q=>ta σ H fun x H1=>r x H1 Q
def rI (C:Int→Int→Prop) (g:Int→Int→V) : R2:=fun x y H Q=>∃ i j,x = .int i∧y = .int j∧C i j∧Q (g i j) H
def rI0 (g:Int→Int→V) : R2:=fun x y H Q=>∃ i j,x = .int i∧y = .int j∧Q (g i j) H
def rU (g:Int→V) : V→Hp→VK→Prop:=fun x H Q=>∃ i,x = .int i∧Q (g i) H

section
variable {X:Cx} {a b c:Expr} {ta tb tc:TE} {pos:Pos}

theorem binT (ha:PE X a ta) (hb:PE X b tb) {pins:List (Addr × Obj)} {s:Shared} {σ:St} {H:Hp} {R:V→V→Hp→Prop} (I:Inv X pins σ H s)
  (h:ta σ H fun x H1=>tb σ H1 fun y H2=>R x y H2) {Q:Value→Shared→Prop} {f:Value→Value→Sem Value}
  (hf:∀ v u s2 x y H2,Inv X pins σ H2 s2→RelV x v→RelV y u→R x y H2→wpAny (model X.prog X.w) X.A (f v u) Q X.xe s2) :
  wpAny (model X.prog X.w) X.A (eval a X.env) (fun v s₁=>wpAny (model X.prog X.w) X.A (eval b X.env) (fun u s₂=>wpAny (model X.prog X.w) X.A (f v u) Q X.xe s₂) X.xe s₁) X.xe s:=by
 refine thn (ha pins s σ H _ I h) fun v s1 ⟨x,H1,I1,r1,q1⟩=>?_
 refine thn (hb pins s1 σ H1 _ I1 q1) fun u s2 ⟨y,H2,I2,r2,q2⟩=>?_
 exact hf v u s2 x y H2 I2 r1 r2 q2

theorem pe_op {op:Operator} {r:R2} (ho:OpR X (binaryOp op) r) (ha:PE X a ta) (hb:PE X b tb) : PE X (.BinOp a op b pos) (tOp r ta tb):=by
 intro pins s σ H Q I h
 exact wpAny_BinOp (binT ha hb I h fun v u s2 x y H2 I2 rx ry q=>ho pins s2 σ H2 x y v u Q I2 rx ry q)
theorem pe_un {op:UnaryOp} {r:V→Hp→VK→Prop} (ho:UnR X (unaryOp op) r) (ha:PE X a ta) : PE X (.UnaryOp op a pos) (tUn r ta):=by
 intro pins s σ H Q I h
 exact UnaryOp_ (thn (ha pins s σ H _ I h) fun v s1 ⟨x,H1,I1,r1,q1⟩=>ho pins s1 σ H1 x v Q I1 r1 q1)
theorem opI {f:Value→Value→Sem Value} {C:Int→Int→Prop} {g:Int→Int→Int}
  (rule:∀ (i j:Int) (t u:Tok) (s:Shared) (Q:Value→Shared→Prop) (E:Value→Shared→Prop),C i j→Q (.int (g i j) s.toks) { s with toks:=s.toks+1 }→wpAny (model X.prog X.w) X.A (f (.int i t) (.int j u)) Q E s) :
  OpR X f (rI C fun i j=>.int (g i j)):=by
 intro pins s σ H x y v u Q I rx ry h
 obtain ⟨i,j,rfl,rfl,hc,q⟩:=h
 obtain ⟨t,rfl⟩:=rx
 obtain ⟨t',rfl⟩:=ry
 exact rule i j t t' s _ _ hc ⟨.int (g i j),H,I.tok _,⟨_,rfl⟩,q⟩
theorem opI0 {f:Value→Value→Sem Value} {g:Int→Int→Int}
  (rule:∀ (i j:Int) (t u:Tok) (s:Shared) (Q:Value→Shared→Prop) (E:Value→Shared→Prop),Q (.int (g i j) s.toks) { s with toks:=s.toks+1 }→wpAny (model X.prog X.w) X.A (f (.int i t) (.int j u)) Q E s) :
  OpR X f (rI0 fun i j=>.int (g i j)):=by
 intro pins s σ H x y v u Q I rx ry h
 obtain ⟨i,j,rfl,rfl,q⟩:=h
 obtain ⟨t,rfl⟩:=rx
 obtain ⟨t',rfl⟩:=ry
 exact rule i j t t' s _ _ ⟨.int (g i j),H,I.tok _,⟨_,rfl⟩,q⟩
theorem opB0 {f:Value→Value→Sem Value} {g:Int→Int→Bool}
  (rule:∀ (i j:Int) (t u:Tok) (s:Shared) (Q:Value→Shared→Prop) (E:Value→Shared→Prop),Q (.bool (g i j)) s→wpAny (model X.prog X.w) X.A (f (.int i t) (.int j u)) Q E s) :
  OpR X f (rI0 fun i j=>.bl (g i j)):=by
 intro pins s σ H x y v u Q I rx ry h
 obtain ⟨i,j,rfl,rfl,q⟩:=h
 obtain ⟨t,rfl⟩:=rx
 obtain ⟨t',rfl⟩:=ry
 exact rule i j t t' s _ _ ⟨.bl (g i j),H,I,rfl,q⟩

def CDiv (i j:Int) : Prop:=0 < j∧j < 1073741824
def CMul (i j:Int) : Prop:=(-(2 ^ 64) < i∧i < 2 ^ 64)∨(-(2 ^ 64) < j∧j < 2 ^ 64)
theorem CMul.ok {i j:Int} (h:CMul i j) : IntMulOk i j:=by
 rcases h with ⟨h1,h2⟩ | ⟨h1,h2⟩
 ·exact .of_left (intBits_le_64 h1 h2)
 ·exact .of_right (intBits_le_64 h1 h2)
theorem op_add:OpR X (binaryOp .Add) (rI0 fun i j=>.int (i+j)):=opI0 fun _ _ _ _ _ _ _ q=>add_int q
theorem op_sub:OpR X (binaryOp .Sub) (rI0 fun i j=>.int (i - j)):=opI0 fun _ _ _ _ _ _ _ q=>sub_int q
theorem op_mul:OpR X (binaryOp .Mult) (rI CMul fun i j=>.int (i * j)):=opI fun _ _ _ _ _ _ _ hc q=>mul_int q hc.ok
theorem op_fdiv:OpR X (binaryOp .FloorDiv) (rI CDiv fun i j=>.int (i / j)):=opI fun i j _ _ _ _ _ hc q=>by
 have h1:(0:Int) < j:=hc.1
 have h2:j < 1073741824:=hc.2
 exact floordiv_int (by omega) (by rw [Int.fdiv_eq_ediv_of_nonneg i (by omega)]; exact q) (.inl (PyProof.noPylong_small (by omega)))
theorem op_mod:OpR X (binaryOp .Mod) (rI (fun _ j=>0 < j) fun i j=>.int (i % j)):=opI fun i j _ _ _ _ _ hc q=>by
 have h1:(0:Int) < j:=hc
 exact mod_int' (by omega) (by rw [Int.fmod_eq_emod_of_nonneg i (by omega)]; exact q)
theorem unI {f:Value→Sem Value} {g:Int→Int}
  (rule:∀ (i:Int) (t:Tok) (s:Shared) (Q:Value→Shared→Prop) (E:Value→Shared→Prop),Q (.int (g i) s.toks) { s with toks:=s.toks+1 }→wpAny (model X.prog X.w) X.A (f (.int i t)) Q E s) :
  UnR X f (rU fun i=>.int (g i)):=by
 intro pins s σ H x v Q I rx h
 obtain ⟨i,rfl,q⟩:=h
 obtain ⟨t,rfl⟩:=rx
 exact rule i t s _ _ ⟨.int (g i),H,I.tok _,⟨_,rfl⟩,q⟩
theorem un_neg:UnR X (unaryOp .USub) (rU fun i=>.int (-i)):=unI fun _ _ _ _ _ q=>neg_int q
end

def scal:V→V→Bool
 | .non,.non=>true | .non,.int _=>true | .int _,.non=>true | .non,.bl _=>true | .bl _,.non=>true | .non,.str _=>true | .str _,.non=>true
 | .int _,.int _=>true | .bl _,.bl _=>true | .str _,.str _=>true | .byt _,.byt _=>true
 | .int _,.str _=>true | .str _,.int _=>true | .bl _,.str _=>true | .str _,.bl _=>true
 | _,_=>false
def rEq:R2:=fun x y H Q=>scal x y=true∧Q (.bl (decide (x=y))) H
def rNe:R2:=fun x y H Q=>scal x y=true∧Q (.bl (!decide (x=y))) H

theorem dec_int {i j:Int} : decide (V.int i=V.int j)=(i == j):=by
 rw [Bool.eq_iff_iff]
 simp
theorem dec_bl {i j:Bool} : decide (V.bl i=V.bl j)=(i == j):=by
 rw [Bool.eq_iff_iff]
 simp
theorem dec_str {i j:Str} : decide (V.str i=V.str j)=(i == j):=by
 rw [Bool.eq_iff_iff]
 simp
theorem dec_byt {i j:Array UInt8} : decide (V.byt i=V.byt j)=(i.toList == j.toList):=by
 rw [Bool.eq_iff_iff]
 cases i
 cases j
 simp

section
variable {X:Cx} {a b c:Expr} {ta tb tc:TE} {pos:Pos}
theorem fin_bl {pins:List (Addr × Obj)} {σ:St} {H:Hp} {s:Shared} {Q:VK} {k k':Bool} (I:Inv X pins σ H s) (q:Q (.bl k) H) (e:k=k') : EP X pins σ Q (.bool k') s:=by
 subst e
 exact ⟨.bl k,H,I,rfl,q⟩
theorem op_eq:OpR X (compareOp .Eq) rEq:=by
 intro pins s σ H x y v u Q I rx ry h
 obtain ⟨hs,q⟩:=h
 cases x with
 | non =>
  cases rx
  cases y with
  | non=>cases ry; exact PySem.EqNone.eq_none_none (fin_bl I q (by simp))
  | bl j=>cases ry; exact PySem.EqNone.eq_none_bool (fin_bl I q (by simp))
  | int j=>obtain ⟨t',rfl⟩:=ry; exact PySem.EqNone.eq_none_int (fin_bl I q (by simp))
  | str j=>obtain ⟨t',rfl⟩:=ry; exact PySem.EqNone.eq_none_str (fin_bl I q (by simp))
  | _=>exact absurd (show false=true from hs) Bool.false_ne_true
 | bl i =>
  cases rx
  cases y with
  | non=>cases ry; exact PySem.EqNone.eq_bool_none (fin_bl I q (by simp))
  | bl j=>cases ry; exact eq_bool (fin_bl I q dec_bl)
  | str j=>obtain ⟨t',rfl⟩:=ry; exact PySem.EqMixed.eq_bool_str (fin_bl I q (by simp))
  | _=>exact absurd (show false=true from hs) Bool.false_ne_true
 | int i =>
  obtain ⟨t,rfl⟩:=rx
  cases y with
  | non=>cases ry; exact PySem.EqNone.eq_int_none (fin_bl I q (by simp))
  | int j=>obtain ⟨t',rfl⟩:=ry; exact eq_int (fin_bl I q dec_int)
  | str j=>obtain ⟨t',rfl⟩:=ry; exact PySem.EqMixed.eq_int_str (fin_bl I q (by simp))
  | _=>exact absurd (show false=true from hs) Bool.false_ne_true
 | str i =>
  obtain ⟨t,rfl⟩:=rx
  cases y with
  | non=>cases ry; exact PySem.EqNone.eq_str_none (fin_bl I q (by simp))
  | bl j=>cases ry; exact PySem.EqMixed.eq_str_bool (fin_bl I q (by simp))
  | int j=>obtain ⟨t',rfl⟩:=ry; exact PySem.EqMixed.eq_str_int (fin_bl I q (by simp))
  | str j=>obtain ⟨t',rfl⟩:=ry; exact eq_str (fin_bl I q dec_str)
  | _=>exact absurd (show false=true from hs) Bool.false_ne_true
 | byt i =>
  obtain ⟨t,rfl⟩:=rx
  cases y with
  | byt j=>obtain ⟨t',rfl⟩:=ry; exact PySem.W.eq_bytes (fin_bl I q dec_byt)
  | _=>exact absurd (show false=true from hs) Bool.false_ne_true
 | _=>cases y <;> exact absurd (show false=true from hs) Bool.false_ne_true
theorem op_ne:OpR X (compareOp .NotEq) rNe:=by
 intro pins s σ H x y v u Q I rx ry h
 obtain ⟨hs,q⟩:=h
 cases x with
 | non =>
  cases rx
  cases y with
  | non=>cases ry; exact PySem.EqNone.ne_none_none (fin_bl I q (by simp))
  | bl j=>cases ry; exact PySem.EqNone.ne_none_bool (fin_bl I q (by simp))
  | int j=>obtain ⟨t',rfl⟩:=ry; exact PySem.EqNone.ne_none_int (fin_bl I q (by simp))
  | str j=>obtain ⟨t',rfl⟩:=ry; exact PySem.EqNone.ne_none_str (fin_bl I q (by simp))
  | _=>exact absurd (show false=true from hs) Bool.false_ne_true
 | bl i =>
  cases rx
  cases y with
  | non=>cases ry; exact PySem.EqNone.ne_bool_none (fin_bl I q (by simp))
  | bl j=>cases ry; exact ne_bool (fin_bl I q (congrArg not dec_bl))
  | str j=>obtain ⟨t',rfl⟩:=ry; exact PySem.EqMixed.ne_bool_str (fin_bl I q (by simp))
  | _=>exact absurd (show false=true from hs) Bool.false_ne_true
 | int i =>
  obtain ⟨t,rfl⟩:=rx
  cases y with
  | non=>cases ry; exact PySem.EqNone.ne_int_none (fin_bl I q (by simp))
  | int j=>obtain ⟨t',rfl⟩:=ry; exact ne_int (fin_bl I q (congrArg not dec_int))
  | str j=>obtain ⟨t',rfl⟩:=ry; exact PySem.EqMixed.ne_int_str (fin_bl I q (by simp))
  | _=>exact absurd (show false=true from hs) Bool.false_ne_true
 | str i =>
  obtain ⟨t,rfl⟩:=rx
  cases y with
  | non=>cases ry; exact PySem.EqNone.ne_str_none (fin_bl I q (by simp))
  | bl j=>cases ry; exact PySem.EqMixed.ne_str_bool (fin_bl I q (by simp))
  | int j=>obtain ⟨t',rfl⟩:=ry; exact PySem.EqMixed.ne_str_int (fin_bl I q (by simp))
  | str j=>obtain ⟨t',rfl⟩:=ry; exact ne_str (fin_bl I q (congrArg not dec_str))
  | _=>exact absurd (show false=true from hs) Bool.false_ne_true
 | byt i =>
  obtain ⟨t,rfl⟩:=rx
  cases y with
  | byt j=>obtain ⟨t',rfl⟩:=ry; exact PySem.W.ne_bytes (fin_bl I q (congrArg not dec_byt))
  | _=>exact absurd (show false=true from hs) Bool.false_ne_true
 | _=>cases y <;> exact absurd (show false=true from hs) Bool.false_ne_true

theorem op_lt:OpR X (compareOp .Lt) (rI0 fun i j=>.bl (decide (i < j))):=opB0 fun _ _ _ _ _ _ _ q=>lt_int q
theorem op_le:OpR X (compareOp .LtE) (rI0 fun i j=>.bl (decide (i≤j))):=opB0 fun _ _ _ _ _ _ _ q=>le_int q
theorem op_gt:OpR X (compareOp .Gt) (rI0 fun i j=>.bl (decide (j < i))):=opB0 fun _ _ _ _ _ _ _ q=>gt_int q
theorem op_isN:OpR X (compareOp .Is) (fun x y H Q=>y = .non∧Q (.bl (decide (x = .non))) H):=by
 intro pins s σ H x y v u Q I rx ry h
 obtain ⟨rfl,q⟩:=h
 cases ry
 refine is_none_gen (fin_bl I q ?_)
 cases x <;> first
  | (cases rx; rfl)
  | (obtain ⟨t,rfl⟩:=rx; rfl)
theorem op_notN:OpR X (compareOp .IsNot) (fun x y H Q=>y = .non∧Q (.bl (!decide (x = .non))) H):=by
 intro pins s σ H x y v u Q I rx ry h
 obtain ⟨rfl,q⟩:=h
 cases ry
 refine isnot_none_gen (fin_bl I q ?_)
 cases x <;> first
  | (cases rx; rfl)
  | (obtain ⟨t,rfl⟩:=rx; rfl)

theorem nomark (b:Expr) {op:CmpOp} (h:op≠.In:=by decide) (h2:op≠.NotIn:=by decide) : behindInMarks op b=false:=by
 have e1:(op == CmpOp.In)=false:=by cases op <;> first | rfl | exact absurd rfl h
 have e2:(op == CmpOp.NotIn)=false:=by cases op <;> first | rfl | exact absurd rfl h2
 cases b <;> simp [behindInMarks,e1,e2]
theorem pe_cmpR {op:CmpOp} {r:R2} (ho:OpR X (compareOp op) r) (ha:PE X a ta) (hb:PE X b tb) (hm:behindInMarks op b=false) : PE X (.Compare a [op] [b] pos) (tOp r ta tb):=by
 intro pins s σ H Q I h
 exact wpAny_Compare1 (binT ha hb I h fun v u s2 x y H2 I2 rx ry q=>ho pins s2 σ H2 x y v u Q I2 rx ry q) hm
def tTest (t:TE) : TT:=fun σ H Q=>t σ H fun x H'=>∃ k,x = .bl k∧Q k H'
theorem pt_cmpR {op:CmpOp} {r:R2} (ho:OpR X (compareOp op) r) (ha:PE X a ta) (hb:PE X b tb) (hm:behindInMarks op b=false) : PT X (.Compare a [op] [b] pos) (tTest (tOp r ta tb)):=by
 intro pins s σ H Q I h
 refine wpAny_isTrue_Compare1 (thn (ha pins s σ H _ I h) fun v s1 ⟨x,H1,I1,r1,q1⟩=>thn (hb pins s1 σ H1 _ I1 q1) fun u s2 ⟨y,H2,I2,r2,q2⟩ =>
  thn (ho pins s2 σ H2 x y v u _ I2 r1 r2 q2) fun c s3 ⟨z,H3,I3,r3,k,e,q3⟩=>?_) hm
 subst e
 cases r3
 exact wpAny_truthy_bool ⟨H3,I3,q3⟩
def tChain (r r':R2) (ta tb tc:TE) : TE:=fun σ H Q=>ta σ H fun x H1=>tb σ H1 fun y H2=>r x y H2 fun z H3=>∃ k,z = .bl k ∧
 (if k=true then tc σ H3 fun w' H4=>r' y w' H4 Q else Q (.bl false) H3)
theorem pt_chain {op op':CmpOp} {r r':R2} (ho:OpR X (compareOp op) r) (ho':OpR X (compareOp op') r') (ha:PE X a ta) (hb:PE X b tb) (hc:PE X c tc)
  (hm:lastMarks [op,op'] [b,c]=false:=by with_unfolding_all rfl) : PT X (.Compare a [op,op'] [b,c] pos) (tTest (tChain r r' ta tb tc)):=by
 intro pins s σ H Q I h
 refine isTrue_chain (thn (ha pins s σ H _ I h) fun v s1 ⟨x,H1,I1,r1,q1⟩=>test_link (thn (hb pins s1 σ H1 _ I1 q1) fun u s2 ⟨y,H2,I2,r2,q2⟩ =>
  thn (ho pins s2 σ H2 x y v u _ I2 r1 r2 q2) fun d s3 ⟨z,H3,I3,r3,k,e,q3⟩=>?_)) hm
 subst e
 cases r3
 refine wpAny_truthy_bool ?_
 cases k with
 | false =>
  obtain ⟨k',e',q'⟩:=q3
  cases e'
  exact ite_ff ⟨H3,I3,q'⟩
 | true =>
  refine ite_tt (test_last (thn (hc pins s3 σ H3 _ I3 q3) fun w' s4 ⟨z',H4,I4,r4,q4⟩=>thn (ho' pins s4 σ H4 y z' u w' _ I4 r2 r4 q4) fun d' s5 ⟨z2,H5,I5,r5,k2,e2,q5⟩=>?_))
  subst e2
  cases r5
  exact wpAny_truthy_bool ⟨H5,I5,q5⟩

theorem line63:(sizeLine:Nat) < 2 ^ 63:=by rw [sizeLine_eq]; decide
theorem op_add_str:OpR X (binaryOp .Add) (fun x y H Q=>∃ i j,x = .str i∧y = .str j∧i.length+j.length≤sizeLine∧Q (.str (i++j)) H):=by
 intro pins s σ H x y v u Q I rx ry h
 obtain ⟨i,j,rfl,rfl,hz,q⟩:=h
 obtain ⟨t,rfl⟩:=rx
 obtain ⟨t',rfl⟩:=ry
 exact add_str (fun t' tk=>⟨.str (i++j),H,I.tok _,⟨_,rfl⟩,q⟩) hz
theorem vals1 {x:V} {us:List Value} (r:Vals [x] us) : ∃ u,us=[u]∧RelV x u:=by
 cases r with
 | cons r1 r2=>cases r2; exact ⟨_,rfl,r1⟩
theorem vals2 {x y:V} {us:List Value} (r:Vals [x,y] us) : ∃ u w',us=[u,w']∧RelV x u∧RelV y w':=by
 cases r with
 | cons r1 r2 =>
  cases r2 with
  | cons r3 r4=>cases r4; exact ⟨_,_,rfl,r1,r3⟩
theorem call_int1:CallR X (.type "int") (fun xs H Q=>(∃ i,xs=[.int i]∧Q (.int i) H)∨∃ k,xs=[.bl k]∧Q (.int (if k then 1 else 0)) H):=by
 intro pins s σ H xs us Q I r h
 rcases h with ⟨i,rfl,q⟩ | ⟨k,rfl,q⟩
 ·obtain ⟨u,rfl,t,rfl⟩:=vals1 r
  exact call_int_int ⟨.int i,H,I,⟨_,rfl⟩,q⟩
 ·obtain ⟨u,rfl,r1⟩:=vals1 r
  cases r1
  exact call_int_bool ⟨.int (if k then 1 else 0),H,I.tok _,⟨_,rfl⟩,q⟩
def LenV (K:PySem.W.Frag) (x:V) (H:Hp) (n:Nat) : Prop:=
 match x with
 | .str y=>y.length≤sizeLine∧n=y.length
 | .byt y=>y.size≤sizeLine∧n=y.size
 | .ref p=>(∃ xs,SqL K H p xs∧n=xs.length)∨∃ xs,SqT K H p xs∧n=xs.length
 | _=>False
theorem call_len:CallR X (.builtin "len") (fun xs H Q=>∃ x n,xs=[x]∧LenV X.K x H n∧Q (.int n) H):=by
 intro pins s σ H xs us Q I r h
 obtain ⟨x,n,rfl,e,q⟩:=h
 obtain ⟨u,rfl,rx⟩:=vals1 r
 have hl:=line63
 have hs:sizeLine=16777216:=sizeLine_eq
 cases x with
 | str y =>
  obtain ⟨t,rfl⟩:=rx
  obtain ⟨hy,e'⟩ : y.length≤sizeLine∧n=y.length:=e
  subst e'
  exact len_str (by omega) ⟨.int _,H,I.tok _,⟨_,rfl⟩,q⟩
 | byt y =>
  obtain ⟨t,rfl⟩:=rx
  obtain ⟨hy,e'⟩ : y.size≤sizeLine∧n=y.size:=e
  subst e'
  exact PySem.W.len_bytes (by omega) ⟨.int _,H,I.tok _,⟨_,rfl⟩,q⟩
 | ref p =>
  cases rx
  have e':(∃ xs,SqL X.K H p xs∧n=xs.length)∨∃ xs,SqT X.K H p xs∧n=xs.length:=e
  rcases e' with ⟨xs,hx,e'⟩ | ⟨xs,hx,e'⟩
  ·subst e'
   obtain ⟨its,r',pl,hz⟩:=I.list hx
   have hlen:=r'.length
   exact Calls.call_len_list pl.isList (by simp only [List.size_toArray]; omega) ⟨.int xs.length,H,I.tok _,⟨_,by simp only [List.size_toArray]; rw [hlen]⟩,q⟩
  ·subst e'
   obtain ⟨its,r',pl,hz⟩:=I.tuple hx
   have hlen:=r'.length
   exact len_tuple pl (by simp only [List.size_toArray]; omega) ⟨.int xs.length,H,I.tok _,⟨_,by simp only [List.size_toArray]; rw [hlen]⟩,q⟩
 | _=>exact (show False from e).elim
end

section
variable {prog:Program} {w:World} {A:Around} {E:Value→Shared→Prop} {s:Shared} {K:PySem.W.Frag} {x dx C f:Addr} {mA:Str→Option Value} {name:Str} {v:Value}

end

theorem RelO.some_of {v:V} {o:Option Value} (r:RelO (some v) o) : ∃ u,o=some u∧RelV v u:=by
 cases o with
 | none=>exact (show False from r).elim
 | some u=>exact ⟨u,rfl,r⟩
section
variable {P:Program} {w:World} {H H':Hp} {h h':Heap} {a C dx:Addr} {fs fs':List (Str × V)}
end

section
variable {X:Cx} {pins:List (Addr × Obj)} {σ:St} {H:Hp} {s:Shared} {a C dx:Addr} {fs:List (Str × V)} {f:Str} {v:V} {A:Around} {E:Value→Shared→Prop}

end

section
variable {X:Cx} {o e value:Expr} {f:Str} {pos pos' tpos:Pos} {ta tv:TE}
end

section
variable {X:Cx} {pins:List (Addr × Obj)} {σ:St} {H:Hp} {s:Shared} {A:Around} {E:Value→Shared→Prop} {Q:Value→Shared→Prop} {c:Value} {b:Bool}
end

structure Room (k:Nat) (A:Around) : Prop where
 hd:A.handled=none
 dp:A.depth+3 * k+5 < recursionLimit
 un:A.units+16 * k+200 < cLine
theorem Room.mono {j k:Nat} {A:Around} (r:Room k A) (h:j≤k) : Room j A:=⟨r.hd,by have:=r.dp; omega,by have:=r.un; omega⟩
theorem Room.deeper {k:Nat} {A:Around} (r:Room (k+1) A) (env:Env) : Room k (A.deeper env):=
 ⟨r.hd,by have:=r.dp; show A.depth+1+3 * k+5 < _; omega,by have:=r.un; show A.units+3+16 * k+200 < _; omega⟩
theorem Room.depth {k:Nat} {A:Around} (r:Room k A) : A.depth < recursionLimit:=by have:=r.dp; omega
theorem Room.units {k:Nat} {A:Around} (r:Room k A) : A.units+64 < cLine:=by have:=r.un; omega
def tNil:TA:=fun _ H Q=>Q [] H
def tCons (ta:TE) (tr:TA) : TA:=fun σ H Q=>ta σ H fun x H1=>tr σ H1 fun xs H2=>Q (x :: xs) H2
section
variable {X:Cx} {e:Expr} {es:List Expr} {te:TE} {t:TA} {pos:Pos}
theorem pa_nil:PA X [] tNil:=fun _ _ _ _ H Q I h=>Calls.spliced_nil ⟨[],H,I,.nil,h⟩
theorem pa_cons (ha:PE X e te) (hr:PA X es t) (hs:starEach (e :: es) X.env=(false,eval e X.env) :: starEach es X.env:=by rfl) : PA X (e :: es) (tCons te t):=by
 intro pos pins s σ H Q I h
 rw [hs]
 show wpAny _ _ (spliced ((false,eval e X.env) :: backTo pos (starEach es X.env))) _ _ s
 refine Calls.spliced_cons (thn (ha pins s σ H _ I h) fun u s1 ⟨x,H1,I1,r1,q1⟩=>?_)
 exact thn (hr pos pins s1 σ H1 _ I1 q1) fun us s2 ⟨xs,H2,I2,r2,q2⟩=>⟨x :: xs,H2,I2,.cons r1 r2,q2⟩

def tTup (t:TA) : TE:=fun σ H Q=>t σ H fun xs H1=>xs.length≤sizeLine∧∀ p,H1 p=none→Q (.ref p) (upd H1 p (.tup xs))
def tLst (t:TA) : TE:=fun σ H Q=>t σ H fun xs H1=>xs.length≤sizeLine∧∀ p,H1 p=none→Q (.ref p) (upd H1 p (.lst xs))
theorem pe_tup {x1} (h:PA X es t) : PE X (.Tuple es x1 pos) (tTup t):=by
 intro pins s σ H Q I hq
 refine wpAny_Tuple_spliced (thn (h pos pins s σ H _ I hq) fun us s1 ⟨xs,H1,I1,r,z,q⟩=>⟨by rw [← r.length]; exact z,?_⟩)
 have hf:H1 s1.heap.objs.size=none:=I1.hok.fresh (Nat.le_refl _)
 refine ⟨.ref s1.heap.objs.size,upd H1 s1.heap.objs.size (.tup xs),I1.laid (t':=s1.toks) (fun b u e=>Heap.get?_push_of_some _ e) (Nat.le_refl _) ?_,rfl,q _ hf⟩
 exact ⟨z,us,r,⟨_,Heap.get?_push_size _ rfl,rfl,_,rfl⟩⟩
theorem pe_lst (h:PA X es t) : PE X (.List es pos) (tLst t):=by
 intro pins s σ H Q I hq
 refine wpAny_List_spliced (thn (h pos pins s σ H _ I hq) fun us s1 ⟨xs,H1,I1,r,z,q⟩=>⟨by rw [← r.length]; exact z,?_⟩)
 have hf:H1 s1.heap.objs.size=none:=I1.hok.fresh (Nat.le_refl _)
 refine ⟨.ref s1.heap.objs.size,upd H1 s1.heap.objs.size (.lst xs),I1.laid (t':=s1.toks) (fun b u e=>Heap.get?_push_of_some _ e) (Nat.le_refl _) ?_,rfl,q _ hf⟩
 exact ⟨z,us,0,r,Heap.get?_push_size _ rfl⟩
end

abbrev Sp:=List V→Hp→VK→XK→Prop
abbrev CXT:=List Env→Hp→Shared→XK→Value→Shared→Prop

structure Env0 (P:Program) (w:World) (K:PySem.W.Frag) (mg:Str→Option Value) (base:Heap) (A:Around) (outer:List Env) (s:Shared) (H:Hp) : Prop where
 frames:A.frames=some outer
 mod:Mod K mg base
 bs:∀ b o,base.get? b=some o→s.heap.get? b=some o∧H b=none
 bsz:base.objs.size≤s.heap.objs.size
 funs:s.heap.FunFrames base outer
 frf:∀ b ∈ frs outer,H b=none
 hok:HOk P w H s.heap
 bare:AllBare s.gens
def CE (outer:List Env) (P:Program) (w:World) (H:Hp) (s:Shared) (Q:VK) (u:Value) (s':Shared) : Prop:=
 ∃ v H',s'.os=s.os∧AllBare s'.gens∧Un (frs outer) [] H H' s.heap s'.heap∧HOk P w H' s'.heap∧RelV v u∧Q v H'
def CR (CX:CXT) (outer:List Env) (P:Program) (w:World) (H:Hp) (s:Shared) (Q:VK) (E:XK) (r:Result) (s':Shared) : Prop:=
 match r with
 | .ok (.ret u)=>CE outer P w H s Q u s'
 | .ok _=>False
 | .error e=>CX outer H s E e s'
structure FnOk (P:Program) (w:World) (K:PySem.W.Frag) (mg:Str→Option Value) (base:Heap) (CX:CXT) (k:Nat) (f:Addr) (fd:FuncData) (ps:List Str) (sp:Sp) : Prop where
 len:∀ vs H Q E,sp vs H Q E→vs.length=ps.length
 run:∀ (A:Around) (outer:List Env) (s:Shared) (H:Hp) (args:Args) (us:List Value) (vs:List V) (Q:VK) (E:XK),Room k A→Env0 P w K mg base A outer s H→BindsTo s fd args (ps.zip us)→Vals vs us→sp vs H Q E →
  codeAny (model P w) A (.call (.ref f) args) (CR CX outer P w H s Q E) s
section
variable {X:Cx} {pins:List (Addr × Obj)} {σ:St} {H:Hp} {s s':Shared}
theorem Inv.env0 (I:Inv X pins σ H s) : Env0 X.prog X.w X.K X.mg X.base X.A X.stack s H:=
 ⟨I.ok.frames,I.ok.mod,I.bs,Nat.le_trans I.ok.bsz I.sz,I.stack,I.stkFree,I.hok,I.bare⟩
theorem Inv.after {Q:VK} {u:Value} (I:Inv X pins σ H s) (h:CE X.stack X.prog X.w H s Q u s') : EP X pins σ Q u s':=by
 obtain ⟨v,H',os,bare,un,hok,r,q⟩:=h
 obtain ⟨hh,g,d,t,os'⟩:=s'
 obtain rfl:os' = s.os:=os
 exact ⟨v,H',I.call (h':=hh) (g':=g) (d':=d) (t':=t) (ch:=[]) un hok bare (fun b z=>absurd z (by simp)),r,q⟩
end

def tCall (sp:Sp) (dvs:List V) (E:XK) (t:TA) : TE:=fun σ H Q=>t σ H fun vs H1=>sp (vs++dvs) H1 Q E
def Binds (K:PySem.W.Frag) (fd:FuncData) (ps:List Str) (ds:List Value) : Prop:=
 ∀ (s:Shared) (us:List Value),K.In s.heap→(us++ds).length=ps.length→BindsTo s fd ⟨us,[]⟩ (ps.zip (us++ds))
theorem Binds.all {K:PySem.W.Frag} {fd:FuncData} {ps:List Str} (h:∀ us:List Value,us.length=ps.length→bindArgs fd ⟨us,[]⟩=pure (ps.zip us)) : Binds K fd ps []:=fun s us _ hl=>by
 rw [List.append_nil] at hl ⊢
 exact .of_eq (h us hl)

def Passes (CX:CXT) (X:Cx) (E:XK) : Prop:=∀ (pins:List (Addr × Obj)) (σ:St) (H:Hp) (s:Shared) (e:Value) (s':Shared),Inv X pins σ H s→CX X.stack H s E e s'→X.xe e s'

section
variable {X:Cx} {CX:CXT} {k:Nat} {f C:Addr} {fd:FuncData} {ps:List Str} {sp:Sp} {dvs:List V} {ds:List Value} {E:XK} {x m:Str} {p pos apos:Pos} {e o:Expr} {es:List Expr} {ta:TE} {t:TA}

theorem run_fn {pins:List (Addr × Obj)} {σ:St} {H:Hp} {s:Shared} {Q:VK} {us:List Value} {vs:List V} (F:FnOk X.prog X.w X.K X.mg X.base CX k f fd ps sp) (hr:Room k X.A) (hb:Binds X.K fd ps ds) (hd:Vals dvs ds) (hx:Passes CX X E)
  (I:Inv X pins σ H s) (r:Vals vs us) (h:sp (vs++dvs) H Q E) : wpAny (model X.prog X.w) X.A (call (.ref f) us) (EP X pins σ Q) X.xe s:=by
 have r2:Vals (vs++dvs) (us++ds):=r.append hd
 have hl:(us++ds).length=ps.length:=by rw [← r2.length]; exact F.len _ _ _ _ h
 refine wpAny_call (codeAny_mono (F.run X.A X.stack s H ⟨us,[]⟩ (us++ds) (vs++dvs) Q E hr I.env0 (hb s us I.kIn hl) r2 h) fun r s' hq=>?_)
 cases r with
 | error e=>exact hx pins σ H s e s' I hq
 | ok fl =>
  cases fl with
  | ret u=>exact I.after hq
  | next=>exact False.elim hq
  | brk=>exact False.elim hq
  | cont=>exact False.elim hq

theorem pe_call (F:FnOk X.prog X.w X.K X.mg X.base CX k f fd ps sp) (hr:Room k X.A) (hg:Gl X x) (hm:X.mg x=some (.ref f)) (hk:PySem.W.keepIn X.K (.ref f)=true) (hb:Binds X.K fd ps ds) (hd:Vals dvs ds) (hx:Passes CX X E)
  (ha:PA X (e :: es) t) (hdb:(x == ("__debug__" : Str))=false:=by decide) (he:starEach (e :: es) X.env=(false,eval e X.env) :: starEach es X.env:=by rfl) (hpl:(backTo pos (starEach es X.env)).any (·.1)=false:=by rfl) :
  PE X (.Call (.Name x p) (e :: es) [] pos) (tCall sp dvs E t):=by
 intro pins s σ H Q I h
 refine wpAny_Call_Name_kw (ld_glob I hg hm ?_ hdb)
 refine PySem.W.callWith_K (h₀:=X.base) I.ok.mod.kin hk (thn (ha pos pins s σ H _ I h) fun us s1 ⟨vs,H1,I1,r,q⟩=>⟨I1.kIn,?_⟩) he hpl
 exact run_fn F hr hb hd hx I1 r q
end

section
variable {X:Cx} {CX:CXT} {k:Nat} {f C:Addr} {fd:FuncData} {ps ks:List Str} {sp:Sp} {E:XK} {x m:Str} {p pos apos kpos:Pos} {e o:Expr} {es:List Expr} {kws:List Keyword} {te ta:TE} {t tk:TA} {nm:Option Str}
variable {g:List Value→List Value→List Value} {gV:List V→List V→List V}
end

structure FnScope (N P:List Str) (sc:Scope) : Prop where
 kind:sc.kind = .function
 co:sc.isCoroutine=false
 gen:sc.isGenerator=false
 nd:N.Nodup
 pre:N.take P.length=P
 par:∀ x ∈ P,sc.names.lookup x=some .local∨sc.names.lookup x=some .cell
 nofree:∀ y ∈ sc.names,y.2≠.free

theorem bindL_out {kindOf:Str→Option NameKind} {x:Str} : ∀ {binds:List (Str × Value)} {m:Str→Option Value},(∀ v,(x,v) ∉ binds)→bindL kindOf binds m x=m x
 | [],_,_=>rfl
 | (n,v) :: r,m,h=>by
  unfold bindL
  rw [bindL_out fun w hw=>h w (List.mem_cons_of_mem _ hw)]
  split
  ·have:x≠n:=by rintro rfl; exact h v List.mem_cons_self
   simp [this]
  ·rfl
theorem bindC_out {kindOf:Str→Option NameKind} {x:Str} : ∀ {binds:List (Str × Value)} {m:Str→Option Value},(∀ v,(x,v) ∉ binds)→bindC kindOf binds m x=m x
 | [],_,_=>rfl
 | (n,v) :: r,m,h=>by
  unfold bindC
  rw [bindC_out fun w hw=>h w (List.mem_cons_of_mem _ hw)]
  split
  ·rfl
  ·have:x≠n:=by rintro rfl; exact h v List.mem_cons_self
   simp [this]
theorem bindL_get {kindOf:Str→Option NameKind} {x:Str} {v:Value} : ∀ {P:List Str} {vs:List Value} {i:Nat} {m:Str→Option Value},P.Nodup→P[i]? = some x→vs[i]? = some v→kindOf x=some .local →
  bindL kindOf (P.zip vs) m x=some v
 | [],_,_,_,_,h,_,_=>by simp at h
 | _ :: _,[],_,_,_,_,h,_=>by simp at h
 | p :: P,w :: vs,0,m,nd,h1,h2,hk=>by
  simp at h1 h2; subst h1; subst h2
  show bindL kindOf ((p,w) :: P.zip vs) m p=_
  unfold bindL
  rw [bindL_out fun v hv=>(List.nodup_cons.mp nd).1 (List.of_mem_zip hv).1,if_pos hk]
  simp
 | p :: P,w :: vs,i+1,m,nd,h1,h2,hk=>by
  show bindL kindOf ((p,w) :: P.zip vs) m x=_
  unfold bindL
  exact bindL_get (i:=i) (List.nodup_cons.mp nd).2 (by simpa using h1) (by simpa using h2) hk
theorem bindC_get {kindOf:Str→Option NameKind} {x:Str} {v:Value} : ∀ {P:List Str} {vs:List Value} {i:Nat} {m:Str→Option Value},P.Nodup→P[i]? = some x→vs[i]? = some v→kindOf x≠some .local →
  bindC kindOf (P.zip vs) m x=some v
 | [],_,_,_,_,h,_,_=>by simp at h
 | _ :: _,[],_,_,_,_,h,_=>by simp at h
 | p :: P,w :: vs,0,m,nd,h1,h2,hk=>by
  simp at h1 h2; subst h1; subst h2
  show bindC kindOf ((p,w) :: P.zip vs) m p=_
  unfold bindC
  rw [bindC_out fun v hv=>(List.nodup_cons.mp nd).1 (List.of_mem_zip hv).1,if_neg hk]
  simp
 | p :: P,w :: vs,i+1,m,nd,h1,h2,hk=>by
  show bindC kindOf ((p,w) :: P.zip vs) m x=_
  unfold bindC
  exact bindC_get (i:=i) (List.nodup_cons.mp nd).2 (by simpa using h1) (by simpa using h2) hk

def start (N:List Str) (vs:List V) : St:=vs.map some++List.replicate (N.length - vs.length) none

def cxOf (CX:CXT) (P:Program) (w:World) (K:PySem.W.Frag) (mg:Str→Option Value) (base:Heap) (N:List Str) (qual:Str) (scope:Scope) (f:Addr) (cd:Value) (A:Around) (outer:List Env) (s:Shared) (H:Hp) (E:XK) : Cx where
 prog:=P
 w:=w
 K:=K
 mg:=mg
 base:=base
 A:=A.deeper (envOfC qual scope s.heap.objs.size f cd)
 N:=N
 s₀:=s
 H₀:=H
 env:=envOfC qual scope s.heap.objs.size f cd
 outer:=outer
 stack:=envOfC qual scope s.heap.objs.size f cd :: outer
 ex:=[]
 calm:=true
 fn:=fun _=>true
 pn:=[]
 xe:=fun e s'=>wpAny (model P w) (A.deeper (envOfC qual scope s.heap.objs.size f cd)) (leaving (envOfC qual scope s.heap.objs.size f cd) e) (fun _ s''=>CX outer H s E e s'') (fun e' s''=>CX outer H s E e' s'') s'

theorem cell_has {sc:Scope} {n:Nat} {x:Str} (h:sc.names.lookup x=some .cell) : ∃ c,(cellsFrom n sc.names []).lookup x=some c:=by
 have q:=PySem.W.cellsFrom_some sc.names n [] (.inl h)
 exact Option.isSome_iff_exists.mp q

theorem inv_start {CX:CXT} {P:Program} {w:World} {K:PySem.W.Frag} {mg:Str→Option Value} {base:Heap} {N ps:List Str} {qual:Str} {scope:Scope} {f:Addr} {cd:Value} {A:Around} {outer:List Env} {s s1:Shared} {H:Hp} {E:XK} {us:List Value} {vs:List V}
  (S:FnScope N ps scope) (hd:A.handled=none) (e0:Env0 P w K mg base A outer s H) (hl:vs.length=ps.length) (r:Vals vs us)
  (x:InCallC s s.heap.objs.size (bindL (envOfC qual scope s.heap.objs.size f cd).kindOf (ps.zip us) fun _=>none) (cellsFrom (s.heap.objs.size+1) scope.names []) (bindC (envOfC qual scope s.heap.objs.size f cd).kindOf (ps.zip us) fun _=>none) s1) :
  Inv (cxOf CX P w K mg base N qual scope f cd A outer s H E) [] (start N vs) H s1:=by
 have hpl:ps.length≤N.length:=by have:=congrArg List.length S.pre; rw [List.length_take] at this; omega
 obtain ⟨h1,tk,rfl,hk⟩:=x.done
 have noA:∀ b:Addr,b ∉ (cxOf CX P w K mg base N qual scope f cd A outer s H E).ex:=fun b z=>absurd (show b ∈ ([] : List Addr) from z) (by simp)
 refine ⟨⟨e0.mod,S.kind,rfl,rfl,Nat.le_refl _,fun y z c h1 h2=>?_,fun y hy=>?_,fun y c _ h=>?_,fun _=>hd,Around.frames_deeper e0.frames,.inr ⟨rfl,rfl⟩,fun b z=>absurd z (noA b),e0.bs,e0.bsz,fun b _ _=>noA b,fun b z=>absurd z (noA b),e0.funs,e0.frf⟩,
  rfl,e0.bare,Un.kept hk,⟨_,x.toInCall.ns,fun i y v h1 h2 h3=>?_⟩,fun y c h=>⟨_,x.cell y c h⟩,e0.hok.fresh (Nat.le_refl _),fun y c h=>?_,fun p hp=>absurd (show p ∈ ([] : List (Addr × Obj)) from hp) (by simp),e0.hok.kept hk,?_⟩
 ·exact name_of_addr x.apart (PySem.mem_of_lookup h1) (PySem.mem_of_lookup h2)
 ·have hy:scope.names.lookup y=some .cell∨scope.names.lookup y=some .free:=hy
  rcases hy with hy | hy
  ·exact cell_has hy
  ·exact absurd rfl (S.nofree _ (PySem.mem_of_lookup hy))
 ·exact Nat.le_of_lt (x.above y c (PySem.mem_of_lookup h))
 ·have hi:i < vs.length:=by
   unfold start at h2
   by_cases hi:i < vs.length
   ·exact hi
   ·rw [List.getElem?_append_right (by simpa using hi)] at h2
    rw [List.getElem?_replicate] at h2
    split at h2 <;> cases h2
  have ha:vs[i]? = some v:=by
   unfold start at h2
   rw [List.getElem?_append_left (by simpa using hi),List.getElem?_map] at h2
   cases e:vs[i]? with
   | none=>rw [e] at h2; cases h2
   | some a=>rw [e] at h2; cases h2; rfl
  obtain ⟨u,hu,rv⟩:=r.get ha
  have hp:ps[i]? = some y:=by
   rw [← S.pre,List.getElem?_take_of_lt (by omega)]; exact h1
  have ndP:ps.Nodup:=by rw [← S.pre]; exact S.nd.sublist (List.take_sublist _ _)
  refine ⟨u,rv,?_⟩
  rcases S.par y (List.mem_of_getElem? hp) with k | k
  ·exact .inl ⟨k,bindL_get ndP hp hu k⟩
  ·obtain ⟨c,e⟩:=cell_has (n:=s.heap.objs.size+1) k
   refine .inr ⟨.inl k,c,e,?_⟩
   have q:=x.cell y c e
   rw [bindC_get ndP hp hu (by show scope.names.lookup y≠_; rw [k]; decide)] at q
   exact q
 ·exact e0.hok.fresh (Nat.le_of_lt (x.above y c (PySem.mem_of_lookup h)))
 ·unfold start
  show _=N.length
  rw [List.length_append,List.length_map,List.length_replicate]
  omega

theorem fn_of {CX:CXT} {P:Program} {w:World} {K:PySem.W.Frag} {mg:Str→Option Value} {base:Heap} {k:Nat} {f:Addr} {name qual:Str} {params:Arguments} {body:List Stmt} {scope:Scope} {dV kV doc pm cdv ct oc:Value} {an od:Option Addr}
  {osl:Array (Option Value)} {N ps:List Str} {sp:Sp} (lk:K.lookup f=some ⟨oc,od,.func (PySem.W.fnOf name qual params body scope dV kV doc pm an cdv ct),osl⟩) (hcd:PySem.W.codeIn K cdv qual=true) (S:FnScope N ps scope)
  (len:∀ vs H Q E,sp vs H Q E→vs.length=ps.length)
  (hbody:∀ (A:Around) (outer:List Env) (s:Shared) (H:Hp) (vs:List V) (Q:VK) (E:XK),Room k (A.deeper (envOfC qual scope s.heap.objs.size f cdv))→sp vs H Q E →
   ∃ t,PSs (cxOf CX P w K mg base N qual scope f cdv A outer s H E) body t∧t { nx:=fun _ H'=>Q .non H',rt:=Q } (start N vs) H) :
  FnOk P w K mg base CX (k+1) f (PySem.W.fnOf name qual params body scope dV kV doc pm an cdv ct) ps sp:=by
 refine ⟨len,fun A outer s H args us vs Q E hr e0 hb r hsp=>?_⟩
 have hl:=len _ _ _ _ hsp
 have KX:K.In s.heap:=e0.mod.kin.keeps fun b o e=>(e0.bs b o e).1
 have lim:s.heap.NoLimit:=e0.mod.nolimit.keeps fun b o e=>(e0.bs b o e).1
 have hkind:∀ y ∈ ps.zip us,scope.names.lookup y.1=some .local∨(scope.names.lookup y.1=some .cell∧((cellsFrom (s.heap.objs.size+1) scope.names []).lookup y.1).isSome=true):=fun ⟨n,v⟩ hy=>by
  rcases S.par n (List.of_mem_zip hy).1 with q | q
  ·exact .inl q
  ·exact .inr ⟨q,PySem.W.cellsFrom_some _ _ _ (.inl q)⟩
 refine codeAny_call_function hr.depth (KX _ _ lk) rfl S.co S.gen rfl (PySem.W.codeRec_of KX hcd) (hb _ _ _ _ ?_)
 refine wpAny_newFunctionEnv_cells S.kind hkind fun env he s1 x=>?_
 subst he
 refine ⟨lim.keeps x.toInCall.keep,codeAny_func ?_⟩
 obtain ⟨t,ht,hq⟩:=hbody A outer s H vs Q E (hr.deeper _) hsp
 have I:Inv (cxOf CX P w K mg base N qual scope f cdv A outer s H E) [] (start N vs) H s1:=inv_start S hr.hd e0 hl r x
 refine wpAny_mono (ht [] s1 (start N vs) H _ I hq) (fun fl s' hs=>?_) fun e s' hs=>hs
 have fin:∀ {σ':St} {H':Hp} {v:V} {u:Value},Inv (cxOf CX P w K mg base N qual scope f cdv A outer s H E) [] σ' H' s'→RelV v u→Q v H'→CE outer P w H s Q u s':=
  fun {σ' H' v u} J rv q=>⟨v,H',J.os,J.bare,J.base,J.hok,rv,q⟩
 cases fl with
 | ret u =>
  obtain ⟨v,σ',H',J,rv,q⟩:=hs
  exact fin J rv q
 | next =>
  obtain ⟨σ',H',J,q⟩:=hs
  exact fin (v:=V.non) (u:=Value.none) J rfl q
 | brk =>
  obtain ⟨_,_,_,q⟩:=hs
  exact False.elim q
 | cont =>
  obtain ⟨_,_,_,q⟩:=hs
  exact False.elim q
section
variable {X:Cx} {x:Str} {p pos:Pos} {e:Expr} {es:List Expr} {t:TA} {id T:String} {r:List V→Hp→VK→Prop}

def tCB (r:List V→Hp→VK→Prop) (t:TA) : TE:=fun σ H Q=>t σ H fun vs H1=>r vs H1 Q
theorem pe_callB (hc:CallR X (.builtin id) r) (hg:Gl X x) (hm:X.mg x=none) (hv:bootBuiltins x=some (.builtin id)) (ha:PA X (e :: es) t) (hn:x≠"__name__":=by decide) (hdb:(x == ("__debug__" : Str))=false:=by decide)
  (he:starEach (e :: es) X.env=(false,eval e X.env) :: starEach es X.env:=by rfl) (hpl:(backTo pos (starEach es X.env)).any (·.1)=false:=by rfl) : PE X (.Call (.Name x p) (e :: es) [] pos) (tCB r t):=by
 intro pins s σ H Q I h
 refine wpAny_Call_Name_kw (ld_blt I hg hm hv ?_ hn hdb)
 exact PyProof.Rows.callWith_builtin1 (thn (ha pos pins s σ H _ I h) fun us s1 ⟨vs,H1,I1,r1,q1⟩=>hc pins s1 σ H1 vs us Q I1 r1 q1) he hpl
theorem pe_callTy (hc:CallR X (.type T) r) (hg:Gl X x) (hm:X.mg x=none) (hv:bootBuiltins x=some (.type T)) (ha:PA X (e :: es) t) (hn:x≠"__name__":=by decide) (hdb:(x == ("__debug__" : Str))=false:=by decide)
  (he:starEach (e :: es) X.env=(false,eval e X.env) :: starEach es X.env:=by rfl) (hpl:(backTo pos (starEach es X.env)).any (·.1)=false:=by rfl) : PE X (.Call (.Name x p) (e :: es) [] pos) (tCB r t):=by
 intro pins s σ H Q I h
 refine wpAny_Call_Name_kw (ld_blt I hg hm hv ?_ hn hdb)
 exact PyProof.Rows.callWith_type1 (thn (ha pos pins s σ H _ I h) fun us s1 ⟨vs,H1,I1,r1,q1⟩=>hc pins s1 σ H1 vs us Q I1 r1 q1) he hpl
end
end L2

namespace HT
open PySem PyProof.Rows

section
open PySem.SeqAt
open PySem.AutoSeq1 (wpAny_loadPart')
open PySem.MeetsSeq PySem.MeetsSeq2 PySem.MeetsSeq3

end

section
variable {prog:Program} {w:World} {A:Around} {E:Value→Shared→Prop} {s:Shared}

theorem cat_tup {t b:Addr} {vs ws:List Value} {Q:Value→Shared→Prop} (ht:IsTup s.heap t vs.toArray) (hb:IsTup s.heap b ws.toArray) (hv:vs≠[])
  (h1:ws=[]→Q (.ref t) s) (h2:ws≠[]→Q (.ref s.heap.objs.size) { s with heap:=s.heap.push { cls:=.type "tuple",data:=.seq (vs++ws).toArray } })
  (hsz:vs.length+ws.length≤sizeLine) : wpAny (model prog w) A (binaryOp .Add (.ref t) (.ref b)) Q E s:=by
 obtain ⟨⟨cls,dd,data,sl⟩,ho,hc,n,hd⟩:=id ht
 obtain ⟨⟨cls2,dd2,data2,sl2⟩,ho2,hc2,n2,hd2⟩:=id hb
 simp only at hc hd hc2 hd2
 subst hc hd hc2 hd2
 have e:vs.toArray++ws.toArray=(vs++ws).toArray:=by simp
 by_cases hw:ws=[]
 ·exact concat_meets ⟨_,ho,rfl⟩ ⟨_,ho2,rfl⟩ noFill_tuple_add seq_tuple_add PySem.F.slot_tuple_add PySem.F.entry_tuple_add (PySem.F.args_tuple_add_2 _ _)
   (tuple_addW1 t b vs.toArray ws.toArray n n2 dd dd2 sl sl2 (by simpa using hv) (by simp [hw])) ⟨ho,ho2,h1 hw⟩
 ·refine concat_meets ⟨_,ho,rfl⟩ ⟨_,ho2,rfl⟩ noFill_tuple_add seq_tuple_add PySem.F.slot_tuple_add PySem.F.entry_tuple_add (PySem.F.args_tuple_add_2 _ _)
   (tuple_addW2 t b vs.toArray ws.toArray n n2 dd dd2 sl sl2 (by simpa using hv) (by simpa using hw) (by rw [List.size_toArray,List.size_toArray]; exact hsz)) ⟨ho,ho2,?_⟩
  rw [e]
  exact h2 hw

def sIx (n d:Nat) : Option Int→Nat
 | none=>d
 | some v=>if v < 0 then (v+(n:Int)).toNat else min v.toNat n
theorem sIx_none (n d:Nat) : sIx n d none=d:=rfl
theorem sIx_nat (n d k:Nat) : sIx n d (some (k:Int))=min k n:=by
 show (if (k:Int) < 0 then ((k:Int)+(n:Int)).toNat else min (k:Int).toNat n)=min k n
 rw [if_neg (by omega),Int.toNat_natCast]
theorem sIx_le (n d:Nat) (hd:d≤n) (o:Option Int) : sIx n d o≤n:=by
 cases o with
 | none=>exact hd
 | some v =>
  show (if v < 0 then (v+(n:Int)).toNat else min v.toNat n)≤n
  by_cases hv:v < 0
  ·rw [if_pos hv]; omega
  ·rw [if_neg hv]; exact Nat.min_le_right _ _
theorem clip_eq (v:Int) (n d:Nat) : (if v < 0 then max (v+(n:Int)) 0 else min v (n:Int))=((sIx n d (some v) : Nat) : Int):=by
 show (if v < 0 then max (v+(n:Int)) 0 else min v (n:Int))=(((if v < 0 then (v+(n:Int)).toNat else min v.toNat n) : Nat) : Int)
 by_cases hv:v < 0
 ·simp only [if_pos hv]; omega
 ·simp only [if_neg hv]; omega
theorem adjust_gen (lo hi:Option Int) (n:Nat) : Builtin.Slice.sliceAdjust lo hi 1 (n:Int)=(((sIx n 0 lo:Nat) : Int),((sIx n n hi:Nat) : Int)):=by
 have h1:¬ ((1:Int) < 0):=by omega
 unfold Builtin.Slice.sliceAdjust
 simp only [h1,if_false]
 refine Prod.ext ?_ ?_
 ·cases lo with
  | none=>rfl
  | some v=>exact clip_eq v n 0
 ·cases hi with
  | none=>rfl
  | some v=>exact clip_eq v n n
theorem places_gen (i j:Nat) : Builtin.Slice.slicePlaces (i:Int) (j:Int) 1=j - i:=by
 unfold Builtin.Slice.slicePlaces
 have h1:(1:Int) > 0:=by omega
 simp only [h1,if_true,Int.ediv_one]
 split <;> omega
theorem slicePart_ {v:Value} {o:Option Int} {Q:Option Int→Shared→Prop} (p:IsPart v o) (h:Q o s) : wpAny (model prog w) A (Builtin.Slice.slicePartIndex v) Q E s:=by
 cases p with
 | none=>exact slicePart_none h
 | int i t=>exact slicePart_int h
theorem sliceApplied_gen {sl:Addr} {vl vu:Value} {lo hi:Option Int} {n:Nat} {Q:Int × Int × Nat→Shared→Prop} (hs:s.heap.IsSliceOf sl vl vu .none) (pl:IsPart vl lo) (pu:IsPart vu hi)
  (h:Q (((sIx n 0 lo:Nat) : Int),1,sIx n n hi - sIx n 0 lo) s) : wpAny (model prog w) A (Builtin.Slice.sliceApplied (.ref sl) (pure (n:Int))) Q E s:=by
 obtain ⟨os,hos,hcs,hds⟩:=id hs
 unfold Builtin.Slice.sliceApplied Builtin.Slice.sliceFields
 refine wpAny_bind (wpAny_bind (wpAny_field hos hds (x:=vl) rfl (wpAny_bind (wpAny_field hos hds (x:=vu) rfl (wpAny_bind (wpAny_field hos hds (x:=.none) rfl (wpAny_pure ?_)))))))
 refine wpAny_bind (slicePart_none ?_)
 show wpAny _ _ (if ((1:Int) == 0)=true then _ else _) _ _ s
 rw [if_neg (by decide)]
 refine wpAny_bind (slicePart_ pl (wpAny_bind (slicePart_ pu (wpAny_bind (wpAny_pure ?_)))))
 show wpAny _ _ (match Builtin.Slice.sliceAdjust lo hi 1 (n:Int) with | (lo,hi)=>pure (lo,(1:Int),Builtin.Slice.slicePlaces lo hi 1)) _ _ s
 rw [adjust_gen lo hi n]
 show wpAny _ _ (pure (((sIx n 0 lo:Nat) : Int),(1:Int),Builtin.Slice.slicePlaces ((sIx n 0 lo:Nat) : Int) ((sIx n n hi:Nat) : Int) 1)) _ _ s
 rw [places_gen]
 exact wpAny_pure h
theorem pick_gen (xs:Array Value) (i k:Nat) : ((List.range k).filterMap fun (m:Nat)=>xs[((i:Int)+(m:Int) * 1).toNat]?).toArray=((xs.toList.drop i).take k).toArray:=by
 have e:(fun (m:Nat)=>xs[((i:Int)+(m:Int) * 1).toNat]?)=fun m=>xs[i+m]?:=by
  funext m
  have:((i:Int)+(m:Int) * 1).toNat=i+m:=by omega
  rw [this]
 rw [e]
 have:=pick_run xs i k
 rw [List.filterMap_map] at this
 have e2:((fun x=>xs[x]?) ∘ fun x=>i+x)=fun m=>xs[i+m]?:=rfl
 rw [e2] at this
 rw [this]

theorem getItem_tuple_cut {t sl:Addr} {items:Array Value} {vl vu:Value} {lo hi:Option Int} {Q:Value→Shared→Prop} (ht:IsTup s.heap t items) (hs:s.heap.IsSliceOf sl vl vu .none) (pl:IsPart vl lo) (pu:IsPart vu hi)
  (hw:¬ (sIx items.size 0 lo=0∧sIx items.size items.size hi=items.size))
  (h:Q (.ref s.heap.objs.size) { s with heap:=s.heap.push { cls:=.type "tuple",data:=.seq ((items.toList.drop (sIx items.size 0 lo)).take (sIx items.size items.size hi - sIx items.size 0 lo)).toArray } })
  (hsz:items.size≤sizeLine) : wpAny (model prog w) A (getItem (.ref t) (.ref sl)) Q E s:=by
 have htake:sizeOk (.seq ((items.toList.drop (sIx items.size 0 lo)).take (sIx items.size items.size hi - sIx items.size 0 lo)).toArray):=by
  show ((items.toList.drop (sIx items.size 0 lo)).take (sIx items.size items.size hi - sIx items.size 0 lo)).toArray.size≤sizeLine
  rw [List.size_toArray,List.length_take,List.length_drop,Array.length_toList]
  omega
 have hj:sIx items.size items.size hi≤items.size:=sIx_le _ _ (Nat.le_refl _) hi
 obtain ⟨os,hos,hcs,hds⟩:=id hs
 have hTs:s.TypeIs (.ref sl) "slice":=⟨os,hos,hcs⟩
 unfold getItem
 try with_reducible refine wpAny_holding ?_
 first | refine wpAny_bind (wpAny_pure ?_) | skip
 refine wpAny_bind (wpAny_sequenceKey ht.typeIs (by decide) ?_)
 refine wpAny_bind (wpAny_callSpecial?_slot (name:=Str.ofString "__getitem__") ht.typeIs PyProof.Rows.slot_tuple_getitem
  (wpAny_call_entry PyProof.Rows.slot_tuple_getitem ht.typeIs entry_tuple_getitem ?_ (args_tuple_getitem _ _)))
 show wpAny _ _ (Builtin.Tuple.tupleItemsOf (.ref t) >>= _) _ _ s
 refine wpAny_bind (tupleItemsOf_ ht ?_)
 refine wpAny_bind (wpAny_typeOf hTs ?_)
 rw [if_pos (by decide)]
 refine wpAny_bind (sliceApplied_gen hs pl pu ?_)
 have hno:¬ ((((sIx items.size 0 lo:Nat) : Int) == 0 && (1:Int) == 1 && (sIx items.size items.size hi - sIx items.size 0 lo) == items.size)=true):=by
  intro q
  rw [Bool.and_eq_true,Bool.and_eq_true] at q
  have q1:((sIx items.size 0 lo:Nat) : Int)=0:=eq_of_beq q.1.1
  have q2:sIx items.size items.size hi - sIx items.size 0 lo=items.size:=eq_of_beq q.2
  exact hw ⟨by omega,by omega⟩
 show wpAny _ _ (if (((sIx items.size 0 lo:Nat) : Int) == 0 && (1:Int) == 1 && (sIx items.size items.size hi - sIx items.size 0 lo) == items.size)=true then _ else _) _ _ s
 rw [if_neg hno,pick_gen]
 first
  | exact wpAny_bind (m:=Builtin.Tuple.tupleExact _) (wpAny_newObj_type (wpAny_pure ⟨_,rfl,wpAny_pure h⟩) htake)
  | exact wpAny_bind (m:=Builtin.Tuple.tupleExact _) (wpAny_newObj_type (wpAny_bind (wpAny_pure (wpAny_pure ⟨_,rfl,wpAny_pure h⟩))) htake)
  | exact wpAny_bind (wpAny_bind (m:=Builtin.Tuple.tupleExact _) (wpAny_newObj_type (wpAny_pure (wpAny_pure ⟨_,rfl,wpAny_pure h⟩)) htake))
  | exact wpAny_bind (wpAny_bind (m:=Builtin.Tuple.tupleExact _) (wpAny_newObj_type (wpAny_pure ⟨_,rfl,wpAny_pure h⟩) htake))
end
end HT

namespace L2
open PySem PySem.Spec PyProof.Rows

abbrev TO:=St→Hp→(Option Int→Hp→Prop)→Prop
def PO (X:Cx) (e:Option Expr) (t:TO) : Prop:=
 ∀ (pins:List (Addr × Obj)) (s:Shared) (σ:St) (H:Hp) (Q:Option Int→Hp→Prop),Inv X pins σ H s→t σ H Q →
  wpAny (model X.prog X.w) X.A (evalPart e X.env) (fun u s'=>∃ o H',Inv X pins σ H' s'∧IsPart u o∧Q o H') X.xe s
def tNoPart:TO:=fun _ H Q=>Q none H
def tPart (t:TE) : TO:=fun σ H Q=>t σ H fun x H1=>∃ i,x = .int i∧Q (some i) H1

section
variable {X:Cx} {e:Expr} {te:TE} {lo hi:Option Expr} {tl th:TO} {pos p2:Pos}

theorem po_none:PO X none tNoPart:=by
 intro pins s σ H Q I h
 rw [evalPart_none]
 exact wpAny_pure ⟨none,H,I,.none,h⟩
theorem po_some (h:PE X e te) : PO X (some e) (tPart te):=by
 intro pins s σ H Q I hw
 rw [evalPart_some]
 refine thn (h pins s σ H _ I hw) fun u s1 ⟨x,H1,I1,r1,q1⟩=>?_
 obtain ⟨i,rfl,q⟩:=q1
 obtain ⟨t,rfl⟩:=r1
 exact ⟨some i,H1,I1,.int i t,q⟩

def SlR (X:Cx) (r:V→Option Int→Option Int→Hp→VK→Prop) : Prop:=
 ∀ (pins:List (Addr × Obj)) (s:Shared) (σ:St) (H:Hp) (x:V) (v vl vu:Value) (lo hi:Option Int) (sl:Addr) (Q:VK),Inv X pins σ H s→RelV x v→s.heap.IsSliceOf sl vl vu .none→IsPart vl lo→IsPart vu hi→r x lo hi H Q →
  ∃ T id,typeLookup (.type T) "__getitem__" = pure (some (.builtin id))∧s.TypeIs v T∧wpAny (model X.prog X.w) X.A (getItem v (.ref sl)) (EP X pins σ Q) X.xe s
def tSl (r:V→Option Int→Option Int→Hp→VK→Prop) (te:TE) (tl th:TO) : TE:=fun σ H Q=>te σ H fun x H1=>tl σ H1 fun l H2=>th σ H2 fun u H3=>r x l u H3 Q
theorem pe_slice {r:V→Option Int→Option Int→Hp→VK→Prop} (hr:SlR X r) (he:PE X e te) (hl:PO X lo tl) (hu:PO X hi th) : PE X (.Subscript e (.Slice lo hi none p2) pos) (tSl r te tl th):=by
 intro pins s σ H Q I h
 refine Subscript_ (thn (he pins s σ H _ I h) fun v s1 ⟨x,H1,I1,r1,q1⟩=>?_)
 refine wpAny_Slice (thn (hl pins s1 σ H1 _ I1 q1) fun vl s2 ⟨l,H2,I2,pl,q2⟩=>thn (hu pins s2 σ H2 _ I2 q2) fun vu s3 ⟨u,H3,I3,pu,q3⟩=>?_)
 rw [evalPart_none]
 refine wpAny_pure ?_
 have I4:Inv X pins σ H3 { s3 with heap:=s3.heap.push { cls:=.type "slice",data:=.fields #[vl,vu,.none] } }:=I3.kept (t':=s3.toks) fun b ob q=>Heap.get?_push_of_some _ q
 obtain ⟨T,id,hT,ht,hg⟩:=hr pins { s3 with heap:=s3.heap.push { cls:=.type "slice",data:=.fields #[vl,vu,.none] } } σ H3 x v vl vu l u s3.heap.objs.size Q I4 r1 (Heap.IsSliceOf.new ..) pl pu q3
 show wpAny (model X.prog X.w) X.A (subscriptTail e (.Slice lo hi none p2) v (.ref s3.heap.objs.size)) (EP X pins σ Q) X.xe { s3 with heap:=s3.heap.push { cls:=.type "slice",data:=.fields #[vl,vu,.none] } }
 exact tail_any (ops:=[.ref s3.heap.objs.size,v]) ht hT hg (by with_unfolding_all rfl)

def cutV (xs:List V) (lo hi:Option Int) : List V:=(xs.drop (HT.sIx xs.length 0 lo)).take (HT.sIx xs.length xs.length hi - HT.sIx xs.length 0 lo)
theorem cutV_length (xs:List V) (lo hi:Option Int) : (cutV xs lo hi).length≤xs.length:=by
 unfold cutV
 rw [List.length_take,List.length_drop]
 omega
def rSlT (K:PySem.W.Frag) : V→Option Int→Option Int→Hp→VK→Prop:=fun x lo hi H Q=>∃ a xs,x = .ref a∧SqT K H a xs ∧
 ¬ (HT.sIx xs.length 0 lo=0∧HT.sIx xs.length xs.length hi=xs.length)∧∀ p,H p=none→Q (.ref p) (upd H p (.tup (cutV xs lo hi)))
theorem sl_tup:SlR X (rSlT X.K):=by
 intro pins s σ H x v vl vu lo hi sl Q I rx hs pl pu h
 obtain ⟨a,xs,rfl,hx,hw,q⟩:=h
 cases rx
 obtain ⟨its,r,ht,hz⟩:=I.tuple hx
 have hlen:its.toArray.size=xs.length:=by rw [List.size_toArray]; exact r.length.symm
 refine ⟨"tuple",_,PyProof.Rows.slot_tuple_getitem.lookup,ht.typeIs,?_⟩
 refine HT.getItem_tuple_cut ht hs pl pu (by rw [hlen]; exact hw) ?_ (by rw [hlen]; exact hz)
 rw [hlen]
 refine ⟨.ref s.heap.objs.size,_,I.laid (t':=s.toks) (o:=.tup (cutV xs lo hi)) (fun b ob q=>Heap.get?_push_of_some _ q) (Nat.le_refl _) ?_,rfl,q _ (I.hok.fresh (Nat.le_refl _))⟩
 exact ⟨Nat.le_trans (cutV_length xs lo hi) hz,_,(r.drop (HT.sIx xs.length 0 lo)).take (HT.sIx xs.length xs.length hi - HT.sIx xs.length 0 lo),IsTup.new _ _⟩

def rCatT (K:PySem.W.Frag) : R2:=fun x y H Q=>∃ a b xs ys,x = .ref a∧y = .ref b∧SqT K H a xs∧SqT K H b ys∧xs≠[]∧xs.length+ys.length≤sizeLine ∧
 (ys=[]→Q (.ref a) H)∧(ys≠[]→∀ p,H p=none→Q (.ref p) (upd H p (.tup (xs++ys))))
theorem Vals.nil_iff {xs:List V} {us:List Value} (r:Vals xs us) : us=[]↔xs=[]:=by
 cases r with
 | nil=>simp
 | cons _ _=>simp
theorem op_catT:OpR X (binaryOp .Add) (rCatT X.K):=by
 intro pins s σ H x y v u Q I rx ry h
 obtain ⟨a,b,xs,ys,rfl,rfl,ha,hb,hx,hz,q1,q2⟩:=h
 cases rx
 cases ry
 obtain ⟨its,r1,p1,_⟩:=I.tuple ha
 obtain ⟨its2,r2,p2,_⟩:=I.tuple hb
 refine HT.cat_tup p1 p2 (fun z=>hx (r1.nil_iff.mp z)) (fun z=>⟨.ref a,H,I,rfl,q1 (r2.nil_iff.mp z)⟩) (fun z=>?_) (by rw [← r1.length,← r2.length]; exact hz)
 refine ⟨.ref s.heap.objs.size,_,I.laid (t':=s.toks) (o:=.tup (xs++ys)) (fun b ob q=>Heap.get?_push_of_some _ q) (Nat.le_refl _) ?_,rfl,q2 (fun w=>z (r2.nil_iff.mpr w)) _ (I.hok.fresh (Nat.le_refl _))⟩
 exact ⟨by rw [List.length_append]; exact hz,_,r1.append r2,IsTup.new _ _⟩
end

def ixN (n:Nat) (i:Int) : Option Nat:=if 0≤i then (if i < n then some i.toNat else none) else if -(n:Int)≤i then some (i+n).toNat else none
def atI {α:Type} (xs:List α) (i:Int) : Option α:=(ixN xs.length i).bind fun j=>xs[j]?
theorem ixN_seq {n:Nat} {i:Int} {j:Nat} (h:ixN n i=some j) : seqIndex? i n=some j∧j < n∧-(n:Int)≤i∧i < n:=by
 unfold ixN at h
 by_cases h0:0≤i
 ·rw [if_pos h0] at h
  by_cases h1:i < n
  ·rw [if_pos h1] at h
   have e:i.toNat=j:=Option.some.inj h
   exact ⟨by rw [seqIndex_of h0 h1,e],by omega,by omega,h1⟩
  ·rw [if_neg h1] at h; cases h
 ·rw [if_neg h0] at h
  by_cases h1:-(n:Int)≤i
  ·rw [if_pos h1] at h
   have e:(i+n).toNat=j:=Option.some.inj h
   exact ⟨by rw [seqIndex_neg (by omega) h1,e],by omega,h1,by omega⟩
  ·rw [if_neg h1] at h; cases h
theorem atI_get {α:Type} {xs:List α} {i:Int} {v:α} (h:atI xs i=some v) : ∃ j,seqIndex? i xs.length=some j∧xs[j]? = some v∧j < xs.length∧-(xs.length:Int)≤i∧i < xs.length:=by
 unfold atI at h
 cases e:ixN xs.length i with
 | none=>rw [e] at h; cases h
 | some j =>
  rw [e] at h
  obtain ⟨h1,h2,h3,h4⟩:=ixN_seq e
  exact ⟨j,h1,h,h2,h3,h4⟩
theorem atI_nat {α:Type} {xs:List α} {j:Nat} {v:α} (h:xs[j]? = some v) : atI xs (j:Int)=some v:=by
 have hj:j < xs.length:=(List.getElem?_eq_some_iff.mp h).1
 have e:ixN xs.length (j:Int)=some j:=by
  unfold ixN
  rw [if_pos (by omega),if_pos (by omega)]; simp
 unfold atI; rw [e]; exact h
theorem atI_last {α:Type} (xs:List α) (v:α) : atI (xs++[v]) (-1)=some v:=by
 have hl:(xs++[v]).length=xs.length+1:=by simp
 have e:ixN (xs++[v]).length (-1)=some xs.length:=by
  unfold ixN
  rw [hl,if_neg (by decide),if_pos (by omega)]
  congr 1
  omega
 unfold atI
 rw [e]
 show (xs++[v])[xs.length]? = some v
 simp

def PlainIx (b:Expr) : Prop:=∀ o i,subscripted b false o i=operate [o,i] (getItem o i)
def IxR (X:Cx) (r:R2) : Prop:=
 ∀ (value slice:Expr) (pins:List (Addr × Obj)) (s:Shared) (σ:St) (H:Hp) (x y:V) (v u:Value) (Q:VK),Inv X pins σ H s→RelV x v→RelV y u→r x y H Q →
  subscripted slice false v u=operate [v,u] (getItem v u)→wpAny (model X.prog X.w) X.A (subscriptTail value slice v u) (EP X pins σ Q) X.xe s
def MtR (X:Cx) (id:String) (r:V→List V→Hp→VK→Prop) : Prop:=
 ∀ (pins:List (Addr × Obj)) (s:Shared) (σ:St) (H:Hp) (x:V) (xs:List V) (v:Value) (us:List Value) (Q:VK),Inv X pins σ H s→RelV x v→Vals xs us→r x xs H Q →
  wpAny (model X.prog X.w) X.A (call (.builtin id) (v :: us)) (EP X pins σ Q) X.xe s
section
variable {X:Cx} {a b:Expr} {ta tb:TE} {pos:Pos}
theorem IxR.or {r r':R2} (h:IxR X r) (h':IxR X r') : IxR X (fun x y H Q=>r x y H Q∨r' x y H Q):=by
 intro value slice pins s σ H x y v u Q I rx ry q hs
 rcases q with q | q
 ·exact h value slice pins s σ H x y v u Q I rx ry q hs
 ·exact h' value slice pins s σ H x y v u Q I rx ry q hs
theorem pe_ix {r:R2} (hr:IxR X r) (ha:PE X a ta) (hb:PE X b tb) (hs:PlainIx b) : PE X (.Subscript a b pos) (tOp r ta tb):=by
 intro pins s σ H Q I h
 exact Subscript_ (binT ha hb I h fun v u s2 x y H2 I2 rx ry q=>hr a b pins s2 σ H2 x y v u Q I2 rx ry q (hs _ _))

def rIxL (K:PySem.W.Frag) : R2:=fun x y H Q=>∃ p xs i v,x = .ref p∧y = .int i∧SqL K H p xs∧atI xs i=some v∧Q v H
def rIxT (K:PySem.W.Frag) : R2:=fun x y H Q=>∃ p xs i v,x = .ref p∧y = .int i∧SqT K H p xs∧atI xs i=some v∧Q v H
def rIxS:R2:=fun x y H Q=>∃ z i c,x = .str z∧y = .int i∧z.length≤sizeLine∧atI z.cps.toList i=some c∧Q (.str ⟨#[c]⟩) H
theorem ix_list:IxR X (rIxL X.K):=by
 intro value slice pins s σ H x y v u Q I rx ry h hs
 obtain ⟨p,xs,i,z,rfl,rfl,hq,he,q⟩:=h
 cases rx
 obtain ⟨t,rfl⟩:=ry
 obtain ⟨its,r,pl,hz⟩:=I.list hq
 obtain ⟨j,h1,h2,h3,h4,h5⟩:=atI_get he
 obtain ⟨w,ew,rw'⟩:=r.get h2
 have hl:=r.length
 have hn:=line63
 have fin:EP X pins σ Q w s:=⟨z,H,I,rw',q⟩
 by_cases h0:0≤i
 ·have hj:i.toNat=j:=by
   rw [seqIndex_of h0 h5] at h1
   exact Option.some.inj h1
  exact item_listR pl.isList h0 (by omega) (by rw [hj]; simpa using ew) fin hs
 ·have hj:(i+(its.toArray.size:Int)).toNat=j:=by
   rw [seqIndex_neg (by omega) h4] at h1
   rw [List.size_toArray,← hl]
   exact Option.some.inj h1
  exact subscriptTail_builtinR (x:=w) pl.isList.typeIs slot_list_getitem.lookup
   (wpAny_getItem_list_neg (Q:=fun r s'=>r=w∧EP X pins σ Q r s') pl.isList (by omega) (by rw [List.size_toArray] <;> omega) (by omega) (by rw [hj]; simpa using ew) ⟨rfl,fin⟩) hs
theorem ix_tup:IxR X (rIxT X.K):=by
 intro value slice pins s σ H x y v u Q I rx ry h hs
 obtain ⟨p,xs,i,z,rfl,rfl,hq,he,q⟩:=h
 cases rx
 obtain ⟨t,rfl⟩:=ry
 obtain ⟨its,r,pl,hz⟩:=I.tuple hq
 obtain ⟨j,h1,h2,h3,h4,h5⟩:=atI_get he
 obtain ⟨w,ew,rw'⟩:=r.get h2
 have hl:=r.length
 have hn:=line63
 have fin:EP X pins σ Q w s:=⟨z,H,I,rw',q⟩
 exact subscriptTail_builtinR (x:=w) pl.typeIs slot_tuple_getitem.lookup
  (getItem_tuple (j:=j) (Q:=fun r s'=>r=w∧EP X pins σ Q r s') pl (by omega) (by omega) (by rw [List.size_toArray,← hl]; exact h1) (by simpa using ew) ⟨rfl,fin⟩) hs
theorem ix_str:IxR X rIxS:=by
 intro value slice pins s σ H x y v u Q I rx ry h hs
 obtain ⟨z,i,c,rfl,rfl,hz,he,q⟩:=h
 obtain ⟨t,rfl⟩:=rx
 obtain ⟨t',rfl⟩:=ry
 obtain ⟨j,h1,h2,h3,h4,h5⟩:=atI_get he
 have hl:z.cps.toList.length=z.length:=by simp [Str.length]
 rw [hl] at h1 h4 h5
 have hn:=line63
 exact tail_any (typeIs_str s z t) slot_str_getitem.lookup (getItem_str (c:=c) (by
  have e1:decide (i < -(2 ^ 63:Int))=false:=decide_eq_false (by omega)
  have e2:decide (i ≥ 2 ^ 63)=false:=decide_eq_false (by omega)
  rw [e1,e2,Bool.or_false]) (by rw [h1]; simpa using h2) ⟨.str ⟨#[c]⟩,H,I.tok _,⟨_,rfl⟩,q⟩) hs
def rIx (K:PySem.W.Frag) : R2:=fun x y H Q=>rIxL K x y H Q∨rIxT K x y H Q∨rIxS x y H Q
theorem ix_seq:IxR X (rIx X.K):=ix_list.or (ix_tup.or ix_str)

theorem mapSeq_set (its:List Value) (n j:Nat) (u:Value) : Obj.mapSeq (·.setIfInBounds j u) { cls:=.type "list",data:=.seq its.toArray n }={ cls:=.type "list",data:=.seq (its.set j u).toArray n }:=by
 simp [Obj.mapSeq]
theorem Inv.lst {pins:List (Addr × Obj)} {σ:St} {H:Hp} {s:Shared} {p:Addr} {xs:List V} (I:Inv X pins σ H s) (h:H p=some (.lst xs)) :
  ∃ (its:List Value) (n:Nat),Vals xs its∧s.heap.get? p=some { cls:=.type "list",data:=.seq its.toArray n }∧xs.length≤sizeLine:=by
 obtain ⟨z,its,n,r,e⟩:=I.hok p _ h
 exact ⟨its,n,r,e,z⟩
theorem Inv.lstUpd {pins:List (Addr × Obj)} {σ:St} {H:Hp} {s:Shared} {p:Addr} {xs ys:List V} {its its':List Value} {n n':Nat} {f:Obj→Obj} (I:Inv X pins σ H s) (h:H p=some (.lst xs))
  (ho:s.heap.get? p=some { cls:=.type "list",data:=.seq its.toArray n }) (hf:f { cls:=.type "list",data:=.seq its.toArray n }={ cls:=.type "list",data:=.seq its'.toArray n' }) (r:Vals ys its') (hz:ys.length≤sizeLine) (t:Nat) :
  Inv X pins σ (upd H p (.lst ys)) { s with heap:=s.heap.update p f,toks:=t }:=by
 have e:(s.heap.update p f).get? p=some { cls:=.type "list",data:=.seq its'.toArray n' }:=by
  rw [Heap.get?_update_self f ho (by rw [hf] <;> rfl),hf]
 refine I.write (x:=p) (e:=p) (by rw [h]; trivial) (.inl rfl) (fun b u hb q=>(Heap.get?_update_other _ _ (Ne.symm hb)).trans q) ⟨_,e⟩ ?_
 exact ⟨hz,its',n',r,e⟩
def rSetL:V→V→V→Hp→(Hp→Prop)→Prop:=fun o i v H Q=>∃ p xs k j,o = .ref p∧i = .int k∧H p=some (.lst xs)∧ixN xs.length k=some j∧Q (upd H p (.lst (xs.set j v)))
theorem set_list:PSet X rSetL:=by
 intro pins s σ H o i v ov iv u Q I ro ri rv h
 obtain ⟨p,xs,k,j,rfl,rfl,hp,hj,q⟩:=h
 cases ro
 obtain ⟨t,rfl⟩:=ri
 obtain ⟨its,n,r,ho,hz⟩:=I.lst hp
 obtain ⟨h1,h2,h3,h4⟩:=ixN_seq hj
 have hl:=r.length
 have hn:=line63
 have I':Inv X pins σ (upd H p (.lst (xs.set j v))) { s with heap:=s.heap.update p (Obj.mapSeq (·.setIfInBounds j u)) }:=
  I.lstUpd hp ho (mapSeq_set its n j u) (r.set rv j) (by rw [List.length_set]; exact hz) s.toks
 by_cases h0:0≤k
 ·have hk:k.toNat=j:=by
   rw [seqIndex_of h0 h4] at h1
   exact Option.some.inj h1
  exact PySem.W.ki_setAt ho h0 (by omega) (by rw [List.size_toArray,← hl]; exact h4) (by rw [hk]; exact ⟨_,I',q⟩)
 ·have hk:(k+(its.toArray.size:Int)).toNat=j:=by
   rw [seqIndex_neg (by omega) h3] at h1
   rw [List.size_toArray,← hl]
   exact Option.some.inj h1
  exact PySem.W.ki_setBack ho (by omega) (by rw [List.size_toArray,← hl]; exact h3) (by omega) (by rw [hk]; exact ⟨_,I',q⟩)

theorem slice_bounds (lo hi:Option Int) (n:Nat) : (sliceBounds lo hi none n).1=((HT.sIx n 0 lo:Nat) : Int)∧(sliceBounds lo hi none n).2.1=((HT.sIx n n hi:Nat) : Int)∧(sliceBounds lo hi none n).2.2=1:=by
 refine ⟨?_,?_,rfl⟩
 ·cases lo with
  | none=>simp [sliceBounds,HT.sIx]
  | some i =>
   simp only [sliceBounds,HT.sIx,Option.getD_none,show (1:Int) > 0 by decide,if_true]
   by_cases h:i < 0
   ·simp only [h,if_true] <;> omega
   ·simp only [h,if_false] <;> omega
 ·cases hi with
  | none=>simp [sliceBounds,HT.sIx]
  | some i =>
   simp only [sliceBounds,HT.sIx,Option.getD_none,show (1:Int) > 0 by decide,if_true]
   by_cases h:i < 0
   ·simp only [h,if_true] <;> omega
   ·simp only [h,if_false] <;> omega
theorem slicePick_cut (its:List Value) (lo hi:Option Int) : slicePick its.toArray lo hi none=((its.drop (HT.sIx its.length 0 lo)).take (HT.sIx its.length its.length hi - HT.sIx its.length 0 lo)).toArray:=by
 obtain ⟨h1,h2,h3⟩:=slice_bounds lo hi its.toArray.size
 unfold slicePick
 rw [h1,h2,h3]
 simp only [sliceRange_one,pick_run,List.size_toArray] <;> rfl
def rSlL (K:PySem.W.Frag) : V→Option Int→Option Int→Hp→VK→Prop:=fun x lo hi H Q=>∃ a xs,x = .ref a∧SqL K H a xs∧∀ p,H p=none→Q (.ref p) (upd H p (.lst (cutV xs lo hi)))
theorem sl_list:SlR X (rSlL X.K):=by
 intro pins s σ H x v vl vu lo hi sl Q I rx hs pl pu h
 obtain ⟨a,xs,rfl,hx,q⟩:=h
 cases rx
 obtain ⟨its,r,ht,hz⟩:=I.list hx
 have hlen:=r.length
 refine ⟨"list",_,slot_list_getitem.lookup,ht.isList.typeIs,?_⟩
 refine wpAny_getItem_list_slice ht.isList hs pl pu .none (by simp) ?_ (by rw [List.size_toArray] <;> omega)
 rw [slicePick_cut,← hlen]
 refine ⟨.ref s.heap.objs.size,_,I.laid (t':=s.toks) (o:=.lst (cutV xs lo hi)) (fun b ob q=>Heap.get?_push_of_some _ q) (Nat.le_refl _) ?_,rfl,q _ (I.hok.fresh (Nat.le_refl _))⟩
 exact ⟨Nat.le_trans (cutV_length xs lo hi) hz,_,0,(r.drop (HT.sIx xs.length 0 lo)).take (HT.sIx xs.length xs.length hi - HT.sIx xs.length 0 lo),Heap.get?_push_size _ rfl⟩

def flatV:V→Bool
 | .non=>true
 | .bl _=>true
 | .int _=>true
 | .str _=>true
 | _=>false
def eqV:V→V→Bool
 | .non,.non=>true
 | .bl a,.bl b=>a == b
 | .bl a,.int b=>(if a then 1 else 0) == b
 | .int a,.bl b=>a == (if b then 1 else 0)
 | .int a,.int b=>a == b
 | .str a,.str b=>a == b
 | _,_=>false
theorem eqAt_V {A:Around} {s:Shared} {y x:V} {u v:Value} (ry:RelV y u) (rx:RelV x v) (fy:flatV y=true) (fx:flatV x=true) : SeqAt.EqAt A s u v (eqV y x):=by
 cases y with
 | non =>
  cases ry
  cases x with
  | non=>cases rx; exact SeqAt.EqAt.same _
  | bl b=>cases rx; exact SeqAt.EqAt.none_bool b
  | int b=>obtain ⟨t,rfl⟩:=rx; exact SeqAt.EqAt.none_int b t
  | str b=>obtain ⟨t,rfl⟩:=rx; exact SeqAt.EqAt.none_str b t
  | _=>exact absurd (show false=true from fx) Bool.false_ne_true
 | bl a =>
  cases ry
  cases x with
  | non=>cases rx; exact SeqAt.EqAt.bool_none a
  | bl b=>cases rx; exact SeqAt.EqAt.bool_bool a b
  | int b=>obtain ⟨t,rfl⟩:=rx; exact SeqAt.EqAt.bool_int a b t
  | str b=>obtain ⟨t,rfl⟩:=rx; exact SeqAt.EqAt.bool_str a b t
  | _=>exact absurd (show false=true from fx) Bool.false_ne_true
 | int a =>
  obtain ⟨t',rfl⟩:=ry
  cases x with
  | non=>cases rx; exact SeqAt.EqAt.int_none a t'
  | bl b=>cases rx; exact SeqAt.EqAt.int_bool a t' b
  | int b=>obtain ⟨t,rfl⟩:=rx; exact SeqAt.EqAt.int_int a t' b t
  | str b=>obtain ⟨t,rfl⟩:=rx; exact SeqAt.EqAt.int_str a t' b t
  | _=>exact absurd (show false=true from fx) Bool.false_ne_true
 | str a =>
  obtain ⟨t',rfl⟩:=ry
  cases x with
  | non=>cases rx; exact SeqAt.EqAt.str_none a t'
  | bl b=>cases rx; exact SeqAt.EqAt.str_bool a t' b
  | int b=>obtain ⟨t,rfl⟩:=rx; exact SeqAt.EqAt.str_int a t' b t
  | str b=>obtain ⟨t,rfl⟩:=rx; exact SeqAt.EqAt.str_str a t' b t
  | _=>exact absurd (show false=true from fx) Bool.false_ne_true
 | _=>exact absurd (show false=true from fy) Bool.false_ne_true
def eqU (x:V) (u:Value) : Bool:=match u with
 | .none=>eqV .non x
 | .bool b=>eqV (.bl b) x
 | .int i _=>eqV (.int i) x
 | .str z _=>eqV (.str z) x
 | _=>false
theorem eqU_of {x y:V} {u:Value} (r:RelV y u) (f:flatV y=true) : eqU x u=eqV y x:=by
 cases y with
 | non=>cases r; rfl
 | bl b=>cases r; rfl
 | int i=>obtain ⟨t,rfl⟩:=r; rfl
 | str z=>obtain ⟨t,rfl⟩:=r; rfl
 | _=>exact absurd (show false=true from f) Bool.false_ne_true
theorem any_eqU {x:V} : ∀ {xs:List V} {us:List Value},Vals xs us→xs.all flatV=true→us.any (eqU x)=xs.any fun y=>eqV y x
 | _,_,.nil,_=>rfl
 | y :: xs,u :: us,.cons r t,f=>by
  rw [List.all_cons,Bool.and_eq_true] at f
  rw [List.any_cons,List.any_cons,eqU_of r f.1,any_eqU t f.2]
theorem mem_eqAt {A:Around} {s:Shared} {x:V} {v:Value} (rx:RelV x v) (fx:flatV x=true) : ∀ {xs:List V} {us:List Value},Vals xs us→xs.all flatV=true→∀ u ∈ us,SeqAt.EqAt A s u v (eqU x u)
 | _,_,.nil,_=>fun u hu=>by cases hu
 | y :: xs,u :: us,.cons r t,f=>fun u' hu=>by
  rw [List.all_cons,Bool.and_eq_true] at f
  rcases List.mem_cons.mp hu with rfl | hu
  ·rw [eqU_of r f.1]; exact eqAt_V r rx f.1 fx
  ·exact mem_eqAt rx fx t f.2 u' hu
def inV (x:V) (xs:List V) : Bool:=xs.any fun y=>eqV y x
def rIn (K:PySem.W.Frag) (neg:Bool) : R2:=fun x y H Q=>∃ p xs,y = .ref p∧(SqL K H p xs∨SqT K H p xs)∧flatV x=true∧xs.all flatV=true∧Q (.bl (if neg then !inV x xs else inV x xs)) H
theorem op_in_seq:OpR X (compareOp .In) (rIn X.K false):=by
 intro pins s σ H x y v u Q I rx ry h
 obtain ⟨p,xs,rfl,hq,fx,fs,q⟩:=h
 cases ry
 rcases hq with hq | hq
 ·obtain ⟨its,r,pl,hz⟩:=I.list hq
  refine SeqAt.in_listAt (eqU x) pl.isList (fun w hw=>mem_eqAt rx fx r fs w (by simpa using hw)) ⟨.bl _,H,I,rfl,?_⟩
  rw [show its.toArray.any (eqU x)=its.any (eqU x) by simp,any_eqU r fs]
  exact q
 ·obtain ⟨its,r,pl,hz⟩:=I.tuple hq
  refine SeqAt.in_tupleAt (eqU x) pl (fun w hw=>mem_eqAt rx fx r fs w (by simpa using hw)) ⟨.bl _,H,I,rfl,?_⟩
  rw [show its.toArray.any (eqU x)=its.any (eqU x) by simp,any_eqU r fs]
  exact q
theorem call_len_seq:CallR X (.builtin "len") (fun xs H Q=>∃ p ys,xs=[.ref p]∧(SqL X.K H p ys∨SqT X.K H p ys)∧Q (.int ys.length) H):=by
 intro pins s σ H xs us Q I r h
 obtain ⟨p,ys,rfl,hq,q⟩:=h
 obtain ⟨u,rfl,rx⟩:=vals1 r
 cases rx
 have hn:=line63
 rcases hq with hq | hq
 ·obtain ⟨its,r',pl,hz⟩:=I.list hq
  have hlen:=r'.length
  exact Calls.call_len_list pl.isList (by simp only [List.size_toArray] <;> omega) ⟨.int ys.length,H,I.tok _,⟨s.toks+1,by rw [List.size_toArray,hlen]⟩,q⟩
 ·obtain ⟨its,r',pl,hz⟩:=I.tuple hq
  have hlen:=r'.length
  exact len_tuple pl (by simp only [List.size_toArray] <;> omega) ⟨.int ys.length,H,I.tok _,⟨s.toks+1,by rw [List.size_toArray,hlen]⟩,q⟩
theorem call_tuple_of:CallR X (.type "tuple") (fun xs H Q=>∃ p ys,xs=[.ref p]∧((SqL X.K H p ys∧∀ l,H l=none→Q (.ref l) (upd H l (.tup ys)))∨(SqT X.K H p ys∧Q (.ref p) H))):=by
 intro pins s σ H xs us Q I r h
 obtain ⟨p,ys,rfl,h⟩:=h
 obtain ⟨u,rfl,rx⟩:=vals1 r
 cases rx
 rcases h with ⟨hq,q⟩ | ⟨hq,q⟩
 ·obtain ⟨its,r',pl,hz⟩:=I.list hq
  have hlen:=r'.length
  refine call_tuple_list pl.isList (fun h' kp=>?_) (by simp only [List.size_toArray] <;> omega)
  have I1:Inv X pins σ H { s with heap:=h' }:=I.kept (t':=s.toks) kp
  have I2:Inv X pins σ (upd H h'.objs.size (.tup ys)) { s with heap:=h'.push { cls:=.type "tuple",data:=.seq its.toArray } }:=
   I1.laid (t':=s.toks) (fun b o e=>Heap.get?_push_of_some _ e) (Nat.le_refl _) (show ObjOk X.prog X.w _ _ _ (.tup ys) from ⟨hz,its,r',IsTup.new _ _⟩)
  exact ⟨.ref h'.objs.size,_,I2,rfl,q _ (I1.hok.fresh (Nat.le_refl _))⟩
 ·obtain ⟨its,r',pl,hz⟩:=I.tuple hq
  exact call_tuple_same pl ⟨.ref p,H,I,rfl,q⟩

def tyV (K:PySem.W.Frag) (T:String) (x:V) (H:Hp) : Prop:=match x with
 | .str _=>T = "str"
 | .int _=>T = "int"
 | .ref p=>(T = "list"∧∃ xs,SqL K H p xs)∨(T = "tuple"∧∃ o,K.lookup p=some o∧o.cls = .type "tuple"∧o.dict=none) ∨
   (T = "dict"∧((∃ kvs,H p=some (.dK kvs))∨∃ kvs,H p=some (.dT kvs)))∨(T = "set"∧∃ S n,H p=some (.set S n))
 | _=>False
theorem tyV_is {pins:List (Addr × Obj)} {σ:St} {H:Hp} {s:Shared} {T:String} {x:V} {v:Value} (I:Inv X pins σ H s) (r:RelV x v) (ty:tyV X.K T x H) :
  s.TypeIs v T∧∀ a,v = .ref a→∃ ob,s.heap.get? a=some ob∧ob.dict=none:=by
 cases x with
 | str z =>
  obtain ⟨t,rfl⟩:=r
  cases (show T = "str" from ty)
  exact ⟨typeIs_str s z t,fun _ e=>nomatch e⟩
 | int i =>
  obtain ⟨t,rfl⟩:=r
  cases (show T = "int" from ty)
  exact ⟨typeIs_int s i t,fun _ e=>nomatch e⟩
 | ref p =>
  cases r
  rcases ty with ⟨rfl,xs,hq⟩ | ⟨rfl,o,hk,hc,hd⟩ | ⟨rfl,hk⟩ | ⟨rfl,S,n,hk⟩
  ·obtain ⟨its,_,pl,_⟩:=I.list hq
   refine ⟨pl.isList.typeIs,fun a e=>?_⟩
   cases e
   obtain ⟨o,n,e,c,hd,_⟩:=pl
   exact ⟨o,e,hd⟩
  ·refine ⟨⟨o,I.kIn p o hk,hc⟩,fun a e=>?_⟩
   cases e
   exact ⟨o,I.kIn _ o hk,hd⟩
  ·have z:∃ o,s.heap.get? p=some o∧o.ExactDict:=by
    rcases hk with ⟨kvs,hk⟩ | ⟨kvs,hk⟩
    ·obtain ⟨_,_,_,_,o,_,_,e,ex,_⟩:=I.hok p _ hk
     exact ⟨o,e,ex⟩
    ·obtain ⟨_,_,_,_,o,_,_,e,ex,_⟩:=I.hok p _ hk
     exact ⟨o,e,ex⟩
   obtain ⟨o,e,ex⟩:=z
   refine ⟨⟨o,e,ex.1⟩,fun a e2=>?_⟩
   cases e2
   exact ⟨o,e,ex.2.1⟩
  ·obtain ⟨o,_,_,_,e,ex,_⟩:=I.hok p _ hk
   refine ⟨⟨o,e,ex.1⟩,fun a e2=>?_⟩
   cases e2
   exact ⟨o,e,ex.2.1⟩
 | _=>exact False.elim ty
def tBM0 (K:PySem.W.Frag) (T:String) (r:V→List V→Hp→VK→Prop) (to:TE) : TE:=fun σ H Q=>to σ H fun x H1=>tyV K T x H1∧r x [] H1 Q
def tBM (K:PySem.W.Frag) (T:String) (r:V→List V→Hp→VK→Prop) (to:TE) (t:TA) : TE:=fun σ H Q=>to σ H fun x H1=>tyV K T x H1∧t σ H1 fun xs H2=>r x xs H2 Q
variable {o e:Expr} {es:List Expr} {to:TE} {t:TA} {name:Str} {apos cpos:Pos} {T id:String} {r:V→List V→Hp→VK→Prop}
theorem pe_bm0 (pa:PlainAttrs T) (slot:Slot T name id) (hty:typeOf (.builtin id)=pure (.type "method_descriptor")) (hm:MtR X id r) (ho:PE X o to)
  (hbase:attributeBase o name X.env (eval o X.env)=eval o X.env:=by rfl) (hline:(apos.endLine == cpos.line)=true:=by rfl) : PE X (.Call (.Attribute o name apos) [] [] cpos) (tBM0 X.K T r to):=by
 intro pins s σ H Q I h
 refine wpAny_Call_method0_late hbase hline (thn (ho pins s σ H _ I h) fun v s1 ⟨x,H1,I1,r1,ty,q1⟩=>?_)
 obtain ⟨h1,h2⟩:=tyV_is I1 r1 ty
 exact ⟨T,id,pa,slot,hty,h1,h2,Calls.callWith_builtin rfl (PySem.evalArgs_none (hm pins s1 σ H1 x [] v [] Q I1 r1 .nil q1))⟩
theorem pe_bm (pa:PlainAttrs T) (slot:Slot T name id) (hty:typeOf (.builtin id)=pure (.type "method_descriptor")) (hm:MtR X id r) (ho:PE X o to) (ha:PA X (e :: es) t)
  (hbase:attributeBase o name X.env (eval o X.env)=eval o X.env:=by rfl)
  (hfew:((backTo cpos (starEach (e :: es) X.env)).all (fun x=>!x.1) && (backToKw cpos (keywordEach [] X.env)).all (fun x=>x.1.isSome)
   && decide ((e :: es).length+([] : List Keyword).length+(if ([] : List Keyword).isEmpty then 0 else 1) < 30))=true:=by rfl)
  (hline:(apos.endLine == cpos.line)=true:=by rfl) (hs:starEach (e :: es) X.env=(false,eval e X.env) :: starEach es X.env:=by rfl) (hplain:(backTo cpos (starEach es X.env)).any (·.1)=false:=by rfl) :
  PE X (.Call (.Attribute o name apos) (e :: es) [] cpos) (tBM X.K T r to t):=by
 intro pins s σ H Q I h
 refine wpAny_Call_method_late hbase hfew hline rfl (thn (ho pins s σ H _ I h) fun v s1 ⟨x,H1,I1,r1,ty,q1⟩=>?_)
 obtain ⟨h1,h2⟩:=tyV_is I1 r1 ty
 refine ⟨T,id,pa,slot,hty,h1,h2,?_⟩
 have hA:=ha cpos pins s1 σ H1 _ I1 q1
 rw [hs] at hA ⊢
 refine Calls.callWith_builtin (by show (false || (backTo cpos (starEach es X.env)).any (·.1))=false; rw [hplain] <;> rfl) (Calls.evalArgs_plain ?_)
 exact thn hA fun us s2 ⟨vs,H2,I2,r2,q2⟩=>hm pins s2 σ H2 x vs v us Q I2 r1 r2 q2
end

def MtM (X:Cx) (id:String) (r:V→List V→Hp→VK→Prop) : Prop:=
 ∀ (pins:List (Addr × Obj)) (s:Shared) (σ:St) (H:Hp) (x:V) (xs:List V) (v:Value) (us:List Value) (Q:VK),Inv X pins σ H s→RelV x v→Vals xs us→r x xs H Q →
  wpAny (model X.prog X.w) X.A (call (.builtin id) (v :: us)) (EP X pins σ Q) X.xe s

theorem Vals.one:∀ {x:V} {us:List Value},Vals [x] us→∃ u,us=[u]∧RelV x u
 | _,_,.cons r .nil=>⟨_,rfl,r⟩
theorem Vals.zero:∀ {us:List Value},Vals [] us→us=[]
 | _,.nil=>rfl
theorem Vals.dropLast {xs:List V} {us:List Value} (h:Vals xs us) : Vals xs.dropLast us.dropLast:=by
 induction h with
 | nil=>exact .nil
 | cons r t ih =>
  cases t with
  | nil=>exact .nil
  | cons q t'=>exact .cons r ih
theorem Vals.rep {xs:List V} {us:List Value} (h:Vals xs us) : ∀ k:Nat,Vals (List.replicate k xs).flatten (List.replicate k us).flatten
 | 0=>.nil
 | k+1=>by
  rw [List.replicate_succ,List.replicate_succ,List.flatten_cons,List.flatten_cons]
  exact Vals.append h (Vals.rep h k)
theorem erase_last {α:Type} (l:List α) : l.eraseIdx (l.length - 1)=l.dropLast:=by
 induction l with
 | nil=>rfl
 | cons a r ih =>
  cases r with
  | nil=>rfl
  | cons b r =>
   have e:(a :: b :: r).length - 1=((b :: r).length - 1)+1:=by
    have h1:(a :: b :: r).length=r.length+2:=rfl
    have h2:(b :: r).length=r.length+1:=rfl
    omega
   rw [e,List.eraseIdx_cons_succ,ih]
   all_goals rfl
theorem foldl_rep (its:List Value) : ∀ (k:Nat) (acc:List Value),
  List.foldl (fun x1 x2=>x1++x2) acc.toArray (List.replicate k its.toArray)=(acc++(List.replicate k its).flatten).toArray
 | 0,acc=>by simp
 | k+1,acc=>by
  have e:acc.toArray++its.toArray=(acc++its).toArray:=by simp
  have e2:(acc++its)++(List.replicate k its).flatten=acc++(List.replicate (k+1) its).flatten:=by
   rw [List.replicate_succ,List.flatten_cons,List.append_assoc]
  rw [← e2,← foldl_rep its k (acc++its),← e,List.replicate_succ,List.foldl_cons]

section
variable {X:Cx} {pins:List (Addr × Obj)} {σ:St} {H:Hp} {s:Shared} {l b:Addr} {xs ys zs:List V}

theorem Inv.lset {its its':List Value} {n:Nat} {f:Array Value→Array Value} {t':Nat} (I:Inv X pins σ H s) (hH:H l=some (.lst xs))
  (e:s.heap.get? l=some { cls:=.type "list",data:=.seq its.toArray n }) (hf:f its.toArray=its'.toArray) (hv:Vals ys its') (hz:ys.length≤sizeLine) :
  Inv X pins σ (upd H l (.lst ys)) { s with heap:=s.heap.update l (Obj.mapSeq f),toks:=t' }:=by
 have q:=PySem.IsL.update e f
 rw [hf] at q
 refine I.write (x:=l) (e:=l) (by rw [hH]; exact trivial) (.inl rfl) (fun b' u hb hu=>(Heap.get?_update_other s.heap (Obj.mapSeq f) (Ne.symm hb)).trans hu) ⟨_,q⟩ ?_
 exact ⟨hz,its',_,hv,q⟩
theorem Inv.lnew {its:List Value} {t':Nat} (I:Inv X pins σ H s) (hv:Vals ys its) (hz:ys.length≤sizeLine) :
  Inv X pins σ (upd H s.heap.objs.size (.lst ys)) { s with heap:=s.heap.push { cls:=.type "list",data:=.seq its.toArray },toks:=t' }:=
 I.laid (fun _ _ q=>Heap.get?_push_of_some _ q) (Nat.le_refl _) ⟨hz,its,0,hv,Heap.get?_push_size _ rfl⟩
theorem Inv.fresh (I:Inv X pins σ H s) : H s.heap.objs.size=none:=I.hok.fresh (Nat.le_refl _)
theorem Inv.lstM (I:Inv X pins σ H s) (hH:H l=some (.lst xs)) : xs.length≤sizeLine∧∃ (its:List Value) (n:Nat),Vals xs its∧xs.length=its.length∧s.heap.get? l=some { cls:=.type "list",data:=.seq its.toArray n }:=by
 obtain ⟨z,its,n,r,e⟩:=I.hok l _ hH
 exact ⟨z,its,n,r,r.length,e⟩

theorem notLongL {n:Nat} (h:n≤sizeLine) : Builtin.List.listTooLong n=false:=by
 unfold Builtin.List.listTooLong
 exact decide_eq_false (by omega)
end

section
variable {X:Cx}

def rAppend:V→List V→Hp→VK→Prop:=fun x vs H Q=>∃ l xs y,x = .ref l∧vs=[y]∧H l=some (.lst xs)∧xs.length < sizeLine∧Q .non (upd H l (.lst (xs++[y])))
theorem mt_append:MtM X "list.append" rAppend:=by
 intro pins s σ H x vs v us Q I rx rv h
 obtain ⟨l,xs,y,rfl,rfl,hH,hz,q⟩:=h
 cases rx
 obtain ⟨u,rfl,ru⟩:=rv.one
 obtain ⟨z,its,n,r,hl,e⟩:=I.lstM hH
 refine call_meets F.slot_list_append ⟨_,e,rfl⟩ F.entry_list_append (F.args_list_append_2 _ _) (PySem.list_append l its.toArray n u (by rw [List.size_toArray]; omega)) ⟨e,?_⟩
 refine ⟨.non,_,I.lset (its':=its++[u]) hH e (by simp) (r.append (.cons ru .nil)) ?_,rfl,q⟩
 rw [List.length_append,List.length_singleton]
 omega

def rExtend:V→List V→Hp→VK→Prop:=fun x vs H Q=>∃ l b xs zs,x = .ref l∧vs=[.ref b]∧H l=some (.lst xs)∧H b=some (.lst zs)∧xs.length+zs.length≤sizeLine∧Q .non (upd H l (.lst (xs++zs)))
theorem mt_extend:MtM X "list.extend" rExtend:=by
 intro pins s σ H x vs v us Q I rx rv h
 obtain ⟨l,b,xs,zs,rfl,rfl,hH,hB,hz,q⟩:=h
 cases rx
 obtain ⟨u,rfl,ru⟩:=rv.one
 cases ru
 obtain ⟨z,its,n,r,hl,e⟩:=I.lstM hH
 obtain ⟨z2,its2,n2,r2,hl2,e2⟩:=I.lstM hB
 have hsz:its.toArray.size+its2.toArray.size≤sizeLine:=by rw [List.size_toArray,List.size_toArray]; omega
 have hlong:¬ (!its.toArray.isEmpty && Builtin.List.listTooLong (its.toArray.size+its2.toArray.size))=true:=by
  rw [notLongL hsz,Bool.and_false]
  exact Bool.false_ne_true
 refine call_meets F.slot_list_extend ⟨_,e,rfl⟩ F.entry_list_extend (F.args_list_extend_2 _ _)
  (AutoSeq1.list_extend_list_list_0 l its.toArray n b its2.toArray n2 hlong (by rw [List.size_toArray]; omega) (by omega)) ⟨e,e2,?_⟩
 refine ⟨.non,_,I.lset (its':=its++its2) hH e (by simp) (r.append r2) ?_,rfl,q⟩
 rw [List.length_append]
 omega

def rPop:V→List V→Hp→VK→Prop:=fun x vs H Q=>∃ l xs y,x = .ref l∧vs=[]∧H l=some (.lst xs)∧xs[xs.length - 1]? = some y∧Q y (upd H l (.lst xs.dropLast))
theorem mt_pop:MtM X "list.pop" rPop:=by
 intro pins s σ H x vs v us Q I rx rv h
 obtain ⟨l,xs,y,rfl,rfl,hH,hy,q⟩:=h
 cases rx
 have hus:=rv.zero
 subst hus
 obtain ⟨z,its,n,r,hl,e⟩:=I.lstM hH
 obtain ⟨u,hu,ru⟩:=r.get hy
 have hy':its.toArray[its.toArray.size - 1]? = some u:=by
  show its.toArray[its.length - 1]? = some u
  rw [← Array.getElem?_toList,← hl]
  exact hu
 refine call_meets F.slot_list_pop ⟨_,e,rfl⟩ F.entry_list_pop (F.args_list_pop_1 _) (MeetsSeq.list_pop_last l its.toArray n u hy' (by rw [List.size_toArray]; omega)) ⟨e,?_⟩
 refine ⟨y,_,I.lset (its':=its.dropLast) hH e ?_ r.dropLast ?_,ru,q⟩
 ·show its.toArray.eraseIdxIfInBounds (its.toArray.size - 1)=its.dropLast.toArray
  rw [List.size_toArray,List.eraseIdxIfInBounds_toArray,erase_last]
 ·rw [List.length_dropLast]
  omega

def rCat:R2:=fun x y H Q=>∃ l b xs zs,x = .ref l∧y = .ref b∧H l=some (.lst xs)∧H b=some (.lst zs)∧xs.length+zs.length≤sizeLine∧∀ p,H p=none→Q (.ref p) (upd H p (.lst (xs++zs)))
theorem op_cat:OpR X (binaryOp .Add) rCat:=by
 intro pins s σ H x y v u Q I rx ry h
 obtain ⟨l,b,xs,zs,rfl,rfl,hH,hB,hz,q⟩:=h
 cases rx
 cases ry
 obtain ⟨z,its,n,r,hl,e⟩:=I.lstM hH
 obtain ⟨z2,its2,n2,r2,hl2,e2⟩:=I.lstM hB
 refine PySem.P.add_list e e2 ?_ (by rw [List.size_toArray,List.size_toArray]; omega)
 have ea:its.toArray++its2.toArray=(its++its2).toArray:=by simp
 rw [ea]
 exact ⟨.ref _,_,I.lnew (t':=s.toks) (r.append r2) (by rw [List.length_append]; omega),rfl,q _ I.fresh⟩
def rRep:R2:=fun x y H Q=>∃ l k xs,x = .ref l∧y = .int k∧H l=some (.lst xs)∧-(2 ^ 63)≤k∧k < 2 ^ 63∧xs.length * k.toNat≤sizeLine ∧
 ∀ p,H p=none→Q (.ref p) (upd H p (.lst (List.replicate k.toNat xs).flatten))
theorem len_rep {α:Type} (xs:List α) (k:Nat) : (List.replicate k xs).flatten.length=k * xs.length:=by
 induction k with
 | zero=>simp
 | succ k ih=>rw [List.replicate_succ,List.flatten_cons,List.length_append,ih,Nat.succ_mul,Nat.add_comm]
theorem op_rep:OpR X (binaryOp .Mult) rRep:=by
 intro pins s σ H x y v u Q I rx ry h
 obtain ⟨l,k,xs,rfl,rfl,hH,h1,h2,hz,q⟩:=h
 cases rx
 obtain ⟨t,rfl⟩:=ry
 obtain ⟨z,its,n,r,hl,e⟩:=I.lstM hH
 have hlen:its.toArray.size * k.toNat≤sizeLine:=by rw [List.size_toArray,← hl]; exact hz
 have hcap:¬ its.toArray.size * k.toNat > (2 ^ 63 - 1) / 8:=by
  have:(sizeLine:Nat)≤(2 ^ 63 - 1) / 8:=by decide
  omega
 have hfit:¬ (!Builtin.List.listFitsIndex k)=true:=by
  rw [fitsIndex_both h1 h2]
  exact Bool.false_ne_true
 have hlong:¬ Builtin.List.listTooLong (its.toArray.size * k.toNat)=true:=by
  rw [notLongL hlen]
  exact Bool.false_ne_true
 have hnew:List.foldl (fun x1 x2=>x1++x2) #[] (List.replicate (if its.toArray.isEmpty=true then 0 else k.toNat) its.toArray)=(List.replicate k.toNat its).flatten.toArray:=by
  have f0:∀ m:Nat,List.foldl (fun x1 x2=>x1++x2) #[] (List.replicate m its.toArray)=(List.replicate m its).flatten.toArray:=fun m=>by
   have:=foldl_rep its m []
   rw [List.nil_append] at this
   exact this
  rw [f0]
  cases its with
  | nil=>simp
  | cons a r'=>rw [if_neg (by simp)]
 refine wpAny_binaryOp_repeat_ref (T := "list") (U := "int") (by decide) ⟨_,e,rfl⟩ (fun s'=>typeIs_int s' k t) noFill_list_mul F.fills_int_mul F.slot_int_rmul repeat_list F.slot_int_index.lookup
  (call_meets F.slot_int_rmul (typeIs_int s k t) F.entry_int_rmul (F.args_int_rmul_2 _ _) (int___rmul___int_list k t l its.toArray n)
   ⟨e,rfl,⟨_,e,rfl⟩,call_meets F.slot_list_mul ⟨_,e,rfl⟩ F.entry_list_mul (F.args_list_mul_2 _ _) (AutoListH.list___mul___list_int_3 l its.toArray n k t hfit hcap hlong) ⟨e,?_⟩⟩)
 rw [hnew]
 exact ⟨.ref _,_,I.lnew (t':=s.toks) (r.rep k.toNat) (by rw [len_rep,Nat.mul_comm]; exact hz),rfl,q _ I.fresh⟩

end

section
variable {prog:Program} {w:World} {A:Around} {E:Value→Shared→Prop} {s:Shared}
end

section
variable {X:Cx}
end

section
variable {κ:Type} [DecidableEq κ]
def valV (kvs:List (κ × V)) (k:κ) : Option V:=(kvs.find? fun kv=>decide (kv.1=k)).map (·.2)
def putK (kvs:List (κ × V)) (k:κ) (v:V) : List (κ × V):=
 if (kvs.any fun kv=>decide (kv.1=k))=true then kvs.map (fun kv=>if kv.1=k then (kv.1,v) else kv) else kvs++[(k,v)]
theorem valV_pos {p:κ × V} {r:List (κ × V)} {k:κ} (e:p.1=k) : valV (p :: r) k=some p.2:=by simp [valV,List.find?_cons,e]
theorem valV_neg {p:κ × V} {r:List (κ × V)} {k:κ} (e:¬ p.1=k) : valV (p :: r) k=valV r k:=by simp [valV,List.find?_cons,e]
theorem valV_any (k:κ) : ∀ kvs:List (κ × V),(kvs.any fun kv=>decide (kv.1=k))=(valV kvs k).isSome
 | []=>rfl
 | p :: r=>by
  rw [List.any_cons]
  by_cases e:p.1=k
  ·simp only [valV_pos e,decide_eq_true e,Bool.true_or,Option.isSome_some]
  ·rw [valV_neg e,decide_eq_false e,Bool.false_or]; exact valV_any k r
theorem valV_map (k j:κ) (y:V) : ∀ kvs:List (κ × V),valV (kvs.map fun kv=>if kv.1=k then (kv.1,y) else kv) j=(valV kvs j).map fun x=>if j=k then y else x
 | []=>rfl
 | p :: r=>by
  have ih:=valV_map k j y r
  rw [List.map_cons]
  by_cases h:p.1=k
  ·rw [if_pos h]
   by_cases e:p.1=j
   ·rw [valV_pos (p:=(p.1,y)) e,valV_pos e,Option.map_some,if_pos (e.symm.trans h)]
   ·rw [valV_neg (p:=(p.1,y)) e,valV_neg e,ih]
  ·rw [if_neg h]
   by_cases e:p.1=j
   ·rw [valV_pos (p:=p) e,valV_pos e,Option.map_some,if_neg (fun z=>h (e.trans z))]
   ·rw [valV_neg (p:=p) e,valV_neg e,ih]
theorem valV_snoc (k j:κ) (y:V) : ∀ kvs:List (κ × V),valV kvs k=none→valV (kvs++[(k,y)]) j=if j=k then some y else valV kvs j
 | [],_=>by
  by_cases e:k=j
  ·rw [if_pos e.symm]; exact valV_pos (p:=(k,y)) e
  ·rw [if_neg (fun z=>e z.symm)]; exact valV_neg (p:=(k,y)) e
 | p :: r,hn=>by
  rw [List.cons_append]
  have hk:¬ p.1=k:=fun z=>by rw [valV_pos z] at hn; cases hn
  rw [valV_neg hk] at hn
  have ih:=valV_snoc k j y r hn
  by_cases e:p.1=j
  ·rw [valV_pos e,valV_pos e,if_neg (fun z=>hk (e.trans z))]
  ·rw [valV_neg e,valV_neg e,ih]
theorem valV_put (kvs:List (κ × V)) (k j:κ) (y:V) : valV (putK kvs k y) j=if j=k then some y else valV kvs j:=by
 unfold putK
 by_cases a:(kvs.any fun kv=>decide (kv.1=k))=true
 ·rw [if_pos a,valV_map]
  rw [valV_any] at a
  by_cases e:j=k
  ·obtain ⟨x,hx⟩:=Option.isSome_iff_exists.mp a
   rw [if_pos e,e,hx,Option.map_some,if_pos rfl]
  ·rw [if_neg e]
   cases valV kvs j with
   | none=>rfl
   | some x=>rw [Option.map_some,if_neg e]
 ·rw [if_neg a]
  refine valV_snoc k j y kvs ?_
  rw [valV_any] at a
  cases q:valV kvs k with
  | none=>rfl
  | some x=>rw [q] at a; exact (a rfl).elim
theorem length_putK (kvs:List (κ × V)) (k:κ) (v:V) : (putK kvs k v).length≤kvs.length+1:=by
 unfold putK
 split
 ·rw [List.length_map]; omega
 ·rw [List.length_append,List.length_cons,List.length_nil]; omega
theorem RelO.isSome_eq {o:Option V} {u:Option Value} (r:RelO o u) : o.isSome=u.isSome:=by
 cases o with
 | none=>cases u with
  | none=>rfl
  | some _=>exact (show False from r).elim
 | some _=>cases u with
  | none=>exact (show False from r).elim
  | some _=>rfl
theorem KV.val {kvs:List (κ × V)} {vs:List (κ × Value)} (r:KV kvs vs) (k:κ) : RelO (valV kvs k) (valueAt vs k):=by
 unfold KV at r
 induction r with
 | nil=>exact True.intro
 | @cons p q ps qs h t ih =>
  obtain ⟨h1,h2⟩:=h
  by_cases e:p.1=k
  ·have e':q.1=k:=h1.symm.trans e
   have b:valueAt (q :: qs) k=some q.2:=by simp [valueAt,List.find?_cons,e']
   rw [valV_pos e,b]; exact h2
  ·have e':¬ q.1=k:=fun z=>e (h1.trans z)
   have b:valueAt (q :: qs) k=valueAt qs k:=by simp [valueAt,List.find?_cons,e']
   rw [valV_neg e,b]; exact ih
theorem KV.any {kvs:List (κ × V)} {vs:List (κ × Value)} (r:KV kvs vs) (k:κ) : (kvs.any fun kv=>decide (kv.1=k))=vs.any fun kv=>decide (kv.1=k):=by
 unfold KV at r
 induction r with
 | nil=>rfl
 | cons h t ih=>rw [List.any_cons,List.any_cons,ih,h.1]
theorem KV.repl {kvs:List (κ × V)} {vs:List (κ × Value)} (r:KV kvs vs) (k:κ) {y:V} {u:Value} (ry:RelV y u) :
  KV (kvs.map fun kv=>if kv.1=k then (kv.1,y) else kv) (vs.map fun kv=>if kv.1=k then (kv.1,u) else kv):=by
 unfold KV at r ⊢
 induction r with
 | nil=>exact .nil
 | @cons p q ps qs h t ih =>
  rw [List.map_cons,List.map_cons]
  refine .cons ?_ ih
  obtain ⟨h1,h2⟩:=h
  by_cases e:p.1=k
  ·rw [if_pos e,if_pos (h1.symm.trans e)]; exact ⟨h1,ry⟩
  ·rw [if_neg e,if_neg (fun z=>e (h1.trans z))]; exact ⟨h1,h2⟩
theorem KV.put {kvs:List (κ × V)} {vs:List (κ × Value)} (r:KV kvs vs) (k:κ) {y:V} {u:Value} (ry:RelV y u) : KV (putK kvs k y) (stored vs k u):=by
 unfold putK stored
 rw [r.any k]
 by_cases e:(vs.any fun kv=>decide (kv.1=k))=true
 ·rw [if_pos e,if_pos e]; exact r.repl k ry
 ·rw [if_neg e,if_neg e]; exact Paired.snoc r ⟨rfl,ry⟩
theorem KV.length {kvs:List (κ × V)} {vs:List (κ × Value)} (r:KV kvs vs) : kvs.length=vs.length:=Paired.length r
end


theorem kV_is {P:Program} {w:World} {k:Key} {u:Value} (r:RelV (kV k) u) : (mixKind P w).is k u=true:=by
 cases k with
 | inl i=>obtain ⟨t,e⟩:=(show ∃ t,u=Value.int i t from r); subst e; exact mixKind_int P w i t
 | inr x=>obtain ⟨t,e⟩:=(show ∃ t,u=Value.str x t from r); subst e; exact mixKind_str P w x t
theorem items_are {P:Program} {w:World} : ∀ {ks:List Key} {us:List Value},Vals (ks.map kV) us→ItemsAre (mixKind P w) ks us
 | [],_,r=>by rw [List.map_nil] at r; cases r; exact .nil
 | k :: ks,_,r=>by
  rw [List.map_cons] at r
  cases r with
  | cons h t=>exact .cons (kV_is h) (items_are t)

abbrev KT (H:Hp) : List (List Key × V)→List (List Key × Addr × Value)→Prop:=Paired fun p q=>p.1=q.1∧H q.2.1=some (.tup (p.1.map kV))∧RelV p.2 q.2.2
theorem KT.val {H:Hp} {kvs:List (List Key × V)} {xs:List (List Key × Addr × Value)} (r:KT H kvs xs) (k:List Key) : RelO (valV kvs k) ((atKey xs k).map (·.2)):=by
 induction r with
 | nil=>exact True.intro
 | @cons p q ps qs h t ih =>
  obtain ⟨h1,_,h2⟩:=h
  by_cases e:p.1=k
  ·have e':q.1=k:=h1.symm.trans e
   have b:atKey (q :: qs) k=some q.2:=by simp [atKey,List.find?_cons,e']
   rw [valV_pos e,b]; exact h2
  ·have e':¬ q.1=k:=fun z=>e (h1.trans z)
   have b:atKey (q :: qs) k=atKey qs k:=by simp [atKey,List.find?_cons,e']
   rw [valV_neg e,b]; exact ih
theorem KT.repl {H:Hp} {kvs:List (List Key × V)} {xs:List (List Key × Addr × Value)} (r:KT H kvs xs) (k:List Key) {y:V} {u:Value} (ry:RelV y u) :
  KT H (kvs.map fun kv=>if kv.1=k then (kv.1,y) else kv) (xs.map (putAt k u)):=by
 induction r with
 | nil=>exact .nil
 | @cons p q ps qs h t ih =>
  rw [List.map_cons,List.map_cons]
  refine .cons ?_ ih
  obtain ⟨h1,h2,h3⟩:=h
  unfold putAt
  by_cases e:p.1=k
  ·rw [if_pos e,if_pos (h1.symm.trans e)]; exact ⟨h1,h2,ry⟩
  ·rw [if_neg e,if_neg (fun z=>e (h1.trans z))]; exact ⟨h1,h2,h3⟩
theorem KT.put {H:Hp} {kvs:List (List Key × V)} {xs:List (List Key × Addr × Value)} (r:KT H kvs xs) (k:List Key) {b:Addr} {y:V} {u:Value} (hb:H b=some (.tup (k.map kV))) (ry:RelV y u) :
  KT H (putK kvs k y) (storedH xs k b u):=by
 have e:(kvs.any fun kv=>decide (kv.1=k))=(atKey xs k).isSome:=by
  rw [valV_any,(r.val k).isSome_eq,Option.isSome_map]
 unfold putK storedH
 rw [e]
 by_cases q:(atKey xs k).isSome=true
 ·rw [if_pos q,if_pos q]; exact r.repl k ry
 ·rw [if_neg q,if_neg q]; exact Paired.snoc r ⟨rfl,hb,ry⟩
theorem KT.keeps {H H':Hp} {kvs:List (List Key × V)} {xs:List (List Key × Addr × Value)} (r:KT H kvs xs) (ht:∀ b ys,H b=some (.tup ys)→H' b=some (.tup ys)) : KT H' kvs xs:=
 Paired.mapP r fun _ _ z=>⟨z.1,ht _ _ z.2.1,z.2.2⟩

section
variable {P:Program} {w:World} {H:Hp} {h:Heap} {a:Addr}
theorem rd_of {u:HO} (ok:HOk P w H h) (e:Rd H a u) : ObjOk P w H h a u:=e.ok ok
theorem dk_rd {kvs:List (Key × V)} (ok:HOk P w H h) (e:Rd H a (.dK kvs)) : kvs.length≤sizeLine∧(a == sysModules)=false∧∃ vs,KV kvs vs∧h.DictOf (mixKind P w) a vs:=
 show ObjOk P w H h a (.dK kvs) from rd_of ok e
theorem dk_of {kvs:List (Key × V)} (ok:HOk P w H h) (e:H a=some (.dK kvs)) : kvs.length≤sizeLine∧(a == sysModules)=false∧∃ vs,KV kvs vs∧h.DictOf (mixKind P w) a vs:=dk_rd ok (.inl e)
theorem key_of {ks:List Key} (ok:HOk P w H h) (e:H a=some (.tup (ks.map kV))) : (tupleKind (mixKind P w)).is h ks a:=by
 obtain ⟨_,its,r,o,h1,h2,n,h3⟩:=(show ObjOk P w H h a (.tup (ks.map kV)) from ok a _ e)
 exact ⟨o,its.toArray,n,h1,h2,h3,by simpa using items_are r⟩
theorem dt_rd {kvs:List (List Key × V)} (ok:HOk P w H h) (e:Rd H a (.dT kvs)) : kvs.length≤sizeLine∧(a == sysModules)=false ∧
  ∃ xs,KT H kvs xs∧h.DictOfH (tupleKind (mixKind P w)) a xs:=by
 obtain ⟨z,y,xs,r,o,es,ep,h1,h2,h3,h4,h5⟩:=(show ObjOk P w H h a (.dT kvs) from rd_of ok e)
 refine ⟨z,y,xs,r,o,es,ep,h1,h2,h3,h4,fun x hx=>?_,h5⟩
 have all:∀ {l:List (List Key × V)} {m:List (List Key × Addr × Value)},KT H l m→∀ x ∈ m,(tupleKind (mixKind P w)).is h x.1 x.2.1:=by
  intro l m q
  induction q with
  | nil=>intro x hx; exact nomatch hx
  | @cons p q ps qs hq t ih =>
   intro x hx
   rcases List.mem_cons.mp hx with e | hx
   ·subst e
    exact key_of ok (by rw [← hq.1]; exact hq.2.1)
   ·exact ih x hx
 exact all r x hx
theorem dt_of {kvs:List (List Key × V)} (ok:HOk P w H h) (e:H a=some (.dT kvs)) : kvs.length≤sizeLine∧(a == sysModules)=false ∧
  ∃ xs,KT H kvs xs∧h.DictOfH (tupleKind (mixKind P w)) a xs:=dt_rd ok (.inl e)
end

def DGet (H:Hp) (a:Addr) (y:V) (r:Option V) : Prop:=
 (∃ kvs k,Rd H a (.dK kvs)∧y=kV k∧r=valV kvs k)∨∃ kvs k b,Rd H a (.dT kvs)∧y = .ref b∧H b=some (.tup (k.map kV))∧r=valV kvs k
def DPut (H:Hp) (a:Addr) (y v:V) (H':Hp) : Prop:=
 (∃ kvs k,H a=some (.dK kvs)∧y=kV k∧kvs.length < sizeLine∧H' = upd H a (.dK (putK kvs k v))) ∨
 ∃ kvs k b,H a=some (.dT kvs)∧y = .ref b∧H b=some (.tup (k.map kV))∧kvs.length < sizeLine∧H' = upd H a (.dT (putK kvs k v))
section
variable {X:Cx} {pins:List (Addr × Obj)} {σ:St} {H:Hp} {s:Shared} {a:Addr} {y v:V} {u r:Value} {o:Option V} {A:Around} {E:Value→Shared→Prop}

theorem Inv.big (I:Inv X pins σ H s) : sysModules < s.heap.objs.size:=by
 have h:mainGlobals < s.heap.objs.size:=(I.mod.glob.keeps I.bk).lt
 exact Nat.lt_trans (by decide) h

theorem d_getItem {Q:Value→Shared→Prop} (hu:A.units+1 < cLine) (I:Inv X pins σ H s) (g:DGet H a y (some v)) (ry:RelV y u) (h:∀ w' s',Inv X pins σ H s'→RelV v w'→Q w' s') :
  wpAny (model X.prog X.w) A (getItem (.ref a) u) Q E s:=by
 rcases g with ⟨kvs,k,e,ey,l⟩ | ⟨kvs,k,b,e,ey,eb,l⟩
 ·subst ey
  obtain ⟨z,hd,vs,rel,dd⟩:=dk_rd I.hok e
  obtain ⟨w',hw,rw'⟩:=RelO.some_of (v:=v) (o:=valueAt vs k) (by rw [l]; exact rel.val k)
  exact wpAny_getItem_of (kV_is ry) dd.mapOf hw (h w' _ (I.tok _) rw')
 ·subst ey
  cases (show u=Value.ref b from ry)
  obtain ⟨z,hd,xs,rel,dd⟩:=dt_rd I.hok e
  obtain ⟨w',hw,rw'⟩:=RelO.some_of (v:=v) (o:=(atKey xs k).map (·.2)) (by rw [l]; exact rel.val k)
  obtain ⟨p,hp,hp2⟩:=Option.map_eq_some_iff.mp hw
  refine wpAny_getItem_heap (tupleKind_room_in1 hu) (key_of I.hok eb) dd hp ?_
  rw [hp2]
  exact h w' _ (I.tok _) rw'
theorem d_notIn {Q:Value→Shared→Prop} (hu:A.units+1 < cLine) (I:Inv X pins σ H s) (g:DGet H a y o) (ry:RelV y u) (h:∀ s',Inv X pins σ H s'→Q (.bool (!o.isSome)) s') :
  wpAny (model X.prog X.w) A (compareOp .NotIn u (.ref a)) Q E s:=by
 rcases g with ⟨kvs,k,e,ey,l⟩ | ⟨kvs,k,b,e,ey,eb,l⟩
 ·subst ey
  obtain ⟨z,hd,vs,rel,dd⟩:=dk_rd I.hok e
  refine wpAny_notIn_of (kV_is ry) hd dd.mapOf ?_
  rw [← (rel.val k).isSome_eq,← l]
  exact h _ (I.tok _)
 ·subst ey
  cases (show u=Value.ref b from ry)
  obtain ⟨z,hd,xs,rel,dd⟩:=dt_rd I.hok e
  refine wpAny_notIn_heap (tupleKind_room_in1 hu) (key_of I.hok eb) hd dd ?_
  have q:=(rel.val k).isSome_eq
  rw [Option.isSome_map] at q
  rw [← q,← l]
  exact h _ (I.tok _)
theorem d_write {h':Heap} {t':Nat} {ob:HO} (I:Inv X pins σ H s) (mu:Mut (H a)) (hs:Heap.SameBut a s.heap h') (he:∃ q,h'.get? a=some q) (new:ObjOk X.prog X.w (upd H a ob) h' a ob) :
  Inv X pins σ (upd H a ob) { s with heap:=h',toks:=t' }:=
 I.write (x:=a) (e:=a) mu (.inl rfl) (fun b q hb z=>(hs.2 b hb).trans z) he new
theorem dk_new {P:Program} {w:World} {H':Hp} {h':Heap} {kvs:List (Key × V)} {vs:List (Key × Value)} (z:kvs.length≤sizeLine) (hd:(a == sysModules)=false) (rel:KV kvs vs) (dd:h'.DictOf (mixKind P w) a vs) :
  ObjOk P w H' h' a (.dK kvs):=⟨z,hd,vs,rel,dd⟩
theorem d_setItem {H':Hp} {Q:Unit→Shared→Prop} (hu:A.units+1 < cLine) (I:Inv X pins σ H s) (g:DPut H a y v H') (ry:RelV y u) (rv:RelV v r) (h:∀ s',Inv X pins σ H' s'→Q () s') :
  wpAny (model X.prog X.w) A (setItem (.ref a) u r) Q E s:=by
 rcases g with ⟨kvs,k,e,ey,l,eH⟩ | ⟨kvs,k,b,e,ey,eb,l,eH⟩
 ·subst ey eH
  obtain ⟨z,hd,vs,rel,dd⟩:=dk_of I.hok e
  have hz:vs.length≤sizeLine:=by rw [← rel.length]; exact z
  have hl:(putK kvs k v).length≤sizeLine:=by have:=length_putK kvs k v; omega
  refine wpAny_setItem_pairs (hsz:=hz) (kV_is ry) dd fun h' dd' hs=>h _ ?_
  have he:∃ q,h'.get? a=some q:=let ⟨q,_,_,hq,_⟩:=dd'; ⟨q,hq⟩
  exact d_write I (by rw [e]; exact True.intro) hs he (dk_new hl hd (rel.put k rv) dd')
 ·subst ey eH
  cases (show u=Value.ref b from ry)
  obtain ⟨z,hd,xs,rel,dd⟩:=dt_of I.hok e
  have hz:xs.length≤sizeLine:=by rw [← Paired.length rel]; exact z
  have hl:(putK kvs k v).length≤sizeLine:=by have:=length_putK kvs k v; omega
  refine wpAny_setItem_heap (hsz:=hz) (tupleKind_room_in1 hu) (key_of I.hok eb) dd fun h' dd' hs=>h _ ?_
  obtain ⟨q,es,ep,hq,h2,h3,h4,_,h5⟩:=dd'
  refine d_write I (by rw [e]; exact True.intro) hs ⟨q,hq⟩ ⟨hl,hd,_,(rel.put k eb rv).keeps fun c ys ec=>?_,q,es,ep,hq,h2,h3,h4,h5⟩
  rw [upd_ne (ne_of ec e (fun z=>nomatch z))]
  exact ec
end

section
variable {X:Cx} {pins:List (Addr × Obj)} {σ:St} {H:Hp} {s:Shared} {a:Addr} {kvs:List (Key × V)} {k:Key} {u:Value} {A:Around} {E:Value→Shared→Prop}
end


def NoSl (i:Expr) : Prop:=∀ ov iv,subscripted i false ov iv=operate [ov,iv] (getItem ov iv)
theorem subD_of {prog:Program} {w:World} {A:Around} {E:Value→Shared→Prop} {s:Shared} {env:Env} {value slice:Expr} {pos:Pos} {T id:String} {Q:Value→Shared→Prop}
  (hl:typeLookup (.type T) "__getitem__" = pure (some (.builtin id))) (hs:NoSl slice)
  (h:wpAny (model prog w) A (eval value env) (fun o s₁=>wpAny (model prog w) A (eval slice env) (fun i s₂=>s₂.TypeIs o T∧wpAny (model prog w) A (getItem o i) Q E s₂) E s₁) E s) :
  wpAny (model prog w) A (eval (.Subscript value slice pos) env) Q E s:=by
 refine Subscript_ (wpAny_mono h (fun o s₁ h₁=>wpAny_mono h₁ (fun i s₂ h₂=>?_) fun _ _ x=>x) fun _ _ x=>x)
 obtain ⟨hT,h₂⟩:=h₂
 unfold subscriptTail
 refine wpAny_bind ?_
 rw [getitemInPython_of_ne hT.not_modules]
 refine wpAny_bind (wpAny_specialOf hT hl ?_)
 have fin:wpAny (model prog w) A (subscripted slice false o i) (fun r s₃=>wpAny (model prog w) A (letTemporaryGo value o r >>= fun _=>pure r) Q E s₃) E s₂:=by
  rw [hs o i]
  exact wpAny_operating (wpAny_mono h₂ (fun r s₃ h₃=>wpAny_bind (wpAny_letTemporaryGo (wpAny_pure h₃))) fun _ _ x=>x)
 first
  | exact wpAny_pure (wpAny_bind fin)
  | exact wpAny_bind (wpAny_pure (wpAny_bind fin))
  | exact wpAny_bind fin

theorem dict_typeIs {X:Cx} {pins:List (Addr × Obj)} {σ:St} {H:Hp} {s:Shared} {a:Addr} {y:V} {o:Option V} (I:Inv X pins σ H s) (g:DGet H a y o) : s.TypeIs (.ref a) "dict":=by
 rcases g with ⟨kvs,k,e,_,_⟩ | ⟨kvs,k,b,e,_,_,_⟩
 ·obtain ⟨_,_,vs,_,dd⟩:=dk_rd I.hok e
  exact dd.typeIs
 ·obtain ⟨_,_,xs,_,dd⟩:=dt_rd I.hok e
  exact dd.typeIs
def tDGet (td ty:TE) : TE:=fun σ H Q=>td σ H fun x H1=>ty σ H1 fun y H2=>∃ a v,x = .ref a∧DGet H2 a y (some v)∧Q v H2
def sDPut (td ty tv:TE) : TS:=fun D σ H=>tv σ H fun v H1=>td σ H1 fun x H2=>ty σ H2 fun y H3=>∃ a H4,x = .ref a∧DPut H3 a y v H4∧D.nx σ H4
section
variable {X:Cx} {o i e value:Expr} {pos pos' tpos:Pos} {td ty tv:TE}
theorem pe_dget (hu:X.A.units+1 < cLine) (ho:PE X o td) (hi:PE X i ty) (hs:NoSl i) : PE X (.Subscript o i pos) (tDGet td ty):=by
 intro pins s σ H Q I h
 refine subD_of PySem.F.slot_dict_getitem.lookup hs (thn (ho pins s σ H _ I h) fun u s1 ⟨x,H1,I1,rx,q1⟩=>thn (hi pins s1 σ H1 _ I1 q1) fun iv s2 ⟨y,H2,I2,ry,a,v,ex,g,q2⟩=>?_)
 subst ex
 obtain rfl:u=Value.ref a:=rx
 exact ⟨dict_typeIs I2 g,d_getItem hu I2 g ry fun w' s3 I3 rw'=>⟨v,H2,I3,rw',q2⟩⟩
theorem ps_dput (hu:X.A.units+1 < cLine) (ho:PE X o td) (hi:PE X i ty) (hv:PE X value tv) (hs:swapsWith value (some (.Subscript o i pos')) pos.line X.env=pure false) :
  PS X (.Assign [.Subscript o i pos'] value pos) (sDPut td ty tv):=by
 intro pins s σ H D I h
 refine wpAny_Assign_Subscript (thn (hv pins s σ H _ I h) fun r s1 ⟨v,H1,I1,rv,q1⟩=>thn (ho pins s1 σ H1 _ I1 q1) fun u s2 ⟨x,H2,I2,rx,q2⟩=>thn (hi pins s2 σ H2 _ I2 q2) fun iv s3 ⟨y,H3,I3,ry,a,H4,ex,g,q3⟩=>?_) hs
 subst ex
 obtain rfl:u=Value.ref a:=rx
 exact d_setItem hu I3 g ry rv fun s4 I4=>⟨σ,H4,I4,q3⟩
end


theorem dk_empty {P:Program} {w:World} {H:Hp} (h:Heap) (hb:sysModules < h.objs.size) : ObjOk P w H (h.push { cls:=.type "dict",data:=.dict #[] }) h.objs.size (.dK []):=
 ⟨Nat.zero_le _,beq_eq_false_iff_ne.mpr (Ne.symm (Nat.ne_of_lt hb)),[],.nil,Heap.DictOf.new h⟩
def tDNewK:TE:=fun _ H Q=>∀ p,H p=none→Q (.ref p) (upd H p (.dK []))
section
variable {X:Cx} {pos:Pos}
theorem pe_dnewK:PE X (.Dict [] [] pos) tDNewK:=fun pins s σ H Q I h =>
 wpAny_Dict_empty ⟨.ref s.heap.objs.size,_,I.laid (a:=s.heap.objs.size) (o:=.dK []) (t':=s.toks) (fun _ _ q=>Heap.get?_push_of_some _ q) (Nat.le_refl _) (dk_empty s.heap I.big),rfl,h _ (I.hok.fresh (Nat.le_refl _))⟩
end

structure M2 (X:Cx) (o:Expr) (m:Str) (apos:Pos) (e f:Expr) (cpos:Pos) : Prop where
 base:attributeBase o m X.env (eval o X.env)=eval o X.env
 few:((backTo cpos (starEach [e,f] X.env)).all (fun x=>!x.1) && (backToKw cpos (keywordEach [] X.env)).all (fun x=>x.1.isSome)
  && decide (([e,f] : List Expr).length+([] : List Keyword).length+(if ([] : List Keyword).isEmpty then 0 else 1) < 30))=true
 line:(apos.endLine == cpos.line)=true
 trees:backTo cpos (starEach [e,f] X.env)=[(false,eval e X.env),(false,eval f X.env)]

section
variable {X:Cx} {pins:List (Addr × Obj)} {σ:St} {H:Hp} {s:Shared} {a:Addr} {y d:V} {u r:Value} {o:Option V} {A:Around} {E:Value→Shared→Prop}
end

section
variable {X:Cx} {o e f:Expr} {apos cpos:Pos} {td ty tx:TE}
end

section
variable {X:Cx} {pins:List (Addr × Obj)} {σ:St} {H:Hp} {s:Shared} {a:Addr} {kvs:List (Key × V)} {A:Around} {E:Value→Shared→Prop}
end


section
variable {X:Cx} {pins:List (Addr × Obj)} {σ:St} {H:Hp} {s:Shared} {a:Addr} {y:V} {u:Value} {A:Around} {E:Value→Shared→Prop}
end
end L2

namespace Att
open PySem PySem.W PySem.Calls PyProof.Rows

theorem ints_of_wellAll {P:Params} {h:Heap} : ∀ (ns:List Int) (vs:List Value),WellAll P h vs (ns.map WData.int)→IntsAre vs ns:=by
 intro ns
 induction ns with
 | nil =>
  intro vs w
  rw [List.map_nil] at w
  cases w
  exact .nil
 | cons n ns ih =>
  intro vs w
  rw [List.map_cons] at w
  cases w with
  | cons a b =>
   cases a
   exact .cons _ _ (ih _ b)

theorem script_of {l:OpenLaw} {n:Nat} (hn:l.most=some n) {P:Params} {h:Heap} {args:List WData} {vals:List Value}
  (hpre:l.row.toRowW.claim.pre args=true) (hwl:WellAll P h vals args) :
  ∃ a vs ns,vals=[Value.ref a]∧args=[WData.list (ns.map WData.int)]∧h.get? a=some { cls:=.type "list",data:=.seq vs.toArray }∧IntsAre vs ns∧ns.length≤n:=by
 have hsh:WShape.hasAll [] args [.list .int]=true:=(pre_splitW hpre).1
 have hc:l.pre.holds [] { args:=args }=true:=(pre_splitW hpre).2
 obtain ⟨d,r,rfl,h1,h2⟩:=hasAllW_cons hsh
 obtain rfl:=hasAllW_nil h2
 obtain ⟨xs,rfl,h3⟩:=hasW_list h1
 obtain ⟨ns,rfl⟩:=items_int h3
 have hlen:ns.length≤n:=by
  unfold OpenLaw.pre at hc
  have h4:(WTm.not (.lt (.lit (.int (n:Int))) (.len (.arg 0)))).holds [] { args:=[.list (ns.map .int)] }=true:=by
   have h4:=(holds_andW hc).1
   rw [hn] at h4
   exact h4
  have h5:=condW_of h4 (w_not (w_lt w_lit (w_len_list (w_arg rfl))))
  rw [List.length_map] at h5
  refine Nat.le_of_not_lt fun q=>?_
  have q':(n:Int) < ((ns.length:Nat) : Int):=by omega
  first
   | (rw [decide_eq_true q'] at h5; exact absurd h5 (by decide))
   | (simp at h5; omega)
 cases hwl with
 | cons w1 w2 =>
  cases w2
  cases w1 with
  | list ho hall=>exact ⟨_,_,ns,rfl,rfl,ho,ints_of_wellAll ns _ hall,hlen⟩

theorem post_true (l:OpenLaw) (args:List WData) : l.row.toRowW.claim.post args (.bool true) args=true:=
 postW_of (r:=l.row.toRowW) (X:=(true == true))
  (show WShape.has [] (.bool true) .bool=true by first | rfl | decide | simp [WShape.has,WShape.arms,WShape.armsAll])
  (show (WTm.eq .res (.lit (.bool true))).value [] { args:=args,res:=some (.bool true),after:=args }=some (.bool (true == true)) from w_eq_bool (w_res rfl) w_lit) rfl

theorem attach_call {l:OpenLaw} {n:Nat} {q:Program} {loose:List Str} {XP:(Str→Option Value)→Heap→Prop} {YP:World→Heap→Prop} {d:DefRec}
  (hn:l.most=some n) (hdf:d.params.defaults=[])
  (call:∀ (w:World) (s₀ s₁:Shared) (mg mb:Str→Option Value) (fa:Addr) (o:Obj) (pm cd doc:Value) (a:Addr) (vs:List Value) (ns:List Int),
   Ground q loose [] XP w s₀ mg mb s₁.heap→YP w s₁.heap →
   s₁.heap.get? fa=some o→o.data = .func (docDef d.name d.params d.body d.scope pm cd doc)→s₁.heap.CodeRec cd d.name→mg d.name=some (.ref fa) →
   s₁.heap.get? a=some { cls:=.type "list",data:=.seq vs.toArray }→IntsAre vs ns→ns.length≤n→s₁.gens = #[] →
   codeAny (model l.prog w) callerA (.call (.ref fa) ⟨[.ref a],[]⟩) (fun r s'=>r = .ok (.ret (.bool true))∧OldK s₁.heap s'.heap∧s'.os=s₁.os∧AllBare s'.gens) s₁) :
  WalkO q loose XP YP l.row.toRowW d [] (fun f vs=>PySem.call f vs):=by
 intro w s₀ s₁ mg mb G Y fa o pm cd doc dV kV ho hd hcd hD hmg hg args vals as hpre hlay hrd hwl hlo
 obtain rfl:dV = .none:=Dflts.none hD hdf
 obtain rfl:kV = .none:=Dflts.noKw hD
 obtain ⟨a,vs,ns,rfl,rfl,hobj,hints,hlen⟩:=script_of hn hpre hwl
 refine enter_call (codeAny_mono (call w s₀ s₁ mg mb fa o pm cd doc a vs ns G Y ho (fd_plain hd) hcd hmg hobj hints hlen hg) fun r s' hq=>?_)
 obtain ⟨rfl,h2,h3,h4⟩:=hq
 exact ⟨.inl ⟨.bool true,.bool true,[],rfl,fun _=>rfl,.bool true,post_true l _,fun _=>⟨List.Pairwise.nil,fun _ hm=>(nomatch hm)⟩⟩,h2,h3,h4⟩

section
variable {prog:Program} {w:World} {A:Around} {E:Value→Shared→Prop} {s:Shared} {K:Frag}

end
end Att

namespace L2
open PySem PySem.Spec PyProof.Rows

theorem vals_ints:∀ {vs:List Value} {ns:List Int},IntsAre vs ns→Vals (ns.map V.int) vs
 | _,_,.nil=>.nil
 | _,_,.cons n t h=>.cons ⟨t,rfl⟩ (vals_ints h)

def Only (H:Hp) : Prop:=∀ b,H b=none∨∃ o xs,H b=some (.frz o (.lst xs))

theorem law_call {P:Program} {w:World} {K:PySem.W.Frag} {mg mb:Str→Option Value} {CX:CXT} {k:Nat} {fa a:Addr} {fd:FuncData} {x:Str} {sp:Sp} {s₁:Shared} {vs:List Value} {ns:List Int}
  (KX:K.In s₁.heap) (hns:s₁.heap.Ns mainGlobals mg) (hb:s₁.heap.Ns builtinsNs mb) (hbb:∀ x:Str,x≠"__name__"→mb x=bootBuiltins x) (hlim:s₁.heap.NoLimit) (hg:s₁.gens = #[])
  (ha:s₁.heap.get? a=some { cls:=.type "list",data:=.seq vs.toArray }) (hi:IntsAre vs ns) (hl:ns.length≤sizeLine) (hr:Room k callerA)
  (F:∀ base:Heap,K.In base→base.Ns mainGlobals mg→FnOk P w K mg base CX k fa fd [x] sp) (hbind:∀ (s:Shared) (u:Value),BindsTo s fd ⟨[u],[]⟩ [(x,u)])
  (hsp:∀ H:Hp,Only H→SqL K H a (ns.map V.int)→sp [.ref a] H (fun v _=>v = .bl true) fun _ _ _=>False)
  (hCX:∀ H e s',CX [] H s₁ (fun _ _ _=>False) e s'→False) :
  codeAny (model P w) callerA (.call (.ref fa) ⟨[.ref a],[]⟩) (fun r s'=>r = .ok (.ret (.bool true))∧OldK s₁.heap s'.heap∧s'.os=s₁.os∧AllBare s'.gens) s₁:=by
 have rv:=vals_ints hi
 have lenV:=hi.length
 -- from an abstract heap in which nothing but the script may be tracked
 have core:∀ H:Hp,Only H→SqL K H a (ns.map V.int)→HOk P w H s₁.heap→(∀ b,H b≠none→b=a)→(H a≠none→K.lookup a=none) →
   codeAny (model P w) callerA (.call (.ref fa) ⟨[.ref a],[]⟩) (fun r s'=>r = .ok (.ret (.bool true))∧OldK s₁.heap s'.heap∧s'.os=s₁.os∧AllBare s'.gens) s₁:=by
  intro H hO hS hok hA hK
  have base_of:∀ {b:Addr} {o:Obj},s₁.heap.get? b=some o→H b=none→(hidT s₁.heap H).get? b=some o:=fun e n=>hidT_get e n
  have noA:∀ {b:Addr} {o:Obj} {es:Array DictEntry} {ep:Nat},s₁.heap.get? b=some o→o.data = .dict es ep→H b=none:=fun {b o es ep} e d=>by
   cases q:H b with
   | none=>rfl
   | some u =>
    have e':b=a:=hA b (by rw [q]; simp)
    subst e'
    rw [ha] at e; cases e
    have d':Data.seq vs.toArray _=Data.dict es ep:=d
    cases d'
  have nsK:∀ {b:Addr} {m:Str→Option Value},s₁.heap.Ns b m→(hidT s₁.heap H).Ns b m:=fun {b m} ⟨o,es,ep,e,d,r⟩=>⟨o,es,ep,base_of e (noA e d),d,r⟩
  have hKb:K.In (hidT s₁.heap H):=fun b o e=>base_of (KX b o e) (by
   cases q:H b with
   | none=>rfl
   | some u =>
    have e':b=a:=hA b (by rw [q]; simp)
    subst e'
    rw [hK (by rw [q]; simp)] at e; cases e)
  have hM:Mod K mg (hidT s₁.heap H):=⟨hKb,nsK hns,⟨mb,nsK hb,hbb⟩,let ⟨mc,h1,h2⟩:=hlim; ⟨mc,nsK h1,h2⟩⟩
  have e0:Env0 P w K mg (hidT s₁.heap H) callerA [] s₁ H:=⟨rfl,hM,fun b o e=>of_hidT e,Nat.le_of_eq (hidT_size _ _),trivial,fun b hb=>absurd (show b ∈ ([] : List Addr) from hb) (by simp),hok,.of_eq hg⟩
  refine codeAny_mono ((F _ hKb (nsK hns)).run callerA [] s₁ H ⟨[.ref a],[]⟩ [.ref a] [.ref a] _ _ hr e0 (hbind s₁ (.ref a)) (.cons rfl .nil) (hsp H hO hS)) fun r s' h=>?_
  cases r with
  | error e=>exact (hCX H e s' h).elim
  | ok fl =>
   cases fl with
   | next=>exact False.elim h
   | brk=>exact False.elim h
   | cont=>exact False.elim h
   | ret u =>
    obtain ⟨v,H',os,bare,un,hok',r',q⟩:=h
    have q':v = .bl true:=q
    subst q'
    obtain rfl:u=Value.bool true:=r'
    refine ⟨rfl,OldK.of_keep fun b o e=>?_,os,bare⟩
    cases q:H b with
    | none=>exact un.keep b o e q (by intro z; exact absurd (show b ∈ ([] : List Addr) from z) (by simp)) (by simp)
    | some u =>
     rcases hO b with z | ⟨ob,xs,z⟩
     ·rw [q] at z; cases z
     ·have z2:=un.frzs b ob _ z
      obtain ⟨e1,_⟩:=hok b _ z
      obtain ⟨e2,_⟩:=hok' b _ z2
      rw [e] at e1; cases e1
      exact e2
 cases hk:K.lookup a with
 | some o =>
  -- the script is one of the module's own objects
  have e:=KX a o hk
  rw [ha] at e
  cases e
  refine core (fun _=>none) (fun _=>.inl rfl) (.inr ⟨_,vs.toArray,_,hk,rfl,rfl,rfl,by rw [List.size_toArray,lenV]; exact hl,by simpa using rv⟩) (fun b u z=>by have z':(none:Option HO)=some u:=z; cases z') (fun b z=>absurd rfl z) fun z=>absurd rfl z
 | none =>
  refine core (fun b=>if b=a then some (.frz { cls:=.type "list",data:=.seq vs.toArray } (.lst (ns.map V.int))) else none) (fun b=>?_) (.inl (.inr ⟨{ cls:=.type "list",data:=.seq vs.toArray },if_pos rfl⟩)) (fun b u z=>?_) (fun b z=>?_) fun _=>hk
  ·by_cases hb:b=a
   ·exact .inr ⟨_,_,if_pos hb⟩
   ·exact .inl (if_neg hb)
  ·by_cases hb:b=a
   ·have z':=(if_pos hb).symm.trans z
    cases z'
    subst hb
    exact ⟨ha,by rw [List.length_map]; exact hl,vs,_,rv,ha⟩
   ·have z':=(if_neg hb).symm.trans z
    cases z'
  ·by_cases hb:b=a
   ·exact hb
   ·exact absurd (if_neg hb) z

theorem walk_of {l:PySem.W.OpenLaw} {n k:Nat} {q:Program} {loose:List Str} {XP:(Str→Option Value)→Heap→Prop} {YP:World→Heap→Prop} {d:DefRec} {K:Params→PySem.W.Frag} {CX:World→CXT} {sp:World→Sp} {x:Str}
  (hn:l.most=some n) (hn2:n≤sizeLine) (hdf:d.params.defaults=[]) (hr:Room k callerA)
  (hY:∀ (w:World) (h:Heap),YP w h→(K w.params).In h)
  (F:∀ (w:World) (mg:Str→Option Value) (fa:Addr) (h:Heap),(K w.params).In h→h.Ns mainGlobals mg→mg d.name=some (.ref fa) →
   ∃ fd:FuncData,(∀ (s:Shared) (u:Value),BindsTo s fd ⟨[u],[]⟩ [(x,u)]) ∧
    ∀ base:Heap,(K w.params).In base→base.Ns mainGlobals mg→FnOk l.prog w (K w.params) mg base (CX w) k fa fd [x] (sp w))
  (hsp:∀ (w:World) (H:Hp) (a:Addr) (ns:List Int),ns.length≤n→Only H→SqL (K w.params) H a (ns.map V.int)→sp w [.ref a] H (fun v _=>v = .bl true) fun _ _ _=>False)
  (hCX:∀ (w:World) (H:Hp) (s:Shared) (e:Value) (s':Shared),CX w [] H s (fun _ _ _=>False) e s'→False) :
  PySem.W.WalkO q loose XP YP l.row.toRowW d [] (fun f vs=>PySem.call f vs):=by
 refine Att.attach_call hn hdf fun w s₀ s₁ mg mb fa o pm cd doc a vs ns G Y ho hd hcd hmg hobj hints hlen hg=>?_
 have KX:=hY w _ Y
 obtain ⟨fd,hb,hF⟩:=F w mg fa _ KX G.T.g hmg
 exact law_call KX G.T.g G.T.b G.T.builtins G.T.nolimit hg hobj hints (Nat.le_trans hlen hn2) hr hF hb (fun H hO hS=>hsp w H a ns hlen hO hS) fun H e s'=>hCX w H s₁ e s'

abbrev CX0:CXT:=fun _ _ _ _ _ _=>False
abbrev E0:XK:=fun _ _ _=>False
theorem pass0 {X:Cx} : Passes CX0 X E0:=fun _ _ _ _ _ _ _ h=>h.elim

structure Fun (K:PySem.W.Frag) (x qual:Str) (st:Stmt) (f:Addr) (fd:FuncData) : Prop where
 ex:∃ (oc:Value) (od:Option Addr) (kV doc pm:Value) (an:Option Addr) (cdv ct:Value) (osl:Array (Option Value)),
  fd=PySem.W.fnOf x qual (defArgs st) (defBody st) (defScope st) .none kV doc pm an cdv ct∧K.lookup f=some ⟨oc,od,.func fd,osl⟩∧PySem.W.codeIn K cdv qual=true
 kp:PySem.W.keepIn K (.ref f)=true
section
variable {P:Program} {w:World} {K:PySem.W.Frag} {mg:Str→Option Value} {base:Heap}
theorem Fun.ok {x qual:Str} {st:Stmt} {f:Addr} {fd:FuncData} {N ps:List Str} {k:Nat} {sp:Sp} (F:Fun K x qual st f fd) (S:FnScope N ps (defScope st)) (len:∀ vs H Q E,sp vs H Q E→vs.length=ps.length)
  (hbody:∀ (cdv:Value) (A:Around) (outer:List Env) (s:Shared) (H:Hp) (vs:List V) (Q:VK) (E:XK),Room k (A.deeper (envOfC qual (defScope st) s.heap.objs.size f cdv))→sp vs H Q E →
   ∃ t,PSs (cxOf CX0 P w K mg base N qual (defScope st) f cdv A outer s H E).nox (defBody st) t∧t { nx:=fun _ H'=>Q .non H',rt:=Q } (start N vs) H) : FnOk P w K mg base CX0 (k+1) f fd ps sp:=by
 obtain ⟨oc,od,kV,doc,pm,an,cdv,ct,osl,rfl,lk,hcd⟩:=F.ex
 refine fn_of lk hcd S len fun A outer s H vs Q E hr hsp=>?_
 obtain ⟨t,h,q⟩:=hbody cdv A outer s H vs Q E hr hsp
 exact ⟨t,h.nox,q⟩
theorem Fun.binds {x qual:Str} {st:Stmt} {f:Addr} {fd:FuncData} {ps:List Str} (F:Fun K x qual st f fd)
  (h:∀ (kV doc pm:Value) (an:Option Addr) (cdv ct:Value) (us:List Value),us.length=ps.length→bindArgs (PySem.W.fnOf x qual (defArgs st) (defBody st) (defScope st) .none kV doc pm an cdv ct) ⟨us,[]⟩=pure (ps.zip us)) : Binds K fd ps []:=by
 obtain ⟨oc,od,kV,doc,pm,an,cdv,ct,osl,rfl,lk,hcd⟩:=F.ex
 exact .all (h kV doc pm an cdv ct)
theorem fun_mk {x qual:Str} {st:Stmt} {f:Addr} {oc:Value} {od an:Option Addr} {osl:Array (Option Value)} {kV doc pm cdv ct:Value} (l:K.lookup f=some ⟨oc,od,.func (PySem.W.fnOf x qual (defArgs st) (defBody st) (defScope st) .none kV doc pm an cdv ct),osl⟩)
  (c:PySem.W.codeIn K cdv qual=true) (k:PySem.W.keepIn K (.ref f)=true) : Fun K x qual st f (PySem.W.fnOf x qual (defArgs st) (defBody st) (defScope st) .none kV doc pm an cdv ct):=⟨⟨oc,od,kV,doc,pm,an,cdv,ct,osl,rfl,l,c⟩,k⟩
end
theorem hu_of {A:Around} {k:Nat} (hr:Room k A) : A.units+1 < cLine:=Nat.lt_of_le_of_lt (Nat.add_le_add_left (by decide:1≤64) _) hr.units
theorem small1000 {n:Nat} (h:n≤1000000) : n < sizeLine:=Nat.lt_of_le_of_lt h (by decide)

section
variable {X:Cx}
theorem pv (i:Nat) {x:Str} {pos:Pos} (hN:X.N[i]? = some x:=by rfl) (hv:Vis X.env.scope x:=by first | exact Or.inl rfl | exact Or.inr (Or.inl rfl) | exact Or.inr (Or.inr rfl)) (hd:(x == ("__debug__" : Str))=false:=by decide)
  (hcd:(x == ("__classdict__" : Str))=false:=by decide) : PE X (.Name x pos) (tVar i):=pe_var hN hv hd hcd
end

theorem iteF {A B:Prop} (h:B) : if false=true then A else B:=by
 rw [if_neg Bool.false_ne_true]
 exact h
theorem iteT {A B:Prop} (h:A) : if true=true then A else B:=by
 rw [if_pos rfl]
 exact h
theorem ite2 {c A B:Prop} [Decidable c] (h1:c→A) (h2:¬ c→B) : if c then A else B:=by
 by_cases h:c
 ·rw [if_pos h]
  exact h1 h
 ·rw [if_neg h]
  exact h2 h
theorem iteNS {c A B:Prop} [Decidable c] (hc:c) (h:B) : if (!decide c)=true then A else B:=by
 rw [decide_eq_true hc]
 exact iteF h

def Same (H H':Hp) : Prop:=∀ b o,H b=some o→H' b=some o
theorem Same.refl (H:Hp) : Same H H:=fun _ _ h=>h
theorem Same.trans {H H1 H2:Hp} (a:Same H H1) (b:Same H1 H2) : Same H H2:=fun c o h=>b c o (a c o h)
theorem Same.free {H H':Hp} (e:Same H H') {l:Addr} (h:H' l=Option.none) : H l=Option.none:=by
 cases q:H l with
 | none=>rfl
 | some o =>
  rw [e l o q] at h
  cases h
theorem Same.seq {K:PySem.W.Frag} {H H':Hp} {a:Addr} {xs:List V} (e:Same H H') (h:SqL K H a xs) : SqL K H' a xs:=by
 rcases h with (h | ⟨o,h⟩) | h
 ·exact .inl (.inl (e _ _ h))
 ·exact .inl (.inr ⟨o,e _ _ h⟩)
 ·exact .inr h

section
variable {κ:Type} [DecidableEq κ]
end

section
variable {prog:Program} {w:World} {A:Around} {R:Result→Shared→Prop} {s:Shared}
theorem compLoop_any {elt target iter:Expr} {ifs:List Expr} {scope:Scope} {pos:Pos} {it acc:Value} {env:Env} (I:Nat→Shared→Prop)
  (turn:∀ n s,I n s→wpAny (model prog w) A (pyNext it) (fun r s₁=>match r with
   | none=>R (.ok .next) s₁
   | some v=>wpAny (model prog w) A (letOwnedTupleGo target it v) (fun _ s₀=>wpAny (model prog w) A (assign target env v) (fun _ s₂ =>
     wpAny (model prog w) A (forIn ifs true fun c r=>if r=true then do let ok ← isTrue c env (eval c env); pure (ForInStep.yield ok) else pure (ForInStep.yield r)) (fun ok s₃ =>
      if ok=true then wpAny (model prog w) A (eval elt env) (fun x s₄ =>
       wpAny (model prog w) A (call (.builtin "list.append") [acc,x]) (fun _ s₅=>∃ m,m < n∧I m s₅) (fun _ _=>False) s₄) (fun _ _=>False) s₃
      else ∃ m,m < n∧I m s₃) (fun _ _=>False) s₂) (fun _ _=>False) s₀) (fun _ _=>False) s₁) (fun _ _=>False) s)
  (n:Nat) (h:I n s) : codeAny (model prog w) A (.compLoop (.ListComp elt [⟨target,iter,ifs,0⟩] scope pos) 0 it acc env) R s:=by
 refine codeAny_loop rfl I (fun n s hI=>?_) n h
 show wpAny _ A ((compTurn (.ListComp elt [⟨target,iter,ifs,0⟩] scope pos) 0 it acc env).onRaise (fun x=>do noteFrame x env; theTreesLotGoes x)) _ _ s
 refine wpAny_noted ?_
 rw [compTurn_list]
 refine wpAny_bind (wpAny_standAt (wpAny_bind (wpAny_mono (turn n s hI) (fun r s₁ h₁=>?_) fun _ _ h'=>h'.elim)))
 cases r with
 | none=>exact wpAny_pure h₁
 | some v =>
  refine wpAny_bind (wpAny_mono h₁ (fun _ s₀ h₀=>?_) fun _ _ h'=>h'.elim)
  refine wpAny_bind (wpAny_mono h₀ (fun _ s₂ h₂=>wpAny_bind (wpAny_mono h₂ (fun ok s₃ h₃=>?_) fun _ _ h'=>h'.elim)) fun _ _ h'=>h'.elim)
  cases ok with
  | false=>exact wpAny_pure ⟨rfl,h₃⟩
  | true =>
   exact wpAny_bind (wpAny_bind (wpAny_mono h₃ (fun x s₄ h₄=>wpAny_bind (wpAny_mono h₄ (fun _ s₅ h₅=>wpAny_pure (wpAny_pure ⟨rfl,h₅⟩)) fun _ _ h'=>h'.elim)) fun _ _ h'=>h'.elim))
end

def PTs (X:Cx) (ifs:List Expr) (t:TT) : Prop:=
 ∀ (pins:List (Addr × Obj)) (s:Shared) (σ:St) (H:Hp) (Q:Bool→Hp→Prop),Inv X pins σ H s→t σ H Q →
  wpAny (model X.prog X.w) X.A (forIn ifs true fun c r=>if r=true then do let ok ← isTrue c X.env (eval c X.env); pure (ForInStep.yield ok) else pure (ForInStep.yield r)) (TP X pins σ Q) X.xe s
def tYes:TT:=fun _ H Q=>Q true H
theorem pts_nil {X:Cx} : PTs X [] tYes:=fun _ _ _ H _ I h=>wpAny_tests_nil ⟨H,I,h⟩
theorem pts_one {X:Cx} {c:Expr} {t:TT} (h:PT X c t) : PTs X [c] t:=fun pins s σ H Q I hw=>wpAny_tests_one (h pins s σ H Q I hw)

abbrev Cx.blk (X:Cx) (N:List Str) (s:Shared) (H:Hp) (scope:Scope) (cl:List (Str × Addr)) (C:Addr) (ex:List Addr) : Cx:=
 { X with N:=N,s₀:=s,H₀:=H,env:=compEnvC scope cl C X.env,outer:=X.stack,stack:=X.stack,ex:=ex,fn:=fun _=>false,pn:=[],xe:=fun _ _=>False }

def AllC (env:Env) : List (Str × Addr)→Prop
 | []=>True
 | p :: r=>env.cells.lookup p.1=some p.2∧AllC env r
theorem lookup_mem {α:Type} : ∀ {l:List (Str × α)} {x:Str} {k:α},l.lookup x=some k→(x,k) ∈ l
 | [],_,_,h=>by simp at h
 | (n,k') :: r,x,k,h=>by
  rw [List.lookup_cons] at h
  cases hx:x == n with
  | true =>
   rw [hx] at h
   have e:x=n:=eq_of_beq hx
   have e2:k' = k:=Option.some.inj h
   rw [e,e2]; exact List.mem_cons_self
  | false =>
   rw [hx] at h
   exact List.mem_cons_of_mem _ (lookup_mem h)
theorem AllC.get {env:Env} : ∀ {cl:List (Str × Addr)} {x:Str} {c:Addr},AllC env cl→cl.lookup x=some c→env.cells.lookup x=some c:=fun {cl x c} h e=>by
 have go:∀ (l:List (Str × Addr)),AllC env l→∀ p ∈ l,env.cells.lookup p.1=some p.2:=by
  intro l
  induction l with
  | nil=>intro _ p hp; cases hp
  | cons q r ih =>
   intro ha p hp
   rcases List.mem_cons.mp hp with rfl | hp
   ·exact ha.1
   ·exact ih ha.2 p hp
 exact go cl h (x,c) (lookup_mem e)
def CapOk (X:Cx) (scope:Scope) (cl:List (Str × Addr)) : List Str→List Nat→Prop
 | [],[]=>True
 | y :: ys,j :: js=>(X.N[j]? = some y∧(X.env.kindOf y=some .cell∨X.env.kindOf y=some .free)∧(cl.lookup y).isSome=true∧((relabel scope X.env).names.lookup y=some .cell∨(relabel scope X.env).names.lookup y=some .free))∧CapOk X scope cl ys js
 | _,_=>False
theorem CapOk.get {X:Cx} {scope:Scope} {cl:List (Str × Addr)} : ∀ {ys:List Str} {js:List Nat} {i:Nat} {y:Str},CapOk X scope cl ys js→ys[i]? = some y →
  ∃ j,js[i]? = some j∧X.N[j]? = some y∧(X.env.kindOf y=some .cell∨X.env.kindOf y=some .free)∧(cl.lookup y).isSome=true∧((relabel scope X.env).names.lookup y=some .cell∨(relabel scope X.env).names.lookup y=some .free)
 | [],_,_,_,_,e=>by simp at e
 | _ :: _,[],_,_,h,_=>h.elim
 | y :: ys,j :: js,0,z,h,e=>by
  have e':y=z:=by simpa using e
  subst e'
  exact ⟨j,rfl,h.1⟩
 | y :: ys,j :: js,i+1,z,h,e=>by
  obtain ⟨k,e1,e2⟩:=CapOk.get (i:=i) h.2 (by simpa using e)
  exact ⟨k,by simpa using e1,e2⟩
theorem CapOk.len {X:Cx} {scope:Scope} {cl:List (Str × Addr)} : ∀ {ys:List Str} {js:List Nat},CapOk X scope cl ys js→ys.length=js.length
 | [],[],_=>rfl
 | [],_ :: _,h=>h.elim
 | _ :: _,[],h=>h.elim
 | _ :: _,_ :: _,h=>by rw [List.length_cons,List.length_cons,CapOk.len h.2]
def capv (σ:St) (js:List Nat) : St:=js.map fun j=>(σ[j]?).join
theorem relabel_free {scope:Scope} {env:Env} {x:Str} (hcell:∀ y ∈ scope.names,y.2≠.cell) (h:(relabel scope env).names.lookup x=some .cell∨(relabel scope env).names.lookup x=some .free) : (x,NameKind.free) ∈ scope.names:=by
 have hm:∃ k,(k=NameKind.cell∨k=NameKind.free)∧(x,k) ∈ (relabel scope env).names:=by
  rcases h with h | h
  ·exact ⟨_,.inl rfl,lookup_mem h⟩
  ·exact ⟨_,.inr rfl,lookup_mem h⟩
 obtain ⟨k,hk,hm⟩:=hm
 obtain ⟨⟨n,k'⟩,hin,e⟩:=List.mem_map.mp hm
 dsimp only at e
 by_cases hc:(k' == NameKind.free && env.scope.kind == .function && env.kindOf n == some .cell)=true
 ·rw [if_pos hc] at e
  cases e
  have:k' = NameKind.free:=by
   rw [Bool.and_eq_true,Bool.and_eq_true] at hc
   exact eq_of_beq hc.1.1
  rw [← this]; exact hin
 ·rw [if_neg hc] at e
  cases e
  rcases hk with hk | hk
  ·exact absurd hk (hcell _ hin)
  ·rw [← hk]; exact hin
section
variable {X:Cx} {pins:List (Addr × Obj)} {σ:St} {H:Hp} {s:Shared}
theorem Inv.adopt {D:Addr} {ys:List V} {its:List Value} {n:Nat} (I:Inv X pins σ H s) (hn:H D=none) (hnew:X.s₀.heap.objs.size≤D) (hL:D≠X.env.locals) (hc:∀ x c,X.env.cells.lookup x=some c→c≠D) (hp:∀ p ∈ X.pn++pins,p.1≠D)
  (e:s.heap.get? D=some { cls:=.type "list",data:=.seq its.toArray n }) (hv:Vals ys its) (hz:ys.length≤sizeLine) : Inv X pins σ (upd H D (.lst ys)) s:=by
 have ne:∀ b u,H b=some u→b≠D:=fun b u q=>ne_of_none q hn
 refine ⟨I.ok,I.os,I.bare,⟨I.base.keep,I.base.slot,fun b o q nn hx=>?_,I.base.there,fun b xs q=>?_,fun b o u q=>?_,fun b ps q=>?_⟩,I.loc,I.cell,?_,fun x c q=>?_,fun p hq=>?_,fun b u q=>?_,I.len⟩
 ·rw [upd_ne (Nat.ne_of_lt (Nat.lt_of_lt_of_le (Heap.lt_size q) hnew))]; exact I.base.free b o q nn hx
 ·have z:=I.base.tups b xs q
  rw [upd_ne (ne b _ z)]; exact z
 ·have z:=I.base.frzs b o u q
  rw [upd_ne (ne b _ z)]; exact z
 ·obtain ⟨more,z⟩:=I.base.tbls b ps q
  exact ⟨more,by rw [upd_ne (ne b _ z)]; exact z⟩
 ·rw [upd_ne (Ne.symm hL)]; exact I.free
 ·rw [upd_ne (hc x c q)]; exact I.freeC x c q
 ·obtain ⟨a1,a2,a3⟩:=I.pin p hq
  exact ⟨a1,by rw [upd_ne (hp p hq)]; exact a2,a3⟩
 ·by_cases hb:b=D
  ·subst hb
   rw [upd_same] at q; cases q
   exact ⟨hz,its,n,hv,e⟩
  ·rw [upd_ne hb] at q
   exact (I.hok b u q).stay (fun c v _ r=>r) (fun c r=>by rw [upd_ne (ne c _ r)]; exact r) fun c xs r=>by rw [upd_ne (ne c _ r)]; exact r
structure Outed (X:Cx) (pins:List (Addr × Obj)) (σ:St) (C D:Addr) (H:Hp) (s:Shared) : Prop where
 inv:Inv X pins σ H s
 ns:∃ m,s.heap.Ns C m
 nL:C≠X.env.locals
 new:X.s₀.heap.objs.size≤C
 nc:∀ x c,X.env.cells.lookup x=some c→c≠C
 np:∀ p ∈ X.pn++pins,p.1≠C
 free:H C=none
theorem Outed.gone {C D:Addr} {h':Heap} (O:Outed X pins σ C D H s) (sb:Heap.SameBut C s.heap h') : Inv X pins σ H { s with heap:=h' }:=
 O.inv.turned (t':=s.toks) (it:=C) (fun b o hb e=>(sb.2 b hb).trans e) O.free O.nL (.inr O.new) O.nc O.np
end

def gLC (J:It) (g:TG) (tc:TT) (te:TE) (n:Nat) (cv:St) (Fin:List V→Hp→Prop) (H1:Hp) : Prop:=
 ∃ W:Nat→Nat→List V→Hp→Prop,(∃ m,W 0 m [] H1)∧∀ i m ys H,W i m ys H →
  (J.stop i H∧Fin ys H) ∨
  (J.go i H∧ys.length < sizeLine∧∃ N:List V→Hp→Prop,(∀ ys' H',N ys' H'→∃ m',m' < m∧W (i+1) m' ys' H')∧∀ x H',J.yld i H x H'→∀ own:St,own.length=n→g x (own++cv) H' fun σ2 H2=>(∃ own2:St,own2.length=n∧σ2=own2++cv) ∧
   tc σ2 H2 fun b H3=>if b=true then te σ2 H3 fun y H4=>N (ys++[y]) H4 else N ys H3)

def clOf (env:Env) : List (Str × NameKind)→List (Str × Addr)→List (Str × Addr)
 | [],acc=>acc
 | (n,k) :: r,acc=>clOf env r (if k == .free then (match env.cells.lookup n with | some c=>(n,c) :: acc | none=>acc) else acc)
theorem clOf_all (env:Env) : ∀ (names:List (Str × NameKind)) (acc:List (Str × Addr)),AllC env acc→AllC env (clOf env names acc)
 | [],_,h=>h
 | (n,k) :: r,acc,h=>by
  refine clOf_all env r _ ?_
  split
  ·split
   ·exact ⟨by assumption,h⟩
   ·exact h
  ·exact h
structure LcOk (X:Cx) (scope:Scope) (cl:List (Str × Addr)) (own caps:List Str) (js:List Nat) : Prop where
 clos:closureFor scope X.env=pure cl
 cell:∀ y ∈ scope.names,y.2≠.cell
 kind:scope.kind = .function
 names:∀ y ∈ scope.names,y.2 = .local→scope.names.lookup y.1=some .local
 allc:AllC X.env cl
 free:(scope.names.all fun y=>y.2 != .free || (cl.lookup y.1).isSome)=true
 cap:CapOk X scope cl caps js

theorem lcok {X:Cx} {scope:Scope} {own caps:List Str} {js:List Nat} (clos:closureFor scope X.env=pure (clOf X.env scope.names []):=by with_unfolding_all rfl) (cell:∀ y ∈ scope.names,y.2≠.cell:=by decide +kernel) (kind:scope.kind = .function:=by rfl)
  (names:∀ y ∈ scope.names,y.2 = .local→scope.names.lookup y.1=some .local:=by decide +kernel) (free:(scope.names.all fun y=>y.2 != .free || ((clOf X.env scope.names []).lookup y.1).isSome)=true:=by with_unfolding_all rfl)
  (cap:CapOk X scope (clOf X.env scope.names []) caps js) : LcOk X scope (clOf X.env scope.names []) own caps js:=⟨clos,cell,kind,names,clOf_all _ _ _ trivial,free,cap⟩
section
variable {X:Cx} {elt iter target:Expr} {ifs:List Expr} {scope:Scope} {cl:List (Str × Addr)} {pos:Pos} {own caps:List Str} {js:List Nat} {g:TG} {tc:TT} {te:TE}
theorem lc_block {pins:List (Addr × Obj)} {σ:St} {s₂:Shared} {H1:Hp} {it:Addr} {fp:List Addr} {tn:Nat→Heap→Prop} {J:It} {Fin:List V→Hp→Prop} {RR:Value→Addr→Result→Shared→Prop} {E:Value→Shared→Prop}
  (hc:X.calm=true) (L:LcOk X scope cl own caps js)
  (hg:∀ s H C ex,PG (X.blk (own++caps) s H scope cl C ex) target g) (ht:∀ s H C ex,PTs (X.blk (own++caps) s H scope cl C ex) ifs tc) (he:∀ s H C ex,PE (X.blk (own++caps) s H scope cl C ex) elt te)
  (I2:Inv X pins σ H1 s₂) (T:Turn X.prog X.w X.K target J fp it tn) (st2:tn 0 s₂.heap) (f2:∀ b ∈ fp,FpOk X pins H1 b)
  (G:gLC J g tc te own.length (capv σ js) Fin H1)
  (hRR:∀ D C H ys s',H D=none→Outed X pins σ C D (upd H D (.lst ys)) s'→Fin ys H→RR (.ref D) C (.ok .next) s') :
  wpAny (model X.prog X.w) X.A (newList []) (fun acc s₃=>wpAny (model X.prog X.w) X.A (newFunctionEnv scope X.env.globals cl [] X.env.qual none .none (some X.env)) (fun cenv s₄ =>
   codeAny (model X.prog X.w) X.A (.compStart (.ListComp elt [⟨target,iter,ifs,0⟩] scope pos) 0 (.ref it) acc { cenv with scope:=relabel scope X.env }) (RR acc cenv.locals) s₄) E s₃) E s₂:=by
 refine wpAny_newObj_type (wpAny_newFunctionEnv L.cell (by intro y hy; simp at hy) (fun h₁ hns₁ hsb₁=>?_) L.kind)
 dsimp only at hns₁ hsb₁ ⊢
 generalize hH2:s₂.heap.push { cls:=.type "list",dict:=none,data:=.seq ([] : List Value).toArray }=G2 at hns₁ hsb₁ ⊢
 have hC:G2.objs.size=s₂.heap.objs.size+1:=by rw [← hH2,Heap.size_push]
 have up2:∀ b o,s₂.heap.get? b=some o→G2.get? b=some o:=fun b o e=>hH2 ▸ Heap.get?_push_of_some _ e
 have hDC:s₂.heap.objs.size≠G2.objs.size:=by rw [hC]; exact Nat.ne_of_lt (Nat.lt_succ_self _)
 have hD2:G2.get? s₂.heap.objs.size=some { cls:=.type "list",data:=.seq ([] : List Value).toArray ([] : List Value).length }:=hH2 ▸ Heap.get?_push_size _ rfl
 -- the state with the list laid
 have I3:Inv X pins σ H1 { s₂ with heap:=G2 }:=I2.kept (t':=s₂.toks) up2
 have up3:∀ b o,G2.get? b=some o→h₁.get? b=some o:=fun b o e=>hsb₁.extBut b o (Nat.ne_of_lt (Heap.lt_size e)) (Heap.get?_push_of_some _ e)
 have DH:H1 s₂.heap.objs.size=none:=I2.fresh
 have CH:H1 G2.objs.size=none:=I3.fresh
 have fpl:∀ b ∈ fp,b < s₂.heap.objs.size:=fun b hb=>by
  obtain ⟨o,e,_⟩:=T.obj 0 _ st2 b hb
  exact Heap.lt_size e
 have celllt:∀ x c,X.env.cells.lookup x=some c→c < s₂.heap.objs.size:=fun x c e=>by
  obtain ⟨v,q⟩:=I2.cell x c e
  exact q.lt
 have locl:X.env.locals < s₂.heap.objs.size:=I2.lt
 generalize hD:s₂.heap.objs.size=D at *
 generalize hCC:G2.objs.size=C at *
 have hDltC:D < C:=by omega
 have noF:∀ b,b ∈ frs X.stack→b < D:=fun b hb=>by
  rcases List.mem_cons.mp (I2.stkSub b hb) with e | hb
  ·rw [e]; exact locl
  ·obtain ⟨_,o,ho,_⟩:=I2.ok.funs.mem hb
   exact Nat.lt_of_lt_of_le (Heap.lt_size ho) (hD ▸ I2.sz)
 have fpF:∀ b ∈ fp,b ∉ frs X.stack:=fun b hb z=>by
  obtain ⟨_,e1,e2,_⟩:=f2 b hb
  rcases List.mem_cons.mp (I2.stkSub b z) with e | z
  ·exact e1 e
  ·exact e2 z
 have ok':(X.blk (own++caps) { s₂ with heap:=G2 } H1 scope cl C (D :: fp)).Ok:={
  mod:=I2.ok.mod
  kind:=L.kind
  glob:=I2.ok.glob
  blt:=I2.ok.blt
  above:=Nat.le_of_eq hCC
  inj:=fun x y c e1 e2=>I2.ok.inj x y c (L.allc.get e1) (L.allc.get e2)
  has:=fun x hx=>by
   have hm:=relabel_free L.cell hx
   have q:=List.all_eq_true.mp L.free _ hm
   have q':(cl.lookup x).isSome=true:=by simpa using q
   exact Option.isSome_iff_exists.mp q'
  cab:=fun x c e=>nomatch e
  hd:=I2.ok.hd
  frames:=I2.ok.frames
  stk:=.inl rfl
  exf:=fun b hb=>by
   rcases List.mem_cons.mp hb with rfl | hb
   ·exact ⟨Nat.ne_of_lt hDltC,fun x c e=>Nat.ne_of_lt (celllt x c (L.allc.get e))⟩
   ·obtain ⟨_,e1,e2,_,e4,_⟩:=f2 b hb
    exact ⟨Nat.ne_of_lt (Nat.lt_trans (fpl b hb) hDltC),fun x c e=>e4 x c (L.allc.get e)⟩
  bs:=fun b o e=>⟨up2 b o (I2.bs b o e).1,(I2.bs b o e).2⟩
  bsz:=by
   show X.base.objs.size≤G2.objs.size
   have:=I2.ok.bsz
   have:=I2.sz
   omega
  noex:=fun b o e hb=>by
   have hlt:=Heap.lt_size (I2.bs b o e).1
   rcases List.mem_cons.mp hb with z | hb
   ·exact absurd (show b < D from hD ▸ hlt) (by rw [z]; exact Nat.lt_irrefl _)
   ·obtain ⟨_,_,_,e3,_⟩:=f2 b hb
    rcases e3 with e3 | e3
    ·exact I2.ok.noex b o e e3
    ·exact absurd (Nat.lt_of_lt_of_le (Heap.lt_size (I2.ok.bs b o e).1) e3) (Nat.lt_irrefl _)
  exfs:=fun b hb z=>by
   rcases List.mem_cons.mp hb with e | hb
   ·exact absurd (noF b z) (by rw [e]; exact Nat.lt_irrefl _)
   ·exact fpF b hb z
  funs:=I3.stack
  frf:=I3.stkFree }
 have hns:h₁.Ns C (fun x=>([] : List (Str × Value)).reverse.lookup x):=hns₁
 have start:Inv (X.blk (own++caps) { s₂ with heap:=G2 } H1 scope cl C (D :: fp)) [(D,LCg.lst [])] (List.replicate own.length none++capv σ js) H1 { s₂ with heap:=h₁,toks:=s₂.toks+([] : List (Str × Value)).length }:=by
  refine ⟨ok',rfl,I2.bare,Un.kept up3,⟨_,hns,fun i x v e1 e2 e3=>?_⟩,fun x c e=>?_,CH,fun x c e=>I2.freeC x c (L.allc.get e),fun p hp=>?_,I3.hok.kept up3,?_⟩
  ·have hlo:own.length≤i:=by
    refine Nat.le_of_not_lt fun hlt=>?_
    rw [List.getElem?_append_left (by rw [List.length_replicate]; exact hlt),List.getElem?_replicate,if_pos hlt] at e2
    cases e2
   have e1':caps[i - own.length]? = some x:=by rw [← List.getElem?_append_right hlo]; exact e1
   obtain ⟨j,j1,j2,j3,j4,j5⟩:=L.cap.get e1'
   have e2':(capv σ js)[i - own.length]? = some (some v):=by
    rw [← e2,List.getElem?_append_right (by rw [List.length_replicate]; exact hlo),List.length_replicate]
   have e4:σ[j]? = some (some v):=by
    unfold capv at e2'
    rw [List.getElem?_map,j1] at e2'
    have e5:(σ[j]?).join=some v:=Option.some.inj e2'
    cases hq:σ[j]? with
    | none=>rw [hq] at e5; cases e5
    | some q=>rw [hq] at e5; exact congrArg some e5
   obtain ⟨m,hn,hl⟩:=I2.loc
   obtain ⟨u,ru,lk⟩:=hl j x v j2 e4 (.inr j3)
   refine ⟨u,ru,.inr ⟨j5,?_⟩⟩
   rcases lk with ⟨k,_⟩ | ⟨_,c,ec,o,ho,hd⟩
   ·rcases j3 with z | z <;> (rw [k] at z; cases z)
   ·obtain ⟨c',ec'⟩:=Option.isSome_iff_exists.mp j4
    have:=L.allc.get ec'
    rw [ec] at this
    cases this
    exact ⟨c,ec',o,up3 _ _ (up2 _ _ ho),hd⟩
  ·obtain ⟨v,o,ho,hd⟩:=I2.cell x c (L.allc.get e)
   exact ⟨v,o,up3 _ _ (up2 _ _ ho),hd⟩
  ·have e:p=(D,LCg.lst []):=by simpa using hp
   subst e
   exact ⟨up3 _ _ hD2,DH,Nat.ne_of_lt hDltC,fun z=>absurd (noF D z) (Nat.lt_irrefl _),fun v z=>by cases z⟩
  ·rw [List.length_append,List.length_append,List.length_replicate]
   unfold capv
   rw [List.length_map,L.cap.len]
 obtain ⟨W,⟨m0,w0⟩,turn⟩:=G
 have loop:codeAny (model X.prog X.w) X.A (.compLoop (.ListComp elt [⟨target,iter,ifs,0⟩] scope pos) 0 (.ref it) (.ref D) (compEnvC scope cl C X.env)) (RR (.ref D) C) { s₂ with heap:=h₁,toks:=s₂.toks+([] : List (Str × Value)).length }:=by
  refine compLoop_any (fun n s'=>∃ i ys its ow H',Inv (X.blk (own++caps) { s₂ with heap:=G2 } H1 scope cl C (D :: fp)) [(D,LCg.lst its)] (ow++capv σ js) H' s'∧ow.length=own.length∧tn i s'.heap∧(∀ b ∈ fp,H' b=none)∧Vals ys its∧ys.length≤sizeLine∧W i n ys H') ?_ m0
   ⟨0,[],[],List.replicate own.length none,H1,start,List.length_replicate,T.keep _ _ _ st2 fun b _ o e=>up3 _ _ (up2 _ _ e),fun b hb=>(f2 b hb).1,.nil,Nat.zero_le _,w0⟩
  rintro n s' ⟨i,ys,its,ow,H',I',hlo,st,fr,hv,hz,wv⟩
  have fpok:∀ {H'':Hp},(∀ b ∈ fp,H'' b=none)→∀ b ∈ fp,FpOk (X.blk (own++caps) { s₂ with heap:=G2 } H1 scope cl C (D :: fp)) [(D,LCg.lst its)] H'' b:=fun hn b hb=>by
   obtain ⟨_,e1,e2,e3,e4,e5⟩:=f2 b hb
   refine ⟨hn b hb,Nat.ne_of_lt (Nat.lt_trans (fpl b hb) hDltC),fpF b hb,.inl (List.mem_cons_of_mem _ hb),fun x c e=>e4 x c (L.allc.get e),fun p hp=>?_⟩
   have e:p=(D,LCg.lst its):=by simpa using hp
   subst e
   exact Nat.ne_of_gt (fpl b hb)
  rcases turn i n ys H' wv with ⟨stop,fin⟩ | ⟨go,hlt,N,hN,step⟩
  ·refine wpAny_mono (T.done (X.blk (own++caps) { s₂ with heap:=G2 } H1 scope cl C (D :: fp)) rfl rfl rfl hc i _ s' _ H' (fun _ _=>False) I' (fpok fr) st stop) (fun r s4 ⟨hr,I4⟩=>?_) fun _ _ f=>f
   subst hr
   have pD:=I4.pin (D,LCg.lst its) (by simp)
   have hch:∀ b ∈ D :: fp,(b ∈ X.ex∨X.s₀.heap.objs.size≤b)∧b≠X.env.locals∧(∀ x c,X.env.cells.lookup x=some c→c≠b)∧∀ p ∈ X.pn++pins,p.1≠b:=fun b hb=>by
    rcases List.mem_cons.mp hb with rfl | hb
    ·exact ⟨.inr (hD ▸ I2.sz),Nat.ne_of_gt locl,fun x c e=>Nat.ne_of_lt (celllt x c e),fun p hp=>Nat.ne_of_lt (hD ▸ Heap.lt_size (I2.pin p hp).1)⟩
    ·obtain ⟨_,e1,e2,e3,e4,e5⟩:=f2 b hb
     exact ⟨e3,e1,e4,e5⟩
   have IX:Inv X pins σ H' s4:=I2.call' (ch:=D :: fp) I4.os ((Un.kept up2).trans I4.base) I4.hok I4.bare hch
   have cD:=hch D List.mem_cons_self
   have IA:Inv X pins σ (upd H' D (.lst ys)) s4:=IX.adopt pD.2.1 (hD ▸ I2.sz) cD.2.1 cD.2.2.1 cD.2.2.2 pD.1 hv hz
   obtain ⟨mm,hmm,_⟩:=I4.loc
   refine hRR D C H' ys s4 pD.2.1 ⟨IA,⟨mm,hmm⟩,Nat.ne_of_gt (Nat.lt_trans locl hDltC),?_,fun x c e=>Nat.ne_of_lt (Nat.lt_trans (celllt x c e) hDltC),fun p hp=>?_,?_⟩ fin
   ·have:=I2.sz
    omega
   ·exact Nat.ne_of_lt (Nat.lt_trans (show p.1 < D from hD ▸ Heap.lt_size (I2.pin p hp).1) hDltC)
   ·rw [upd_ne (Nat.ne_of_gt hDltC)]; exact I4.free
  ·refine wpAny_mono (T.item (X.blk (own++caps) { s₂ with heap:=G2 } H1 scope cl C (D :: fp)) rfl rfl rfl hc i _ s' _ H' (fun _ _=>False) I' (fpok fr) st go) (fun r s4 ⟨u,hr,h4⟩=>?_) fun _ _ f=>f
   subst hr
   refine wpAny_mono h4 (fun _ s5 ⟨x,H5,I5,r5,y5,st5,fr5⟩=>?_) fun _ _ f=>f
   have I5':=I5.pinned (fpok fr5) (T.obj _ _ st5)
   have keepT:∀ {σ8:St} {H8:Hp} {s8:Shared},Inv (X.blk (own++caps) { s₂ with heap:=G2 } H1 scope cl C (D :: fp)) ([(D,LCg.lst its)]++pinsAt fp s5.heap) σ8 H8 s8→tn (i+1) s8.heap∧∀ b ∈ fp,H8 b=none:=fun {σ8 H8 s8} I8 =>
    ⟨T.keep _ _ _ st5 fun b hb o e=>(I8.pin (b,o) (List.mem_append_right _ (List.mem_append_right _ (mem_pinsAt hb e)))).1,fun b hb=>by
     obtain ⟨o,e,d⟩:=T.obj _ _ st5 b hb
     exact (I8.pin (b,o) (List.mem_append_right _ (List.mem_append_right _ (mem_pinsAt hb e)))).2.1⟩
   refine wpAny_mono (hg _ _ _ _ _ s5 _ H5 x u _ I5' r5 (step x H5 y5 ow hlo)) (fun _ s6 ⟨σ6,H6,I6,⟨own2,hl2,e6⟩,q6⟩=>?_) fun _ _ f=>f
   subst e6
   refine wpAny_mono (ht _ _ _ _ _ s6 _ H6 _ I6 q6) (fun b s7 ⟨H7,I7,q7⟩=>?_) fun _ _ f=>f
   cases b with
   | false =>
    rw [if_neg Bool.false_ne_true]
    rw [if_neg Bool.false_ne_true] at q7
    obtain ⟨m',hm,w7⟩:=hN _ _ q7
    obtain ⟨k1,k2⟩:=keepT I7
    exact ⟨m',hm,i+1,ys,its,own2,H7,I7.unpinned,hl2,k1,k2,hv,hz,w7⟩
   | true =>
    rw [if_pos rfl]
    rw [if_pos rfl] at q7
    refine wpAny_mono (he _ _ _ _ _ s7 _ H7 _ I7 q7) (fun y s8 ⟨vy,H8,I8,r8,n8⟩=>?_) fun _ _ f=>f
    obtain ⟨m',hm,w8⟩:=hN _ _ n8
    obtain ⟨k1,k2⟩:=keepT I8
    have pD:=I8.pin (D,LCg.lst its) (by simp)
    have hyl:=hv.length
    refine append_at (hsz:=by show its.toArray.size≤sizeLine; rw [List.size_toArray]; omega) pD.1 fun h9 hs9 hD9=>?_
    have I9:Inv (X.blk (own++caps) { s₂ with heap:=G2 } H1 scope cl C (D :: fp)) [] (own2++capv σ js) H8 { s8 with heap:=h9 }:=by
     refine (I8.pins_of (pins':=[]) fun p hp=>nomatch hp).turned (t':=s8.toks) (it:=D) (fun b o hb e=>(hs9.2 b hb).trans e) pD.2.1 (Nat.ne_of_lt hDltC) (.inl List.mem_cons_self) (fun x c e=>Nat.ne_of_lt (celllt x c (L.allc.get e))) fun p hp=>?_
     simp at hp
    refine ⟨m',hm,i+1,ys++[vy],its++[y],own2,H8,I9.pins_of fun p hp=>?_,hl2,T.keep _ _ _ k1 fun b hb o e=>(hs9.2 b (Nat.ne_of_lt (fpl b hb))).trans e,k2,hv.append (.cons r8 .nil),?_,w8⟩
    ·have e:p=(D,LCg.lst (its++[y])):=by simpa using hp
     subst e
     exact ⟨hD9.trans (congrArg some (LCg.lst_snoc its y)),pD.2.1,Nat.ne_of_lt hDltC,fun z=>absurd (noF D z) (Nat.lt_irrefl _),fun v z=>by cases z⟩
    ·rw [List.length_append,List.length_singleton]; omega
 exact codeAny_compStart_list loop (T.self _ _ _ _ _ (T.keep _ _ _ st2 fun b _ o e=>up3 _ _ (up2 _ _ e)) loop)

def tLCg (wi:TI) (g:TG) (tc:TT) (te:TE) (n:Nat) (js:List Nat) : TE:=fun σ H Q=>wi σ H fun J H1=>gLC J g tc te n (capv σ js) (fun ys H=>∀ p,H p=none→Q (.ref p) (upd H p (.lst ys))) H1
variable {wi:TI}
theorem pe_lcg (hc:X.calm=true) (L:LcOk X scope cl own caps js) (hi:PI X target iter wi)
  (hg:∀ s H C ex,PG (X.blk (own++caps) s H scope cl C ex) target g) (ht:∀ s H C ex,PTs (X.blk (own++caps) s H scope cl C ex) ifs tc) (he:∀ s H C ex,PE (X.blk (own++caps) s H scope cl C ex) elt te)
  (hs:∀ x,foldedSetIterable iter X.env x=pure x:=by intro _; rfl) : PE X (.ListComp elt [⟨target,iter,ifs,0⟩] scope pos) (tLCg wi g tc te own.length js):=by
 intro pins s σ H Q I h
 rw [eval_ListComp]
 refine wpAny_comprehension_free (use:=none) rfl hs L.clos L.kind L.names (thn (hi pins s σ H _ I h) fun v s1 h1=>thn h1 fun itv s2 h2=>?_)
 obtain ⟨it,fp,tn,J,H2,e,I2,T,st2,f2,G⟩:=h2
 subst e
 refine lc_block hc L hg ht he I2 T st2 f2 G ?_
 intro D C H3 ys s' hD O fin
 obtain ⟨m,hn⟩:=O.ns
 exact ⟨m,hn,fun h' sb=>⟨.ref D,_,O.gone sb,rfl,fin D hD⟩⟩
theorem ps_lcg {k:Nat} {y:Str} {py spos:Pos} (hc:X.calm=true) (L:LcOk X scope cl own caps js) (hi:PI X target iter wi)
  (hg:∀ s H C ex,PG (X.blk (own++caps) s H scope cl C ex) target g) (ht:∀ s H C ex,PTs (X.blk (own++caps) s H scope cl C ex) ifs tc) (he:∀ s H C ex,PE (X.blk (own++caps) s H scope cl C ex) elt te)
  (hN:X.N.Nodup) (hk:X.N[k]? = some y) (hy:X.env.scope.names.lookup y=some .local)
  (hsw:swapsWith (.ListComp elt [⟨target,iter,ifs,0⟩] scope pos) (some (.Name y py)) spos.line X.env=pure true:=by rfl)
  (hs:∀ x,foldedSetIterable iter X.env x=pure x:=by intro _; rfl) : PS X (.Assign [.Name y py] (.ListComp elt [⟨target,iter,ifs,0⟩] scope pos) spos) (tAsg (tLCg wi g tc te own.length js) (gName k)):=by
 intro pins s σ H De I h
 rw [exec_Assign_Name_used _ _ _ _ hsw]
 refine wpAny_bind (wpAny_standAt (wpAny_bind ?_))
 show wpAny _ _ (do let _ ← comprehension (.ListComp elt [⟨target,iter,ifs,0⟩] scope pos) scope X.env _ (newList []) false (eval iter X.env) (some (assign (.Name y py) X.env))) _ _ s
 refine wpAny_bind (wpAny_mono (wpAny_comprehension_free (use:=some (assign (.Name y py) X.env)) (Q:=fun _ s'=>SP X pins De .next s') rfl hs L.clos L.kind L.names
  (thn (hi pins s σ H _ I h) fun v s1 h1=>thn h1 fun itv s2 h2=>?_)) (fun _ s' hq=>wpAny_pure (wpAny_pure hq)) fun _ _ e=>e)
 obtain ⟨it,fp,tn,J,H2,e,I2,T,st2,f2,G⟩:=h2
 subst e
 refine lc_block hc L hg ht he I2 T st2 f2 G ?_
 intro D C H3 ys s' hD O fin
 show wpAny _ _ (assign (.Name y py) X.env (.ref D)) _ _ _
 refine wpAny_assign_Name (store_ok2 O.inv hN hk (.inl hy) (show RelV (.ref D) (.ref D) from rfl) (fun s'' I'' sb=>?_) (.inr hy))
 obtain ⟨a,hsb,ha⟩:=sb
 have hne:C≠a:=by
  rcases ha with rfl | ha
  ·exact O.nL
  ·exact Ne.symm (O.nc _ _ ha)
 obtain ⟨m,hn⟩:=O.ns
 refine ⟨m,hn.sameBut hsb hne,fun h' sb'=>⟨_,_,?_,fin D hD⟩⟩
 exact I''.turned (t':=s''.toks) (it:=C) (fun b o hb e=>(sb'.2 b hb).trans e) O.free O.nL (.inr O.new) O.nc O.np
end

section
variable {X:Cx} {elt iter:Expr} {ifs:List Expr} {scope:Scope} {cl:List (Str × Addr)} {pos:Pos} {caps:List Str} {js:List Nat} {tc:TT} {te:TE} {wi:TI} {x:Str} {px:Pos}
theorem gLC1 {J:It} {cv:St} {Fin:List V→Hp→Prop} {H1:Hp} (h:∃ W:Nat→Nat→List V→Hp→Prop,(∃ m,W 0 m [] H1)∧∀ i m ys H,W i m ys H →
  (J.stop i H∧Fin ys H) ∨
  (J.go i H∧ys.length < sizeLine∧∃ N:List V→Hp→Prop,(∀ ys' H',N ys' H'→∃ m',m' < m∧W (i+1) m' ys' H')∧∀ x H',J.yld i H x H' →
   tc (some x :: cv) H' fun b H3=>if b=true then te (some x :: cv) H3 fun y H4=>N (ys++[y]) H4 else N ys H3)) : gLC J (gName 0) tc te 1 cv Fin H1:=by
 obtain ⟨W,w0,turn⟩:=h
 refine ⟨W,w0,fun i m ys H w=>?_⟩
 rcases turn i m ys H w with ⟨a,b⟩ | ⟨a,b,N,hN,c⟩
 ·exact .inl ⟨a,b⟩
 ·refine .inr ⟨a,b,N,hN,fun v H' y own ho=>?_⟩
  match own,ho with
  | [τ],_=>exact ⟨⟨[some v],rfl,rfl⟩,c v H' y⟩
def tLC (wi:TI) (tc:TT) (te:TE) (js:List Nat) : TE:=tLCg wi (gName 0) tc te 1 js
theorem pe_lc (hc:X.calm=true) (L:LcOk X scope cl [x] caps js) (hi:PI X (.Name x px) iter wi)
  (ht:∀ s H C ex,PTs (X.blk (x :: caps) s H scope cl C ex) ifs tc) (he:∀ s H C ex,PE (X.blk (x :: caps) s H scope cl C ex) elt te)
  (hN:(x :: caps).Nodup:=by decide +kernel) (hx:(relabel scope X.env).names.lookup x=some .local:=by with_unfolding_all rfl)
  (hs:∀ x,foldedSetIterable iter X.env x=pure x:=by intro _; rfl) : PE X (.ListComp elt [⟨.Name x px,iter,ifs,0⟩] scope pos) (tLC wi tc te js):=
 pe_lcg (own:=[x]) (g:=gName 0) hc L hi (fun s H C ex=>pg_name (i:=0) hN rfl (.inl hx) (.inr hx)) ht he hs
theorem ps_lc {k:Nat} {y:Str} {py spos:Pos} (hc:X.calm=true) (L:LcOk X scope cl [x] caps js) (hi:PI X (.Name x px) iter wi)
  (ht:∀ s H C ex,PTs (X.blk (x :: caps) s H scope cl C ex) ifs tc) (he:∀ s H C ex,PE (X.blk (x :: caps) s H scope cl C ex) elt te)
  (hXN:X.N.Nodup) (hk:X.N[k]? = some y) (hy:X.env.scope.names.lookup y=some .local) (hN:(x :: caps).Nodup:=by decide +kernel) (hx:(relabel scope X.env).names.lookup x=some .local:=by with_unfolding_all rfl)
  (hsw:swapsWith (.ListComp elt [⟨.Name x px,iter,ifs,0⟩] scope pos) (some (.Name y py)) spos.line X.env=pure true:=by rfl)
  (hs:∀ x,foldedSetIterable iter X.env x=pure x:=by intro _; rfl) : PS X (.Assign [.Name y py] (.ListComp elt [⟨.Name x px,iter,ifs,0⟩] scope pos) spos) (tAsg (tLC wi tc te js) (gName k)):=
 ps_lcg (own:=[x]) (g:=gName 0) hc L hi (fun s H C ex=>pg_name (i:=0) hN rfl (.inl hx) (.inr hx)) ht he hXN hk hy hsw hs
theorem lc_list {K:PySem.W.Frag} {a:Addr} {xs:List V} {cv:St} {Fin:List V→Hp→Prop} {H1:Hp} (Pv:Nat→List V→Hp→Prop) (h0:Pv 0 [] H1) (hl:∀ i ys H,i≤xs.length→Pv i ys H→SqL K H a xs) (hz:∀ i ys H,i < xs.length→Pv i ys H→ys.length < sizeLine)
  (hs:∀ i x ys H,xs[i]? = some x→Pv i ys H→tc (some x :: cv) H fun b H3=>if b=true then te (some x :: cv) H3 fun y H4=>Pv (i+1) (ys++[y]) H4 else Pv (i+1) ys H3)
  (hd:∀ ys H,Pv xs.length ys H→Fin ys H) : gLC (Itl K a) (gName 0) tc te 1 cv Fin H1:=by
 refine gLC1 ⟨fun i m ys H=>m=xs.length - i∧i≤xs.length∧Pv i ys H,⟨xs.length,by simp,Nat.zero_le _,h0⟩,?_⟩
 rintro i m ys H ⟨rfl,hi,p⟩
 have q:=hl i ys H hi p
 by_cases hlt:i < xs.length
 ·refine .inr ⟨⟨xs,xs[i],q,by simp [hlt]⟩,hz i ys H hlt p,Pv (i+1),fun ys' H' p'=>⟨xs.length - (i+1),by omega,rfl,hlt,p'⟩,fun v H' y=>?_⟩
  obtain ⟨e,y⟩:=y
  subst e
  exact hs i v ys _ (y xs q) p
 ·have e:i=xs.length:=by omega
  subst e
  exact .inl ⟨⟨xs,q,Nat.le_refl _⟩,hd ys H p⟩
theorem lc_range {lo:Int} {n:Nat} {cv:St} {Fin:List V→Hp→Prop} {H1:Hp} (Pv:Nat→List V→Hp→Prop) (h0:Pv 0 [] H1) (hz:∀ i ys H,i < n→Pv i ys H→ys.length < sizeLine)
  (hs:∀ i ys H,i < n→Pv i ys H→tc (some (.int (lo+i)) :: cv) H fun b H3=>if b=true then te (some (.int (lo+i)) :: cv) H3 fun y H4=>Pv (i+1) (ys++[y]) H4 else Pv (i+1) ys H3)
  (hd:∀ ys H,Pv n ys H→Fin ys H) : gLC (Itr lo n) (gName 0) tc te 1 cv Fin H1:=by
 refine gLC1 ⟨fun i m ys H=>m=n - i∧i≤n∧Pv i ys H,⟨n,by simp,Nat.zero_le _,h0⟩,?_⟩
 rintro i m ys H ⟨rfl,hi,p⟩
 by_cases hlt:i < n
 ·refine .inr ⟨hlt,hz i ys H hlt p,Pv (i+1),fun ys' H' p'=>⟨n - (i+1),by omega,rfl,hlt,p'⟩,fun v H' y=>?_⟩
  obtain ⟨e,y⟩:=y
  subst e y
  exact hs i ys _ hlt p
 ·have e:i=n:=by omega
  subst e
  exact .inl ⟨Nat.le_refl _,hd ys H p⟩
end

theorem yes_go {A B:Hp→Prop} {σ:St} {H:Hp} (h:A H) : tYes σ H (fun b H3=>if b=true then A H3 else B H3):=by
 show if true=true then A H else B H
 rw [if_pos rfl]
 exact h
section
variable {X:Cx} {tg:Expr}
end
section
variable {X:Cx}
theorem partOf {v:Value} {o:Option Int} (p:IsPart v o) : ∃ l:Option (Int × Tok),v=partValue l∧o=l.map (·.1):=by
 cases p with
 | none=>exact ⟨none,rfl,rfl⟩
 | int i t=>exact ⟨some (i,t),rfl,rfl⟩
theorem sl_str:SlR X (fun x lo hi H Q=>∃ z,x = .str z∧z.length≤sizeLine∧Q (.str (Txt.slice z lo hi)) H):=by
 intro pins s σ H x v vl vu lo hi sl Q I r hs pl pu h
 obtain ⟨z,rfl,hz,q⟩:=h
 obtain ⟨t,rfl⟩:=r
 obtain ⟨l,rfl,rfl⟩:=partOf pl
 obtain ⟨u,rfl,rfl⟩:=partOf pu
 exact ⟨"str",_,F.slot_str_getitem.lookup,typeIs_str _ _ _,wpAny_getItem_str_slice (l:=l) (u:=u) (st:=none) hs rfl
  (post_val_or_str ⟨Nat.le_trans (Txt.slice_le z _ _) hz,fun t' k=>⟨.str (Txt.slice z _ _),H,I.tok k,⟨t',rfl⟩,q⟩⟩)⟩
theorem strsAre_of {ys:List Str} : ∀ {us:List Value},Vals (ys.map V.str) us→StrsAre us ys:=by
 induction ys with
 | nil=>intro us h; cases h; exact .nil
 | cons y ys ih =>
  intro us h
  cases h with
  | cons r t =>
   obtain ⟨tk,rfl⟩:=r
   exact .cons y tk (ih t)
theorem mt_join:MtR X "str.join" (fun x xs H Q=>∃ sep a ys,x = .str sep∧xs=[.ref a]∧SqL X.K H a (ys.map V.str)∧sep.length≤16∧(ys.map (·.length)).sum+ys.length≤1048576∧Q (.str (Txt.join sep ys)) H):=by
 intro pins s σ H x xs v us Q I rx r h
 obtain ⟨sep,a,ys,rfl,rfl,hS,h1,h2,q⟩:=h
 obtain ⟨t,rfl⟩:=rx
 obtain ⟨w',rfl,rfl⟩:=vals1 r
 obtain ⟨its,rv,p,hz⟩:=I.list hS
 exact join_listW p.isList (strsAre_of (by simpa using rv)) h1 h2 fun t' k=>⟨.str _,H,I.tok k,⟨t',rfl⟩,q⟩
end
end L2

namespace Tl
open PySem PySem.Builtin PySem.Builtin.Str L2

abbrev tx (l:List Nat) : Str:=⟨l.toArray⟩
theorem tx_app (a b:List Nat) : tx a++tx b=tx (a++b):=by
 show (⟨a.toArray++b.toArray⟩ : Str)=⟨(a++b).toArray⟩
 rw [List.append_toArray]
theorem tx_len (l:List Nat) : (tx l).length=l.length:=by show l.toArray.size=_; simp
theorem tx_inj {a b:List Nat} (h:tx a=tx b) : a=b:=by
 have e:a.toArray=b.toArray:=congrArg Str.cps h
 have e2:=congrArg Array.toList e
 simpa using e2
def cutL {α:Type} (l:List α) (lo hi:Option Int) : List α:=(l.drop (HT.sIx l.length 0 lo)).take (HT.sIx l.length l.length hi - HT.sIx l.length 0 lo)
theorem clip_eq (n d:Nat) (i:Int) : max 0 (min (if i < 0 then i+(n:Int) else i) (n:Int))=((HT.sIx n d (some i) : Nat) : Int):=by
 show _=(((if i < 0 then (i+(n:Int)).toNat else min i.toNat n) : Nat) : Int)
 by_cases h:i < 0
 ·rw [if_pos h,if_pos h]; omega
 ·rw [if_neg h,if_neg h]; omega
theorem idx_range (lo hi:Option Int) (n:Nat) : strSliceIndices lo hi 1 n=sliceRange ((HT.sIx n 0 lo:Nat) : Int) ((HT.sIx n n hi:Nat) : Int) 1:=by
 cases lo with
 | none =>
  cases hi with
  | none=>rfl
  | some j=>exact congrArg (fun z=>sliceRange 0 z 1) (clip_eq n n j)
 | some i =>
  cases hi with
  | none=>exact congrArg (fun z=>sliceRange z (n:Int) 1) (clip_eq n 0 i)
  | some j =>
   have a:=clip_eq n 0 i
   have b:=clip_eq n n j
   show sliceRange (max 0 (min (if i < 0 then i+(n:Int) else i) (n:Int))) (max 0 (min (if j < 0 then j+(n:Int) else j) (n:Int))) 1=_
   rw [a,b]
theorem slice_tx (l:List Nat) (lo hi:Option Int) : Txt.slice (tx l) lo hi=tx (cutL l lo hi):=by
 have h1:=HT.sIx_le l.length 0 (Nat.zero_le _) lo
 have h2:=HT.sIx_le l.length l.length (Nat.le_refl _) hi
 have ei:strSliceIndices lo hi 1 l.length=strSliceIndices (some ((HT.sIx l.length 0 lo:Nat) : Int)) (some ((HT.sIx l.length l.length hi:Nat) : Int)) 1 l.length:=by
  rw [idx_range lo hi,idx_range (some _) (some _),HT.sIx_nat,HT.sIx_nat,Nat.min_eq_left h1,Nat.min_eq_left h2]
 have e:Txt.slice (tx l) lo hi=StrLaws.sliceText (tx l) (some ((HT.sIx l.length 0 lo:Nat) : Int)) (some ((HT.sIx l.length l.length hi:Nat) : Int)):=by
  unfold Txt.slice StrLaws.sliceText
  rw [tx_len,ei]
 by_cases hab:HT.sIx l.length 0 lo≤HT.sIx l.length l.length hi
 ·rw [e,StrLaws.sliceText_nat (tx l) hab (by rw [tx_len]; exact h2)]
  rfl
 ·have e0:strSliceIndices lo hi 1 (tx l).length=[]:=by
   rw [tx_len,idx_range]
   unfold sliceRange
   simp only [show (1:Int) > 0 by decide,if_true]
   rw [if_neg (by omega)]
   rfl
  unfold Txt.slice
  rw [e0]
  have hne:¬ (((1:Int) == 1 && ([] : List Nat).length == (tx l).length)=true):=by
   rw [tx_len]
   intro h
   have:0=l.length:=by simpa using h
   omega
  rw [if_neg hne]
  unfold cutL
  rw [Nat.sub_eq_zero_of_le (by omega),List.take_zero]
  rfl
theorem cut_to {α:Type} (l:List α) (j:Nat) : cutL l none (some (j:Int))=l.take j:=by
 unfold cutL
 rw [HT.sIx_none,HT.sIx_nat,List.drop_zero,Nat.sub_zero]
 by_cases h:j≤l.length
 ·rw [Nat.min_eq_left h]
 ·rw [Nat.min_eq_right (by omega),List.take_of_length_le (Nat.le_refl _),List.take_of_length_le (by omega)]
def joinL (sep:List Nat) : List (List Nat)→List Nat
 | []=>[]
 | [x]=>x
 | x :: y :: r=>x++sep++joinL sep (y :: r)
theorem join_tx (sep:List Nat) : ∀ ps:List (List Nat),Txt.join (tx sep) (ps.map tx)=tx (joinL sep ps):=by
 have go:∀ ps:List (List Nat),Str.join (tx sep) (ps.map tx)=tx (joinL sep ps):=by
  intro ps
  induction ps with
  | nil=>rfl
  | cons x r ih =>
   cases r with
   | nil=>rfl
   | cons y r =>
    show tx x++tx sep++Str.join (tx sep) (tx y :: r.map tx)=_
    rw [show Str.join (tx sep) (tx y :: r.map tx)=tx (joinL sep (y :: r)) from ih,tx_app,tx_app]
    rfl
 intro ps
 show glued (tx sep) (ps.map tx)=_
 rw [StrLaws.glued_eq_join]
 exact go ps
end Tl

namespace L2
open PySem PySem.Spec PyProof.Rows

def isiV (K:PySem.W.Frag) (T:String) (x:V) (H:Hp) (b:Bool) : Prop:=match x with
 | .non=>b=false
 | .bl _=>b=(T == "bool" || T == "int")
 | .int _=>b=(T == "int")
 | .str _=>b=(T == "str")
 | .ref p=>((∃ xs,SqL K H p xs)∧b=(T == "list"))∨((∃ xs,SqT K H p xs)∧b=(T == "tuple"))
 | _=>False
section
variable {X:Cx}
theorem call_isi:CallR X (.builtin "isinstance") (fun xs H Q=>∃ x T b,xs=[x,.ty T]∧(T = "bool"∨T = "int"∨T = "str"∨T = "tuple"∨T = "list")∧isiV X.K T x H b∧Q (.bl b) H):=by
 intro pins s σ H xs us Q I r h
 obtain ⟨x,T,b,rfl,hT,hv,q⟩:=h
 obtain ⟨u,w',rfl,r1,r2⟩:=vals2 r
 cases r2
 have no:b=false→EP X pins σ Q (.bool false) { s with toks:=s.toks+1 }:=fun e=>⟨.bl false,H,I.tok _,rfl,e ▸ q⟩
 have yes:b=true→EP X pins σ Q (.bool true) s:=fun e=>⟨.bl true,H,I,rfl,e ▸ q⟩
 cases x with
 | non =>
  cases r1
  have hv':b=false:=hv
  rcases hT with rfl | rfl | rfl | rfl | rfl
  ·exact IsiPair.NoneType_bool (no hv')
  ·exact IsiPair.NoneType_int (no hv')
  ·exact IsiPair.NoneType_str (no hv')
  ·exact IsiPair.NoneType_tuple (no hv')
  ·exact IsiPair.NoneType_list (no hv')
 | bl c =>
  cases r1
  rcases hT with rfl | rfl | rfl | rfl | rfl
  ·exact IsiPair.bool_bool (yes (hv.trans (by decide)))
  ·exact IsiPair.bool_int (yes (hv.trans (by decide)))
  ·exact IsiPair.bool_str (no (hv.trans (by decide)))
  ·exact IsiPair.bool_tuple (no (hv.trans (by decide)))
  ·exact IsiPair.bool_list (no (hv.trans (by decide)))
 | int c =>
  obtain ⟨t,rfl⟩:=r1
  rcases hT with rfl | rfl | rfl | rfl | rfl
  ·exact IsiPair.int_bool (no (hv.trans (by decide)))
  ·exact IsiPair.int_int (yes (hv.trans (by decide)))
  ·exact IsiPair.int_str (no (hv.trans (by decide)))
  ·exact IsiPair.int_tuple (no (hv.trans (by decide)))
  ·exact IsiPair.int_list (no (hv.trans (by decide)))
 | str c =>
  obtain ⟨t,rfl⟩:=r1
  rcases hT with rfl | rfl | rfl | rfl | rfl
  ·exact IsiPair.str_bool (no (hv.trans (by decide)))
  ·exact IsiPair.str_int (no (hv.trans (by decide)))
  ·exact IsiPair.str_str (yes (hv.trans (by decide)))
  ·exact IsiPair.str_tuple (no (hv.trans (by decide)))
  ·exact IsiPair.str_list (no (hv.trans (by decide)))
 | ref p =>
  cases r1
  rcases hv with ⟨⟨xs,hq⟩,hb⟩ | ⟨⟨xs,hq⟩,hb⟩
  ·obtain ⟨its,_,p',_⟩:=I.list hq
   obtain ⟨o,n,e,c,_⟩:=p'
   rcases hT with rfl | rfl | rfl | rfl | rfl
   ·exact IsiPair.list_bool e c (no (hb.trans (by decide)))
   ·exact IsiPair.list_int e c (no (hb.trans (by decide)))
   ·exact IsiPair.list_str e c (no (hb.trans (by decide)))
   ·exact IsiPair.list_tuple e c (no (hb.trans (by decide)))
   ·exact IsiPair.list_list e c (yes (hb.trans (by decide)))
  ·obtain ⟨its,_,p',_⟩:=I.tuple hq
   obtain ⟨o,e,c,_⟩:=p'
   rcases hT with rfl | rfl | rfl | rfl | rfl
   ·exact IsiPair.tuple_bool e c (no (hb.trans (by decide)))
   ·exact IsiPair.tuple_int e c (no (hb.trans (by decide)))
   ·exact IsiPair.tuple_str e c (no (hb.trans (by decide)))
   ·exact IsiPair.tuple_tuple e c (yes (hb.trans (by decide)))
   ·exact IsiPair.tuple_list e c (no (hb.trans (by decide)))
 | byt c=>exact hv.elim
 | flt c=>exact hv.elim
 | ty c=>exact hv.elim
end

section
variable {X:Cx}
theorem op_catS:OpR X (binaryOp .Add) (fun x y H Q=>∃ l b xs zs,x = .ref l∧y = .ref b∧SqL X.K H l xs∧SqL X.K H b zs∧xs.length+zs.length≤sizeLine∧∀ p,H p=none→Q (.ref p) (upd H p (.lst (xs++zs)))):=by
 intro pins s σ H x y v u Q I rx ry h
 obtain ⟨l,b,xs,zs,rfl,rfl,hH,hB,hz,q⟩:=h
 cases rx
 cases ry
 obtain ⟨its,r,p1,z⟩:=I.list hH
 obtain ⟨its2,r2,p2,z2⟩:=I.list hB
 obtain ⟨⟨cls,dd,data,sl⟩,n,e,c,d,k⟩:=p1
 obtain ⟨⟨cls2,dd2,data2,sl2⟩,n2,e2,c2,d2,k2⟩:=p2
 simp only at c d k c2 d2 k2
 subst c d k c2 d2 k2
 have hl:=r.length
 have hl2:=r2.length
 refine concat_meets ⟨_,e,rfl⟩ ⟨_,e2,rfl⟩ noFill_list_add seq_list_add PySem.F.slot_list_add PySem.F.entry_list_add (PySem.F.args_list_add_2 _ _) (list_addW l b its.toArray its2.toArray n n2 none none sl sl2 (by rw [List.size_toArray,List.size_toArray]; omega)) ⟨e,e2,?_⟩
 have ea:its.toArray++its2.toArray=(its++its2).toArray:=by simp
 rw [ea]
 exact ⟨.ref _,_,I.lnew (t':=s.toks) (r.append r2) (by rw [List.length_append]; omega),rfl,q _ I.fresh⟩
end
structure DefOk (K:PySem.W.Frag) (mg:Str→Option Value) (x:Str) (st:Stmt) (ps:List Str) (f:Addr) (fd:FuncData) : Prop where
 fn:Fun K x x st f fd
 bd:Binds K fd ps []
 mg:mg x=some (.ref f)
 ba:∀ us:List Value,us.length=ps.length→bindArgs fd ⟨us,[]⟩=pure (ps.zip us)
section
variable {X:Cx} {x:Str} {st:Stmt} {ps:List Str} {f:Addr} {fd:FuncData} {k:Nat} {sp:Sp} {e:Expr} {es:List Expr} {t:TA} {p pos:Pos}
theorem pe_callD (D:DefOk X.K X.mg x st ps f fd) (G:FnOk X.prog X.w X.K X.mg X.base CX0 k f fd ps sp) (hr:Room k X.A) (hg:Gl X x) (ha:PA X (e :: es) t) (hd:(x == ("__debug__" : Str))=false:=by decide)
  (he:starEach (e :: es) X.env=(false,eval e X.env) :: starEach es X.env:=by rfl) (hpl:(backTo pos (starEach es X.env)).any (·.1)=false:=by rfl) : PE X (.Call (.Name x p) (e :: es) [] pos) (tCall sp [] E0 t):=pe_call G hr hg D.mg D.fn.kp D.bd .nil pass0 ha hd he hpl
theorem defok_mk {K:PySem.W.Frag} {h:Heap} {mg:Str→Option Value} (KX:K.In h) (G:h.Ns mainGlobals mg) {od an:Option Addr} {sl:Array (Option Value)} {oc kV dc pm cd ct:Value} (a:PySem.W.nsIn K mainGlobals x=some (some (.ref f)))
  (l:K.lookup f=some ⟨oc,od,.func (PySem.W.fnOf x x (defArgs st) (defBody st) (defScope st) .none kV dc pm an cd ct),sl⟩) (c:PySem.W.codeIn K cd x=true) (k:PySem.W.keepIn K (.ref f)=true)
  (b:∀ (kV doc pm:Value) (an:Option Addr) (cdv ct:Value) (us:List Value),us.length=ps.length→bindArgs (PySem.W.fnOf x x (defArgs st) (defBody st) (defScope st) .none kV doc pm an cdv ct) ⟨us,[]⟩=pure (ps.zip us)) :
  DefOk K mg x st ps f (PySem.W.fnOf x x (defArgs st) (defBody st) (defScope st) .none kV dc pm an cd ct):=
 ⟨fun_mk l c k,(fun_mk l c k).binds b,PySem.W.mg_of KX G a,fun us hl=>b _ _ _ _ _ _ us hl⟩
end

theorem cut_seq {t u:TS} {D:Ends} {σ:St} {H:Hp} (Mid:St→Hp→Prop) (h2:∀ σ' H',Mid σ' H'→u D σ' H') (h1:(∀ σ' H',Mid σ' H'→u D σ' H')→t { D with nx:=u D } σ H) : tSeq t u D σ H:=h1 h2

def eqVs:List V→List V→Bool
 | [],[]=>true
 | a :: r,b :: s=>eqV a b && eqVs r s
 | _,_=>false
theorem eqVs_len:∀ {xs ys:List V},xs.length≠ys.length→eqVs xs ys=false
 | [],[],h=>absurd rfl h
 | [],_ :: _,_=>rfl
 | _ :: _,[],_=>rfl
 | a :: r,b :: s,h=>by
  show (eqV a b && eqVs r s)=false
  rw [eqVs_len (xs:=r) (ys:=s) (fun e=>h (by rw [List.length_cons,List.length_cons,e])),Bool.and_false]
theorem eqVs_range:∀ {xs ys:List V},xs.length=ys.length→(List.range xs.length).all (fun j=>eqV ((xs[j]?).getD .non) ((ys[j]?).getD .non))=eqVs xs ys
 | [],[],_=>rfl
 | [],_ :: _,h=>by simp at h
 | _ :: _,[],h=>by simp at h
 | a :: r,b :: s,h=>by
  have ih:=eqVs_range (xs:=r) (ys:=s) (by simpa using h)
  rw [List.length_cons,List.range_succ_eq_map,List.all_cons,List.all_map]
  show (eqV a b && _)=(eqV a b && eqVs r s)
  rw [← ih]
  rfl
theorem eqV_refl:∀ {x:V},flatV x=true→eqV x x=true:=by
 intro x f
 cases x with
 | non=>rfl
 | bl b=>show (b == b)=true; simp
 | int i=>show (i == i)=true; simp
 | str s=>show (s == s)=true; simp
 | _=>exact absurd (show false=true from f) Bool.false_ne_true
theorem eqVs_refl:∀ {xs:List V},xs.all flatV=true→eqVs xs xs=true
 | [],_=>rfl
 | a :: r,h=>by
  rw [List.all_cons,Bool.and_eq_true] at h
  show (eqV a a && eqVs r r)=true
  rw [eqV_refl h.1,eqVs_refl h.2]
  rfl
section
variable {X:Cx}
theorem flat_get {xs:List V} (f:xs.all flatV=true) {j:Nat} {x:V} (h:xs[j]? = some x) : flatV x=true:=List.all_eq_true.mp f x (List.mem_of_getElem? h)
theorem items_eq {A:Around} {s:Shared} {xs ys:List V} {its its2:List Value} (r:Vals xs its) (r2:Vals ys its2) (fx:xs.all flatV=true) (fy:ys.all flatV=true) (j:Nat) (h1:j < its.toArray.size) (h2:j < its2.toArray.size) :
  SeqAt.EqAt A s its.toArray[j] its2.toArray[j] (eqV ((xs[j]?).getD .non) ((ys[j]?).getD .non)):=by
 have l1:=r.length
 have l2:=r2.length
 have h1':j < its.length:=by simpa using h1
 have h2':j < its2.length:=by simpa using h2
 have e1:xs[j]? = some xs[j]:=List.getElem?_eq_getElem (by omega)
 have e2:ys[j]? = some ys[j]:=List.getElem?_eq_getElem (by omega)
 obtain ⟨u,hu,ru⟩:=r.get e1
 obtain ⟨v,hv,rv⟩:=r2.get e2
 have eu:its.toArray[j]=u:=by
  have:its[j]? = some its[j]:=List.getElem?_eq_getElem h1'
  rw [hu] at this
  simpa using this.symm
 have ev:its2.toArray[j]=v:=by
  have:its2[j]? = some its2[j]:=List.getElem?_eq_getElem h2'
  rw [hv] at this
  simpa using this.symm
 rw [eu,ev,e1,e2]
 exact eqAt_V ru rv (flat_get fx e1) (flat_get fy e2)
def rEqL (K:PySem.W.Frag) (neg:Bool) : R2:=fun x y H Q=>∃ a b xs ys,x = .ref a∧y = .ref b∧SqL K H a xs∧SqL K H b ys∧xs.all flatV=true∧ys.all flatV=true∧Q (.bl (if neg then !eqVs xs ys else eqVs xs ys)) H
theorem op_neL (hu:X.A.units < cLine) : OpR X (compareOp .NotEq) (rEqL X.K true):=by
 intro pins s σ H x y v u Q I rx ry h
 obtain ⟨a,b,xs,ys,rfl,rfl,ha,hb,fx,fy,q⟩:=h
 cases rx
 cases ry
 obtain ⟨its,r,p,z⟩:=I.list ha
 obtain ⟨its2,r2,p2,z2⟩:=I.list hb
 have l1:=r.length
 have l2:=r2.length
 by_cases hl:xs.length=ys.length
 ·refine SeqAt.RcNeAt.lists (e:=fun j=>eqV ((xs[j]?).getD .non) ((ys[j]?).getD .non)) p.isList p2.isList (by simp; omega) hu (fun j h1 h2=>items_eq r r2 fx fy j h1 h2) _ _ _ _ ⟨.bl _,H,I,rfl,?_⟩
  have e:its.toArray.size=xs.length:=by simp; omega
  rw [e,eqVs_range hl]
  exact q
 ·refine SeqAt.RcNeAt.lists_lengths p.isList p2.isList (by simp; omega) hu _ _ _ _ ⟨.bl true,H,I,rfl,?_⟩
  have q':Q (.bl (!eqVs xs ys)) H:=q
  rw [eqVs_len hl] at q'
  exact q'

theorem op_notin_dict (hu:X.A.units+1 < cLine) : OpR X (compareOp .NotIn) (fun y x H Q=>∃ a o,x = .ref a∧DGet H a y o∧Q (.bl (!o.isSome)) H):=by
 intro pins s σ H y x u v Q I ry rx h
 obtain ⟨a,o,rfl,g,q⟩:=h
 cases rx
 exact d_notIn hu I g ry fun s' I'=>⟨.bl _,H,I',rfl,q⟩
end

inductive DD where
 | bl (b:Bool)
 | int (i:Int)
 | str (s:Str)
 | tup (l:List DD)
 | lst (l:List DD)
mutual
def DD.deep:DD→Nat
 | .bl _=>0
 | .int _=>0
 | .str _=>0
 | .tup l=>deeps l+1
 | .lst l=>deeps l+1
def deeps:List DD→Nat
 | []=>0
 | d :: r=>max d.deep (deeps r)
end
mutual
def Rep (K:PySem.W.Frag) (H:Hp) : DD→V→Prop
 | .bl b,v=>v = .bl b
 | .int i,v=>v = .int i
 | .str s,v=>v = .str s
 | .tup l,v=>∃ a xs,v = .ref a∧SqT K H a xs∧l.length≤500000∧Reps K H l xs
 | .lst l,v=>∃ a xs,v = .ref a∧SqL K H a xs∧l.length≤500000∧Reps K H l xs
def Reps (K:PySem.W.Frag) (H:Hp) : List DD→List V→Prop
 | [],xs=>xs=[]
 | d :: l,xs=>∃ x r,xs=x :: r∧Rep K H d x∧Reps K H l r
end
theorem Reps.len {K:PySem.W.Frag} {H:Hp} : ∀ {l:List DD} {xs:List V},Reps K H l xs→xs.length=l.length
 | [],xs,h=>by
  unfold Reps at h
  rw [h]; rfl
 | d :: l,xs,h=>by
  unfold Reps at h
  obtain ⟨x,r,rfl,_,h⟩:=h
  rw [List.length_cons,List.length_cons,h.len]
theorem Reps.get {K:PySem.W.Frag} {H:Hp} : ∀ {l:List DD} {xs:List V} {i:Nat} {d:DD},Reps K H l xs→l[i]? = some d→∃ x,xs[i]? = some x∧Rep K H d x
 | [],_,_,_,_,e=>by simp at e
 | d :: l,xs,0,d',h,e=>by
  unfold Reps at h
  obtain ⟨x,r,rfl,hx,h⟩:=h
  have:d=d':=by simpa using e
  subst this
  exact ⟨x,rfl,hx⟩
 | d :: l,xs,i+1,d',h,e=>by
  unfold Reps at h
  obtain ⟨x,r,rfl,hx,h⟩:=h
  obtain ⟨y,ey,hy⟩:=h.get (i:=i) (by simpa using e)
  exact ⟨y,by simpa using ey,hy⟩
theorem deeps_get:∀ {l:List DD} {i:Nat} {d:DD},l[i]? = some d→d.deep≤deeps l
 | [],_,_,e=>by simp at e
 | d :: l,0,d',e=>by
  have:d=d':=by simpa using e
  subst this
  unfold deeps
  exact Nat.le_max_left _ _
 | d :: l,i+1,d',e=>by
  have:=deeps_get (l:=l) (i:=i) (by simpa using e)
  unfold deeps
  exact Nat.le_trans this (Nat.le_max_right _ _)
def isDD (T:String) : DD→Bool
 | .bl _=>T == "bool" || T == "int"
 | .int _=>T == "int"
 | .str _=>T == "str"
 | .tup _=>T == "tuple"
 | .lst _=>T == "list"
theorem Rep.isi {K:PySem.W.Frag} {H:Hp} {d:DD} {x:V} (h:Rep K H d x) (T:String) : isiV K T x H (isDD T d):=by
 cases d with
 | bl b=>unfold Rep at h; subst h; rfl
 | int b=>unfold Rep at h; subst h; rfl
 | str b=>unfold Rep at h; subst h; rfl
 | tup l =>
  unfold Rep at h
  obtain ⟨a,xs,rfl,s,_,_⟩:=h
  exact .inr ⟨⟨xs,s⟩,rfl⟩
 | lst l =>
  unfold Rep at h
  obtain ⟨a,xs,rfl,s,_,_⟩:=h
  exact .inl ⟨⟨xs,s⟩,rfl⟩
def sp_alike (K:PySem.W.Frag) (n:Nat) : Sp:=fun vs H Q _=>∃ d x y,vs=[x,y]∧d.deep < n∧Rep K H d x∧Rep K H d y∧Q (.bl true) H

section
variable {X:Cx} {o i:Expr} {pos:Pos} {td ty:TE}
end

def CXe (P:Program) (w:World) : CXT:=fun outer H s E e s' =>
 ∃ (x C:Addr) (H':Hp) (B:Heap) (a0:Value),e = .ref x∧s'.os=s.os∧AllBare s'.gens∧Un (frs outer) [] H H' s.heap s'.heap∧HOk P w H' B ∧
  (∀ b o,s.heap.get? b=some o→H b=none→b ∉ frs outer→B.get? b=some o)∧(∀ b o,s.heap.get? b=some o→b ∉ frs outer→∃ o',B.get? b=some o') ∧
  Heap.FlyingW B outer x (.ref C) a0 s'.heap∧E (.ref C) none H'
def Wish (X:Cx) (E:XK) : Prop:=∀ (pins:List (Addr × Obj)) (σ:St) (H:Hp) (s:Shared) (x C:Addr) (vs:List Value) (h':Heap),Inv X pins σ H s→Heap.MadeExcOf s.heap h' x (.ref C) vs→E (.ref C) none H→X.xe (.ref x) { s with heap:=h' }
theorem mem_frs {env:Env} {l:List Env} {b L:Addr} (hf:env.frame=some L) (h:b ∈ frs (env :: l)) : b=L∨b ∈ frs l:=by
 unfold frs at h
 rw [List.filterMap_cons,hf] at h
 exact List.mem_cons.mp h
theorem frs_all (l:List Env) : ∀ env ∈ l,∀ a,env.frame=some a→a ∈ frs l:=fun env he a hf=>List.mem_filterMap.mpr ⟨env,he,hf⟩
section
variable {P:Program} {w:World} {K:PySem.W.Frag} {mg:Str→Option Value} {base:Heap} {N:List Str} {qual:Str} {scope:Scope} {f:Addr} {cd:Value} {A:Around} {outer:List Env} {s:Shared} {H:Hp} {E:XK}
theorem wish_cx:Wish (cxOf (CXe P w) P w K mg base N qual scope f cd A outer s H E) E:=by
 intro pins σ H1 s1 x C vs h' I hx ee
 have hfr:(envOfC qual scope s.heap.objs.size f cd).frame=some (envOfC qual scope s.heap.objs.size f cd).locals:=rfl
 have hst:=I.stack
 have hfree:=I.stkFree
 have hsub:=I.stkSub
 show wpAny (model P w) (A.deeper (envOfC qual scope s.heap.objs.size f cd)) (leaving (envOfC qual scope s.heap.objs.size f cd) (.ref x)) (fun _ s''=>CXe P w outer H s E (.ref x) s'') _ _
 have hin:=frs_all (envOfC qual scope s.heap.objs.size f cd :: outer)
 have hff:s1.heap.FunFrames (PySem.W.hideAll s1.heap (frs (envOfC qual scope s.heap.objs.size f cd :: outer))) (envOfC qual scope s.heap.objs.size f cd :: outer):=PySem.W.funFrames_hide hst hin
 have notfr:∀ b,b < s.heap.objs.size→b ∉ frs outer→b ∉ frs (envOfC qual scope s.heap.objs.size f cd :: outer):=fun b hlt hb hm=>by
  rcases mem_frs hfr hm with e | hm
  ·exact absurd (Nat.lt_of_lt_of_le hlt I.ok.above) (by rw [e]; exact Nat.lt_irrefl _)
  ·exact hb hm
 refine wpAny_leaves_madeW (base:=PySem.W.hideAll s1.heap (frs (envOfC qual scope s.heap.objs.size f cd :: outer))) (h:=s1.heap) I.ok.frames hfr (fun b o q=>PySem.W.of_hideAll _ q) hff hx fun h'' t x1 x2 x3 x4=>?_
 have cov1:∀ b o,s.heap.get? b=some o→H b=none→b ∉ frs outer→(PySem.W.hideAll s1.heap (frs (envOfC qual scope s.heap.objs.size f cd :: outer))).get? b=some o:=fun b o q n hb =>
  PySem.W.hideAll_get _ (I.base.keep b o q n hb (show b ∉ ([] : List Addr) by simp)) (notfr b (Heap.lt_size q) hb)
 have cov2:∀ b o,s.heap.get? b=some o→b ∉ frs outer→∃ o',(PySem.W.hideAll s1.heap (frs (envOfC qual scope s.heap.objs.size f cd :: outer))).get? b=some o':=fun b o q hb=>by
  obtain ⟨o',e⟩:=I.base.there b o q (show b ∉ ([] : List Addr) by simp)
  exact ⟨o',PySem.W.hideAll_get _ e (notfr b (Heap.lt_size q) hb)⟩
 have slot:∀ b,b ∈ frs outer→∀ o,s1.heap.get? b=some o→∃ sl,h''.get? b=some { o with slots:=sl }:=fun b hb o q=>by
  have hm:b ∈ frs (envOfC qual scope s.heap.objs.size f cd :: outer):=by
   unfold frs
   rw [List.filterMap_cons,hfr]
   exact List.mem_cons_of_mem _ hb
  obtain ⟨_,o2,e2,nd⟩:=hff.mem hm
  rw [q] at e2
  cases e2
  exact x4 b o (hx.keeps b o q) nd
 refine ⟨x,C,H1,_,_,rfl,I.os,I.bare,⟨fun b o q n hb _=>x1.1 b o (cov1 b o q n hb),fun b o q n hb hx'=>?_,I.base.free,fun b o q _=>?_,I.base.tups,I.base.frzs,I.base.tbls⟩,fun b ob e=>?_,cov1,cov2,x1,ee⟩
 ·obtain ⟨sl,e1⟩:=I.base.slot b o q n hb hx'
  obtain ⟨sl2,e2⟩:=slot b hb _ e1
  exact ⟨sl2,e2⟩
 ·by_cases hb:b ∈ frs outer
  ·obtain ⟨o',e⟩:=I.base.there b o q (show b ∉ ([] : List Addr) by simp)
   obtain ⟨sl2,e2⟩:=slot b hb _ e
   exact ⟨_,e2⟩
  ·obtain ⟨o',e⟩:=cov2 b o q hb
   exact ⟨o',x1.1 b o' e⟩
 ·refine (I.hok b ob e).stay (fun c v hc q=>PySem.W.hideAll_get _ q fun hm=>?_) (fun _ q=>q) fun _ _ q=>q
  have z:=hfree c hm
  rcases hc with rfl | hc
  ·rw [e] at z; cases z
  ·rw [hc] at z; cases z
theorem pass_cx:Passes (CXe P w) (cxOf (CXe P w) P w K mg base N qual scope f cd A outer s H E) E:=by
 intro pins σ H1 s1 e s' I h
 obtain ⟨x,C,H',B,a0,rfl,os,bare,un,hok,cov1,cov2,fl,ee⟩:=h
 have hfr:(envOfC qual scope s.heap.objs.size f cd).frame=some (envOfC qual scope s.heap.objs.size f cd).locals:=rfl
 show wpAny (model P w) (A.deeper (envOfC qual scope s.heap.objs.size f cd)) (leaving (envOfC qual scope s.heap.objs.size f cd) (.ref x)) (fun _ s''=>CXe P w outer H s E (.ref x) s'') _ _
 have notfr:∀ b,b < s.heap.objs.size→b ∉ frs outer→b ∉ frs (envOfC qual scope s.heap.objs.size f cd :: outer):=fun b hlt hb hm=>by
  rcases mem_frs hfr hm with e | hm
  ·exact absurd (Nat.lt_of_lt_of_le hlt I.ok.above) (by rw [e]; exact Nat.lt_irrefl _)
  ·exact hb hm
 refine wpAny_leaves_onW I.ok.frames hfr fl fun h'' f2 up=>?_
 have c1:∀ b o,s.heap.get? b=some o→H b=none→b ∉ frs outer→B.get? b=some o:=fun b o q n hb =>
  cov1 b o (I.base.keep b o q n hb (show b ∉ ([] : List Addr) by simp)) (I.base.free b o q n (show b ∉ ([] : List Addr) by simp)) (notfr b (Heap.lt_size q) hb)
 have c2:∀ b o,s.heap.get? b=some o→b ∉ frs outer→∃ o',B.get? b=some o':=fun b o q hb=>by
  obtain ⟨o',e⟩:=I.base.there b o q (show b ∉ ([] : List Addr) by simp)
  exact cov2 b o' e (notfr b (Heap.lt_size q) hb)
 have fm:∀ b,b ∈ frs outer→b ∈ frs (envOfC qual scope s.heap.objs.size f cd :: outer):=fun b hb=>by
  unfold frs
  rw [List.filterMap_cons,hfr]
  exact List.mem_cons_of_mem _ hb
 refine ⟨x,C,H',B,a0,rfl,os.trans I.os,bare,⟨fun b o q n hb _=>f2.1 b o (c1 b o q n hb),fun b o q n hb hx'=>?_,fun b o q n hx'=>?_,fun b o q _=>?_,fun b xs q=>un.tups b xs (I.base.tups b xs q),fun b o u q=>un.frzs b o u (I.base.frzs b o u q),fun b ps q=>?_⟩,hok,c1,c2,f2,ee⟩
 ·obtain ⟨sl,e1⟩:=I.base.slot b o q n hb hx'
  obtain ⟨sl2,e2⟩:=un.slot b _ e1 (I.base.free b o q n hx') (fm b hb) (by simp)
  obtain ⟨_,o3,e3,nd⟩:=fl.2.2.1.mem (fm b hb)
  rw [e2] at e3
  cases e3
  obtain ⟨sl3,e4⟩:=up b _ e2 nd
  exact ⟨sl3,e4⟩
 ·obtain ⟨o',e⟩:=I.base.there b o q hx'
  exact un.free b o' e (I.base.free b o q n hx') (by simp)
 ·by_cases hb:b ∈ frs outer
  ·obtain ⟨_,o3,e3,_⟩:=f2.2.2.1.mem hb
   exact ⟨o3,e3⟩
  ·obtain ⟨o',e⟩:=c2 b o q hb
   exact ⟨o',f2.1 b o' e⟩
 ·obtain ⟨m1,e1⟩:=I.base.tbls b ps q
  obtain ⟨m2,e2⟩:=un.tbls b _ e1
  exact ⟨m1++m2,by rw [e2,Array.append_assoc]⟩
end

abbrev veTail:List Value:=[.type "ValueError",.type "Exception",.type "BaseException",.type "object"]
structure ExcOk (K:PySem.W.Frag) (mg:Str→Option Value) (c:Str) (C:Addr) : Prop where
 mg:mg c=some (.ref C)
 ex:PySem.W.excIn K C veTail "ValueError.__new__" = true
theorem exc_obj {K:PySem.W.Frag} {h:Heap} {C:Addr} {bmB:List Value} {newId:String} (X:K.In h) (q:PySem.W.excIn K C bmB newId=true) :
  ∃ bm N nm q bs hdct sn sub ab col dd k0 k1 k2 k3 k5 mN,h.get? C=some (excClassObj nm q C N bs bm hdct sn sub ab col dd k0 k1 k2 k3 k5 newId)∧h.Ns N mN∧mN "__init__" = none∧OwnTail h bmB bm:=by
 unfold PySem.W.excIn at q
 split at q
 ·rename_i dd cd sl ho
  split at q
  ·rename_i C' bm k0 k1 k2 k3 n k5 hm hs
   simp only [Bool.and_eq_true,beq_iff_eq,Bool.not_eq_true'] at q
   obtain ⟨⟨⟨⟨⟨rfl,rfl⟩,hdel⟩,ht⟩,hok⟩,hni⟩:=q
   obtain ⟨nm,bs,mro,ns,qn,hd,sn,sub,ab,col,del⟩:=cd
   dsimp only at hm hdel hok hni
   subst hm hdel
   have hsl:sl = #[k0,k1,k2,k3,some (.builtin n),k5]:=by
    obtain ⟨l⟩:=sl
    simp only at hs
    rw [hs]
   subst hsl
   exact ⟨bm,ns,nm,qn,bs,hd,sn,sub,ab,col,dd,k0,k1,k2,k3,k5,_,X _ _ ho,.of_isNs (PySem.W.isNs_of_in X hok),PySem.W.nsMap_none_of_in X hok hni,PySem.W.tail_of_in X ht⟩
  ·cases q
 ·cases q
def tRaise (E:XK) (C:Addr) (t:TA) : TS:=fun _ σ H=>t σ H fun vs H1=>vs.length≤sizeLine∧E (.ref C) none H1
section
variable {X:Cx} {E:XK} {c:Str} {C:Addr} {e:Expr} {es:List Expr} {t:TA} {np cpos pos:Pos}
theorem ps_raise (hc:X.calm=true) (hw:Wish X E) (O:ExcOk X.K X.mg c C) (hg:Gl X c) (ha:PA X (e :: es) t) (hd:(c == ("__debug__" : Str))=false:=by decide)
  (he:starEach (e :: es) X.env=(false,eval e X.env) :: starEach es X.env:=by rfl) (hpl:(backTo cpos (starEach es X.env)).any (·.1)=false:=by rfl) :
  PS X (.Raise (some (.Call (.Name c np) (e :: es) [] cpos)) none pos) (tRaise E C t):=by
 intro pins s σ H D I h
 obtain ⟨bm,N,nm,q,bs,hdct,sn,sub,ab,col,dd,k0,k1,k2,k3,k5,mN,hC,hN,hni,T⟩:=exc_obj I.ok.mod.kin O.ex
 refine wpAny_Raise_call_subU (C:=C) (nm:=nm) (q:=q) (N:=N) (bs:=bs) (bm:=bm) (hdct:=hdct) (sn:=sn) (sub:=sub) (ab:=ab) (col:=col) (dd:=dd) (k0:=k0) (k1:=k1) (k2:=k2) (k3:=k3) (k5:=k5)
  PySem.F.excBase_ValueError (by decide +kernel) PySem.F.excBase_ValueError (mN:=mN) (T.hasType PySem.F.excBase_ValueError.hasBase) (I.ok.hd hc) (by rw [he]; show (false || (backTo cpos (starEach es X.env)).any (·.1))=false; rw [hpl]; rfl) hni
  (ld_glob I hg O.mg ⟨rfl,?_⟩ hd)
 have ha':=ha cpos pins s σ H _ I h
 rw [he] at ha' ⊢
 refine Calls.evalArgs_plain (wpAny_mono ha' (fun vs s₂ h₂=>?_) fun _ _ y=>y)
 obtain ⟨xs,H1,I1,r,hz,ee⟩:=h₂
 exact ⟨rfl,by rw [← r.length]; exact hz,I1.bk _ _ hC,hN.keeps I1.bk,T.keeps I1.bk,fun h' x hm=>hw pins σ H1 s₂ x C _ h' I1 hm ee⟩
end
theorem Fun.okE {P:Program} {w:World} {K:PySem.W.Frag} {mg:Str→Option Value} {base:Heap} {x qual:Str} {st:Stmt} {f:Addr} {fd:FuncData} {N ps:List Str} {k:Nat} {sp:Sp} (F:Fun K x qual st f fd) (S:FnScope N ps (defScope st)) (len:∀ vs H Q E,sp vs H Q E→vs.length=ps.length)
  (hbody:∀ (cdv:Value) (A:Around) (outer:List Env) (s:Shared) (H:Hp) (vs:List V) (Q:VK) (E:XK),Room k (A.deeper (envOfC qual (defScope st) s.heap.objs.size f cdv))→sp vs H Q E →
   ∃ t,PSs (cxOf (CXe P w) P w K mg base N qual (defScope st) f cdv A outer s H E) (defBody st) t∧t { nx:=fun _ H'=>Q .non H',rt:=Q } (start N vs) H) : FnOk P w K mg base (CXe P w) (k+1) f fd ps sp:=by
 obtain ⟨oc,od,kV,doc,pm,an,cdv,ct,osl,rfl,lk,hcd⟩:=F.ex
 exact fn_of lk hcd S len fun A outer s H vs Q E hr hsp=>hbody cdv A outer s H vs Q E hr hsp
theorem pe_callX {X:Cx} {x:Str} {st:Stmt} {ps:List Str} {f:Addr} {fd:FuncData} {k:Nat} {sp:Sp} {e:Expr} {es:List Expr} {t:TA} {p pos:Pos} {CX:CXT} {E:XK} (hx:Passes CX X E) (D:DefOk X.K X.mg x st ps f fd) (G:FnOk X.prog X.w X.K X.mg X.base CX k f fd ps sp) (hr:Room k X.A) (hg:Gl X x) (ha:PA X (e :: es) t) (hd:(x == ("__debug__" : Str))=false:=by decide)
  (he:starEach (e :: es) X.env=(false,eval e X.env) :: starEach es X.env:=by rfl) (hpl:(backTo pos (starEach es X.env)).any (·.1)=false:=by rfl) : PE X (.Call (.Name x p) (e :: es) [] pos) (tCall sp [] E t):=pe_call G hr hg D.mg D.fn.kp D.bd .nil hx ha hd he hpl

abbrev Cx.marked (X:Cx) (v:Value) : Cx:={ X with A:=X.A.mark (some v),calm:=false,xe:=fun _ _=>False }
theorem Inv.marked {X:Cx} {pins:List (Addr × Obj)} {σ:St} {H:Hp} {s:Shared} (I:Inv X pins σ H s) (v:Value) : Inv (X.marked v) pins σ H s:=
 ⟨⟨I.ok.mod,I.ok.kind,I.ok.glob,I.ok.blt,I.ok.above,I.ok.inj,I.ok.has,I.ok.cab,(fun h=>nomatch h),I.ok.frames,I.ok.stk,I.ok.exf,I.ok.bs,I.ok.bsz,I.ok.noex,I.ok.exfs,I.ok.funs,I.ok.frf⟩,I.os,I.bare,I.base,I.loc,I.cell,I.free,I.freeC,I.pin,I.hok,I.len⟩
theorem Inv.unmarked {X:Cx} {pins:List (Addr × Obj)} {σ:St} {H:Hp} {s:Shared} {v:Value} (I:Inv (X.marked v) pins σ H s) (hd:X.calm=true→X.A.handled=none) : Inv X pins σ H s:=
 ⟨⟨I.ok.mod,I.ok.kind,I.ok.glob,I.ok.blt,I.ok.above,I.ok.inj,I.ok.has,I.ok.cab,hd,I.ok.frames,I.ok.stk,I.ok.exf,I.ok.bs,I.ok.bsz,I.ok.noex,I.ok.exfs,I.ok.funs,I.ok.frf⟩,I.os,I.bare,I.base,I.loc,I.cell,I.free,I.freeC,I.pin,I.hok,I.len⟩
theorem SP.unmarked {X:Cx} {pins:List (Addr × Obj)} {D:Ends} {f:Flow} {s':Shared} {v:Value} (hd:X.calm=true→X.A.handled=none) (h:SP (X.marked v) pins D f s') : SP X pins D f s':=by
 cases f with
 | next=>obtain ⟨σ',H',I,q⟩:=h; exact ⟨σ',H',I.unmarked hd,q⟩
 | brk=>obtain ⟨σ',H',I,q⟩:=h; exact ⟨σ',H',I.unmarked hd,q⟩
 | cont=>obtain ⟨σ',H',I,q⟩:=h; exact ⟨σ',H',I.unmarked hd,q⟩
 | ret u=>obtain ⟨v,σ',H',I,r,q⟩:=h; exact ⟨v,σ',H',I.unmarked hd,r,q⟩
def Takes (K:PySem.W.Frag) (C T:Addr) : Prop:=PySem.W.exmOne K (.ref C) (.ref T)=some true
section
variable {X:Cx} {k:Nat} {f T:Addr} {fd:FuncData} {ps:List Str} {sp:Sp} {fx c:Str} {st:Stmt} {e:Expr} {es:List Expr} {t:TA} {b₀:Stmt} {suite:List Stmt} {th:TS} {np pf cpos apos hpos pos:Pos}
theorem caught {pins:List (Addr × Obj)} {σ:St} {H1 H':Hp} {s1 s2:Shared} {D:Ends} {x C:Addr} {B:Heap} {a0:Value} {E2:Value→Shared→Prop} (I1:Inv X pins σ H1 s1) (hst:X.stack=X.env :: X.outer∧X.env.frame=some X.env.locals)
  (os:s2.os=s1.os) (bare:AllBare s2.gens) (un:Un (frs X.stack) [] H1 H' s1.heap s2.heap) (hok:HOk X.prog X.w H' B)
  (cov1:∀ b o,s1.heap.get? b=some o→H1 b=none→b ∉ frs X.stack→B.get? b=some o) (cov2:∀ b o,s1.heap.get? b=some o→b ∉ frs X.stack→∃ o',B.get? b=some o') (fl:Heap.FlyingW B X.stack x (.ref C) a0 s2.heap)
  (hg:Gl X c) (hm:X.mg c=some (.ref T)) (tk:Takes X.K C T) (hh:∀ v,PSs (X.marked v) (b₀ :: suite) th) (q:th D σ H') (hd:(c == ("__debug__" : Str))=false:=by decide) :
  wpAny (model X.prog X.w) X.A (noteFrame (.ref x) X.env) (fun _ s₂=>wpAny (model X.prog X.w) X.A (setFlight (.ref x) none) (fun _ s₃=>wpAny (model X.prog X.w) X.A (handleBy (.ref x) X.env [.ExceptHandler (some (.Name c np)) none (b₀ :: suite) hpos]) (SP X pins D) E2 s₃) E2 s₂) E2 s2:=by
 have hfr:X.A.frames=some (X.env :: X.outer):=hst.1 ▸ I1.ok.frames
 -- the state behind, in any later heap that keeps B and the frames
 have after:∀ h6:Heap,Heap.FlyingW B X.stack x (.ref C) a0 h6→s2.heap.UpToSlots h6→Inv X pins σ H' { s2 with heap:=h6 }:=fun h6 fl6 up=>by
  refine I1.call' (ch:=[]) os ⟨fun b o q n hb _=>fl6.1 b o (cov1 b o q n hb),fun b o q n hb hx'=>?_,un.free,fun b o q _=>?_,un.tups,un.frzs,un.tbls⟩ (hok.kept fl6.1) bare (fun b z=>absurd z (by simp))
  ·obtain ⟨sl,e1⟩:=un.slot b o q n hb hx'
   obtain ⟨_,o3,e3,nd⟩:=fl.2.2.1.mem hb
   rw [e1] at e3
   cases e3
   obtain ⟨sl3,e4⟩:=up b _ e1 nd
   exact ⟨sl3,e4⟩
  ·by_cases hb:b ∈ frs X.stack
   ·obtain ⟨_,o3,e3,_⟩:=fl6.2.2.1.mem hb
    exact ⟨o3,e3⟩
   ·obtain ⟨o',e⟩:=cov2 b o q hb
    exact ⟨o',fl6.1 b o' e⟩
 rw [hst.1] at fl
 refine wpAny_looks_onW hfr hst.2 fl fun h₄ held up4=>?_
 refine wpAny_landsW held fun h₅ fl5 up5=>?_
 have fl5':Heap.FlyingW B X.stack x (.ref C) a0 h₅:=hst.1 ▸ fl5
 have I5:=after h₅ fl5' (up4.trans up5)
 have I5m:=I5.marked (.ref x)
 refine wpAny_handleBy_cons (codeAny_handlers_test (ld_glob (X:=X.marked (.ref x)) I5m hg hm ?_ hd)) (by intro q; cases q)
 obtain ⟨ob,hob,hobc⟩:=fl5.there
 have LT:PySem.W.Looks (model X.prog X.w) h₅ (typeOf (.ref x)) (.ref C):=by
  have z:PySem.W.Looks (model X.prog X.w) h₅ (typeOf (.ref x)) ob.cls:=(PySem.W.Looks.ld hob).andThen .now
  rw [hobc] at z
  exact z
 refine (PySem.W.exm_one (M:=model X.prog X.w) (I5.kIn) LT tk).here ?_
 refine codeAny_handlers_suite ?_
 refine lands_againW fl5 fun h₆ fl6 up6=>?_
 have I6:=after h₆ (hst.1 ▸ fl6) ((up4.trans up5).trans up6)
 refine wpAny_mono (hh (.ref x) pins _ σ H' D (I6.marked (.ref x)) q) (fun fl s' h=>?_) fun _ _ z=>False.elim z
 exact h.unmarked I1.ok.hd

theorem call_try {W:Value→Shared→Prop} {pins:List (Addr × Obj)} {σ:St} {H:Hp} {s:Shared} {Q:VK} {E:XK} (I:Inv X pins σ H s) (D:DefOk X.K X.mg fx st ps f fd) (G:FnOk X.prog X.w X.K X.mg X.base (CXe X.prog X.w) k f fd ps sp) (hr:Room k X.A) (hg:Gl X fx)
  (ha:PA (X.wish W) (e :: es) t) (h:t σ H fun vs H1=>sp (vs++[]) H1 Q E) (hW:∀ H1 s1 e s2,Inv X pins σ H1 s1→CXe X.prog X.w X.stack H1 s1 E e s2→W e s2)
  (hd:(fx == ("__debug__" : Str))=false:=by decide) (he:starEach (e :: es) X.env=(false,eval e X.env) :: starEach es X.env:=by rfl) (hpl:(backTo cpos (starEach es X.env)).any (·.1)=false:=by rfl) :
  wpAny (model X.prog X.w) X.A (eval (.Call (.Name fx pf) (e :: es) [] cpos) X.env) (EP X pins σ Q) W s:=by
 have I':=I.wish W
 refine wpAny_Call_Name_kw (ld_glob I hg D.mg ?_ hd)
 refine PySem.W.callWith_K (h₀:=X.base) I.ok.mod.kin D.fn.kp (thn (ha cpos pins s σ H _ I' h) fun us s1 ⟨vs,H1,I1,r,q⟩=>⟨I1.kIn,?_⟩) he hpl
 have r2:Vals (vs++[]) (us++[]):=r.append .nil
 have hl:(us++[]).length=ps.length:=by rw [← r2.length]; exact G.len _ _ _ _ q
 refine wpAny_call (codeAny_mono (G.run X.A X.stack s1 H1 ⟨us,[]⟩ (us++[]) (vs++[]) Q E hr I1.env0 (D.bd s1 us I1.kIn hl) r2 q) fun r s' hq=>?_)
 cases r with
 | error ex=>exact hW H1 s1 ex s' I1.unwish hq
 | ok fl =>
  cases fl with
  | ret u=>exact I1.unwish.after hq
  | next=>exact False.elim hq
  | brk=>exact False.elim hq
  | cont=>exact False.elim hq
def tTrySet (K:PySem.W.Frag) (sp:Sp) (i:Nat) (t:TA) (T:Addr) (th:TS) : TS:=fun D σ H=>t σ H fun vs H1=>sp (vs++[]) H1 (fun v H2=>D.nx (σ.set i (some v)) H2) (fun cls _ H2=>∃ C,cls = .ref C∧Takes K C T∧th D σ H2)
theorem ps_try_set {i:Nat} {y:Str} {py:Pos} (hN:X.N.Nodup) (hi:X.N[i]? = some y) (hy:Loc X.env.scope y) (Df:DefOk X.K X.mg fx st ps f fd) (G:FnOk X.prog X.w X.K X.mg X.base (CXe X.prog X.w) k f fd ps sp) (hr:Room k X.A) (hgf:Gl X fx)
  (ha:∀ W,PA (X.wish W) (e :: es) t) (hgc:Gl X c) (O:ExcOk X.K X.mg c T) (hst:X.stack=X.env :: X.outer∧X.env.frame=some X.env.locals) (hh:∀ v,PSs (X.marked v) (b₀ :: suite) th)
  (hs:swapsWith (.Call (.Name fx pf) (e :: es) [] cpos) (some (.Name y py)) apos.line X.env=pure false:=by rfl) (hf:X.fn y=true∨X.env.scope.names.lookup y=some .local:=by first | exact .inl rfl | exact .inr rfl | assumption)
  (hd:(fx == ("__debug__" : Str))=false:=by decide) (hdc:(c == ("__debug__" : Str))=false:=by decide) (he:starEach (e :: es) X.env=(false,eval e X.env) :: starEach es X.env:=by rfl) (hpl:(backTo cpos (starEach es X.env)).any (·.1)=false:=by rfl) :
  PS X (.Try [.Assign [.Name y py] (.Call (.Name fx pf) (e :: es) [] cpos) apos] [.ExceptHandler (some (.Name c np)) none (b₀ :: suite) hpos] [] [] pos) (tTrySet X.K sp i t T th):=by
 intro pins s σ H D I h
 refine wpAny_Try_except (wpAny_execs_cons (wpAny_Assign_Name (thn (call_try I Df G hr hgf (ha _) h (fun H1 s1 ex s2 I1 hx=>?_) hd he hpl) fun v s1 ⟨y,H1,I1,r1,q1⟩=>?_) hs))
 ·obtain ⟨x,C,H',B,a0,rfl,os,bare,un,hok,cov1,cov2,fl,C',ec,tk,q⟩:=hx
  cases ec
  exact caught I1 hst os bare un hok cov1 cov2 fl hgc O.mg tk hh q hdc
 ·exact store_ok I1 hN hi hy r1 (fun s2 I2=>wpAny_execs_nil (wpAny_execs_nil ⟨_,H1,I2,q1⟩)) hf
end
end L2

set_option maxHeartbeats 4000000
namespace L2
open PySem PySem.Spec PyProof.Rows Tl

def PP (X:Cx) (v:Expr) (c:St→Prop) : Prop:=∀ (pins:List (Addr × Obj)) (s:Shared) (σ:St) (H:Hp) (Q:Value→Shared→Prop),Inv X pins σ H s→c σ→(∀ (y:Str) (t:Tok) (s':Shared),y.length≤20000→Inv X pins σ H s'→Q (.str y t) s')→wpAny (model X.prog X.w) X.A (eval v X.env) Q X.xe s
def PJ (X:Cx) (vs:List Expr) (c:St→Prop) : Prop:=∀ (pins:List (Addr × Obj)) (s:Shared) (σ:St) (H:Hp) (acc:Str) (Q:Str→Shared→Prop),Inv X pins σ H s→c σ→acc.length+20000 * vs.length≤1000000→(∀ (z:Str) (s':Shared),z.length≤1000000→Inv X pins σ H s'→Q z s')→Joins (model X.prog X.w) X.A X.xe (evalEach vs X.env) acc Q s
section
variable {X:Cx}
theorem pj_nil:PJ X [] (fun _=>True):=fun _ s _ _ acc _ I _ ha q=>q acc s (by simpa using ha) I
theorem pj_cons {v:Expr} {vs:List Expr} {c d:St→Prop} (h:PP X v c) (hr:PJ X vs d) (he:evalEach (v :: vs) X.env=eval v X.env :: evalEach vs X.env:=by rfl) : PJ X (v :: vs) (fun σ=>c σ∧d σ):=by
 intro pins s σ H acc Q I hc ha q
 rw [he]
 refine h pins s σ H _ I hc.1 fun y t s' hy I'=>?_
 have hl:(acc++y).length=acc.length+y.length:=strLen_append _ _
 rw [List.length_cons] at ha
 refine ⟨y,t,rfl,?_,hr pins s' σ H (acc++y) Q I' hc.2 (by rw [hl]; omega) q⟩
 rw [hl]
 exact Nat.le_trans (show acc.length+y.length≤1000000 by omega) (by decide)
theorem pp_str {x:Str} {j pos} (hx:x.length≤20000:=by decide +kernel) : PP X (.Constant (.str x) j pos) (fun _=>True):=fun _ s _ _ _ I _ q=>Calls.Constant_str (q x _ _ hx (I.tok _))
theorem fmt_str {pins:List (Addr × Obj)} {s:Shared} {σ:St} {H:Hp} {Q:Value→Shared→Prop} {y:Str} {t:Tok} (I:Inv X pins σ H s) (hy:y.length≤20000) (q:∀ (y:Str) (t:Tok) (s':Shared),y.length≤20000→Inv X pins σ H s'→Q (.str y t) s') :
  wpAny (model X.prog X.w) X.A (formatField (.str y t) Str.empty) Q X.xe s:=
 formatField_str (fun t' tk=>q y t' _ hy (I.tok tk)) (Nat.le_trans hy (by decide))
theorem pp_repr {i:Nat} {e:Expr} {pos:Pos} (he:PE X e (tVar i)) : PP X (.FormattedValue e 114 none pos) (fun σ=>∃ l:List Nat,σ[i]? = some (some (.str (tx l)))∧l.length≤1000∧∀ c ∈ l,c < 127):=by
 intro pins s σ H Q I hc q
 obtain ⟨l,hv,hl,hc⟩:=hc
 refine wpAny_FormattedValue_repr (thn (he pins s σ H (fun v H'=>v = .str (tx l)∧H' = H) I ⟨_,hv,rfl,rfl⟩) fun u s1 ⟨x,H1,I1,r1,e1,e2⟩=>?_)
 subst e1 e2
 obtain ⟨t,rfl⟩:=r1
 have hb:(reprText (tx l)).length≤20000:=by
  have:=StrLaws.reprText_len (tx l) (fun c hm=>Nat.lt_trans (hc c (by simpa using hm)) (by decide))
  have e1:(reprText (tx l)).cps.toList.length=(reprText (tx l)).length:=Array.length_toList
  have e2:=tx_len l
  have e3:(tx l).cps.toList.length=(tx l).length:=Array.length_toList
  omega
 exact wpAny_pyReprObj_str (fmt_str (I1.tok _) hb q) (Nat.le_trans hb (by decide))
theorem pp_int {n:Int} {e:Expr} {pos:Pos} (he:PE X e (tC (.int n))) (hn:n.natAbs.log2 < 1920:=by decide) (hl:(toString n:Str).length≤20000:=by decide +kernel) : PP X (.FormattedValue e (-1) none pos) (fun _=>True):=by
 intro pins s σ H Q I _ q
 refine wpAny_FormattedValue_plain (thn (he pins s σ H (fun v H'=>v = .int n∧H' = H) I ⟨rfl,rfl⟩) fun u s1 ⟨x,H1,I1,r1,e1,e2⟩=>?_)
 subst e1 e2
 obtain ⟨t,rfl⟩:=r1
 exact wpAny_formatField_int hn (q _ _ _ hl (I1.tok _))
def tFs (c:St→Prop) : TE:=fun σ H Q=>c σ∧∀ z:Str,Q (.str z) H
theorem pe_fstr {v v2:Expr} {vs:List Expr} {c:St→Prop} {pos:Pos} (h:PJ X (v :: v2 :: vs) c) (hl:vs.length≤20:=by decide) : PE X (.JoinedStr (v :: v2 :: vs) pos) (tFs c):=by
 intro pins s σ H Q I hw
 refine wpAny_JoinedStr (h pins s σ H _ _ I hw.1 (by show 0+_≤_; simp only [List.length_cons]; omega) fun z s' hz I'=>⟨Nat.le_trans hz (by decide),.str z,H,I'.tok _,⟨_,rfl⟩,hw.2 z⟩)
end

theorem Inv.track {X:Cx} {pins:List (Addr × Obj)} {σ:St} {H:Hp} {s:Shared} {D:Addr} {o:HO} (I:Inv X pins σ H s) (hn:H D=none) (hnew:X.s₀.heap.objs.size≤D) (hL:D≠X.env.locals) (hc:∀ x c,X.env.cells.lookup x=some c→c≠D) (hp:∀ p ∈ X.pn++pins,p.1≠D)
  (ok:ObjOk X.prog X.w (upd H D o) s.heap D o) : Inv X pins σ (upd H D o) s:=by
 have ne:∀ b u,H b=some u→b≠D:=fun b u q=>ne_of_none q hn
 refine ⟨I.ok,I.os,I.bare,⟨I.base.keep,I.base.slot,fun b o q nn hx=>?_,I.base.there,fun b xs q=>?_,fun b o u q=>?_,fun b ps q=>?_⟩,I.loc,I.cell,?_,fun x c q=>?_,fun p hq=>?_,fun b u q=>?_,I.len⟩
 ·rw [upd_ne (Nat.ne_of_lt (Nat.lt_of_lt_of_le (Heap.lt_size q) hnew))]; exact I.base.free b o q nn hx
 ·have z:=I.base.tups b xs q
  rw [upd_ne (ne b _ z)]; exact z
 ·have z:=I.base.frzs b o u q
  rw [upd_ne (ne b _ z)]; exact z
 ·obtain ⟨more,z⟩:=I.base.tbls b ps q
  exact ⟨more,by rw [upd_ne (ne b _ z)]; exact z⟩
 ·rw [upd_ne (Ne.symm hL)]; exact I.free
 ·rw [upd_ne (hc x c q)]; exact I.freeC x c q
 ·obtain ⟨a1,a2,a3⟩:=I.pin p hq
  exact ⟨a1,by rw [upd_ne (hp p hq)]; exact a2,a3⟩
 ·by_cases hb:b=D
  ·subst hb
   rw [upd_same] at q; cases q
   exact ok
  ·rw [upd_ne hb] at q
   exact (I.hok b u q).stay (fun c v _ r=>r) (fun c r=>by rw [upd_ne (ne c _ r)]; exact r) fun c xs r=>by rw [upd_ne (ne c _ r)]; exact r
section
variable {X:Cx} {elts:List Expr} {k1:Nat} {tp:Pos}
end

section
variable {X:Cx} {tg:Expr}
end
theorem op_eqNil {X:Cx} (hu:X.A.units < cLine) : OpR X (compareOp .Eq) (fun x y H Q=>∃ a b xs,x = .ref a∧y = .ref b∧SqL X.K H a xs∧SqL X.K H b []∧Q (.bl xs.isEmpty) H):=by
 intro pins s σ H x y v u Q I rx ry h
 obtain ⟨a,b,xs,rfl,rfl,ha,hb,q⟩:=h
 cases rx
 cases ry
 obtain ⟨its,r,p,z⟩:=I.list ha
 obtain ⟨its2,r2,p2,z2⟩:=I.list hb
 have l1:=r.length
 have l2:=r2.length
 cases xs with
 | nil =>
  refine SeqAt.eq_listAt (e:=fun _=>true) p.isList p2.isList (by simp at l1 l2 ⊢; omega) hu (fun j h1 h2=>absurd h1 (by simp at l1 ⊢; omega)) ⟨.bl _,H,I,rfl,?_⟩
  have e:its.toArray.size=0:=by rw [List.size_toArray]; exact l1.symm
  rw [e]
  exact q
 | cons x r=>exact SeqAt.eq_list_lengthsAt p.isList p2.isList (by simp at l1 l2 ⊢; omega) hu ⟨.bl false,H,I,rfl,q⟩
end L2

namespace L2
open PySem PySem.Spec PyProof.Rows

section
variable {X:Cx}
theorem same_new {H:Hp} {p:Addr} (h:H p=none) (o:HO) : Same H (upd H p o):=fun b u q=>by rw [upd_ne (ne_of_none q h)]; exact q
theorem Same.tup {K:PySem.W.Frag} {H H':Hp} {a:Addr} {xs:List V} (e:Same H H') (h:SqT K H a xs) : SqT K H' a xs:=by
 rcases h with (h | ⟨o,h⟩) | h
 ·exact .inl (.inl (e _ _ h))
 ·exact .inl (.inr ⟨o,e _ _ h⟩)
 ·exact .inr h
def sp_law (K:PySem.W.Frag) : Sp:=fun vs H Q _=>∃ (a:Addr) (ns:List Int),vs=[.ref a]∧SqL K H a (ns.map V.int)∧ns.length≤63∧∀ H',Q (.bl true) H'
theorem small {n:Nat} (h:n≤1000000) : n≤sizeLine:=Nat.le_of_lt (small1000 h)
theorem le1:1≤sizeLine:=by decide
theorem le2:2≤sizeLine:=by decide
theorem le3:3≤sizeLine:=by decide
theorem le4:4≤sizeLine:=by decide
theorem get_int {ns:List Int} {i:Nat} {y:V} (h:(ns.map V.int)[i]? = some y) : ∃ z,y=V.int z∧ns[i]? = some z:=by
 rw [List.getElem?_map] at h
 cases e:ns[i]? with
 | none=>rw [e] at h; cases h
 | some z=>rw [e] at h; exact ⟨z,(Option.some.inj h).symm,rfl⟩
end
end L2

namespace HT
open PySem PyProof.Rows
section
open PySem.SeqAt
open PySem.AutoSeq1 (wpAny_loadPart')
open PySem.MeetsSeq PySem.MeetsSeq2 PySem.MeetsSeq3

end
end HT

namespace L2
open PySem PySem.Spec PyProof.Rows
section
variable {X:Cx}

end
end L2

set_option maxHeartbeats 4000000
namespace L2
open PySem PySem.Spec PyProof.Rows Tl
abbrev pl (x:Int × Int) : List V:=[.int x.1,.int x.2]
abbrev fm (w h f m:Int) : List V:=[.int w,.int h,.int f,.int m]
inductive Say where
 | text (l:List Nat)
 | page (k:Nat)
 | row (k:Nat)
section
variable {X:Cx}
theorem pre_sum (ns:List Int) : ∀ k,k≤ns.length→preSum (fun i=>(ns[i]?).getD 0) k=(ns.take k).sum
 | 0,_=>by simp [preSum]
 | k+1,h=>by
  rw [preSum,pre_sum ns k (by omega),List.take_add_one,List.getElem?_eq_getElem (by omega),List.sum_append]
  show _+ns[k]=_+(ns[k]+0)
  rw [Int.add_zero]
theorem call_sum (hc:X.calm=true) : CallR X (.builtin "sum") (fun xs H Q=>∃ (l:Addr) (ns:List Int),xs=[.ref l]∧SqL X.K H l (ns.map V.int)∧Q (.int ns.sum) H):=by
 intro pins s σ H xs us Q I r h
 obtain ⟨l,ns,rfl,hl,q⟩:=h
 obtain ⟨u,rfl,ru⟩:=vals1 r
 cases ru
 obtain ⟨its,rv,p,z⟩:=I.list hl
 have hlt:l < s.heap.objs.size:=by obtain ⟨_,_,e,_⟩:=p; exact Heap.lt_size e
 have len:=rv.length
 rw [List.length_map] at len
 refine call_sum_walkG (wpAny_pyIter_list p.isList ?_)
 refine ⟨s.heap.objs.size,[s.heap.objs.size,l],[s.heap.objs.size],its.toArray.size,_,_,fun i=>(ns[i]?).getD 0,rfl,Walks.list (A:=X.A.in1) (I.ok.hd hc) _ l (Nat.ne_of_lt hlt) its.toArray,
  ⟨⟨_,Heap.get?_push_size _ rfl,rfl,rfl⟩,p.isList.push _⟩,fun b hb=>?_,fun i v hP=>?_,fun h' tk t' hk=>?_⟩
 ·show b < (s.heap.push _).objs.size
  rw [Heap.size_push]
  rcases List.mem_cons.mp hb with rfl | hb
  ·exact Nat.lt_succ_self _
  ·rw [List.mem_singleton.mp hb]
   exact Nat.lt_succ_of_lt hlt
 ·have hi:its[i]? = some v:=by simpa using hP
  have hlt2:i < ns.length:=by
   have:=(List.getElem?_eq_some_iff.mp hi).1
   omega
  have eb:(ns.map V.int)[i]? = some (V.int ns[i]):=by rw [List.getElem?_map,List.getElem?_eq_getElem hlt2]; rfl
  obtain ⟨w',hw,t,ht⟩:=rv.get eb
  rw [hi] at hw
  cases hw
  refine ⟨t,?_⟩
  have e2:(ns[i]?).getD 0=ns[i]:=by rw [List.getElem?_eq_getElem hlt2]; rfl
  show v=Value.int ((ns[i]?).getD 0) t
  rw [e2]
  exact ht
 ·have e1:its.toArray.size=ns.length:=by simp; omega
  have e:preSum (fun i=>(ns[i]?).getD 0) its.toArray.size=ns.sum:=by
   rw [e1,pre_sum ns _ (Nat.le_refl _),List.take_length]
  rw [e]
  exact ⟨.int _,H,I.kept fun b x e=>hk b x (fun hm=>by rw [List.mem_singleton.mp hm] at e; exact Nat.lt_irrefl _ (Heap.lt_size e)) (Heap.get?_push_of_some _ e),⟨_,rfl⟩,q⟩
end
theorem Same.put {H H2:Hp} {r:Addr} {o:HO} (s:Same H H2) (hr:H r=none) : Same H (upd H2 r o):=fun b u q=>by rw [upd_ne (ne_of_none q hr)]; exact s b u q
theorem cutV_map {α:Type} (f:α→V) (ns:List α) (lo hi:Option Int) : cutV (ns.map f) lo hi=(cutL ns lo hi).map f:=by
 unfold cutV cutL
 rw [List.length_map,List.map_take,List.map_drop]
structure Wd where
 lead:Int
 kept:Bool
 say:Say
 foot:List Say

section
variable {prog:Program} {w:World} {A:Around} {R:Result→Shared→Prop} {I:Addr} {fp wr:List Addr} {P:Nat→Value→Prop} {St:Nat→Heap→Prop}
end
section
variable {prog:Program} {w:World} {A:Around} {R:Result→Shared→Prop} {I:Addr} {fp wr:List Addr} {P:Nat→Value→Prop} {St:Nat→Heap→Prop}
end
structure Frm where
 w:Int
 h:Int
 f:Int
 m:Int
theorem op_neNil {X:Cx} (hu:X.A.units < cLine) : OpR X (compareOp .NotEq) (fun x y H Q=>∃ a b xs,x = .ref a∧y = .ref b∧SqL X.K H a xs∧SqL X.K H b []∧Q (.bl (!xs.isEmpty)) H):=by
 intro pins s σ H x y v u Q I rx ry h
 obtain ⟨a,b,xs,rfl,rfl,ha,hb,q⟩:=h
 cases rx
 cases ry
 obtain ⟨its,r,p,z⟩:=I.list ha
 obtain ⟨its2,r2,p2,z2⟩:=I.list hb
 have l1:=r.length
 have l2:=r2.length
 cases xs with
 | nil =>
  refine SeqAt.RcNeAt.lists (e:=fun _=>true) p.isList p2.isList (by simp at l1 l2 ⊢; omega) hu (fun j h1 h2=>absurd h1 (by simp at l1 ⊢; omega)) _ _ _ _ ⟨.bl _,H,I,rfl,?_⟩
  have e:its.toArray.size=0:=by rw [List.size_toArray]; exact l1.symm
  rw [e]
  exact q
 | cons x r=>exact SeqAt.RcNeAt.lists_lengths p.isList p2.isList (by simp at l1 l2 ⊢; omega) hu _ _ _ _ ⟨.bl true,H,I,rfl,q⟩
inductive CL:List Expr→List V→Prop where
 | nil:CL [] []
 | int {i:Int} {j:Nat} {pos:Pos} {es:List Expr} {vs:List V} (h:CL es vs) : CL (.Constant (.int i) j pos :: es) (.int i :: vs)
 | str {x:Str} {j:Nat} {pos:Pos} {es:List Expr} {vs:List V} (h:CL es vs) : CL (.Constant (.str x) j pos :: es) (.str x :: vs)
def tVs (vs:List V) : TA:=fun _ H Q=>Q vs H
theorem pa_cl {X:Cx} : ∀ {es:List Expr} {vs:List V},CL es vs→PA X es (tVs vs)
 | _,_,.nil=>pa_nil
 | _,_,.int h=>pa_cons pe_int (pa_cl h)
 | _,_,.str h=>pa_cons pe_str (pa_cl h)
theorem ps_pick {X:Cx} {i:Nat} {x:Str} {es:List Expr} {vs:List V} {b:Expr} {tb:TE} {p1 p2 p3 p4:Pos} (hN:X.N.Nodup) (hi:X.N[i]? = some x) (hx:Loc X.env.scope x) (hc:CL es vs) (hb:PE X b tb) (hs:PlainIx b)
  (hf:X.fn x=true∨X.env.scope.names.lookup x=some .local) : PS X (.Assign [.Name x p1] (.Subscript (.List es p2) b p3) p4) (tAsg (tOp (rIxL X.K) (tLst (tVs vs)) tb) (gName i)):=
 ps_set (i:=i) hN hi hx (pe_ix ix_list (pe_lst (pa_cl hc)) hb hs)
def kN:Str:=PySem.Str.ofString "never"
section
variable (F:Frm) (ds:List Wd) (xs:List (Int × Int)) (k:Str) (i:Nat) (j:Int)
end
section
variable {F:Frm} {ds:List Wd} {xs ys:List (Int × Int)}
end
section
variable {prog:Program} {w:World} {A:Around} {R:Result→Shared→Prop} {I:Addr} {fp wr:List Addr} {n:Nat} {P:Nat→Value→Prop} {St:Nat→Heap→Prop}
end
section
variable {F:Frm} {ds:List Wd} {xs:List (Int × Int)} {i:Nat}
end
section
variable {F:Frm} {ds:List Wd} {xs ys:List (Int × Int)} {i:Nat}
end
theorem rep1 {α:Type} (x:α) : ∀ n:Nat,(List.replicate n [x]).flatten=List.replicate n x
 | 0=>rfl
 | n+1=>by rw [List.replicate_succ,List.flatten_cons,rep1 x n]; rfl
def Itz (K:PySem.W.Frag) (a b:Addr) : It:=
 ⟨fun i H=>∃ xs ys x y,SqL K H a xs∧SqL K H b ys∧xs[i]? = some x∧ys[i]? = some y,fun i H x H'=>∃ p,H p=none∧x = .ref p∧∀ xs ys u v,SqL K H a xs→SqL K H b ys→xs[i]? = some u→ys[i]? = some v→H' = upd H p (.tup [u,v]),fun i H=>∃ xs ys,SqL K H a xs∧SqL K H b ys∧(xs.length≤i∨ys.length≤i)⟩
theorem turn_zip {P:Program} {w:World} {K:PySem.W.Frag} {elts:List Expr} {k1} {tp:Pos} (a b z TI TO i1 i2:Addr) (D:ZipApart z TI TO i1 i2 a b) : Turn P w K (.Tuple elts k1 tp) (Itz K a b) [z,TI,TO,i1,i2] z (fun i h=>IsZip h z TI TO .none∧IsPair h TI (.ref i1) (.ref i2)∧(∃ u v,IsPair h TO u v)∧h.IsListIter i1 a i∧h.IsListIter i2 b i) where
 mem:=by simp
 obj:=fun i h st c hb=>by
  have hb':c=z∨c=TI∨c=TO∨c=i1∨c=i2:=by simpa using hb
  obtain ⟨s1,s2,⟨u,v,s3⟩,s4,s5⟩:=st
  rcases hb' with rfl | rfl | rfl | rfl | rfl
  ·exact ⟨_,s1,fun v z=>by cases z⟩
  ·exact ⟨_,s2,fun v z=>by cases z⟩
  ·exact ⟨_,s3,fun v z=>by cases z⟩
  ·obtain ⟨o,h1,_,d⟩:=s4
   exact ⟨o,h1,fun v z=>by rw [d] at z; cases z⟩
  ·obtain ⟨o,h1,_,d⟩:=s5
   exact ⟨o,h1,fun v z=>by rw [d] at z; cases z⟩
 keep:=fun i h h' st k=>by
  obtain ⟨s1,s2,⟨u,v,s3⟩,s4,s5⟩:=st
  exact ⟨k z (by simp) _ s1,k TI (by simp) _ s2,⟨u,v,k TO (by simp) _ s3⟩,s4.at fun o h1=>k i1 (by simp) o h1,s5.at fun o h1=>k i2 (by simp) o h1⟩
 item:=by
  intro X hP hw hK hc i pins s σ H E I hf st hg
  subst hP hw hK
  obtain ⟨xs,ys,x,y,hqx,hqy,hx,hy⟩:=hg
  obtain ⟨its,rv,p,hz⟩:=I.list hqx
  obtain ⟨its2,rv2,p2,hz2⟩:=I.list hqy
  obtain ⟨u,hu,ru⟩:=rv.get hx
  obtain ⟨v,hv,rv'⟩:=rv2.get hy
  obtain ⟨st1,st2,⟨o1,o2,st3⟩,st4,st5⟩:=st
  have fz:=fun c (hm:c ∈ [z,TI,TO,i1,i2])=>hf c hm
  refine wpAny_pyNext_zip_item D st1 st2 st3 st4 st5 p.isList p2.isList (x:=u) (y:=v) (by simpa using hu) (by simpa using hv) fun h' hz1 hTO1 hi1 hi2 hpair hsz1 hk=>?_
  have kk:∀ c o,c ∉ [z,TI,TO,i1,i2]→s.heap.get? c=some o→h'.get? c=some o:=fun c o hb q=>hk c o (fun e=>hb (by simp [e])) (fun e=>hb (by simp [e])) (fun e=>hb (by simp [e])) (fun e=>hb (by simp [e])) q
  have kTI:=hk TI _ D.TIz D.TITO D.TIi1 D.TIi2 st2
  have kk2:∀ c o,c ∉ [z,TO,i1,i2]→s.heap.get? c=some o→h'.get? c=some o:=fun c o hb q=>hk c o (fun e=>hb (by simp [e])) (fun e=>hb (by simp [e])) (fun e=>hb (by simp [e])) (fun e=>hb (by simp [e])) q
  have nit:∀ c v,H c=some v→c ∉ [z,TI,TO,i1,i2]:=fun c v q m=>by
   have:=(hf c m).1
   rw [this] at q
   cases q
  have I1:Inv X pins σ H { s with heap:=h',toks:=s.toks }:=by
   refine I.step (g':=s.gens) (d':=s.drawn) (ch:=[z,TI,TO,i1,i2]) (fun c hb=>?_) (fun c o _ _ hb q _=>kk c o hb q) (fun c o _ _ hb q _=>⟨o.slots,kk c o hb q⟩) (fun _ _ _ _ n=>n)
    (fun c o hb q=>⟨o,kk c o hb q⟩) (fun _ _ q=>q) (fun _ _ _ q=>q) (fun c ps q=>⟨#[],by rw [q]; simp⟩) (fun m hm=>?_) (fun c v q=>?_) I.bare
   ·obtain ⟨f0,f1,f2,f3,f4,f5⟩:=hf c hb
    exact ⟨f3,f1,f4,f5⟩
   ·obtain ⟨o,es,ep,ho,r⟩:=hm
    exact ⟨o,es,ep,kk _ o (fun m=>(hf _ m).2.1 rfl) ho,r⟩
   ·refine (I.hok c v q).stay (fun d o hd r=>kk d o ?_ r) (fun _ r=>r) fun _ _ r=>r
    rcases hd with rfl | hd
    ·exact nit _ _ q
    ·exact nit _ _ hd
  have hTn:H s.heap.objs.size=none:=I.fresh
  have zlt:z < s.heap.objs.size:=Heap.lt_size st1
  have I2:Inv X pins σ (upd H s.heap.objs.size (.tup [x,y])) { s with heap:=h',toks:=s.toks }:=by
   refine I1.track hTn I.sz (Nat.ne_of_gt I.lt) (fun y c q=>?_) (fun p hp=>?_) ⟨by show 2≤sizeLine; decide,[u,v],.cons ru (.cons rv' .nil),⟨_,hpair,rfl,_,rfl⟩⟩
   ·obtain ⟨v,q2⟩:=I.cell y c q
    exact Nat.ne_of_lt q2.lt
   ·exact Nat.ne_of_lt (Heap.lt_size (I.pin p hp).1)
  refine ⟨_,rfl,wpAny_letOwnedTupleGo_zip (s:={ s with heap:=h',toks:=s.toks }) hz1 fun h'' hz2' hs''=>?_⟩
  obtain ⟨f0,f1,f2,f3,f4,f5⟩:=hf z (by simp)
  have I3:Inv X pins σ (upd H s.heap.objs.size (.tup [x,y])) { s with heap:=h'',toks:=s.toks }:=Inv.turned (s:={ s with heap:=h',toks:=s.toks }) (h':=h'') (t':=s.toks) (it:=z) I2 (fun c o hb q=>(hs''.2 c hb).trans q) (by rw [upd_ne (Nat.ne_of_lt zlt)]; exact f0) f1 f3 f4 f5
  refine ⟨.ref s.heap.objs.size,_,I3,rfl,⟨_,hTn,rfl,fun xs' ys' u' v' hx' hy' ex ey=>?_⟩,⟨hz2',(hs''.2 TI D.TIz).trans kTI,⟨u,v,(hs''.2 TO D.TOz).trans hTO1⟩,hi1.at fun o h1=>(hs''.2 i1 D.i1z).trans h1,hi2.at fun o h1=>(hs''.2 i2 D.i2z).trans h1⟩,fun c hb=>?_⟩
  ·rw [I.list_inj hx' hqx,hx] at ex
   rw [I.list_inj hy' hqy,hy] at ey
   cases ex
   cases ey
   rfl
  ·have clt:c < s.heap.objs.size:=by
    have z':c=z∨c=TI∨c=TO∨c=i1∨c=i2:=by simpa using hb
    rcases z' with rfl | rfl | rfl | rfl | rfl
    ·exact zlt
    ·exact Heap.lt_size st2
    ·exact Heap.lt_size st3
    ·obtain ⟨o,h1,_⟩:=st4; exact Heap.lt_size h1
    ·obtain ⟨o,h1,_⟩:=st5; exact Heap.lt_size h1
   rw [upd_ne (Nat.ne_of_lt clt)]
   exact (hf c hb).1
 done:=by
  intro X hP hw hK hc i pins s σ H E I hf st hg
  subst hP hw hK
  obtain ⟨xs,ys,hqx,hqy,hlen⟩:=hg
  obtain ⟨its,rv,p,hz⟩:=I.list hqx
  obtain ⟨its2,rv2,p2,hz2⟩:=I.list hqy
  obtain ⟨st1,st2,⟨o1,o2,st3⟩,st4,st5⟩:=st
  have hl:=rv.length
  have hl2:=rv2.length
  have hend:its.toArray[i]? = none∨its2.toArray[i]? = none:=by
   rcases hlen with h | h
   ·exact .inl (Array.getElem?_eq_none (by rw [List.size_toArray]; omega))
   ·exact .inr (Array.getElem?_eq_none (by rw [List.size_toArray]; omega))
  refine wpAny_pyNext_zip_end (I.ok.hd hc) D st1 st2 st3 st4 st5 p.isList p2.isList hend fun h' hk=>⟨rfl,?_⟩
  have kk:∀ c o,c ∉ [z,TI,TO,i1,i2]→s.heap.get? c=some o→h'.get? c=some o:=fun c o hb q=>hk c o (fun e=>hb (by simp [e])) (fun e=>hb (by simp [e])) (fun e=>hb (by simp [e])) (fun e=>hb (by simp [e])) q
  have nit:∀ c v,H c=some v→c ∉ [z,TI,TO,i1,i2]:=fun c v q m=>by
   have:=(hf c m).1
   rw [this] at q
   cases q
  refine I.step (t':=s.toks) (g':=s.gens) (d':=s.drawn) (ch:=[z,TI,TO,i1,i2]) (fun c hb=>?_) (fun c o _ _ hb q _=>kk c o hb q) (fun c o _ _ hb q _=>⟨o.slots,kk c o hb q⟩) (fun _ _ _ _ n=>n)
   (fun c o hb q=>⟨o,kk c o hb q⟩) (fun _ _ q=>q) (fun _ _ _ q=>q) (fun c ps q=>⟨#[],by rw [q]; simp⟩) (fun m hm=>?_) (fun c v q=>?_) I.bare
  ·obtain ⟨f0,f1,f2,f3,f4,f5⟩:=hf c hb
   exact ⟨f3,f1,f4,f5⟩
  ·obtain ⟨o,es,ep,ho,r⟩:=hm
   exact ⟨o,es,ep,kk _ o (fun m=>(hf _ m).2.1 rfl) ho,r⟩
  ·refine (I.hok c v q).stay (fun d o hd r=>kk d o ?_ r) (fun _ r=>r) fun _ _ r=>r
   rcases hd with rfl | hd
   ·exact nit _ _ q
   ·exact nit _ _ hd
 self:=fun _ _ _ _ _ st h=>wpAny_pyIter_zip st.1 h
section
variable {X:Cx} {elts:List Expr} {k1:Nat} {tp:Pos}
def iZip (K:PySem.W.Frag) (tl tm:TE) : TI:=fun σ H R=>tl σ H fun x H1=>tm σ H1 fun y H2=>∃ a b,x = .ref a∧y = .ref b∧(∃ xs,SqL K H2 a xs)∧(∃ ys,SqL K H2 b ys)∧R (Itz K a b) H2
theorem pi_zip {l m:Expr} {k1} {tl tm:TE} {p pos:Pos} (hg:Gl X "zip") (hm:X.mg "zip" = none) (hl:PE X l tl) (hl2:PE X m tm) (hs:starEach [l,m] X.env=(false,eval l X.env) :: starEach [m] X.env:=by rfl) (hs1:starEach [m] X.env=(false,eval m X.env) :: starEach [] X.env:=by rfl) : PI X (.Tuple elts k1 tp) (.Call (.Name "zip" p) [l,m] [] pos) (iZip X.K tl tm):=by
 intro pins s σ H R I h
 have ha:PA X [l,m] (tCons tl (tCons tm tNil)):=pa_cons hl (pa_cons hl2 pa_nil hs1) hs
 refine Call_ (ld_blt I hg hm (by decide +kernel:bootBuiltins "zip" = some (.type "zip")) (PyProof.Rows.callWith_type1 (thn (ha pos pins s σ H (fun vs H1=>match vs with | [x,y]=>∃ a b,x = .ref a∧y = .ref b∧(∃ xs,SqL X.K H1 a xs)∧(∃ ys,SqL X.K H1 b ys)∧R (Itz X.K a b) H1 | _=>False) I h) fun us s1 ⟨vs,H1,I1,r1,q1⟩=>?_) hs (by rw [hs1]; rfl)))
 match vs,r1,q1 with
 | [x,y],r1,q1 =>
 obtain ⟨a,b,rfl,rfl,⟨xs,hqx⟩,⟨ys,hqy⟩,q⟩:=q1
 obtain ⟨u,v,rfl,ru,rv0⟩:=vals2 r1
 cases ru
 cases rv0
 obtain ⟨its,rv,p,hz⟩:=I1.list hqx
 obtain ⟨its2,rv2,p2,hz2⟩:=I1.list hqy
 have alt:a < s1.heap.objs.size:=by obtain ⟨_,_,e,_⟩:=p; exact Heap.lt_size e
 have blt:b < s1.heap.objs.size:=by obtain ⟨_,_,e,_⟩:=p2; exact Heap.lt_size e
 refine call_zip_2 p.isList p2.isList fun h' g1 g2 g3 g4 g5 hz' hk=>?_
 refine wpAny_pyIter_zip g1 ?_
 have ne:∀ {m n:Nat} {N:Nat},m≠n→N+m≠N+n:=fun h e=>h (Nat.add_left_cancel e)
 have nl:∀ {c:Addr} (k:Nat),c < s1.heap.objs.size→c≠s1.heap.objs.size+k:=fun k h e=>absurd h (by rw [e]; exact Nat.not_lt.mpr (Nat.le_add_right _ _))
 have D:ZipApart (s1.heap.objs.size+4) (s1.heap.objs.size+2) (s1.heap.objs.size+3) s1.heap.objs.size (s1.heap.objs.size+1) a b:=
  ⟨ne (by decide),ne (by decide),ne (m:=0) (by decide),ne (by decide),ne (by decide),ne (n:=0) (by decide),ne (by decide),ne (n:=0) (by decide),ne (by decide),ne (m:=0) (by decide),nl 4 alt,nl 3 alt,nl 0 alt,nl 1 alt,nl 4 blt,nl 3 blt,nl 0 blt,nl 1 blt⟩
 refine ⟨s1.heap.objs.size+4,[s1.heap.objs.size+4,s1.heap.objs.size+2,s1.heap.objs.size+3,s1.heap.objs.size,s1.heap.objs.size+1],_,_,H1,rfl,I1.kept (t':=s1.toks) hk,turn_zip a b _ _ _ _ _ D,⟨g1,g2,⟨_,_,g3⟩,g4,g5⟩,fun c hb=>?_,q⟩
 have z':c=s1.heap.objs.size+4∨c=s1.heap.objs.size+2∨c=s1.heap.objs.size+3∨c=s1.heap.objs.size∨c=s1.heap.objs.size+1:=by simpa using hb
 rcases z' with rfl | rfl | rfl | rfl | rfl
 ·exact I1.fpOk (Nat.le_add_right _ _) (I1.hok.fresh (Nat.le_add_right _ _))
 ·exact I1.fpOk (Nat.le_add_right _ _) (I1.hok.fresh (Nat.le_add_right _ _))
 ·exact I1.fpOk (Nat.le_add_right _ _) (I1.hok.fresh (Nat.le_add_right _ _))
 ·exact I1.fpOk (Nat.le_refl _) (I1.hok.fresh (Nat.le_refl _))
 ·exact I1.fpOk (Nat.le_succ _) (I1.hok.fresh (Nat.le_succ _))
end
end L2

set_option maxHeartbeats 4000000
namespace PySem
section
variable {prog:Program} {w:World} {A:Around} {E:Value→Shared→Prop} {s:Shared}
end
section
variable {prog:Program} {w:World} {A:Around} {R:Result→Shared→Prop}
end
namespace F
end F
section
variable {prog:Program} {w:World} {A:Around} {s:Shared} {R:Result→Shared→Prop}
end
section
variable {prog:Program} {w:World} {A:Around} {E:Value→Shared→Prop} {s:Shared}
end
end PySem

set_option maxHeartbeats 4000000
namespace L2
open PySem PySem.Spec PyProof.Rows Tl
structure FunV (K:PySem.W.Frag) (x qual:Str) (st:Stmt) (f:Addr) (fd:FuncData) : Prop where
 ex:∃ (oc:Value) (od:Option Addr) (dV kV doc pm:Value) (an:Option Addr) (cdv ct:Value) (osl:Array (Option Value)),fd=PySem.W.fnOf x qual (defArgs st) (defBody st) (defScope st) dV kV doc pm an cdv ct∧K.lookup f=some ⟨oc,od,.func fd,osl⟩∧PySem.W.codeIn K cdv qual=true
 kp:PySem.W.keepIn K (.ref f)=true
structure DefOkV (K:PySem.W.Frag) (mg:Str→Option Value) (x:Str) (st:Stmt) (ps:List Str) (f:Addr) (fd:FuncData) (dv:Value) : Prop where
 fn:FunV K x x st f fd
 bd:Binds K fd ps []
 bd1:Binds K fd ps [dv]
 mg:mg x=some (.ref f)
section
variable {X:Cx} {x:Str} {st:Stmt} {ps:List Str} {f:Addr} {fd:FuncData} {dv:Value} {k:Nat} {sp:Sp} {e:Expr} {es:List Expr} {t:TA} {p pos:Pos}
theorem defokV_mk {K:PySem.W.Frag} {h:Heap} {mg:Str→Option Value} (KX:K.In h) (G:h.Ns mainGlobals mg) {od an od2:Option Addr} {sl sl2:Array (Option Value)} {oc oc2 kV dc pm cd ct:Value} {T:Addr} {n2:Nat} (a:PySem.W.nsIn K mainGlobals x=some (some (.ref f)))
  (l:K.lookup f=some ⟨oc,od,.func (PySem.W.fnOf x x (defArgs st) (defBody st) (defScope st) (.ref T) kV dc pm an cd ct),sl⟩) (c:PySem.W.codeIn K cd x=true) (k:PySem.W.keepIn K (.ref f)=true) (lt:K.lookup T=some ⟨oc2,od2,.seq #[dv] n2,sl2⟩)
  (b:∀ (kV doc pm:Value) (an:Option Addr) (cdv ct:Value) (us:List Value),us.length=ps.length→∃ k,bindArgs (PySem.W.fnOf x x (defArgs st) (defBody st) (defScope st) (.ref T) kV doc pm an cdv ct) ⟨us,[]⟩=seqItems? (.ref T) >>= k∧k (some #[dv])=pure (ps.zip us))
  (b1:∀ (kV doc pm:Value) (an:Option Addr) (cdv ct:Value) (us:List Value),us.length+1=ps.length→∃ k,bindArgs (PySem.W.fnOf x x (defArgs st) (defBody st) (defScope st) (.ref T) kV doc pm an cdv ct) ⟨us,[]⟩=seqItems? (.ref T) >>= k∧k (some #[dv])=pure (ps.zip (us++[dv]))) :
  DefOkV K mg x st ps f (PySem.W.fnOf x x (defArgs st) (defBody st) (defScope st) (.ref T) kV dc pm an cd ct) dv:=by
 refine ⟨⟨⟨oc,od,.ref T,kV,dc,pm,an,cd,ct,sl,rfl,l,c⟩,k⟩,fun s us kin hl=>?_,fun s us kin hl=>?_,PySem.W.mg_of KX G a⟩
 ·rw [List.append_nil] at hl ⊢
  obtain ⟨k',e1,e2⟩:=b kV dc pm an cd ct us hl
  exact .of_defaults (T:=T) rfl (kin T _ lt) rfl e1 e2
 ·rw [List.length_append,List.length_singleton] at hl
  obtain ⟨k',e1,e2⟩:=b1 kV dc pm an cd ct us hl
  exact .of_defaults (T:=T) rfl (kin T _ lt) rfl e1 e2
end
section
variable {F:Frm} {ds:List Wd} {xs ys zs:List (Int × Int)} {i j:Nat}
end
section
variable {F:Frm} {ds:List Wd} {x0 xs zs:List (Int × Int)} {np i:Nat}
end
section
variable {F:Frm} {ds:List Wd} {xs:List (Int × Int)} {i j:Nat}
end
section
variable {room:Int} {brk:Nat→Bool}
end
section
variable {F:Frm} {ds:List Wd} {L room:Int} {brk:Nat→Bool}
end
section
variable {F:Frm} {ds:List Wd} {xs:List (Int × Int)} {i j:Nat}
end
section
variable {F:Frm} {ds es:List Wd} {xs ys:List (Int × Int)} {a r:Nat}
end
section
variable {a:Nat} {ds rs:List Wd}
end
section
variable {F:Frm} {ds:List Wd} {xs:List (Int × Int)} {k:Nat}
end
section
variable {F:Frm} {ds es:List Wd} {xs:List (Int × Int)} {k j:Nat} {h h' f w:Int}
end
section
variable {K:PySem.W.Frag} {H0 H H':Hp} {as:List Addr} {ds:List Wd}
end
section
variable {X:Cx}
end
section
variable {prog:Program} {w:World} {A:Around} {E:Value→Shared→Prop} {s:Shared}
end
section
variable {X:Cx} {pos:Pos}
end
section
variable {X:Cx} {elt iter:Expr} {ifs:List Expr} {scope:Scope} {cl:List (Str × Addr)} {pos px py tp:Pos} {k1:Nat} {x y:Str} {caps:List Str} {js:List Nat} {tc:TT} {te:TE} {wi:TI}
def g2 (K:PySem.W.Frag) : TG:=gTup K 2 (gCons (gName 0) (gCons (gName 1) gNil))
theorem pe_lc2 (hc:X.calm=true) (L:LcOk X scope cl [x,y] caps js) (hi:PI X (.Tuple [.Name x px,.Name y py] k1 tp) iter wi)
  (ht:∀ s H C ex,PTs (X.blk (x :: y :: caps) s H scope cl C ex) ifs tc) (he:∀ s H C ex,PE (X.blk (x :: y :: caps) s H scope cl C ex) elt te)
  (hN:(x :: y :: caps).Nodup:=by decide +kernel) (hx:(relabel scope X.env).names.lookup x=some .local:=by with_unfolding_all rfl) (hy:(relabel scope X.env).names.lookup y=some .local:=by with_unfolding_all rfl)
  (hs:∀ x,foldedSetIterable iter X.env x=pure x:=by intro _; rfl) : PE X (.ListComp elt [⟨.Tuple [.Name x px,.Name y py] k1 tp,iter,ifs,0⟩] scope pos) (tLCg wi (g2 X.K) tc te 2 js):=
 pe_lcg (own:=[x,y]) (g:=g2 X.K) hc L hi (fun s H C ex=>pg_tup hc (pgs_cons (pg_name (i:=0) hN rfl (.inl hx) (.inr hx)) (pgs_cons (pg_name (i:=1) hN rfl (.inl hy) (.inr hy)) pgs_nil))) ht he hs
end
theorem lc_zip {K:PySem.W.Frag} {a b:Addr} {xs ys:List V} {cv:St} {tc:TT} {te:TE} {Fin:List V→Hp→Prop} {H1:Hp} (Pv:Nat→List V→Hp→Prop) (el:xs.length=ys.length) (h0:Pv 0 [] H1) (hl:∀ i zs H,i≤xs.length→Pv i zs H→SqL K H a xs∧SqL K H b ys) (hz:∀ i zs H,i < xs.length→Pv i zs H→zs.length < sizeLine)
  (hs:∀ i x y zs H p,xs[i]? = some x→ys[i]? = some y→Pv i zs H→H p=none→tc (some x :: some y :: cv) (upd H p (.tup [x,y])) fun b H3=>if b=true then te (some x :: some y :: cv) H3 fun v H4=>Pv (i+1) (zs++[v]) H4 else Pv (i+1) zs H3)
  (hd:∀ zs H,Pv xs.length zs H→Fin zs H) : gLC (Itz K a b) (g2 K) tc te 2 cv Fin H1:=by
 refine ⟨fun i m zs H=>m=xs.length - i∧i≤xs.length∧Pv i zs H,⟨xs.length,by simp,Nat.zero_le _,h0⟩,?_⟩
 rintro i m zs H ⟨rfl,hi,p⟩
 obtain ⟨q1,q2⟩:=hl i zs H hi p
 by_cases lt:i < xs.length
 ·have e1:xs[i]? = some xs[i]:=List.getElem?_eq_getElem lt
  have e2:ys[i]? = some (ys[i]'(by omega)):=List.getElem?_eq_getElem (by omega)
  refine .inr ⟨⟨xs,ys,_,_,q1,q2,e1,e2⟩,hz i zs H lt p,Pv (i+1),fun zs' H' p'=>⟨xs.length - (i+1),by omega,rfl,lt,p'⟩,fun v H' yl own ho=>?_⟩
  obtain ⟨pp,hp,rfl,hh⟩:=yl
  have hH:=hh xs ys _ _ q1 q2 e1 e2
  subst hH
  match own,ho with
  | [o1,o2],_=>exact ⟨pp,_,rfl,SqT.of upd_same,rfl,_,_,rfl,_,_,rfl,rfl,⟨[some xs[i],some (ys[i]'(by omega))],rfl,rfl⟩,hs i _ _ zs H pp e1 e2 p hp⟩
 ·have:i=xs.length:=by omega
  subst this
  exact .inl ⟨⟨xs,ys,q1,q2,.inl (Nat.le_refl _)⟩,hd zs H p⟩
end L2

set_option maxHeartbeats 4000000
namespace L2
open PySem PySem.W PySem.Calls PySem.Spec PyProof.Rows Builtin Builtin.ObjectAttr Builtin.Getset_descriptor
section
variable {prog:Program} {w:World} {A:Around} {E:Value→Shared→Prop} {h:Heap} {g:Array GenState} {d:Drawn} {t:Nat} {os:OsState} {K:Frag} {x C:Addr}
end
end L2

namespace L2
open PySem PySem.W PySem.Spec PyProof.Rows
section
variable {X:Cx} {pins:List (Addr × Obj)} {σ:St} {H:Hp} {s:Shared}
end
section
variable {X:Cx} {k:Nat} {f T:Addr} {fd:FuncData} {ps:List Str} {sp:Sp} {fx c n:Str} {i:Nat} {st:Stmt} {e:Expr} {es:List Expr} {t:TA} {b₀:Stmt} {suite:List Stmt} {th:TS} {np pf cpos apos hpos pos:Pos}
end
end L2

set_option maxHeartbeats 4000000
namespace L2
open PySem PySem.Spec PyProof.Rows Builtin Builtin.ObjectAttr
section
variable {prog:Program} {w:World} {A:Around} {E:Value→Shared→Prop} {h:Heap} {g:Array GenState} {d:Drawn} {t:Nat} {os:OsState} {a:Addr} {o:Obj}
theorem lk_list_keys:typeLookup (.type "list") "keys" = pure none:=by rw [typeLookup_type,builtinLookup_eq_fast]; kernel_rfl
theorem sub_attr:isSubtype (.type "AttributeError") (.type "AttributeError")=pure true:=by rw [isSubtype_type]; kernel_rfl
theorem raise_attr {α:Type} {ov:Value} {name msg:Str} {Q:α→Shared→Prop} (hm:msg.length≤sizeLine) (hh:A.handled=none)
  (hq:∀ h' t' e,(∀ b o,h.get? b=some o→h'.get? b=some o)→(∃ ob,h'.get? e=some ob∧ob.cls = .type "AttributeError")→E (.ref e) ⟨h',g,d,t',os⟩) :
  wpAny (model prog w) A (raiseAttrError ov name msg:Sem α) Q E ⟨h,g,d,t,os⟩:=by
 unfold raiseAttrError
 refine wpAny_bind (wpAny_mkStr (wpAny_bind ?_) hm)
 unfold newExc newTuple
 refine wpAny_bind (wpAny_newObj_type ?_ (by size_fits))
 refine wpAny_bind (m:=firstArgMember _ _) (wpAny_of_eq (a:=Value.none) (by unfold firstArgMember; kernel_rfl) ?_)
 refine wpAny_newObj_type ?_ (by size_fits)
 have hE:=Heap.get?_push_size (h.push { cls:=.type "tuple",data:=.seq #[Value.str msg t] }) (o:={ cls:=.type "AttributeError",data:=.fields (#[Value.ref h.objs.size,.none,.none,.none,.bool false,.none]++ownMembersOf (.type "AttributeError") [Value.str msg t]) }) rfl
 have hT:(⟨(h.push { cls:=.type "tuple",data:=.seq #[Value.str msg t] }).push { cls:=.type "AttributeError",data:=.fields (#[Value.ref h.objs.size,.none,.none,.none,.bool false,.none]++ownMembersOf (.type "AttributeError") [Value.str msg t]) },g,d,t+1,os⟩ : Shared).TypeIs (.ref (h.push { cls:=.type "tuple",data:=.seq #[Value.str msg t] }).objs.size) "AttributeError":=⟨_,hE,rfl⟩
 have f1:=sub_attr
 unfold noteAttr lacksNameAndObj layMembers
 repeat (any_goals (first | assumption | wp_step))
 unfold raiseNew
 refine wpAny_bind (wpAny_handled ?_)
 rw [hh]
 first
  | refine wpAny_throw ?_
  | refine wpAny_bind (wpAny_pure (wpAny_throw ?_))
 refine hq _ _ _ (fun b o hb=>?_) ⟨_,Heap.get?_update_self _ hE rfl,rfl⟩
 have lt:=Heap.lt_size hb
 refine (Heap.get?_update_other _ _ (fun e=>?_)).trans (Heap.get?_push_of_some _ (Heap.get?_push_of_some _ hb))
 have sz:(h.push { cls:=.type "tuple",data:=.seq #[Value.str msg t] }).objs.size=h.objs.size+1:=Heap.size_push ..
 have e':(h.push { cls:=.type "tuple",data:=.seq #[Value.str msg t] }).objs.size=b:=e
 exact absurd lt (by rw [← e',sz]; exact Nat.not_lt.mpr (Nat.le_succ _))
theorem keys_entry {tk:Tok} {Q:Fin→Shared→Prop} {its:Array Value} {n:Nat} {sl:Array (Option Value)} (hx:h.get? a=some ⟨.type "list",none,.seq its n,sl⟩) (hh:A.handled=none)
  (hq:∀ h' t' e,(∀ b o,h.get? b=some o→h'.get? b=some o)→(∃ ob,h'.get? e=some ob∧ob.cls = .type "AttributeError")→E (.ref e) ⟨h',g,d,t',os⟩) :
  wpAny (model prog w) A (Builtin.«object.__getattribute__» ⟨[.ref a,.str "keys" tk],[]⟩) Q E ⟨h,g,d,t,os⟩:=by
 have hT:(⟨h,g,d,t,os⟩ : Shared).TypeIs (.ref a) "list":=⟨_,hx,rfl⟩
 have f4:=lk_list_keys
 repeat (any_goals (first | assumption | wp_step))
 exact raise_attr (by decide +kernel) hh hq
theorem sub_attr_list:typeLookup (.type "list") "__getattr__" = pure none:=by rw [typeLookup_type,builtinLookup_eq_fast]; kernel_rfl
theorem keys_call {tk:Tok} {R:Result→Shared→Prop} {its:Array Value} {n:Nat} {sl:Array (Option Value)} (hx:h.get? a=some ⟨.type "list",none,.seq its n,sl⟩) (hh:A.handled=none)
  (hq:∀ h' t' e,(∀ b o,h.get? b=some o→h'.get? b=some o)→(∃ ob,h'.get? e=some ob∧ob.cls = .type "AttributeError")→R (.error (.ref e)) ⟨h',g,d,t',os⟩) :
  codeAny (model prog w) A (.call (.builtin "list.__getattribute__") ⟨[.ref a,.str "keys" tk],[]⟩) R ⟨h,g,d,t,os⟩:=
 codeAny_call_builtin F.slot_list_getattribute.plain F.entry_list_ga (F.slot_list_getattribute.check _ _ _ _ _ _ _ _ (show (⟨h,g,d,t,os⟩ : Shared).TypeIs (.ref a) "list" from ⟨_,hx,rfl⟩) (F.args_list_getattribute_2 _ _) (keys_entry hx hh hq))
theorem keys_by {tk:Tok} {Q:Value→Shared→Prop} {its:Array Value} {n:Nat} {sl:Array (Option Value)} (hx:h.get? a=some ⟨.type "list",none,.seq its n,sl⟩) (hh:A.handled=none)
  (hq:∀ h' t' e,(∀ b o,h.get? b=some o→h'.get? b=some o)→(∃ ob,h'.get? e=some ob∧ob.cls = .type "AttributeError")→E (.ref e) ⟨h',g,d,t',os⟩) :
  wpAny (model prog w) A (getAttrBy (.ref a) (.str "keys" tk) false) Q E ⟨h,g,d,t,os⟩:=by
 have hT:(⟨h,g,d,t,os⟩ : Shared).TypeIs (.ref a) "list":=⟨_,hx,rfl⟩
 have f2:=F.slot_list_getattribute.lookup
 have f3:=F.slot_list_getattribute.bind (.ref a)
 repeat (any_goals (first | assumption | wp_step))
 refine keys_call hx hh fun h' t' e k ex=>?_
 obtain ⟨ob,he,hec⟩:=id ex
 have hT2:(⟨h',g,d,t',os⟩ : Shared).TypeIs (.ref e) "AttributeError":=⟨_,he,hec⟩
 have f5:=sub_attr
 have f6:=sub_attr_list
 show wpAny (model prog w) A (getattributeRaised (Value.ref a) (Value.str (Str.ofString "keys") tk) (Value.type "list") (.ref e) none false false) Q E ⟨h',g,d,t',os⟩
 unfold getattributeRaised hookBehind
 repeat (any_goals (first | assumption | wp_step))
 exact hq _ _ _ k ex
theorem keys_none {Q:Option Value→Shared→Prop} {its:Array Value} {n:Nat} {sl:Array (Option Value)} (hx:h.get? a=some ⟨.type "list",none,.seq its n,sl⟩) (hh:A.handled=none)
  (hq:∀ h' t',(∀ b o,h.get? b=some o→h'.get? b=some o)→Q none ⟨h',g,d,t',os⟩) :
  wpAny (model prog w) A (getAttr? (.ref a) "keys") Q E ⟨h,g,d,t,os⟩:=by
 unfold getAttr? getAttrBy?
 repeat (any_goals (first | assumption | with_reducible apply keys_by hx hh | wp_step))
 rintro h' t' e k ⟨ob,he,hec⟩
 have hT2:(⟨h',g,d,t',os⟩ : Shared).TypeIs (.ref e) "AttributeError":=⟨_,he,hec⟩
 have f5:=sub_attr
 repeat (any_goals (first | assumption | wp_step))
 exact hq _ _ k
end
end L2

namespace L2
open PySem PySem.Spec PyProof.Rows
def laid (kvs:List (Key × Value)) : List (Key × Value):=kvs.foldl (fun m kv=>stored m kv.1 kv.2) []
theorem laid_snoc (kvs:List (Key × Value)) (kv:Key × Value) : laid (kvs++[kv])=stored (laid kvs) kv.1 kv.2:=by unfold laid; rw [List.foldl_append]; rfl
theorem stored_len (m:List (Key × Value)) (k:Key) (v:Value) : (stored m k v).length≤m.length+1:=by
 unfold stored
 split
 ·rw [List.length_map]; omega
 ·rw [List.length_append]; simp
theorem entry_upd_loop:entryFor table "dict.update.loop" = some Builtin.«dict.update.loop»:=entryFor_of_tree (by kernel_rfl)
theorem plain_upd_loop:plainId "dict.update.loop" = true:=by decide +kernel
section
variable {prog:Program} {w:World} {A:Around} {R:Result→Shared→Prop} {i0 l d:Addr} {its:Array Value} {kvs:List (Key × Value)}
def Prs (prog:Program) (w:World) (h:Heap) (its:Array Value) (kvs:List (Key × Value)) : Prop:=its.size=kvs.length∧∀ (j:Nat) v k x,its[j]? = some v→kvs[j]? = some (k,x)→∃ p key,v = .ref p∧IsTup h p #[key,x]∧(mixKind prog w).is k key=true
theorem tup_keep {h h':Heap} {p a:Addr} {xs:Array Value} (t:IsTup h p xs) (s:Heap.SameBut a h h') (n:p≠a) : IsTup h' p xs:=by
 obtain ⟨o,ho,r⟩:=t
 exact ⟨o,(s.2 p n).trans ho,r⟩
theorem Prs.keep {h h':Heap} {a:Addr} (t:Prs prog w h its kvs) (s:Heap.SameBut a h h') (n:∀ o,h.get? a=some o→o.cls≠.type "tuple") : Prs prog w h' its kvs:=⟨t.1,fun j v k x e1 e2=>by
 obtain ⟨p,key,e3,tp,kk⟩:=t.2 j v k x e1 e2
 refine ⟨p,key,e3,tup_keep tp s fun e=>?_,kk⟩
 obtain ⟨o,ho,hc,_⟩:=tp
 exact n o (by rw [← e]; exact ho) hc⟩
theorem code_upd_loop (ne1:i0≠d) (ne2:l≠d) (ne3:l≠i0) (hh:A.in1.handled=none) (hz:its.size≤100000) :
  ∀ (k i:Nat) (s:Shared),its.size - i=k→i≤its.size→s.heap.IsListIter i0 l i→s.heap.IsList l its→s.heap.DictOf (mixKind prog w) d (laid (kvs.take i))→(laid (kvs.take i)).length≤i→Prs prog w s.heap its kvs →
  (∀ h' tk,h'.DictOf (mixKind prog w) d (laid kvs)→(∀ b o,b≠d→b≠i0→s.heap.get? b=some o→h'.get? b=some o)→R (.ok (.ret .none)) { s with heap:=h',toks:=tk }) →
  codeAny (model prog w) A (.builtin "dict.update.loop" ⟨[.ref d,.ref i0,rawInt (i:Int),.none],[]⟩) R s:=by
 intro k
 induction k with
 | zero =>
  intro i s hk hi hit hl hd hdl hp hR
  have ei:i=its.size:=by omega
  refine codeAny_builtin entry_upd_loop ?_
  rw [Around.under_plainId plain_upd_loop _]
  show wpAny _ A.in1 (pyNext (.ref i0) >>= _) _ _ s
  refine wpAny_bind (wpAny_pyNext_list_end hh hit hl (by simp [ei]) fun h' ex=>?_)
  refine wpAny_bind (wpAny_pure ?_)
  have e1:kvs.take i=kvs:=List.take_of_length_le (by rw [ei,hp.1]; exact Nat.le_refl _)
  rw [e1] at hd
  exact wpAny_pure (hR h' _ (hd.extBut ex (Ne.symm ne1)) fun b o _ hb e=>ex b o hb e)
 | succ k ih =>
  intro i s hk hi hit hl hd hdl hp hR
  have hlt:i < its.size:=by omega
  have hkl:i < kvs.length:=by rw [← hp.1]; exact hlt
  refine codeAny_builtin entry_upd_loop ?_
  rw [Around.under_plainId plain_upd_loop _]
  show wpAny _ A.in1 (pyNext (.ref i0) >>= _) _ _ s
  refine wpAny_bind (wpAny_pyNext_list_item hit hl (x:=its[i]) (by simp [hlt]) fun h1 it1 sb1=>?_)
  have hp1:Prs prog w h1 its kvs:=hp.keep sb1 fun o ho hc=>by
   obtain ⟨o2,ho2,hc2,_⟩:=hit
   rw [ho] at ho2
   cases ho2
   rw [hc] at hc2
   exact absurd (Value.type.inj hc2) (by decide)
  obtain ⟨p,key,ev,tp,kk⟩:=hp1.2 i its[i] kvs[i].1 kvs[i].2 (by simp [hlt]) (by rw [List.getElem?_eq_getElem hkl])
  rw [ev]
  have hd1:=hd.sameBut sb1 (Ne.symm ne1)
  have hT:({ s with heap:=h1 } : Shared).TypeIs (.ref p) "tuple":=by
   obtain ⟨o,ho,hc,_⟩:=tp
   exact ⟨o,ho,hc⟩
  obtain ⟨ot,hot,hotc,nt,hotd⟩:=id tp
  show wpAny _ A.in1 (holding [Value.ref p] _ >>= _) _ _ _
  refine wpAny_bind (wpAny_holding (wpAny_bind (wpAny_tryCatch ?_)))
  unfold Builtin.Dict.pairItems
  refine wpAny_bind (wpAny_typeOf hT ?_)
  rw [if_pos (by decide)]
  refine wpAny_bind (wpAny_seqItems hot hotd (wpAny_pure ?_))
  show wpAny _ A.in1 (holding [key,kvs[i].2] (dictSet d key kvs[i].2)) _ _ _
  refine wpAny_holding (wpAny_dictSet_pairs kk hd1 (fun h2 dd sb2=>?_) (Nat.le_trans hdl (Nat.le_trans hi (Nat.le_trans hz (by decide)))))
  have tk1:kvs.take (i+1)=kvs.take i++[kvs[i]]:=by rw [List.take_add_one,List.getElem?_eq_getElem hkl]; rfl
  have dd2:h2.DictOf (mixKind prog w) d (laid (kvs.take (i+1))):=by rw [tk1,laid_snoc]; exact dd
  have hp2:Prs prog w h2 its kvs:=hp1.keep sb2 fun o ho hc=>by
   have ty:({ s with heap:=h1 } : Shared).TypeIs (.ref d) "dict":=hd1.typeIs
   obtain ⟨o2,ho2,hc2⟩:=ty
   have ho3:h1.get? d=some o2:=ho2
   rw [ho] at ho3
   cases ho3
   rw [hc] at hc2
   exact absurd (Value.type.inj hc2) (by decide)
  have it2:h2.IsListIter i0 l (i+1):=by
   obtain ⟨o2,ho2,r⟩:=it1
   exact ⟨o2,(sb2.2 _ ne1).trans ho2,r⟩
  have hl2:h2.IsList l its:=by
   obtain ⟨o2,ho2,r⟩:=hl
   exact ⟨o2,(sb2.2 _ ne2).trans ((sb1.2 _ ne3).trans ho2),r⟩
  have sl:(laid (kvs.take (i+1))).length≤i+1:=by
   rw [tk1,laid_snoc]
   have:=stored_len (laid (kvs.take i)) kvs[i].1 kvs[i].2
   omega
  refine wpAny_pure ⟨plainId_quiet plain_upd_loop _,ih (i+1) _ (by omega) hlt it2 hl2 dd2 sl hp2 fun h' tk dd' kp=>hR h' tk dd' fun b o n1 n2 e=>kp b o n1 n2 ?_⟩
  exact (sb2.2 _ n1).trans ((sb1.2 _ n2).trans e)
end
def laidK (kvs:List (Key × V)) : List (Key × V):=kvs.foldl (fun m kv=>putK m kv.1 kv.2) []
theorem laidK_snoc (kvs:List (Key × V)) (kv:Key × V) : laidK (kvs++[kv])=putK (laidK kvs) kv.1 kv.2:=by unfold laidK; rw [List.foldl_append]; rfl
def PrsA (K:PySem.W.Frag) (H:Hp) (ps:List V) (kvs:List (Key × V)) : Prop:=ps.length=kvs.length∧∀ (j:Nat) p k v,ps[j]? = some p→kvs[j]? = some (k,v)→∃ a,p = .ref a∧SqT K H a [kV k,v]
section
variable {X:Cx}
theorem call_dict_pairs (hc:X.calm=true) : CallR X (.type "dict") (fun xs H Q=>∃ l ps kvs,xs=[.ref l]∧SqL X.K H l ps∧ps.length≤100000∧PrsA X.K H ps kvs∧∀ p,H p=none→Q (.ref p) (upd H p (.dK (laidK kvs)))):=by
 intro pins s σ H xs us Q I r h
 obtain ⟨l,ps,kvs,rfl,hl,hz,hp,q⟩:=h
 obtain ⟨u,rfl,ru⟩:=vals1 r
 cases ru
 obtain ⟨its,rv,p,z⟩:=I.list hl
 have hh:=I.ok.hd hc
 refine callType_codes (Q₁:=fun obj s₁=>obj = .ref s.heap.objs.size∧s₁={ s with heap:=s.heap.push { cls:=.type "dict",data:=.dict #[] } }) F.kt_called_dict (F.kt_typeCall_dict_1 _) F.entry_dict_init (kt_code_dict_new _ ⟨rfl,rfl⟩) ?_
 rintro obj s₁ ⟨rfl,rfl⟩
 have hnew:(s.heap.push { cls:=.type "dict",data:=.dict #[] }).DictOf (mixKind X.prog X.w) s.heap.objs.size []:=Heap.DictOf.new s.heap
 refine ⟨hnew.typeIs,F.args_dict_init_2 _ _,?_⟩
 unfold Builtin.«dict.__init__»
 refine wpAny_bind ?_
 unfold Builtin.Dict.selfAndRest
 refine wpAny_bind (wpAny_notOrdered_dict hnew.typeIs ?_)
 show wpAny _ _ (pure (s.heap.objs.size,[Value.ref l])) _ _ _
 refine wpAny_pure ?_
 show wpAny _ _ (Builtin.Dict.updateFrom "dict.__init__" s.heap.objs.size (.ref l) [] .none) _ _ _
 unfold Builtin.Dict.updateFrom
 have pl:=p.isList.push { cls:=.type "dict",data:=.dict #[] }
 refine wpAny_bind (wpAny_typeOf pl.typeIs ?_)
 rw [if_pos (by decide)]
 obtain ⟨o0,n0,ho0,hcl,hdd,hdat⟩:=id p
 obtain ⟨c0,d0,dt0,sl0⟩:=o0
 simp only at hcl hdd hdat
 subst hcl hdd hdat
 have hlt:l < s.heap.objs.size:=Heap.lt_size ho0
 have hx:=Heap.get?_push_of_some { cls:=.type "dict",data:=.dict #[] } ho0
 refine wpAny_bind (keys_none hx hh fun h1 t1 k1=>?_)
 refine wpAny_bind (wpAny_rule ?_)
 have pl1:h1.IsList l its.toArray:=⟨_,k1 _ _ hx,rfl,_,rfl⟩
 refine wpAny_bind (wpAny_pyIter_list pl1 ?_)
 refine wpAny_pure ⟨plainId_quiet plain_upd_loop _,?_⟩
 have hdn:h1.DictOf (mixKind X.prog X.w) s.heap.objs.size []:=by
  obtain ⟨o,es,ep,ho,rr⟩:=hnew
  exact ⟨o,es,ep,k1 _ _ ho,rr⟩
 have hdlt:s.heap.objs.size < h1.objs.size:=by
  obtain ⟨o,es,ep,ho,rr⟩:=hdn
  exact Heap.lt_size ho
 have kept:∀ b o,s.heap.get? b=some o→h1.get? b=some o:=fun b o e=>k1 _ _ (Heap.get?_push_of_some _ e)
 have ilen:its.length=ps.length:=rv.length.symm
 have ex:∀ n,n≤kvs.length→∃ vs:List (Key × Value),vs.length=n∧∀ j,(hj:j < n)→∃ x:Key × Value,vs[j]? = some x∧x.1=(kvs[j]?.map (·.1)).getD x.1∧(∀ v,(kvs[j]?.map (·.2))=some v→RelV v x.2)∧∃ a key,its[j]? = some (.ref a)∧IsTup s.heap a #[key,x.2]∧(mixKind X.prog X.w).is x.1 key=true:=by
  intro n
  induction n with
  | zero=>exact fun _=>⟨[],rfl,fun j hj=>absurd hj (Nat.not_lt_zero _)⟩
  | succ n ih =>
   intro hn
   obtain ⟨vs,vl,hv⟩:=ih (by omega)
   have hk:n < kvs.length:=hn
   have hpn:n < ps.length:=by rw [hp.1]; exact hk
   obtain ⟨a,ea,ha⟩:=hp.2 n ps[n] kvs[n].1 kvs[n].2 (List.getElem?_eq_getElem hpn) (List.getElem?_eq_getElem hk)
   obtain ⟨u,eu,ru⟩:=rv.get (List.getElem?_eq_getElem hpn)
   rw [ea] at ru
   cases ru
   obtain ⟨it2,r2,p2,_⟩:=I.tuple ha
   obtain ⟨u1,u2,rfl,r3,r4⟩:=vals2 r2
   refine ⟨vs++[(kvs[n].1,u2)],by simp [vl],fun j hj=>?_⟩
   by_cases c:j < n
   ·obtain ⟨x,e1,e2⟩:=hv j c
    exact ⟨x,by rw [List.getElem?_append_left (by omega)]; exact e1,e2⟩
   ·have ej:j=n:=by omega
    subst ej
    refine ⟨(kvs[j].1,u2),by rw [List.getElem?_append_right (by omega),vl,Nat.sub_self]; rfl,by rw [List.getElem?_eq_getElem hk]; rfl,fun v e=>?_,a,u1,eu,p2,kV_is r3⟩
    rw [List.getElem?_eq_getElem hk] at e
    cases e
    exact r4
 obtain ⟨vs,vl,hv⟩:=ex kvs.length (Nat.le_refl _)
 have rel:∀ n,n≤kvs.length→KV (laidK (kvs.take n)) (laid (vs.take n)):=by
  intro n
  induction n with
  | zero=>exact fun _=>.nil
  | succ n ih =>
   intro hn
   obtain ⟨x,e1,e2,e3,_⟩:=hv n hn
   have hk:n < kvs.length:=hn
   have t1':kvs.take (n+1)=kvs.take n++[kvs[n]]:=by rw [List.take_add_one,List.getElem?_eq_getElem hk]; rfl
   have t2':vs.take (n+1)=vs.take n++[x]:=by rw [List.take_add_one,e1]; rfl
   rw [t1',t2',laidK_snoc,laid_snoc]
   rw [List.getElem?_eq_getElem hk] at e2 e3
   have ek:x.1=kvs[n].1:=e2
   rw [ek]
   exact (ih (by omega)).put _ (e3 _ rfl)
 have rel':=rel kvs.length (Nat.le_refl _)
 rw [List.take_length,← vl,List.take_length] at rel'
 have prs:Prs X.prog X.w (h1.push { cls:=.type "list_iterator",data:=.fields #[.ref l,.int 0 0] }) its.toArray vs:=by
  refine ⟨by simp [ilen,hp.1,vl],fun j v k x e1 e2=>?_⟩
  have hj:j < kvs.length:=by rw [← vl]; exact (List.getElem?_eq_some_iff.mp e2).1
  obtain ⟨y,f1,f2,f3,a,key,f4,f5,f6⟩:=hv j hj
  rw [e2] at f1
  cases f1
  have e1':its[j]? = some v:=by simpa using e1
  rw [f4] at e1'
  cases e1'
  obtain ⟨oo,hoo,rr⟩:=f5
  exact ⟨a,key,rfl,⟨oo,Heap.get?_push_of_some _ (kept _ _ hoo),rr⟩,f6⟩
 have lz:∀ n,(laidK (kvs.take n)).length≤n:=by
  intro n
  induction n with
  | zero=>exact Nat.le_refl _
  | succ n ih =>
   by_cases hk:n < kvs.length
   ·have t1':kvs.take (n+1)=kvs.take n++[kvs[n]]:=by rw [List.take_add_one,List.getElem?_eq_getElem hk]; rfl
    rw [t1',laidK_snoc]
    have:=length_putK (laidK (kvs.take n)) kvs[n].1 kvs[n].2
    omega
   ·rw [List.take_of_length_le (by omega)]
    rw [List.take_of_length_le (by omega)] at ih
    omega
 have lz':=lz kvs.length
 rw [List.take_length] at lz'
 refine code_upd_loop (prog:=X.prog) (w:=X.w) (A:=X.A.in1) (i0:=h1.objs.size) (l:=l) (d:=s.heap.objs.size) (its:=its.toArray) (kvs:=vs) (Nat.ne_of_gt hdlt) (Nat.ne_of_lt hlt) (Nat.ne_of_lt (Nat.lt_trans hlt hdlt)) hh (by simp; omega) its.toArray.size 0 _ (by simp) (Nat.zero_le _) ?_ ?_ ?_ (Nat.le_refl _) ?_ ?_
 ·exact ⟨_,Heap.get?_push_size _ rfl,rfl,rfl⟩
 ·exact pl1.push _
 ·rw [List.take_zero]
  exact hdn.push _
 ·exact prs
 ·intro h' tk dd kp
  refine ⟨rfl,.ref s.heap.objs.size,_,I.laid (a:=s.heap.objs.size) (o:=.dK (laidK kvs)) (t':=tk) (fun b o e=>?_) (Nat.le_refl _) (dk_new (Nat.le_trans lz' (by rw [← hp.1]; exact Nat.le_trans hz (by decide))) (beq_eq_false_iff_ne.mpr (Ne.symm (Nat.ne_of_lt I.big))) rel' dd),rfl,q _ (I.hok.fresh (Nat.le_refl _))⟩
  have hb:=Heap.lt_size e
  exact kp b o (Nat.ne_of_lt hb) (Nat.ne_of_lt (Nat.lt_trans hb hdlt)) (Heap.get?_push_of_some _ (kept _ _ e))
end
end L2

set_option maxHeartbeats 4000000
namespace L2
open PySem PySem.Spec PyProof.Rows Tl
theorem FunV.okE {P:Program} {w:World} {K:PySem.W.Frag} {mg:Str→Option Value} {base:Heap} {x qual:Str} {st:Stmt} {f:Addr} {fd:FuncData} {N ps:List Str} {k:Nat} {sp:Sp} (F:FunV K x qual st f fd) (S:FnScope N ps (defScope st)) (len:∀ vs H Q E,sp vs H Q E→vs.length=ps.length)
  (hbody:∀ (cdv:Value) (A:Around) (outer:List Env) (s:Shared) (H:Hp) (vs:List V) (Q:VK) (E:XK),Room k (A.deeper (envOfC qual (defScope st) s.heap.objs.size f cdv))→sp vs H Q E →
   ∃ t,PSs (cxOf (CXe P w) P w K mg base N qual (defScope st) f cdv A outer s H E) (defBody st) t∧t { nx:=fun _ H'=>Q .non H',rt:=Q } (start N vs) H) : FnOk P w K mg base (CXe P w) (k+1) f fd ps sp:=by
 obtain ⟨oc,od,dV,kV,doc,pm,an,cdv,ct,osl,rfl,lk,hcd⟩:=F.ex
 exact fn_of lk hcd S len fun A outer s H vs Q E hr hsp=>hbody cdv A outer s H vs Q E hr hsp
theorem pe_callXV {X:Cx} {x:Str} {st:Stmt} {ps:List Str} {f:Addr} {fd:FuncData} {dv:Value} {k:Nat} {sp:Sp} {e:Expr} {es:List Expr} {t:TA} {p pos:Pos} {CX:CXT} {E:XK} (hx:Passes CX X E) (D:DefOkV X.K X.mg x st ps f fd dv) (G:FnOk X.prog X.w X.K X.mg X.base CX k f fd ps sp) (hr:Room k X.A) (hg:Gl X x) (ha:PA X (e :: es) t) (hd:(x == ("__debug__" : Str))=false:=by decide)
  (he:starEach (e :: es) X.env=(false,eval e X.env) :: starEach es X.env:=by rfl) (hpl:(backTo pos (starEach es X.env)).any (·.1)=false:=by rfl) : PE X (.Call (.Name x p) (e :: es) [] pos) (tCall sp [] E t):=pe_call G hr hg D.mg D.fn.kp D.bd .nil hx ha hd he hpl
section
variable {X:Cx} {fx c:Str} {st:Stmt} {ps:List Str} {f T:Addr} {fd:FuncData} {dv:Value} {k i:Nat} {n:Str} {sp:Sp} {e:Expr} {es:List Expr} {t:TA} {th:TS} {pf cpos apos np hpos pos:Pos} {b₀:Stmt} {suite:List Stmt}
end
section
variable {α β:Type} {P P':α→β→Prop} {as as':List α} {bs bs':List β}
end
abbrev Wd0:=List Nat
abbrev Mn:=List Wd0 × DD × List Addr
def erL (H:Hp) (os:List Addr) : Hp:=fun b=>if b ∈ os then none else H b
theorem erL_of {H:Hp} {os:List Addr} {b:Addr} {o:HO} (h:erL H os b=some o) : b ∉ os∧H b=some o:=by
 unfold erL at h
 split at h
 ·cases h
 ·exact ⟨by assumption,h⟩
theorem erL_get {H:Hp} {os:List Addr} {b:Addr} {o:HO} (h1:b ∉ os) (h:H b=some o) : erL H os b=some o:=by
 unfold erL
 rw [if_neg h1]
 exact h
theorem erL_step {H H':Hp} {os os':List Addr} (h1:∀ b o,b ∉ os→H b=some o→H' b=some o) (h2:∀ b ∈ os',b ∈ os∨H b=none) : ∀ b o,erL H os b=some o→erL H' os' b=some o:=fun b o h=>by
 obtain ⟨a1,a2⟩:=erL_of h
 refine erL_get (fun z=>?_) (h1 b o a1 a2)
 rcases h2 b z with z | z
 ·exact a1 z
 ·rw [a2] at z; cases z
structure Fr where
 t:Addr
 A:Addr
 N:Addr
 n:Wd0
 als:List Addr
 wss:List Mn
 vs:List V
 wn:List Mn
section
variable {H0 H H':Hp} {pl cur c2 A t p:Addr} {fs:List Fr} {f:Fr} {vs:List V} {wn:List Mn}
end
end L2

set_option maxHeartbeats 4000000
namespace PySem
open Sem (wp)
open AutoSeq1 (wpAny_loadPart')
section
variable {prog:Program} {w:World} {A:Around} {E:Value→Shared→Prop} {s:Shared}
theorem callType_meetsK {T newId initId:String} {Bn Bi:Builtin} {args:List Value} {kw:List (Str × Value)} {S:Spec} {Q Q₁:Value→Shared→Prop} (ft:TypeCalled T newId initId)
  (hct:checkTypeCall T ⟨args,kw⟩=pure ()) (hcn:checkBuiltinCall newId ⟨.type T :: args,kw⟩=pure ())
  (entryN:entryFor table newId=some Bn) (entryI:entryFor table initId=some Bi) (g:Meets (Bn ⟨.type T :: args,kw⟩) S)
  (h:S A.in1 (wants Q₁ E) s)
  (hnext:∀ obj s₁,Q₁ obj s₁→s₁.TypeIs obj T∧argsOk initId ⟨obj :: args,kw⟩∧∃ Si,Meets (Bi ⟨obj :: args,kw⟩) Si∧Si A.in1 (wants (fun r s₂=>r = .none∧Q obj s₂) E) s₁) :
  wpAny (model prog w) A (call (.type T) args kw) Q E s:=by
 obtain ⟨c,tl,hmro⟩:=ft.mro
 have hmade:=ft.made
 have hsub:=ft.sub
 refine wpAny_call (codeAny_of_tree ?_)
 show wpAny _ _ (callAny (.type T) _) _ _ _
 refine wpAny_pure ⟨Code.quiet_builtin _ (by decide +kernel),codeAny_builtin F.entry_type_call ?_⟩
 rw [Around.under_plain (weight_type_call_type T args kw) (units_type_call_type T args kw)]
 have h1:=ft.notType
 have h2:=ft.canCreate
 repeat (any_goals (first | assumption | wp_step))
 refine codeAny_mono (codeAny_call_builtin ft.plain entryN (wpAny_of_eq hcn (g prog w A.in1 _ s h))) fun r s₁ hr=>?_
 cases r with
 | error e=>exact hr
 | ok fl =>
  cases fl with
  | ret obj =>
   obtain ⟨hT,hok,Si,gi,hsi⟩:=hnext _ _ hr
   have hli:=ft.init.lookup
   have hbi:=ft.init.bind obj
   repeat (any_goals (first | assumption | wp_step))
   refine codeAny_mono (codeAny_call_builtin ft.init.plain entryI (ft.init.check _ _ _ _ _ _ _ _ hT hok (gi prog w A.in1 _ s₁ hsi))) fun r₂ s₂ hr₂=>?_
   cases r₂ with
   | error e=>exact hr₂
   | ok fl₂ =>
    cases fl₂ with
    | ret r =>
     obtain ⟨rfl,hq⟩:=hr₂
     repeat (any_goals (first | assumption | wp_step))
    | _=>exact hr₂.elim
  | _=>exact hr.elim
theorem object_init_meetsK {T newId:String} {self:Value} {rest:List Value} {kw:List (Str × Value)} (hl:typeLookup (.type T) "__init__" = pure (some (.builtin "object.__init__")))
  (hm:Bind.madeBy (.type T)=pure (some newId)) (hne:(some newId != some "object.__new__")=true) :
  Meets (Builtin.«object.__init__» ⟨self :: rest,kw⟩) (fun _ R s=>s.TypeIs self T∧R (.ok (.ret .none)) s):=by
 refine Meets.of_wp fun prog w A R s hs=>?_
 obtain ⟨hT,hq⟩:=hs
 cases rest with
 | nil =>
  cases kw with
  | nil=>exact wpAny_pure ⟨_,rfl,hq⟩
  | cons k kw =>
   repeat (any_goals (first | assumption | wp_step))
   exact ⟨_,rfl,hq⟩
 | cons a rest =>
  repeat (any_goals (first | assumption | wp_step))
  exact ⟨_,rfl,hq⟩
set_option maxHeartbeats 4000000 in
theorem meets_enumerate_newL1 (l:Addr) (items:Array Value) (n:Nat) (dct:Option Addr) (sl:Array (Option Value)) (t:Tok) :
  Meets (Builtin.«enumerate.__new__» ⟨[.type "enumerate",.ref l],[(Str.ofString "start",.int 1 t)]⟩) (fun _ R s=>s.heap.get? l=some { cls:=.type "list",dict:=dct,data:=.seq items n,slots:=sl } ∧
   R (.ok (.ret (.ref (s.heap.push { cls:=.type "list_iterator",data:=.fields #[.ref l,.int 0 0] }).objs.size)))
    { s with heap:=(s.heap.push { cls:=.type "list_iterator",data:=.fields #[.ref l,.int 0 0] }).push { cls:=.type "enumerate",data:=.fields #[.none,.bool false,.ref s.heap.objs.size,rawInt 1,.none,.none] } }):=
 .of_wp fun prog w A R s h=>by
  obtain ⟨hp,g,d,tk,os⟩:=s; obtain ⟨hl,h⟩:=h
  have hsub:=sub_enumerate
  have hL:Heap.IsList (Shared.heap ⟨hp,g,d,tk,os⟩) l items:=⟨_,hl,rfl,n,rfl⟩
  wp_walk using wpAny_loadPart' hl
  refine wpAny_stack_any fun st=>wpAny_pure ?_
  split
  ·rename_i c _ _ _ _ _
   cases (c == Value.type "enumerate")
   ·wp_walk using wpAny_loadPart' hl,wpAny_pyIter_list hL
    exact ⟨_,rfl,h⟩
   ·wp_walk using wpAny_loadPart' hl,wpAny_pyIter_list hL
    exact ⟨_,rfl,h⟩
  ·wp_walk using wpAny_loadPart' hl,wpAny_pyIter_list hL
   exact ⟨_,rfl,h⟩
theorem typeCall_enumerate_k (a:Value) (t:Tok) : checkTypeCall "enumerate" ⟨[a],[(Str.ofString "start",.int 1 t)]⟩=pure ():=by kernel_rfl
theorem newCall_enumerate_k (a:Value) (t:Tok) : checkBuiltinCall "enumerate.__new__" ⟨[.type "enumerate",a],[(Str.ofString "start",.int 1 t)]⟩=pure ():=by kernel_rfl
theorem args_object_init_k (a b:Value) (t:Tok) : argsOk "object.__init__" ⟨[a,b],[(Str.ofString "start",.int 1 t)]⟩:=by
 unfold argsOk; rw [signature?_of (id := "object.__init__") (n:=['_','_','t','i','n','i','_','_']) (o:=['t','c','e','j','b','o']) (by kernel_rfl) F.owner_object]; kernel_rfl
theorem call_enumerate_k1 {l:Addr} {items:Array Value} {t:Tok} {Q:Value→Shared→Prop} (hL:s.heap.IsList l items)
  (h:∀ h',IsEnum h' (s.heap.objs.size+1) s.heap.objs.size 1 .none→h'.IsListIter s.heap.objs.size l 0→(∀ b o,s.heap.get? b=some o→h'.get? b=some o)→Q (.ref (s.heap.objs.size+1)) { s with heap:=h' }) :
  wpAny (model prog w) A (call (.type "enumerate") [.ref l] [(Str.ofString "start",.int 1 t)]) Q E s:=by
 obtain ⟨⟨c,dct,dt,sl⟩,hl,hc,n,hd⟩:=hL
 have e1:c = .type "list":=hc
 have e2:dt = .seq items n:=hd
 subst e1 e2
 generalize ho:({ cls:=.type "list_iterator",data:=.fields #[.ref l,.int 0 0] } : Obj)=o1
 have hz:(s.heap.push o1).objs.size=s.heap.objs.size+1:=Heap.size_push ..
 have g:=meets_enumerate_newL1 l items n dct sl t
 rw [ho] at g
 generalize ho2:({ cls:=.type "enumerate",data:=.fields #[.none,.bool false,.ref s.heap.objs.size,rawInt 1,.none,.none] } : Obj)=o2
 have he:((s.heap.push o1).push o2).get? (s.heap.objs.size+1)=some o2:=by
  have:=Heap.get?_push_size (s.heap.push o1) (o:=o2) (by rw [← ho2]; rfl)
  rw [hz] at this
  exact this
 refine callType_meetsK (Q₁:=fun obj s₁=>s₁.TypeIs obj "enumerate"∧Q obj s₁) F.called_enumerate (typeCall_enumerate_k _ t) (newCall_enumerate_k _ t) F.entry_enumerate_new F.entry_object_init g ⟨hl,?_⟩ fun obj s₁ hq=>⟨hq.1,args_object_init_k _ _ _,_,object_init_meetsK F.called_enumerate.init.lookup F.called_enumerate.made (by decide),hq.1,rfl,hq.2⟩
 show _∧_
 rw [hz,ho2]
 exact ⟨⟨_,he,by rw [← ho2]⟩,h _ (by rw [← ho2] at he ⊢; exact he) ⟨_,Heap.get?_push_of_some _ (Heap.get?_push_size _ (by rw [← ho]; rfl)),by rw [← ho],by rw [← ho]; rfl⟩ fun b o x=>Heap.get?_push_of_some _ (Heap.get?_push_of_some _ x)⟩
theorem callWith_typeK {M:Model} {env:Env} {pos:Pos} {T:String} {e:Expr} {nm:Str} {v:Expr} {kp:Pos} {Q:Value→Shared→Prop}
  (h:wpAny M A (spliced (backTo pos (starEach [e] env))) (fun vs s₁=>wpAny M A (eval v env) (fun u s₂=>wpAny M A (call (.type T) vs [(nm,u)]) Q E s₂) E s₁) E s)
  (he:starEach [e] env=[(false,eval e env)]:=by rfl) : wpAny M A (callWith pos (.type T) [] (backTo pos (starEach [e] env)) (backToKw pos (keywordEach [⟨some nm,v,kp⟩] env))) Q E s:=by
 rw [he] at h ⊢
 have hq:wpAny M A (evalArgs (.type T) true (backTo pos [(false,eval e env)]) (backToKw pos (keywordEach [⟨some nm,v,kp⟩] env))) (fun a s₁=>wpAny M A (call (.type T) a.pos a.kw) Q E s₁) E s:=
  PyProof.Rows.evalArgs_kwB (by rfl) (wpAny_mono h (fun vs s₁ h₁=>PyProof.Rows.kws_cons (wpAny_mono h₁ (fun u s₂ h₂=>PyProof.Rows.kws_nil h₂) fun _ _ x=>x)) fun _ _ x=>x)
 unfold callWith
 refine wpAny_bind (wpAny_holding (wpAny_mono hq (fun a s₁ h₁=>wpAny_bind (wpAny_standAt (wpAny_bind (wpAny_pure ?_)))) fun _ _ x=>x))
 exact wpAny_bind (wpAny_mono h₁ (fun r s₂ hr=>wpAny_bind (wpAny_holding (wpAny_point (wpAny_pure hr)))) fun _ _ x=>x)
end
end PySem
namespace L2
open PySem PySem.Spec PyProof.Rows Tl
theorem drs {prog:Program} {w:World} {A:Around} {it:Addr} {fp:List Addr} {n:Nat} {P:Nat→Value→Prop} {St:Nat→Heap→Prop} (D:Draws prog w A it fp n P St) : Draws prog w A it fp (n+1) (fun i x=>∃ j,i=j+1∧P j x) (fun i h=>∃ j,i=j+1∧St j h) where
 live:=fun _ _ ⟨j,_,st⟩=>D.live j _ st
 frame:=fun _ _ _ ⟨j,e,st⟩ k=>⟨j,e,D.frame _ _ _ st k⟩
 item:=fun i s Q E hi ⟨j,e,st⟩ hQ=>D.item j s Q E (by omega) st fun x h' tk hP hS hs=>hQ x h' tk ⟨j,e,hP⟩ ⟨j+1,by omega,hS⟩ hs
 done:=fun s Q E ⟨j,e,st⟩ hE=>by
  have:j=n:=by omega
  subst this
  exact D.done s Q E st hE
def Ite1 (K:PySem.W.Frag) (a:Addr) : It:=
 ⟨fun i H=>∃ xs x,SqL K H a xs∧xs[i]? = some x,fun i H x H'=>∃ p,H p=none∧x = .ref p∧∀ xs y,SqL K H a xs→xs[i]? = some y→H' = upd H p (.tup [.int ((i+1:Nat) : Int),y]),fun i H=>∃ xs,SqL K H a xs∧xs.length=i⟩
theorem turn_enum1 {P:Program} {w:World} {K:PySem.W.Frag} {elts:List Expr} {k1} {tp:Pos} (a e it:Addr) (hei:e≠it) : Turn P w K (.Tuple elts k1 tp) (Ite1 K a) [e,it] e (fun i h=>(∃ old,IsEnum h e it ((i+1:Nat) : Int) old)∧h.IsListIter it a i) where
 mem:=by simp
 obj:=fun i h st b hb=>by
  have hb':b=e∨b=it:=by simpa using hb
  rcases hb' with rfl | rfl
  ·obtain ⟨⟨old,h1⟩,_⟩:=st
   exact ⟨_,h1,fun v z=>by cases z⟩
  ·obtain ⟨_,o,h1,c,d⟩:=st
   exact ⟨o,h1,fun v z=>by rw [d] at z; cases z⟩
 keep:=fun i h h' st k=>⟨let ⟨old,h1⟩:=st.1; ⟨old,k e (by simp) _ h1⟩,st.2.at fun o h1=>k it (by simp) o h1⟩
 item:=by
  intro X hP hw hK hc i pins s σ H E I hf st hg
  subst hP hw hK
  obtain ⟨xs,x,hq,hx⟩:=hg
  obtain ⟨its,rv,p,hz⟩:=I.list hq
  obtain ⟨u,hu,ru⟩:=rv.get hx
  obtain ⟨f0,f1,f2,f3,f4,f5⟩:=hf e (by simp)
  obtain ⟨g0,g1,g2,g3,g4,g5⟩:=hf it (by simp)
  obtain ⟨⟨old,he⟩,hit⟩:=st
  have nea:a≠it∧e ∉ [it,a]:=by
   obtain ⟨o,h1,h2,h3⟩:=p.isList
   obtain ⟨o',h1',h2',h3'⟩:=hit
   refine ⟨fun z=>?_,fun z=>?_⟩
   ·rw [z,h1'] at h1; cases h1; rw [h2'] at h2; exact absurd h2 (by decide)
   ·rcases List.mem_cons.mp z with z | z
    ·exact hei z
    ·rw [List.mem_singleton.mp z] at he
     have he2:s.heap.get? a=_:=he
     rw [h1] at he2
     have h2:=h2
     rw [Option.some.inj he2] at h2
     exact absurd (show Value.type "enumerate" = Value.type "list" from h2) (by decide)
  have hlt:i < its.length:=(List.getElem?_eq_some_iff.mp hu).1
  refine wpAny_pyNext_enum_itemD (drs (Draws.list (A:=X.A.in1) (I.ok.hd hc) it a nea.1 its.toArray)) he ⟨i,rfl,hit,p.isList⟩ (by simp; omega) hei nea.2 fun u' h' tk hP heo hst' hT hz' hk=>?_
  obtain ⟨j,ej,hP⟩:=hP
  obtain ⟨j2,ej2,hit',_⟩:=hst'
  have ej:i=j:=by omega
  have ej2:i+1=j2:=by omega
  subst ej ej2
  have eu:u=u':=by
   have h5:its[i]? = some u':=by simpa using hP
   rw [hu] at h5
   exact Option.some.inj h5
  subst eu
  have kk:∀ b o,b ∉ [e,it]→s.heap.get? b=some o→h'.get? b=some o:=fun b o hb q=>hk b o (fun z=>hb (by simp [z])) (fun z=>hb (by simp [z])) q
  have nit:∀ b v,H b=some v→b ∉ [e,it]:=fun b v q z=>by
   have z':b=e∨b=it:=by simpa using z
   rcases z' with rfl | rfl
   ·rw [f0] at q; cases q
   ·rw [g0] at q; cases q
  have I1:Inv X pins σ H { s with heap:=h',toks:=tk+1 }:=by
   refine I.step (g':=s.gens) (d':=s.drawn) (ch:=[e,it]) (fun b hb=>?_) (fun b o _ _ hb q _=>kk b o hb q) (fun b o _ _ hb q _=>⟨o.slots,kk b o hb q⟩) (fun _ _ _ _ n=>n)
    (fun b o hb q=>⟨o,kk b o hb q⟩) (fun _ _ q=>q) (fun _ _ _ q=>q) (fun b ps q=>⟨#[],by rw [q]; simp⟩) (fun m hm=>?_) (fun b v q=>?_) I.bare
   ·have z':b=e∨b=it:=by simpa using hb
    rcases z' with rfl | rfl
    ·exact ⟨f3,f1,f4,f5⟩
    ·exact ⟨g3,g1,g4,g5⟩
   ·obtain ⟨o,es,ep,ho,r⟩:=hm
    exact ⟨o,es,ep,kk _ o (fun z=>by
     have z':X.env.locals=e∨X.env.locals=it:=by simpa using z
     rcases z' with z' | z'
     ·exact f1 z'.symm
     ·exact g1 z'.symm) ho,r⟩
   ·refine (I.hok b v q).stay (fun c o hc r=>kk c o ?_ r) (fun _ r=>r) fun _ _ r=>r
    rcases hc with rfl | hc
    ·exact nit _ _ q
    ·exact nit _ _ hc
  have hsz:s.heap.objs.size < h'.objs.size:=by rw [hz']; exact Nat.lt_succ_self _
  have hTn:H s.heap.objs.size=none:=I.fresh
  have elt:e < s.heap.objs.size:=Heap.lt_size he
  have I2:Inv X pins σ (upd H s.heap.objs.size (.tup [.int ((i+1:Nat) : Int),x])) { s with heap:=h',toks:=tk+1 }:=by
   refine I1.track hTn I.sz (Nat.ne_of_gt I.lt) (fun y c q=>?_) (fun p hp=>?_) ⟨by show 2≤sizeLine; decide,[.int ((i+1:Nat) : Int) tk,u],.cons ⟨_,rfl⟩ (.cons ru .nil),⟨_,hT,rfl,_,rfl⟩⟩
   ·obtain ⟨v,q2⟩:=I.cell y c q
    exact Nat.ne_of_lt q2.lt
   ·exact Nat.ne_of_lt (Heap.lt_size (I.pin p hp).1)
  refine ⟨_,rfl,wpAny_letOwnedTupleGo_enum (s:={ s with heap:=h',toks:=tk+1 }) heo fun h'' he'' hs''=>?_⟩
  have I3:Inv X pins σ (upd H s.heap.objs.size (.tup [.int ((i+1:Nat) : Int),x])) { s with heap:=h'',toks:=tk+1 }:=Inv.turned (s:={ s with heap:=h',toks:=tk+1 }) (h':=h'') (t':=tk+1) (it:=e) I2 (fun b o hb q=>(hs''.2 b hb).trans q) (by rw [upd_ne (Nat.ne_of_lt elt)]; exact f0) f1 f3 f4 f5
  refine ⟨.ref s.heap.objs.size,_,I3,rfl,⟨_,hTn,rfl,fun ys y hy hy2=>?_⟩,⟨⟨_,he''⟩,?_⟩,fun b hb=>?_⟩
  ·rw [I.list_inj hy hq,hx] at hy2
   cases hy2
   rfl
  ·exact hit'.at fun o h1=>(hs''.2 it (Ne.symm hei)).trans h1
  ·have z':b=e∨b=it:=by simpa using hb
   rcases z' with rfl | rfl
   ·rw [upd_ne (Nat.ne_of_lt elt)]; exact f0
   ·have ilt:b < s.heap.objs.size:=by
     obtain ⟨o,h1,_⟩:=hit
     exact Heap.lt_size h1
    rw [upd_ne (Nat.ne_of_lt ilt)]; exact g0
 done:=by
  intro X hP hw hK hc i pins s σ H E I hf st hg
  subst hP hw hK
  obtain ⟨xs,hq,hx⟩:=hg
  obtain ⟨its,rv,p,hz⟩:=I.list hq
  obtain ⟨g0,g1,g2,g3,g4,g5⟩:=hf it (by simp)
  obtain ⟨⟨old,he⟩,hit⟩:=st
  have hl:=rv.length
  have nea:a≠it:=by
   obtain ⟨o,h1,h2,h3⟩:=p.isList
   obtain ⟨o',h1',h2',h3'⟩:=hit
   exact fun z=>by rw [z,h1'] at h1; cases h1; rw [h2'] at h2; exact absurd h2 (by decide)
  exact wpAny_pyNext_enum_endD (drs (Draws.list (A:=X.A.in1) (I.ok.hd hc) it a nea its.toArray)) he ⟨i,by simp; omega,hit,p.isList⟩ fun h' eb=>⟨rfl,I.turned (t':=s.toks) (fun b o hb e=>eb b o hb e) g0 g1 g3 g4 g5⟩
 self:=fun _ _ _ _ _ st h=>by
  obtain ⟨⟨old,he⟩,_⟩:=st
  exact wpAny_pyIter_enum he h
def iEnum1 (K:PySem.W.Frag) (tl:TE) : TI:=fun σ H R=>tl σ H fun x H1=>∃ a,x = .ref a∧(∃ xs,SqL K H1 a xs)∧R (Ite1 K a) H1
theorem for_enum1 {K:PySem.W.Frag} {a:Addr} {xs:List V} {g:TG} {tb:TS} {D:Ends} {σ:St} {H:Hp} (Pv:Nat→St→Hp→Prop) (h0:Pv 0 σ H) (hl:∀ i σ H,i≤xs.length→Pv i σ H→SqL K H a xs)
  (hs:∀ i x σ H p,xs[i]? = some x→Pv i σ H→H p=none→g (.ref p) σ (upd H p (.tup [.int ((i+1:Nat) : Int),x])) fun σ2 H2=>tb { D with nx:=Pv (i+1),ct:=Pv (i+1),bk:=D.nx } σ2 H2) (hd:∀ σ H,Pv xs.length σ H→D.nx σ H) :
  ∃ W:Nat→Nat→St→Hp→Prop,(∃ m,W 0 m σ H)∧∀ i m σ H,W i m σ H →
   ((Ite1 K a).stop i H∧D.nx σ H)∨((Ite1 K a).go i H∧∃ N:St→Hp→Prop,(∀ σ' H',N σ' H'→∃ m',m' < m∧W (i+1) m' σ' H')∧∀ x H',(Ite1 K a).yld i H x H'→g x σ H' fun σ2 H2=>tb { D with nx:=N,ct:=N,bk:=D.nx } σ2 H2):=by
 refine ⟨fun i m σ H=>m=xs.length - i∧i≤xs.length∧Pv i σ H,⟨xs.length,by simp,Nat.zero_le _,h0⟩,?_⟩
 rintro i m σ H ⟨rfl,hi,p⟩
 have q:=hl i σ H hi p
 by_cases hlt:i < xs.length
 ·refine .inr ⟨⟨xs,xs[i],q,by simp [hlt]⟩,Pv (i+1),fun σ' H' p'=>⟨xs.length - (i+1),by omega,rfl,hlt,p'⟩,fun x H' y=>?_⟩
  obtain ⟨t,ht,e,y⟩:=y
  subst e
  have e2:=y xs xs[i] q (by simp [hlt])
  subst e2
  exact hs i xs[i] σ H t (by simp [hlt]) p ht
 ·have e:i=xs.length:=by omega
  subst e
  exact .inl ⟨⟨xs,q,rfl⟩,hd σ H p⟩
section
variable {X:Cx} {elts:List Expr} {k1:Nat} {tp:Pos}
theorem pi_enum1 {l v:Expr} {k1} {tl:TE} {p pos kp:Pos} (hg:Gl X "enumerate") (hm:X.mg "enumerate" = none) (hl:PE X l tl) (hv:PE X v (tC (.int 1))) (hs:starEach [l] X.env=[(false,eval l X.env)]:=by rfl) : PI X (.Tuple elts k1 tp) (.Call (.Name "enumerate" p) [l] [⟨some (Str.ofString "start"),v,kp⟩] pos) (iEnum1 X.K tl):=by
 intro pins s σ H R I h
 have ha:PA X [l] (tCons tl tNil):=pa_cons hl pa_nil hs
 refine wpAny_Call_Name_kw (ld_blt I hg hm (by decide +kernel:bootBuiltins "enumerate" = some (.type "enumerate")) (callWith_typeK (thn (ha pos pins s σ H (fun vs H1=>match vs with | [x]=>∃ a,x = .ref a∧(∃ xs,SqL X.K H1 a xs)∧R (Ite1 X.K a) H1 | _=>False) I h) fun us s0 ⟨vs,H0,I0,r1,q1⟩=>?_) hs))
 refine thn (hv pins s0 σ H0 (fun y H1=>y = .int 1∧H1=H0) I0 ⟨rfl,rfl⟩) fun u1 s1 ⟨y,H1,I1,ry,ey,eH⟩=>?_
 subst ey eH
 obtain ⟨tk,rfl⟩:=ry
 match vs,r1,q1 with
 | [x],r1,q1 =>
 obtain ⟨a,rfl,⟨xs,hq⟩,q⟩:=q1
 obtain ⟨u,rfl,ru⟩:=vals1 r1
 cases ru
 obtain ⟨its,rv,p,hz⟩:=I1.list hq
 refine call_enumerate_k1 p.isList fun h' he hit hk=>?_
 refine wpAny_pyIter_enum he ?_
 refine ⟨s1.heap.objs.size+1,[s1.heap.objs.size+1,s1.heap.objs.size],_,_,H1,rfl,I1.kept (t':=s1.toks) hk,turn_enum1 a _ _ (Nat.succ_ne_self _),⟨⟨_,he⟩,hit⟩,fun b hb=>?_,q⟩
 rcases List.mem_cons.mp hb with rfl | hb
 ·exact I1.fpOk (Nat.le_succ _) (I1.hok.fresh (Nat.le_succ _))
 ·rw [List.mem_singleton.mp hb]
  exact I1.fpOk (Nat.le_refl _) (I1.hok.fresh (Nat.le_refl _))
end
theorem lc_tupl {tc:TT} {te:TE} {K:PySem.W.Frag} {a:Addr} {xs:List V} {cv:St} {Fin:List V→Hp→Prop} {H1:Hp} (Pv:Nat→List V→Hp→Prop) (h0:Pv 0 [] H1) (hl:∀ i ys H,i≤xs.length→Pv i ys H→SqT K H a xs) (hz:∀ i ys H,i < xs.length→Pv i ys H→ys.length < sizeLine)
  (hs:∀ i x ys H,xs[i]? = some x→Pv i ys H→tc (some x :: cv) H fun b H3=>if b=true then te (some x :: cv) H3 fun y H4=>Pv (i+1) (ys++[y]) H4 else Pv (i+1) ys H3)
  (hd:∀ ys H,Pv xs.length ys H→Fin ys H) : gLC (Itt K a) (gName 0) tc te 1 cv Fin H1:=by
 refine gLC1 ⟨fun i m ys H=>m=xs.length - i∧i≤xs.length∧Pv i ys H,⟨xs.length,by simp,Nat.zero_le _,h0⟩,?_⟩
 rintro i m ys H ⟨rfl,hi,p⟩
 have q:=hl i ys H hi p
 by_cases hlt:i < xs.length
 ·refine .inr ⟨⟨xs,xs[i],q,by simp [hlt]⟩,hz i ys H hlt p,Pv (i+1),fun ys' H' p'=>⟨xs.length - (i+1),by omega,rfl,hlt,p'⟩,fun v H' y=>?_⟩
  obtain ⟨e,y⟩:=y
  subst e
  exact hs i v ys _ (y xs q) p
 ·have e:i=xs.length:=by omega
  subst e
  exact .inl ⟨⟨xs,q,Nat.le_refl _⟩,hd ys H p⟩
mutual
theorem Rep.mono {K:PySem.W.Frag} {H H':Hp} (s:Same H H') : ∀ {d:DD} {v:V},Rep K H d v→Rep K H' d v
 | .bl _,v,h=>by unfold Rep at h ⊢; exact h
 | .int _,v,h=>by unfold Rep at h ⊢; exact h
 | .str _,v,h=>by unfold Rep at h ⊢; exact h
 | .tup l,v,h=>by
  unfold Rep at h ⊢
  obtain ⟨a,xs,h1,h2,h3,h4⟩:=h
  exact ⟨a,xs,h1,s.tup h2,h3,Reps.mono s h4⟩
 | .lst l,v,h=>by
  unfold Rep at h ⊢
  obtain ⟨a,xs,h1,h2,h3,h4⟩:=h
  exact ⟨a,xs,h1,s.seq h2,h3,Reps.mono s h4⟩
theorem Reps.mono {K:PySem.W.Frag} {H H':Hp} (s:Same H H') : ∀ {l:List DD} {xs:List V},Reps K H l xs→Reps K H' l xs
 | [],xs,h=>by unfold Reps at h ⊢; exact h
 | d :: l,xs,h=>by
  unfold Reps at h ⊢
  obtain ⟨x,r,h1,h2,h3⟩:=h
  exact ⟨x,r,h1,Rep.mono s h2,Reps.mono s h3⟩
end
section
variable {K:PySem.W.Frag} {H:Hp}
theorem Reps.nil:Reps K H [] []:=by unfold Reps; rfl
theorem Reps.cons {d:DD} {l:List DD} {x:V} {xs:List V} (h1:Rep K H d x) (h2:Reps K H l xs) : Reps K H (d :: l) (x :: xs):=by unfold Reps; exact ⟨x,xs,rfl,h1,h2⟩
theorem Reps.app:∀ {l l2:List DD} {xs ys:List V},Reps K H l xs→Reps K H l2 ys→Reps K H (l++l2) (xs++ys)
 | [],l2,xs,ys,h,h2=>by unfold Reps at h; rw [h]; exact h2
 | d :: l,l2,xs,ys,h,h2=>by
  unfold Reps at h
  obtain ⟨x,r,rfl,h3,h4⟩:=h
  exact Reps.cons h3 (Reps.app h4 h2)
theorem Reps.snoc {d:DD} {l:List DD} {x:V} {xs:List V} (h1:Reps K H l xs) (h2:Rep K H d x) : Reps K H (l++[d]) (xs++[x]):=h1.app (Reps.cons h2 Reps.nil)
theorem Reps.getR:∀ {l:List DD} {xs:List V} {i:Nat} {x:V},Reps K H l xs→xs[i]? = some x→∃ d,l[i]? = some d∧Rep K H d x
 | [],xs,i,x,h,e=>by unfold Reps at h; rw [h] at e; simp at e
 | d :: l,xs,0,x,h,e=>by
  unfold Reps at h
  obtain ⟨y,r,rfl,h3,h4⟩:=h
  have e:y=x:=Option.some.inj e
  exact ⟨d,rfl,e ▸ h3⟩
 | d :: l,xs,i+1,x,h,e=>by
  unfold Reps at h
  obtain ⟨y,r,rfl,h3,h4⟩:=h
  show ∃ d',l[i]? = some d'∧_
  exact Reps.getR h4 (by simpa using e)
theorem rep_int (i:Int) : Rep K H (.int i) (.int i):=by unfold Rep; rfl
theorem rep_str (s:Str) : Rep K H (.str s) (.str s):=by unfold Rep; rfl
theorem rep_lst {a:Addr} {vs:List V} {l:List DD} (h:SqL K H a vs) (hl:l.length≤500000) (r:Reps K H l vs) : Rep K H (.lst l) (.ref a):=by
 unfold Rep
 exact ⟨a,vs,rfl,h,hl,r⟩
theorem rep_tup {a:Addr} {vs:List V} {l:List DD} (h:SqT K H a vs) (hl:l.length≤500000) (r:Reps K H l vs) : Rep K H (.tup l) (.ref a):=by
 unfold Rep
 exact ⟨a,vs,rfl,h,hl,r⟩
theorem Rep.lstO {l:List DD} {v:V} (h:Rep K H (.lst l) v) : ∃ a xs,v = .ref a∧SqL K H a xs∧l.length≤500000∧Reps K H l xs:=by unfold Rep at h; exact h
theorem Rep.tupO {l:List DD} {v:V} (h:Rep K H (.tup l) v) : ∃ a xs,v = .ref a∧SqT K H a xs∧l.length≤500000∧Reps K H l xs:=by unfold Rep at h; exact h
theorem Reps.two {d e:DD} {xs:List V} (h:Reps K H [d,e] xs) : ∃ x y,xs=[x,y]∧Rep K H d x∧Rep K H e y:=by
 unfold Reps at h
 obtain ⟨x,r,rfl,h1,h⟩:=h
 unfold Reps at h
 obtain ⟨y,r,rfl,h2,h⟩:=h
 unfold Reps at h
 exact ⟨x,y,by rw [h],h1,h2⟩
theorem Reps.three {d e f:DD} {xs:List V} (h:Reps K H [d,e,f] xs) : ∃ x y z,xs=[x,y,z]∧Rep K H d x∧Rep K H e y∧Rep K H f z:=by
 unfold Reps at h
 obtain ⟨x,r,rfl,h1,h⟩:=h
 obtain ⟨y,z,rfl,h2,h3⟩:=Reps.two h
 exact ⟨x,y,z,rfl,h1,h2,h3⟩
theorem reps_ints:∀ ns:List Int,Reps K H (ns.map DD.int) (ns.map V.int)
 | []=>Reps.nil
 | n :: r=>Reps.cons (rep_int n) (reps_ints r)
theorem Rep.strO {s:Str} {v:V} (h:Rep K H (.str s) v) : v = .str s:=by unfold Rep at h; exact h
theorem Rep.intO {i:Int} {v:V} (h:Rep K H (.int i) v) : v = .int i:=by unfold Rep at h; exact h
theorem Reps.intsO:∀ {ns:List Int} {xs:List V},Reps K H (ns.map DD.int) xs→xs=ns.map V.int
 | [],xs,h=>by unfold Reps at h; exact h
 | n :: r,xs,h=>by
  have h:Reps K H (DD.int n :: r.map DD.int) xs:=h
  unfold Reps at h
  obtain ⟨x,r2,rfl,h1,h2⟩:=h
  rw [h1.intO,h2.intsO]
  rfl
end
def wdD (w:Wd0) : DD:=.tup [.str (PySem.Str.ofString "word"),.str (tx w)]
def plD (k:Nat) : DD:=.tup [.str (PySem.Str.ofString "place"),.int (k:Int)]
def clD (n:Wd0) (as:List (List DD)) : DD:=.tup [.str (PySem.Str.ofString "call"),.str (tx n),.lst (as.map DD.lst)]
def Nd (M:List (Wd0 × Nat)) (c:Nat) : Nat→DD→Prop
 | 0,_=>False
 | d+1,x=>(∃ w,x=wdD w)∨(∃ k,1≤k∧k≤c∧x=plD k)∨∃ n as,x=clD n as∧(n,as.length) ∈ M∧∀ a ∈ as,a.length≤300000+d∧∀ y ∈ a,Nd M c d y
theorem Nd.out {M:List (Wd0 × Nat)} {c d:Nat} {x:DD} (h:Nd M c (d+1) x) : (∃ w,x=wdD w)∨(∃ k,1≤k∧k≤c∧x=plD k)∨∃ n as,x=clD n as∧(n,as.length) ∈ M∧∀ a ∈ as,a.length≤300000+d∧∀ y ∈ a,Nd M c d y:=h
theorem Nd.pos {M:List (Wd0 × Nat)} {c d:Nat} {x:DD} (h:Nd M c d x) : ∃ e,d=e+1:=by
 cases d with
 | zero=>exact h.elim
 | succ e=>exact ⟨e,rfl⟩
theorem Nd.up {M M':List (Wd0 × Nat)} {c c':Nat} (hM:∀ x ∈ M,x ∈ M') (hc:c≤c') : ∀ {d d':Nat} {x:DD},d≤d'→Nd M c d x→Nd M' c' d' x
 | d+1,d',x,hd,h=>by
  obtain ⟨e,rfl⟩ : ∃ e,d' = e+1:=⟨d' - 1,by omega⟩
  rcases h.out with ⟨w,rfl⟩ | ⟨k,h1,h2,rfl⟩ | ⟨n,as,rfl,h1,h2⟩
  ·exact .inl ⟨w,rfl⟩
  ·exact .inr (.inl ⟨k,h1,by omega,rfl⟩)
  ·exact .inr (.inr ⟨n,as,rfl,hM _ h1,fun a ha=>⟨by have:=(h2 a ha).1; omega,fun y hy=>Nd.up hM hc (by omega) ((h2 a ha).2 y hy)⟩⟩)
theorem deeps_le {k:Nat} : ∀ {l:List DD},(∀ x ∈ l,x.deep≤k)→deeps l≤k
 | [],_=>Nat.zero_le _
 | d :: r,h=>by
  unfold deeps
  have:=h d List.mem_cons_self
  have:=deeps_le (l:=r) fun x hx=>h x (List.mem_cons_of_mem _ hx)
  omega
theorem Nd.deep {M:List (Wd0 × Nat)} {c:Nat} : ∀ {d:Nat} {x:DD},Nd M c d x→x.deep≤3 * d
 | d+1,x,h=>by
  rcases h.out with ⟨w,rfl⟩ | ⟨k,h1,h2,rfl⟩ | ⟨n,as,rfl,h1,h2⟩
  ·simp [wdD,DD.deep,deeps]; omega
  ·simp [plD,DD.deep,deeps]; omega
  ·have:deeps (as.map DD.lst)≤3 * d+1:=deeps_le fun z hz=>by
    obtain ⟨a,ha,rfl⟩:=List.mem_map.mp hz
    unfold DD.deep
    have:=deeps_le (k:=3 * d) (l:=a) fun y hy=>Nd.deep ((h2 a ha).2 y hy)
    omega
   simp [clD,DD.deep,deeps]
   omega
structure Sh where
 n:Wd0
 c:Nat
 ns:List DD
 r:List Int
 k:Int
def shD (s:Sh) : DD:=.tup [.str (tx s.n),.int (s.c:Int),.lst s.ns,.lst (s.r.map DD.int),.int s.k]
def shF (S:List Sh) (x:Str) : Option Sh:=S.find? fun s=>decide (tx s.n=x)
def ddL:DD→List DD
 | .lst l=>l
 | _=>[]
def fstN:List Nat→Nat
 | []=>0
 | x :: r=>if x=0 then fstN r else x
theorem fstN_app:∀ (l r:List Nat),fstN (l++r)=if fstN l=0 then fstN r else fstN l
 | [],r=>rfl
 | x :: l,r=>by
  show (if x=0 then fstN (l++r) else x)=if (if x=0 then fstN l else x)=0 then fstN r else (if x=0 then fstN l else x)
  by_cases h:x=0
  ·rw [if_pos h,if_pos h,fstN_app l r]
  ·rw [if_neg h,if_neg h,if_neg h]
theorem fstN_zero {l:List Nat} (h:∀ x ∈ l,x=0) : fstN l=0:=by
 induction l with
 | nil=>rfl
 | cons x r ih =>
  show (if x=0 then fstN r else x)=0
  rw [if_pos (h x List.mem_cons_self)]
  exact ih fun y hy=>h y (List.mem_cons_of_mem _ hy)
theorem fstN_mem {l:List Nat} (h:fstN l=0) : ∀ x ∈ l,x=0:=by
 induction l with
 | nil=>intro x hx; cases hx
 | cons y r ih =>
  intro x hx
  have h:(if y=0 then fstN r else y)=0:=h
  by_cases e:y=0
  ·rw [if_pos e] at h
   rcases List.mem_cons.mp hx with rfl | hx
   ·exact e
   ·exact ih h x hx
  ·rw [if_neg e] at h
   exact absurd h e
def argS (r:List Int) : Nat→List Int→Int
 | _,[]=>0
 | i,y :: ys=>r.getD i 0 * y+argS r (i+1) ys
theorem argS_snoc (r:List Int) (y:Int) : ∀ (i:Nat) (ys:List Int),argS r i (ys++[y])=argS r i ys+r.getD (i+ys.length) 0 * y
 | i,[]=>by simp [argS]
 | i,x :: ys=>by
  show r.getD i 0 * x+argS r (i+1) (ys++[y])=r.getD i 0 * x+argS r (i+1) ys+r.getD (i+(ys.length+1)) 0 * y
  rw [argS_snoc r y (i+1) ys,show i+1+ys.length=i+(ys.length+1) by omega]
  omega
def wrD (S:List Sh) : Nat→DD→Nat
 | d+1,.tup [_,.str x,.lst as]=>match shF S x with
  | none=>1
  | some s=>if as.length=s.c then fstN (as.map fun a=>fstN ((ddL a).map (wrD S d))) else 2
 | _,_=>0
def szR (S:List Sh) (j:Nat) : Nat→DD→Int
 | _+1,.tup [_,.str _]=>if j=0 then 1 else 0
 | _+1,.tup [_,.int k]=>if k=(j:Int) then 1 else 0
 | d+1,.tup [_,.str x,.lst as]=>match shF S x with
  | none=>0
  | some s=>(if j=0 then s.r.getD 0 0 else 0)+argS s.r 1 (as.map fun a=>((ddL a).map (szR S j d)).sum)
 | _,_=>0
def szC (S:List Sh) : Nat→DD→Int
 | d+1,.tup [_,.str x,.lst as]=>match shF S x with
  | none=>0
  | some s=>1+s.k+(as.map fun a=>((ddL a).map (szC S d)).sum).sum
 | _,_=>0
def wrL (S:List Sh) (d:Nat) (xs:List DD) : Nat:=fstN (xs.map (wrD S d))
def rwL (f:Nat→Int) (c:Nat) : List Int:=(List.range (c+1)).map f
def rowL (S:List Sh) (c d:Nat) (xs:List DD) : List Int:=rwL (fun j=>(xs.map (szR S j d)).sum) c
def calL (S:List Sh) (d:Nat) (xs:List DD) : Int:=(xs.map (szC S d)).sum
section
variable {S:List Sh} {d j:Nat} {n:Wd0} {as:List (List DD)} {w:Wd0} {k:Nat} {s:Sh}
theorem wr_wd:wrD S (d+1) (wdD w)=0:=rfl
theorem wr_pl:wrD S (d+1) (plD k)=0:=rfl
theorem ddL_map {α:Type} (f:List DD→α) : (as.map DD.lst).map (fun a=>f (ddL a))=as.map f:=by
 rw [List.map_map]
 rfl
theorem wr_none (h:shF S (tx n)=none) : wrD S (d+1) (clD n as)=1:=by
 show (match shF S (tx n) with | none=>1 | some s=>_)=1
 rw [h]
theorem wr_bad (h:shF S (tx n)=some s) (hl:as.length≠s.c) : wrD S (d+1) (clD n as)=2:=by
 show (match shF S (tx n) with | none=>1 | some s=>if (as.map DD.lst).length=s.c then _ else 2)=2
 rw [h]
 show (if (as.map DD.lst).length=s.c then _ else 2)=2
 rw [List.length_map,if_neg hl]
theorem wr_fit (h:shF S (tx n)=some s) (hl:as.length=s.c) : wrD S (d+1) (clD n as)=fstN (as.map (wrL S d)):=by
 show (match shF S (tx n) with | none=>1 | some s=>if (as.map DD.lst).length=s.c then fstN ((as.map DD.lst).map fun a=>fstN ((ddL a).map (wrD S d))) else 2)=_
 rw [h]
 show (if (as.map DD.lst).length=s.c then fstN ((as.map DD.lst).map fun a=>fstN ((ddL a).map (wrD S d))) else 2)=_
 rw [List.length_map,if_pos hl]
 exact congrArg fstN (ddL_map fun a=>fstN (a.map (wrD S d)))
theorem sz_wd:szR S j (d+1) (wdD w)=if j=0 then 1 else 0:=rfl
theorem sz_pl:szR S j (d+1) (plD k)=if k=j then 1 else 0:=by
 show (if (k:Int)=(j:Int) then (1:Int) else 0)=_
 by_cases h:k=j
 ·rw [if_pos h,if_pos (by omega)]
 ·rw [if_neg h,if_neg (by omega)]
theorem sz_cl (h:shF S (tx n)=some s) : szR S j (d+1) (clD n as)=(if j=0 then s.r.getD 0 0 else 0)+argS s.r 1 (as.map fun a=>(a.map (szR S j d)).sum):=by
 show (match shF S (tx n) with | none=>0 | some s=>(if j=0 then s.r.getD 0 0 else 0)+argS s.r 1 ((as.map DD.lst).map fun a=>((ddL a).map (szR S j d)).sum))=_
 rw [h,ddL_map fun a=>(a.map (szR S j d)).sum]
theorem sc_wd:szC S (d+1) (wdD w)=0:=rfl
theorem sc_pl:szC S (d+1) (plD k)=0:=rfl
theorem sc_cl (h:shF S (tx n)=some s) : szC S (d+1) (clD n as)=1+s.k+(as.map (calL S d)).sum:=by
 show (match shF S (tx n) with | none=>0 | some s=>1+s.k+((as.map DD.lst).map fun a=>((ddL a).map (szC S d)).sum).sum)=_
 rw [h,ddL_map fun a=>(a.map (szC S d)).sum]
 rfl
end
theorem rwL_len (f:Nat→Int) (c:Nat) : (rwL f c).length=c+1:=by unfold rwL; rw [List.length_map,List.length_range]
theorem rwL_get (f:Nat→Int) {c j:Nat} (h:j≤c) : (rwL f c)[j]? = some (f j):=by
 unfold rwL
 rw [List.getElem?_map,List.getElem?_range (by omega)]
 rfl
theorem rwL_congr {f g:Nat→Int} {c:Nat} (h:∀ j,j≤c→f j=g j) : rwL f c=rwL g c:=List.map_congr_left fun j hj=>h j (by have:=List.mem_range.mp hj; omega)
theorem rwL_at (f:Nat→Int) {c j:Nat} (h:j≤c) : atI ((rwL f c).map V.int) (j:Int)=some (V.int (f j)):=atI_nat (by rw [List.getElem?_map,rwL_get f h]; rfl)
theorem rwL_set (f:Nat→Int) {c j:Nat} (y:Int) (h:j≤c) : ((rwL f c).map V.int).set j (V.int y)=(rwL (fun i=>if i=j then y else f i) c).map V.int:=by
 refine List.ext_getElem? fun i=>?_
 rw [List.getElem?_set,List.getElem?_map,List.getElem?_map,List.length_map,rwL_len]
 by_cases e:j=i
 ·subst e
  rw [if_pos rfl,if_pos (by omega),rwL_get _ h]
  simp
 ·rw [if_neg e]
  by_cases hi:i≤c
  ·rw [rwL_get _ hi,rwL_get _ hi,if_neg (Ne.symm e)]
  ·rw [List.getElem?_eq_none (by rw [rwL_len]; omega),List.getElem?_eq_none (by rw [rwL_len]; omega)]
theorem ixN_nat {l j:Nat} (h:j < l) : ixN l (j:Int)=some j:=by
 have:=atI_nat (xs:=List.range l) (j:=j) (v:=j) (by rw [List.getElem?_range h])
 unfold atI at this
 rw [List.length_range] at this
 cases e:ixN l (j:Int) with
 | none=>rw [e] at this; cases this
 | some i =>
  rw [e] at this
  have h2:(List.range l)[i]? = some j:=this
  have h3:i < l:=by have:=(List.getElem?_eq_some_iff.mp h2).1; rwa [List.length_range] at this
  rw [List.getElem?_range h3] at h2
  rw [Option.some.inj h2]
theorem sum_snoc (f:DD→Int) {xs:List DD} {k:Nat} {x:DD} (h:xs[k]? = some x) : ((xs.take (k+1)).map f).sum=((xs.take k).map f).sum+f x:=by
 rw [List.take_add_one,h,List.map_append,List.sum_append]
 simp
theorem sum_snocA {α:Type} (f:α→Int) {xs:List α} {k:Nat} {x:α} (h:xs[k]? = some x) : ((xs.take (k+1)).map f).sum=((xs.take k).map f).sum+f x:=by
 rw [List.take_add_one,h,List.map_append,List.sum_append]
 simp
def erG (H0 H:Hp) (os:List Addr) : Hp:=fun b=>if b ∈ os∨H0 b≠none then none else H b
theorem erG_of {H0 H:Hp} {os:List Addr} {b:Addr} {o:HO} (h:erG H0 H os b=some o) : (b ∉ os∧H0 b=none)∧H b=some o:=by
 unfold erG at h
 split at h
 ·cases h
 ·rename_i z
  refine ⟨⟨fun e=>z (.inl e),?_⟩,h⟩
  cases e:H0 b with
  | none=>rfl
  | some x=>exact absurd (.inr (by rw [e]; intro z; cases z)) z
theorem erG_get {H0 H:Hp} {os:List Addr} {b:Addr} {o:HO} (h0:H0 b=none) (h1:b ∉ os) (h:H b=some o) : erG H0 H os b=some o:=by
 unfold erG
 rw [if_neg]
 ·exact h
 ·rintro (z | z)
  ·exact h1 z
  ·exact z h0
theorem erG_step {H0 H H':Hp} {os os':List Addr} (h1:∀ b o,b ∉ os→H0 b=none→H b=some o→H' b=some o) (h2:∀ b ∈ os',b ∈ os∨H b=none) : Same (erG H0 H os) (erG H0 H' os'):=fun b o h=>by
 obtain ⟨⟨a1,a0⟩,a2⟩:=erG_of h
 refine erG_get a0 (fun z=>?_) (h1 b o a1 a0 a2)
 rcases h2 b z with z | z
 ·exact a1 z
 ·rw [a2] at z; cases z
theorem erG_in {H0 H:Hp} {os:List Addr} : Same (erG H0 H os) H:=fun b o h=>(erG_of h).2
theorem erG_nil {H0 H:Hp} {os:List Addr} : Same (erG H0 H os) (erG H0 H []):=fun b o h=>erG_get (erG_of h).1.2 (by simp) (erG_of h).2
theorem erG_up {H0 H H':Hp} {os:List Addr} (s:Same H H') : Same (erG H0 H os) (erG H0 H' os):=erG_step (fun b o _ _ h=>s b o h) fun b hb=>.inl hb
structure Gf where
 t:Addr
 D:Addr
 N:Addr
 n:Wd0
 m:Nat
 Dv:List V
 ds:List (List DD)
 vs:List V
 xs:List DD
def opF (pf:Addr) (gs:List Gf) : List Addr:=pf :: gs.map Gf.N
structure GfAt (K:PySem.W.Frag) (E H:Hp) (g:Gf) : Prop where
 tup:E g.t=some (.tup [.str (tx g.n),.ref g.D,.ref g.N,.int (g.m:Int)])
 dl:E g.D=some (.lst g.Dv)
 dr:Reps K E (g.ds.map DD.lst) g.Dv
 hN:H g.N=some (.lst g.vs)
 nr:Reps K E g.xs g.vs
theorem GfAt.step {K:PySem.W.Frag} {E E' H H':Hp} {g:Gf} (h:GfAt K E H g) (s:Same E E') (hN:H' g.N=H g.N) : GfAt K E' H' g:=⟨s _ _ h.tup,s _ _ h.dl,h.dr.mono s,hN.trans h.hN,h.nr.mono s⟩
structure FrS (K:PySem.W.Frag) (H0 H:Hp) (pf:Addr) (gs:List Gf) : Prop where
 same:Same H0 H
 nd:(opF pf gs).Nodup
 fresh:∀ b ∈ opF pf gs,H0 b=none
 top:H pf=some (.lst (gs.map fun g=>V.ref g.t).reverse)
 fr:∀ g ∈ gs,GfAt K (erG H0 H (opF pf gs)) H g
section
variable {K:PySem.W.Frag} {H0 H H':Hp} {pf t D N:Addr} {gs r:List Gf} {g:Gf} {v:V} {x:DD} {n:Wd0} {m:Nat}
theorem FrS.some (S:FrS K H0 H pf gs) : ∀ b ∈ opF pf gs,∃ o,H b=Option.some (.lst o):=fun b hb=>by
 rcases List.mem_cons.mp hb with rfl | hb
 ·exact ⟨_,S.top⟩
 ·obtain ⟨g,hg,rfl⟩:=List.mem_map.mp hb
  exact ⟨_,(S.fr g hg).hN⟩
theorem FrS.not (S:FrS K H0 H pf gs) {b:Addr} (hb:H b=none) : b ∉ opF pf gs:=fun z=>by
 obtain ⟨o,e⟩:=S.some b z
 rw [hb] at e; cases e
theorem FrS.get (S:FrS K H0 H pf gs) {b:Addr} {o:HO} (hb:H b=none) (h:H' b=Option.some o) : erG H0 H' (opF pf gs) b=Option.some o:=erG_get (S.same.free hb) (S.not hb) h
theorem Nf_mem (hg:g ∈ gs) : g.N ∈ gs.map Gf.N:=List.mem_map.mpr ⟨g,hg,rfl⟩
theorem FrS.up (S:FrS K H0 H pf gs) (s:Same H H') : Same (erG H0 H (opF pf gs)) (erG H0 H' (opF pf gs)):=erG_up s
theorem FrS.ext (S:FrS K H0 H pf gs) (s:Same H H') : FrS K H0 H' pf gs:=
 ⟨S.same.trans s,S.nd,S.fresh,s _ _ S.top,fun g hg=>(S.fr g hg).step (erG_up s) ((s _ _ (S.fr g hg).hN).trans (S.fr g hg).hN.symm)⟩
theorem FrS.zero (s:Same H0 H) (h1:H0 pf=none) (h2:H0 N=none) (f1:H0 t=none) (f2:H0 D=none) (nn:pf≠N) (h3:H pf=Option.some (.lst [V.ref t])) (h4:H N=Option.some (.lst [])) (h5:H t=Option.some (.tup [.str (tx []),.ref D,.ref N,.int 0])) (h6:H D=Option.some (.lst [])) (n1:D≠pf) (n2:D≠N) : FrS K H0 H pf [⟨t,D,N,[],0,[],[],[],[]⟩]:=by
 have ht:t ∉ opF pf [⟨t,D,N,[],0,[],[],[],[]⟩]:=by
  unfold opF
  simp only [List.map_cons,List.map_nil,List.mem_cons,List.not_mem_nil,or_false,not_or]
  exact ⟨ne_of h5 h3 (by intro z; cases z),ne_of h5 h4 (by intro z; cases z)⟩
 refine ⟨s,by unfold opF; simp [nn],fun b hb=>?_,h3,fun g hg=>?_⟩
 ·unfold opF at hb
  simp only [List.map_cons,List.map_nil,List.mem_cons,List.not_mem_nil,or_false] at hb
  rcases hb with rfl | rfl
  ·exact h1
  ·exact h2
 ·rw [List.mem_singleton.mp hg]
  exact ⟨erG_get f1 ht h5,erG_get f2 (by unfold opF; simp [n1,n2]) h6,Reps.nil,h4,Reps.nil⟩
theorem FrS.push (S:FrS K H0 H pf (g :: r)) (hv:Rep K (erG H0 H (opF pf (g :: r))) x v) : FrS K H0 (upd H g.N (.lst (g.vs++[v]))) pf ({ g with vs:=g.vs++[v],xs:=g.xs++[x] } :: r):=by
 have hc:g.N ∈ opF pf (g :: r):=List.mem_cons_of_mem _ List.mem_cons_self
 have st:Same (erG H0 H (opF pf (g :: r))) (erG H0 (upd H g.N (.lst (g.vs++[v]))) (opF pf (g :: r))):=erG_step (fun b o nb _ h=>by rw [upd_ne (show b≠g.N from fun e=>nb (by rw [e]; exact hc))]; exact h) fun b hb=>.inl hb
 have nd:=S.nd
 have q:=S.fr g List.mem_cons_self
 refine ⟨fun b o hb=>?_,S.nd,S.fresh,?_,fun g' hg'=>?_⟩
 ·rw [upd_ne (ne_of_none hb (S.fresh g.N hc))]
  exact S.same b o hb
 ·rw [upd_ne (by unfold opF at nd; simp only [List.map_cons] at nd; grind)]
  exact S.top
 ·rcases List.mem_cons.mp hg' with rfl | hg'
  ·exact ⟨st _ _ q.tup,st _ _ q.dl,q.dr.mono st,upd_same,(q.nr.mono st).snoc (hv.mono st)⟩
  ·have hm:=Nf_mem hg'
   refine (S.fr g' (List.mem_cons_of_mem _ hg')).step st (upd_ne ?_)
   unfold opF at nd
   simp only [List.map_cons] at nd
   grind
theorem FrS.open {Dv:List V} {ds:List (List DD)} (S:FrS K H0 H pf gs) (same':Same H0 H') (keep:∀ b o,b≠pf→H b=Option.some o→H' b=Option.some o) (hD:erG H0 H (opF pf gs) D=Option.some (.lst Dv)) (hr:Reps K (erG H0 H (opF pf gs)) (ds.map DD.lst) Dv) (hN0:H N=none) (ht0:H t=none) (fN:H0 N=none) (n2:t≠N)
  (ht:H' t=Option.some (.tup [.str (tx n),.ref D,.ref N,.int (m:Int)])) (hN:H' N=Option.some (.lst [])) (hpf:H' pf=Option.some (.lst ((gs.map fun g=>V.ref g.t).reverse++[V.ref t]))) : FrS K H0 H' pf (⟨t,D,N,n,m,Dv,ds,[],[]⟩ :: gs):=by
 have nt:=S.not ht0
 have nN:=S.not hN0
 have nd:=S.nd
 have fr:=S.fresh
 have ft:=S.same.free ht0
 unfold opF at nt nN nd fr
 have st:=erG_step (H0:=H0) (H:=H) (H':=H') (os:=opF pf gs) (os':=opF pf (⟨t,D,N,n,m,Dv,ds,[],[]⟩ :: gs)) (fun b o nb _ h=>keep b o (fun e=>nb (by rw [e]; exact List.mem_cons_self)) h) (fun b hb=>by
  unfold opF at hb ⊢
  simp only [List.map_cons] at hb
  grind)
 refine ⟨same',by unfold opF; simp only [List.map_cons]; grind,fun b hb=>by unfold opF at hb; simp only [List.map_cons] at hb; grind,by rw [hpf,List.map_cons,List.reverse_cons],fun g' hg'=>?_⟩
 rcases List.mem_cons.mp hg' with rfl | hg'
 ·exact ⟨erG_get ft (by unfold opF; simp only [List.map_cons]; grind) ht,st _ _ hD,hr.mono st,hN,Reps.nil⟩
 ·have q:=S.fr g' hg'
  have hm:=Nf_mem hg'
  exact q.step st ((keep _ _ (by grind) q.hN).trans q.hN.symm)
theorem FrS.pop (S:FrS K H0 H pf (g :: r)) : FrS K H0 (upd H pf (.lst (r.map fun g=>V.ref g.t).reverse)) pf r∧GfAt K (erG H0 (upd H pf (.lst (r.map fun g=>V.ref g.t).reverse)) (opF pf r)) (erG H0 (upd H pf (.lst (r.map fun g=>V.ref g.t).reverse)) (opF pf r)) g:=by
 have nd:=S.nd
 have fr:=S.fresh
 have q:=S.fr g List.mem_cons_self
 have st:Same (erG H0 H (opF pf (g :: r))) (erG H0 (upd H pf (.lst (r.map fun g=>V.ref g.t).reverse)) (opF pf r)):=erG_step (fun b o nb _ h=>by rw [upd_ne (show b≠pf from fun e=>nb (by rw [e]; exact List.mem_cons_self))]; exact h) fun b hb=>by
  unfold opF at hb ⊢
  simp only [List.map_cons]
  grind
 unfold opF at nd fr
 simp only [List.map_cons] at nd fr
 have fN:=fr g.N (by simp)
 refine ⟨⟨fun b o hb=>?_,by unfold opF; grind,fun b hb=>fr b (by unfold opF at hb; grind),upd_same,fun g' hg'=>?_⟩,?_⟩
 ·rw [upd_ne (ne_of_none hb (fr pf List.mem_cons_self))]
  exact S.same b o hb
 ·have hm:=Nf_mem hg'
  exact (S.fr g' (List.mem_cons_of_mem _ hg')).step st (upd_ne (by grind))
 ·refine ⟨st _ _ q.tup,st _ _ q.dl,q.dr.mono st,erG_get fN (by unfold opF; grind) ?_,q.nr.mono st⟩
  rw [upd_ne (by grind)]
  exact q.hN
end
def GfOk (M:List (Wd0 × Nat)) (c:Nat) : Nat→List Gf→Prop
 | _,[]=>True
 | k,g :: r=>g.xs.length < k∧(∀ x ∈ g.xs,Nd M c (12 - r.length) x)∧(r≠[]→g.ds.length < g.m∧(g.n,g.m) ∈ M∧∀ a ∈ g.ds,a.length≤90∧∀ y ∈ a,Nd M c (12 - r.length) y)∧GfOk M c (k - 1) r
theorem GfOk.up {M:List (Wd0 × Nat)} {c:Nat} : ∀ {gs:List Gf} {k k':Nat},k≤k'→GfOk M c k gs→GfOk M c k' gs
 | [],_,_,_,_=>trivial
 | g :: r,k,k',h,⟨h1,h2,h3,h4⟩=>⟨by omega,h2,h3,GfOk.up (by omega) h4⟩
def toGo:List Gf→Nat
 | []=>0
 | [_]=>0
 | g :: h :: r=>(g.m - g.ds.length)+toGo (h :: r)
def menuS (S:List Sh) : List (Wd0 × Nat):=S.map fun s=>(s.n,s.c)
structure ShX (S:List Sh) : Prop where
 nd:(S.map Sh.n).Nodup
 len:S.length≤4
 ord:∀ (i:Nat) s,S[i]? = some s→∀ x ∈ s.ns,Nd (menuS (S.take i)) s.c 24 x
 eqr:∀ s ∈ S,s.r=rowL S s.c 24 s.ns
 pos:∀ s ∈ S,∀ k,1≤k→k≤s.c→1≤s.r.getD k 0
 nn:∀ s ∈ S,∀ y ∈ s.r,0≤y
 sum:∀ s ∈ S,s.r.sum≤400
def ex {α:Type} (wd:Str→α) (S:List Sh) : Nat→List (List α)→DD→List α
 | _+1,_,.tup [_,.str x]=>[wd x]
 | _+1,A,.tup [_,.int k]=>A.getD (k - 1).toNat []
 | n+1,A,.tup [_,.str x,.lst as]=>match shF S x with
  | none=>[]
  | some s=>(s.ns.map (ex wd S n (as.map fun a=>((ddL a).map (ex wd S n A)).flatten))).flatten
 | _,_,_=>[]
def exL {α:Type} (wd:Str→α) (S:List Sh) (n:Nat) (A:List (List α)) (xs:List DD) : List α:=(xs.map (ex wd S n A)).flatten
section
variable {α β:Type} {wd:Str→α} {S:List Sh} {n:Nat} {A:List (List α)} {w nm:Wd0} {k:Nat} {as:List (List DD)} {s:Sh}
theorem ex_wd:ex wd S (n+1) A (wdD w)=[wd (tx w)]:=rfl
theorem ex_pl:ex wd S (n+1) A (plD k)=A.getD (k - 1) []:=by
 show A.getD ((k:Int) - 1).toNat []=_
 rw [show ((k:Int) - 1).toNat=k - 1 by omega]
theorem ex_cl (hF:shF S (tx nm)=some s) : ex wd S (n+1) A (clD nm as)=exL wd S n (as.map (exL wd S n A)) s.ns:=by
 show (match shF S (tx nm) with | none=>[] | some s=>(s.ns.map (ex wd S n ((as.map DD.lst).map fun a=>((ddL a).map (ex wd S n A)).flatten))).flatten)=_
 rw [hF,ddL_map fun a=>(a.map (ex wd S n A)).flatten]
 rfl
theorem exL_snoc {xs:List DD} {i:Nat} {x:DD} (h:xs[i]? = some x) : exL wd S n A (xs.take (i+1))=exL wd S n A (xs.take i)++ex wd S n A x:=by
 unfold exL
 rw [List.take_add_one,h,List.map_append,List.flatten_append]
 simp
end
def En (S:List Sh) : Nat→Nat→DD→Prop
 | 0,_,_=>False
 | n+1,c,x=>(∃ w,x=wdD w)∨(∃ k,1≤k∧k≤c∧x=plD k)∨∃ nm as s,x=clD nm as∧shF S (tx nm)=some s∧as.length=s.c∧s ∈ S∧(∀ a ∈ as,∀ y ∈ a,En S n c y)∧∀ y ∈ s.ns,En S n s.c y
theorem En.out {S:List Sh} {n c:Nat} {x:DD} (h:En S (n+1) c x) : (∃ w,x=wdD w)∨(∃ k,1≤k∧k≤c∧x=plD k)∨∃ nm as s,x=clD nm as∧shF S (tx nm)=some s∧as.length=s.c∧s ∈ S∧(∀ a ∈ as,∀ y ∈ a,En S n c y)∧∀ y ∈ s.ns,En S n s.c y:=h
theorem En.up {S:List Sh} : ∀ {n m c:Nat} {x:DD},n≤m→En S n c x→En S m c x
 | n+1,m,c,x,hm,h=>by
  obtain ⟨m,rfl⟩ : ∃ e,m=e+1:=⟨m - 1,by omega⟩
  rcases h.out with ⟨w,rfl⟩ | ⟨k,h1,h2,rfl⟩ | ⟨nm,as,s,rfl,h1,h2,h3,h4,h5⟩
  ·exact .inl ⟨w,rfl⟩
  ·exact .inr (.inl ⟨k,h1,h2,rfl⟩)
  ·exact .inr (.inr ⟨nm,as,s,rfl,h1,h2,h3,fun a ha y hy=>En.up (by omega) (h4 a ha y hy),fun y hy=>En.up (by omega) (h5 y hy)⟩)
theorem exL_congr {α:Type} {wd:Str→α} {S:List Sh} {n m:Nat} {A B:List (List α)} {xs:List DD} (h:∀ x ∈ xs,ex wd S n A x=ex wd S m B x) : exL wd S n A xs=exL wd S m B xs:=by
 unfold exL
 rw [List.map_congr_left h]
theorem ex_up {α:Type} {wd:Str→α} {S:List Sh} : ∀ {n m c:Nat} {A:List (List α)} {x:DD},n≤m→En S n c x→ex wd S m A x=ex wd S n A x
 | n+1,m,c,A,x,hm,h=>by
  obtain ⟨m,rfl⟩ : ∃ e,m=e+1:=⟨m - 1,by omega⟩
  rcases h.out with ⟨w,rfl⟩ | ⟨k,h1,h2,rfl⟩ | ⟨nm,as,s,rfl,h1,h2,h3,h4,h5⟩
  ·rfl
  ·rw [ex_pl,ex_pl]
  ·rw [ex_cl h1,ex_cl h1]
   have e:as.map (exL wd S m A)=as.map (exL wd S n A):=List.map_congr_left fun a ha=>exL_congr fun y hy=>ex_up (by omega) (h4 a ha y hy)
   rw [e]
   exact exL_congr fun y hy=>ex_up (by omega) (h5 y hy)
theorem shF_of {S:List Sh} (nd:(S.map Sh.n).Nodup) {s:Sh} (hs:s ∈ S) : shF S (tx s.n)=some s:=by
 cases hq:shF S (tx s.n) with
 | none =>
  unfold shF at hq
  exact absurd (decide_eq_true (rfl:tx s.n=tx s.n)) (List.find?_eq_none.mp hq s hs)
 | some t =>
  unfold shF at hq
  have t1:=List.mem_of_find?_eq_some hq
  have t2:tx t.n=tx s.n:=by simpa using List.find?_some hq
  have e3:=tx_inj t2
  obtain ⟨i,hi⟩:=List.getElem?_of_mem hs
  obtain ⟨j,hj⟩:=List.getElem?_of_mem t1
  have:i=j:=(List.getElem?_inj (by rw [List.length_map]; exact (List.getElem?_eq_some_iff.mp hi).1) nd).mp (by rw [List.getElem?_map,List.getElem?_map,hi,hj]; show some s.n=some t.n; rw [e3])
  rw [this,hj] at hi
  exact hi
theorem call_of {S:List Sh} (nd:(S.map Sh.n).Nodup) {i m:Nat} {nm:Wd0} (hM:(nm,m) ∈ menuS (S.take i)) : ∃ (j:Nat) (s:Sh),j < i∧S[j]? = some s∧s ∈ S∧s.n=nm∧s.c=m∧shF S (tx nm)=some s:=by
 unfold menuS at hM
 obtain ⟨s,hs,e⟩:=List.mem_map.mp hM
 obtain ⟨e1,e2⟩:=Prod.mk.inj e
 obtain ⟨j,hj⟩:=List.getElem?_of_mem hs
 have hl:=(List.getElem?_eq_some_iff.mp hj).1
 rw [List.length_take] at hl
 rw [List.getElem?_take_of_lt (by omega)] at hj
 have hm:=List.mem_of_getElem? hj
 exact ⟨j,s,by omega,hj,hm,e1,e2,by rw [← e1]; exact shF_of nd hm⟩
theorem en_of {S:List Sh} (h:ShX S) : ∀ (i d c:Nat) (x:DD),Nd (menuS (S.take i)) c d x→En S (d+24 * i) c x:=by
 intro i
 induction i using Nat.strongRecOn with
 | ind i ih =>
  intro d
  induction d with
  | zero=>intro c x hx; exact hx.elim
  | succ d ihd =>
   intro c x hx
   rw [show d+1+24 * i=(d+24 * i)+1 by omega]
   rcases hx.out with ⟨w,rfl⟩ | ⟨k,h1,h2,rfl⟩ | ⟨nm,as,rfl,h1,h2⟩
   ·exact .inl ⟨w,rfl⟩
   ·exact .inr (.inl ⟨k,h1,h2,rfl⟩)
   ·obtain ⟨j,s,hj,ej,hs,e1,e2,hF⟩:=call_of h.nd h1
    exact .inr (.inr ⟨nm,as,s,rfl,hF,e2.symm,hs,fun a ha y hy=>ihd c y ((h2 a ha).2 y hy),fun y hy=>(ih j hj 24 s.c y (h.ord j s ej y hy)).up (by omega)⟩)
theorem en64 {S:List Sh} (h:ShX S) {i d c:Nat} {x:DD} (hx:Nd (menuS (S.take i)) c d x) (hd:d+24 * i≤255) : En S 255 c x:=(en_of h i d c x hx).up hd
theorem X_cl {α:Type} {wd:Str→α} {S:List Sh} (h:ShX S) {i d c j:Nat} {nm:Wd0} {as:List (List DD)} {s:Sh} {A:List (List α)} (hF:shF S (tx nm)=some s) (hj:S[j]? = some s) (has:∀ a ∈ as,∀ y ∈ a,Nd (menuS (S.take i)) c d y) (hd:d+24 * i≤255) : ex wd S 256 A (clD nm as)=exL wd S 256 (as.map (exL wd S 256 A)) s.ns:=by
 rw [ex_cl hF]
 have e:as.map (exL wd S 255 A)=as.map (exL wd S 256 A):=List.map_congr_left fun a ha=>exL_congr fun y hy=>(ex_up (by decide) (en64 h (has a ha y hy) hd)).symm
 rw [e]
 have hl:=(List.getElem?_eq_some_iff.mp hj).1
 have:=h.len
 exact exL_congr fun y hy=>(ex_up (by decide) (en64 h (h.ord j s hj y hy) (by omega))).symm
def dot (f W:Nat→Int) : Nat→Int
 | 0=>f 0 * W 0
 | c+1=>dot f W c+f (c+1) * W (c+1)
section
variable {W:Nat→Int}
theorem dot_congr {f g:Nat→Int} : ∀ {c:Nat},(∀ j,j≤c→f j=g j)→dot f W c=dot g W c
 | 0,h=>by show f 0 * W 0=g 0 * W 0; rw [h 0 (Nat.le_refl _)]
 | c+1,h=>by
  show dot f W c+f (c+1) * W (c+1)=dot g W c+g (c+1) * W (c+1)
  rw [dot_congr (fun j hj=>h j (by omega)),h (c+1) (Nat.le_refl _)]
theorem dot_add (f g:Nat→Int) : ∀ c,dot (fun j=>f j+g j) W c=dot f W c+dot g W c
 | 0=>by show (f 0+g 0) * W 0=f 0 * W 0+g 0 * W 0; rw [Int.add_mul]
 | c+1=>by
  show dot _ W c+(f (c+1)+g (c+1)) * W (c+1)=dot f W c+f (c+1) * W (c+1)+(dot g W c+g (c+1) * W (c+1))
  rw [dot_add f g c,Int.add_mul]
  omega
theorem dot_mul (t:Int) (f:Nat→Int) : ∀ c,dot (fun j=>t * f j) W c=t * dot f W c
 | 0=>by show t * f 0 * W 0=t * (f 0 * W 0); rw [Int.mul_assoc]
 | c+1=>by
  show dot _ W c+t * f (c+1) * W (c+1)=t * (dot f W c+f (c+1) * W (c+1))
  rw [dot_mul t f c,Int.mul_add,Int.mul_assoc]
theorem dot_zero:∀ c,dot (fun _=>0) W c=0
 | 0=>Int.zero_mul _
 | c+1=>by
  show dot _ W c+0 * W (c+1)=0
  rw [dot_zero c,Int.zero_mul]
  rfl
theorem dot_sum {β:Type} (F:Nat→β→Int) (c:Nat) : ∀ xs:List β,dot (fun j=>(xs.map (F j)).sum) W c=(xs.map fun x=>dot (fun j=>F j x) W c).sum
 | []=>dot_zero c
 | x :: xs=>by
  rw [List.map_cons,List.sum_cons,← dot_sum F c xs,← dot_add]
  exact dot_congr fun j _=>by rw [List.map_cons,List.sum_cons]
theorem dot_arg {β:Type} (r:List Int) (F:Nat→β→Int) (c:Nat) : ∀ (i:Nat) (as:List β),dot (fun j=>argS r i (as.map (F j))) W c=argS r i (as.map fun a=>dot (fun j=>F j a) W c)
 | i,[]=>dot_zero c
 | i,a :: as=>by
  show dot (fun j=>r.getD i 0 * F j a+argS r (i+1) (as.map (F j))) W c=r.getD i 0 * dot (fun j=>F j a) W c+argS r (i+1) (as.map fun a=>dot (fun j=>F j a) W c)
  rw [dot_add,dot_mul,dot_arg r F c (i+1) as]
theorem dot_one (t:Int) : ∀ c,dot (fun j=>if j=0 then t else 0) W c=t * W 0
 | 0=>rfl
 | c+1=>by
  show dot _ W c+(if c+1=0 then t else 0) * W (c+1)=_
  rw [dot_one t c,if_neg (by omega),Int.zero_mul,Int.add_zero]
theorem dot_pl (k:Nat) : ∀ c,dot (fun j=>if k=j then 1 else 0) W c=if k≤c then W k else 0
 | 0=>by
  show (if k=0 then (1:Int) else 0) * W 0=_
  by_cases h:k=0
  ·rw [if_pos h,if_pos (by omega),h,Int.one_mul]
  ·rw [if_neg h,if_neg (by omega),Int.zero_mul]
 | c+1=>by
  show dot _ W c+(if k=c+1 then (1:Int) else 0) * W (c+1)=_
  rw [dot_pl k c]
  by_cases h:k=c+1
  ·rw [if_pos h,if_neg (by omega),if_pos (by omega),h]; omega
  ·rw [if_neg h,Int.zero_mul,Int.add_zero]
   by_cases h2:k≤c
   ·rw [if_pos h2,if_pos (by omega)]
   ·rw [if_neg h2,if_neg (by omega)]
theorem dot_ones {f:Nat→Int} : ∀ {c:Nat},(∀ j,j≤c→W j=1)→dot f W c=(rwL f c).sum
 | 0,h=>by show f 0 * W 0=_; rw [h 0 (Nat.le_refl _),Int.mul_one]; simp [rwL]
 | c+1,h=>by
  show dot f W c+f (c+1) * W (c+1)=_
  rw [dot_ones (fun j hj=>h j (by omega)),h (c+1) (Nat.le_refl _),Int.mul_one]
  unfold rwL
  rw [List.range_succ (n:=c+1),List.map_append,List.sum_append]
  simp
end
def wt {α:Type} (A:List (List α)) : Nat→Int
 | 0=>1
 | k+1=>((A.getD k []).length:Int)
theorem dot_r {α:Type} (r:List Int) (G:List (List α)) : ∀ c,c≤G.length→dot (fun j=>r.getD j 0) (wt G) c=r.getD 0 0+argS r 1 ((G.take c).map fun g=>(g.length:Int))
 | 0,_=>by show r.getD 0 0 * 1=r.getD 0 0+0; omega
 | c+1,h=>by
  have e:G[c]? = some G[c]:=List.getElem?_eq_getElem (by omega)
  show dot _ (wt G) c+r.getD (c+1) 0 * ((G.getD c []).length:Int)=_
  rw [dot_r r G c (by omega),List.take_add_one,e,List.map_append]
  show _=r.getD 0 0+argS r 1 (_++[(G[c].length:Int)])
  have eg:G.getD c []=G[c]:=by rw [List.getD_eq_getElem?_getD,e]; rfl
  rw [argS_snoc,List.length_map,List.length_take,Nat.min_eq_left (by omega),eg,show 1+c=c+1 by omega]
  omega
theorem len_flat {α β:Type} (f:β→List α) : ∀ xs:List β,(((xs.map f).flatten.length:Nat) : Int)=(xs.map fun x=>((f x).length:Int)).sum
 | []=>rfl
 | x :: xs=>by
  rw [List.map_cons,List.flatten_cons,List.length_append,List.map_cons,List.sum_cons,← len_flat f xs]
  omega
theorem row_get {S:List Sh} (h:ShX S) {s:Sh} (hs:s ∈ S) {j:Nat} (hj:j≤s.c) : s.r.getD j 0=(s.ns.map (szR S j 24)).sum:=by
 rw [h.eqr s hs,List.getD_eq_getElem?_getD]
 unfold rowL
 rw [rwL_get _ hj]
 rfl
theorem ex_len {α:Type} {wd:Str→α} {S:List Sh} (h:ShX S) : ∀ {n c d:Nat} {M:List (Wd0 × Nat)} {A:List (List α)} {x:DD},En S n c x→Nd M c d x→((ex wd S n A x).length:Int)=dot (fun j=>szR S j d x) (wt A) c
 | n+1,c,d,M,A,x,he,hx=>by
  obtain ⟨d,rfl⟩:=hx.pos
  rcases he.out with ⟨w,rfl⟩ | ⟨k,h1,h2,rfl⟩ | ⟨nm,as,s,rfl,hF,h2,h3,h4,h5⟩
  ·have:=dot_one (W:=wt A) 1 c
   rw [ex_wd]
   show (1:Int)=_
   have e:dot (fun j=>szR S j (d+1) (wdD w)) (wt A) c=dot (fun j=>if j=0 then 1 else 0) (wt A) c:=dot_congr fun j _=>sz_wd
   rw [e,this]
   rfl
  ·rw [ex_pl]
   have e:dot (fun j=>szR S j (d+1) (plD k)) (wt A) c=dot (fun j=>if k=j then 1 else 0) (wt A) c:=dot_congr fun j _=>sz_pl
   rw [e,dot_pl,if_pos h2]
   obtain ⟨k,rfl⟩ : ∃ e,k=e+1:=⟨k - 1,by omega⟩
   rfl
  ·have hn:∀ a ∈ as,∀ y ∈ a,Nd M c d y:=by
    rcases hx.out with ⟨w,e⟩ | ⟨k,_,_,e⟩ | ⟨n',as',e,_,h'⟩
    ·exact absurd (congrArg (fun z=>match z with | DD.tup l=>l.length | _=>0) e) (by simp [clD,wdD])
    ·exact absurd (congrArg (fun z=>match z with | DD.tup l=>l.length | _=>0) e) (by simp [clD,plD])
    ·unfold clD at e
     injection e with e
     injection e with _ e
     injection e with _ e
     injection e with e _
     injection e with e
     have:as=as':=by
      have e:=congrArg (fun z=>z.map ddL) e
      simp only [List.map_map] at e
      have q:∀ l:List (List DD),l.map (ddL ∘ DD.lst)=l:=fun l=>by
       have:(ddL ∘ DD.lst)=(id:List DD→List DD):=rfl
       rw [this,List.map_id]
      rw [q,q] at e
      exact e
     rw [this]
     exact fun a ha y hy=>(h' a ha).2 y hy
   obtain ⟨j,hj⟩:=List.getElem?_of_mem h3
   rw [ex_cl hF]
   have e1:((exL wd S n (as.map (exL wd S n A)) s.ns).length:Int)=(s.ns.map fun y=>dot (fun j=>szR S j 24 y) (wt (as.map (exL wd S n A))) s.c).sum:=by
    unfold exL
    rw [len_flat]
    refine congrArg List.sum (List.map_congr_left fun y hy=>?_)
    exact ex_len h (h5 y hy) (h.ord j s hj y hy)
   have e2:dot (fun j=>(s.ns.map (szR S j 24)).sum) (wt (as.map (exL wd S n A))) s.c=dot (fun j=>s.r.getD j 0) (wt (as.map (exL wd S n A))) s.c:=dot_congr fun j hj=>(row_get h h3 hj).symm
   have e3:(as.map (exL wd S n A)).map (fun g=>(g.length:Int))=as.map fun a=>dot (fun j=>(a.map (szR S j d)).sum) (wt A) c:=by
    rw [List.map_map]
    refine List.map_congr_left fun a ha=>?_
    show ((exL wd S n A a).length:Int)=_
    unfold exL
    rw [len_flat,dot_sum]
    refine congrArg List.sum (List.map_congr_left fun y hy=>?_)
    exact ex_len h (h4 a ha y hy) (hn a ha y hy)
   rw [e1,← dot_sum,e2,dot_r _ _ _ (by rw [List.length_map,h2]; exact Nat.le_refl _),List.take_of_length_le (by rw [List.length_map,h2]; exact Nat.le_refl _),e3]
   have e4:dot (fun j=>szR S j (d+1) (clD nm as)) (wt A) c=dot (fun j=>(if j=0 then s.r.getD 0 0 else 0)+argS s.r 1 (as.map fun a=>(a.map (szR S j d)).sum)) (wt A) c:=dot_congr fun j _=>sz_cl hF
   rw [e4,dot_add,dot_one,dot_arg s.r (fun j (a:List DD)=>(a.map (szR S j d)).sum)]
   show _=s.r.getD 0 0 * 1+_
   omega
theorem exL_len {α:Type} {wd:Str→α} {S:List Sh} (h:ShX S) {n c d:Nat} {M:List (Wd0 × Nat)} {A:List (List α)} {xs:List DD} (he:∀ x ∈ xs,En S n c x) (hx:∀ x ∈ xs,Nd M c d x) : ((exL wd S n A xs).length:Int)=dot (fun j=>(xs.map (szR S j d)).sum) (wt A) c:=by
 unfold exL
 rw [len_flat,dot_sum]
 exact congrArg List.sum (List.map_congr_left fun y hy=>ex_len h (he y hy) (hx y hy))
theorem cl_len {α:Type} {wd:Str→α} {S:List Sh} (h:ShX S) {n:Nat} {G:List (List α)} {s:Sh} (hs:s ∈ S) (hG:G.length=s.c) (h5:∀ y ∈ s.ns,En S n s.c y) : ((exL wd S n G s.ns).length:Int)=s.r.getD 0 0+argS s.r 1 (G.map fun g=>(g.length:Int)):=by
 obtain ⟨j,hj⟩:=List.getElem?_of_mem hs
 rw [exL_len h h5 (h.ord j s hj)]
 have e2:dot (fun j=>(s.ns.map (szR S j 24)).sum) (wt G) s.c=dot (fun j=>s.r.getD j 0) (wt G) s.c:=dot_congr fun j hj=>(row_get h hs hj).symm
 rw [e2,dot_r _ _ _ (by omega),List.take_of_length_le (by omega)]
theorem arg_ge (r:List Int) : ∀ (l:List Int) (i:Nat),(∀ j,i≤j→j < i+l.length→1≤r.getD j 0)→(∀ y ∈ l,0≤y)→0≤argS r i l∧∀ y ∈ l,y≤argS r i l
 | [],i,_,_=>⟨Int.le_refl _,fun y hy=>by cases hy⟩
 | z :: l,i,hr,hl=>by
  obtain ⟨q1,q2⟩:=arg_ge r l (i+1) (fun j h1 h2=>hr j (by omega) (by rw [List.length_cons]; omega)) fun y hy=>hl y (List.mem_cons_of_mem _ hy)
  have hz:=hl z List.mem_cons_self
  have hi:=hr i (Nat.le_refl _) (by rw [List.length_cons]; omega)
  have hm:z≤r.getD i 0 * z:=by
   have:=Int.mul_le_mul_of_nonneg_right hi hz
   omega
  show 0≤r.getD i 0 * z+argS r (i+1) l∧∀ y ∈ z :: l,y≤r.getD i 0 * z+argS r (i+1) l
  refine ⟨by omega,fun y hy=>?_⟩
  rcases List.mem_cons.mp hy with rfl | hy
  ·omega
  ·have:=q2 y hy
   omega
theorem arg_le {α:Type} {wd:Str→α} {S:List Sh} (h:ShX S) {n:Nat} {G:List (List α)} {s:Sh} (hs:s ∈ S) (hG:G.length=s.c) (h5:∀ y ∈ s.ns,En S n s.c y) {g:List α} (hg:g ∈ G) : g.length≤(exL wd S n G s.ns).length:=by
 have e:=cl_len (wd:=wd) h hs hG h5
 obtain ⟨_,q⟩:=arg_ge s.r (G.map fun g=>(g.length:Int)) 1 (fun j h1 h2=>h.pos s hs j h1 (by rw [List.length_map] at h2; omega)) fun y hy=>by
  obtain ⟨g,_,rfl⟩:=List.mem_map.mp hy
  omega
 have:=q (g.length:Int) (List.mem_map.mpr ⟨g,hg,rfl⟩)
 have h0:0≤s.r.getD 0 0:=by
  rw [List.getD_eq_getElem?_getD]
  cases e:s.r[0]? with
  | none=>exact Int.le_refl _
  | some y=>exact h.nn s hs y (List.mem_of_getElem? e)
 omega
def sbv {β:Type} (wd:Str→β) (G:List (List β)) : Str ⊕ Nat→List β
 | .inl x=>[wd x]
 | .inr k=>G.getD (k - 1) []
def sb {β:Type} (wd:Str→β) (G:List (List β)) (l:List (Str ⊕ Nat)) : List β:=(l.map (sbv wd G)).flatten
section
variable {β:Type} {wd:Str→β} {G:List (List β)}
theorem sb_app (l l2:List (Str ⊕ Nat)) : sb wd G (l++l2)=sb wd G l++sb wd G l2:=by
 unfold sb
 rw [List.map_append,List.flatten_append]
theorem sb_flat {γ:Type} (f:γ→List (Str ⊕ Nat)) : ∀ xs:List γ,sb wd G (xs.map f).flatten=(xs.map fun x=>sb wd G (f x)).flatten
 | []=>rfl
 | x :: xs=>by
  rw [List.map_cons,List.flatten_cons,sb_app,sb_flat f xs,List.map_cons,List.flatten_cons]
theorem sb_snoc {l:List (Str ⊕ Nat)} {i:Nat} {x:Str ⊕ Nat} (h:l[i]? = some x) : sb wd G (l.take (i+1))=sb wd G (l.take i)++sbv wd G x:=by
 unfold sb
 rw [List.take_add_one,h,List.map_append,List.flatten_append]
 simp
theorem ex_sub {S:List Sh} : ∀ {n c:Nat} {A:List (List (Str ⊕ Nat))} {x:DD},En S n c x→sb wd G (ex Sum.inl S n A x)=ex wd S n (A.map (sb wd G)) x
 | n+1,c,A,x,h=>by
  rcases h.out with ⟨w,rfl⟩ | ⟨k,h1,h2,rfl⟩ | ⟨nm,as,s,rfl,hF,h2,h3,h4,h5⟩
  ·rfl
  ·rw [ex_pl,ex_pl,List.getD_eq_getElem?_getD,List.getD_eq_getElem?_getD,List.getElem?_map]
   cases A[k - 1]? <;> rfl
  ·rw [ex_cl hF,ex_cl hF]
   unfold exL
   rw [sb_flat]
   have e:(as.map fun xs=>(xs.map (ex Sum.inl S n A)).flatten).map (sb wd G)=as.map fun xs=>(xs.map (ex wd S n (A.map (sb wd G)))).flatten:=by
    rw [List.map_map]
    refine List.map_congr_left fun a ha=>?_
    show sb wd G (a.map (ex Sum.inl S n A)).flatten=_
    rw [sb_flat]
    exact congrArg List.flatten (List.map_congr_left fun y hy=>ex_sub (h4 a ha y hy))
   rw [← e]
   exact congrArg List.flatten (List.map_congr_left fun y hy=>ex_sub (h5 y hy))
theorem exL_sub {S:List Sh} {n c:Nat} {A:List (List (Str ⊕ Nat))} {xs:List DD} (h:∀ x ∈ xs,En S n c x) : sb wd G (exL Sum.inl S n A xs)=exL wd S n (A.map (sb wd G)) xs:=by
 unfold exL
 rw [sb_flat]
 exact congrArg List.flatten (List.map_congr_left fun y hy=>ex_sub (h y hy))
end
def idA (c:Nat) : List (List (Str ⊕ Nat)):=(List.range c).map fun k=>[.inr (k+1)]
theorem idA_get {c k:Nat} (h:k < c) : (idA c).getD k []=[.inr (k+1)]:=by
 unfold idA
 rw [List.getD_eq_getElem?_getD,List.getElem?_map,List.getElem?_range h]
 rfl
theorem idA_sb {β:Type} {wd:Str→β} {G:List (List β)} {c:Nat} (hG:G.length=c) : (idA c).map (sb wd G)=G:=by
 refine List.ext_getElem? fun i=>?_
 unfold idA
 rw [List.getElem?_map,List.getElem?_map]
 by_cases hi:i < c
 ·rw [List.getElem?_range hi,List.getElem?_eq_getElem (by omega)]
  show some (sb wd G [.inr (i+1)])=_
  unfold sb sbv
  simp only [List.map_cons,List.map_nil,List.flatten_cons,List.flatten_nil,List.append_nil,Nat.add_sub_cancel]
  rw [List.getD_eq_getElem?_getD,List.getElem?_eq_getElem (by omega)]
  rfl
 ·rw [List.getElem?_eq_none (by rw [List.length_range]; omega),List.getElem?_eq_none (by omega)]
  rfl
theorem ex_all {α:Type} {wd:Str→α} {S:List Sh} {P:α→Prop} (hw:∀ x,P (wd x)) : ∀ {n c:Nat} {A:List (List α)} {x:DD},(∀ l ∈ A,∀ y ∈ l,P y)→En S n c x→∀ y ∈ ex wd S n A x,P y
 | n+1,c,A,x,hA,h=>by
  rcases h.out with ⟨w,rfl⟩ | ⟨k,h1,h2,rfl⟩ | ⟨nm,as,s,rfl,hF,h2,h3,h4,h5⟩
  ·intro y hy
   rw [ex_wd] at hy
   rw [List.mem_singleton.mp hy]
   exact hw _
  ·intro y hy
   rw [ex_pl,List.getD_eq_getElem?_getD] at hy
   cases e:A[k - 1]? with
   | none=>rw [e] at hy; cases hy
   | some l=>rw [e] at hy; exact hA l (List.mem_of_getElem? e) y hy
  ·intro y hy
   rw [ex_cl hF] at hy
   unfold exL at hy
   obtain ⟨l,hl,hy⟩:=List.mem_flatten.mp hy
   obtain ⟨z,hz,rfl⟩:=List.mem_map.mp hl
   refine ex_all hw (fun l hl y hy=>?_) (h5 z hz) y hy
   obtain ⟨a,ha,rfl⟩:=List.mem_map.mp hl
   obtain ⟨l,hl,hy⟩:=List.mem_flatten.mp hy
   obtain ⟨z,hz,rfl⟩:=List.mem_map.mp hl
   exact ex_all hw hA (h4 a ha z hz) y hy
def FL (S:List Sh) (s:Sh) : List (Str ⊕ Nat):=exL Sum.inl S 256 (idA s.c) s.ns
theorem FL_len {S:List Sh} (h:ShX S) {s:Sh} (hs:s ∈ S) : (FL S s).length≤400:=by
 obtain ⟨j,hj⟩:=List.getElem?_of_mem hs
 have hl:=(List.getElem?_eq_some_iff.mp hj).1
 have h4:=h.len
 have e:=exL_len (wd:=Sum.inl) (A:=idA s.c) (n:=256) h (fun x hx=>(en64 h (h.ord j s hj x hx) (by omega)).up (by decide)) (h.ord j s hj)
 have e2:dot (fun j=>(s.ns.map (szR S j 24)).sum) (wt (idA s.c)) s.c=s.r.sum:=by
  rw [h.eqr s hs,dot_ones]
  ·rfl
  ·intro j hj
   cases j with
   | zero=>rfl
   | succ k =>
    show (((idA s.c).getD k []).length:Int)=1
    rw [idA_get (by omega)]
    rfl
 have:=h.sum s hs
 unfold FL
 omega
def lfOk (c:Nat) : Str ⊕ Nat→Prop
 | .inl _=>True
 | .inr k=>1≤k∧k≤c
theorem FL_ok {S:List Sh} (h:ShX S) {s:Sh} (hs:s ∈ S) : ∀ y ∈ FL S s,lfOk s.c y:=by
 obtain ⟨j,hj⟩:=List.getElem?_of_mem hs
 have hl:=(List.getElem?_eq_some_iff.mp hj).1
 have h4:=h.len
 intro y hy
 unfold FL exL at hy
 obtain ⟨l,hl,hy⟩:=List.mem_flatten.mp hy
 obtain ⟨z,hz,rfl⟩:=List.mem_map.mp hl
 refine ex_all (fun _=>trivial) (fun l hl y hy=>?_) ((en64 h (h.ord j s hj z hz) (by omega)).up (by decide:255≤256)) y hy
 unfold idA at hl
 obtain ⟨k,hk,rfl⟩:=List.mem_map.mp hl
 rw [List.mem_singleton.mp hy]
 have:=List.mem_range.mp hk
 exact ⟨by omega,by omega⟩
theorem X_sb {β:Type} {wd:Str→β} {S:List Sh} (h:ShX S) {G:List (List β)} {s:Sh} (hs:s ∈ S) (hG:G.length=s.c) : sb wd G (FL S s)=exL wd S 256 G s.ns:=by
 obtain ⟨j,hj⟩:=List.getElem?_of_mem hs
 have hl:=(List.getElem?_eq_some_iff.mp hj).1
 have h4:=h.len
 unfold FL
 rw [exL_sub fun x hx=>(en64 h (h.ord j s hj x hx) (by omega)).up (by decide:255≤256),idA_sb hG]
def lfD:Str ⊕ Nat→DD
 | .inl x=>.tup [.str (PySem.Str.ofString "word"),.str x]
 | .inr k=>plD k
theorem shF_app {S T:List Sh} {x:Str} {s:Sh} (h:shF S x=some s) : shF (S++T) x=some s:=by
 unfold shF at h ⊢
 rw [List.find?_append,h]
 rfl
theorem sz_app {S T:List Sh} {c j:Nat} : ∀ {d:Nat} {x:DD},(S.map Sh.n).Nodup→Nd (menuS S) c d x→szR (S++T) j d x=szR S j d x
 | d+1,x,nd,hx=>by
  rcases hx.out with ⟨w,rfl⟩ | ⟨k,h1,h2,rfl⟩ | ⟨nm,as,rfl,h1,h2⟩
  ·rw [sz_wd,sz_wd]
  ·rw [sz_pl,sz_pl]
  ·obtain ⟨s,hs,e⟩:=List.mem_map.mp h1
   obtain ⟨e1,e2⟩:=Prod.mk.inj e
   subst e1
   have hF:=shF_of nd hs
   rw [sz_cl (shF_app hF),sz_cl hF]
   have e:(as.map fun a=>(a.map (szR (S++T) j d)).sum)=as.map fun a=>(a.map (szR S j d)).sum:=List.map_congr_left fun a ha=>congrArg List.sum (List.map_congr_left fun y hy=>sz_app nd ((h2 a ha).2 y hy))
   rw [e]
theorem row_app {S T:List Sh} {c d:Nat} {xs:List DD} (nd:(S.map Sh.n).Nodup) (hx:∀ x ∈ xs,Nd (menuS S) c d x) : rowL (S++T) c d xs=rowL S c d xs:=by
 unfold rowL
 exact rwL_congr fun j _=>congrArg List.sum (List.map_congr_left fun x hm=>sz_app nd (hx x hm))
theorem menuS_take {S:List Sh} {i:Nat} : ∀ x ∈ menuS (S.take i),x ∈ menuS S:=fun x hx=>by
 unfold menuS at hx ⊢
 obtain ⟨s,hs,rfl⟩:=List.mem_map.mp hx
 exact List.mem_map.mpr ⟨s,List.mem_of_mem_take hs,rfl⟩
theorem ShX.snoc {S:List Sh} {s:Sh} (h:ShX S) (nd:((S++[s]).map Sh.n).Nodup) (hl:S.length < 4) (ho:∀ x ∈ s.ns,Nd (menuS S) s.c 24 x) (he:s.r=rowL S s.c 24 s.ns) (hp:∀ k,1≤k→k≤s.c→1≤s.r.getD k 0) (hn:∀ y ∈ s.r,0≤y) (hs:s.r.sum≤400) : ShX (S++[s]):=by
 have mem:∀ {P:Sh→Prop},(∀ t ∈ S,P t)→P s→∀ t ∈ S++[s],P t:=fun h1 h2 t ht=>by
  rcases List.mem_append.mp ht with ht | ht
  ·exact h1 t ht
  ·rw [List.mem_singleton.mp ht]; exact h2
 refine ⟨nd,by rw [List.length_append,List.length_singleton]; omega,fun i t hi x hx=>?_,mem (fun t ht=>?_) ?_,mem h.pos hp,mem h.nn hn,mem h.sum hs⟩
 ·by_cases hlt:i < S.length
  ·rw [List.getElem?_append_left hlt] at hi
   rw [List.take_append_of_le_length (by omega)]
   exact h.ord i t hi x hx
  ·rw [List.getElem?_append_right (by omega)] at hi
   have h0:i - S.length=0:=by
    have:=(List.getElem?_eq_some_iff.mp hi).1
    simp at this
    omega
   rw [h0] at hi
   have e:s=t:=by simpa using hi
   subst e
   rw [show i=S.length by omega,List.take_left']
   ·exact ho x hx
   ·rfl
 ·obtain ⟨j,hj⟩:=List.getElem?_of_mem ht
  rw [row_app h.nd fun x hx=>(h.ord j t hj x hx).up menuS_take (Nat.le_refl _) (Nat.le_refl _)]
  exact h.eqr t ht
 ·rw [row_app h.nd ho]
  exact he
theorem nd_of_wr {S:List Sh} {M:List (Wd0 × Nat)} {c:Nat} : ∀ {d:Nat} {x:DD},Nd M c d x→wrD S d x=0→Nd (menuS S) c d x
 | d+1,x,hx,hw=>by
  rcases hx.out with ⟨w,rfl⟩ | ⟨k,h1,h2,rfl⟩ | ⟨nm,as,rfl,h1,h2⟩
  ·exact .inl ⟨w,rfl⟩
  ·exact .inr (.inl ⟨k,h1,h2,rfl⟩)
  ·cases hF:shF S (tx nm) with
   | none=>rw [wr_none hF] at hw; exact absurd hw (by decide)
   | some s =>
    by_cases hl:as.length=s.c
    ·rw [wr_fit hF hl] at hw
     have hs:s ∈ S∧tx s.n=tx nm:=by
      unfold shF at hF
      exact ⟨List.mem_of_find?_eq_some hF,by simpa using List.find?_some hF⟩
     refine .inr (.inr ⟨nm,as,rfl,List.mem_map.mpr ⟨s,hs.1,by rw [tx_inj hs.2,hl]⟩,fun a ha=>⟨(h2 a ha).1,fun y hy=>?_⟩⟩)
     have q:=fstN_mem hw (wrL S d a) (List.mem_map.mpr ⟨a,ha,rfl⟩)
     exact nd_of_wr ((h2 a ha).2 y hy) (fstN_mem q _ (List.mem_map.mpr ⟨y,hy,rfl⟩))
    ·rw [wr_bad hF hl] at hw; exact absurd hw (by decide)
theorem exL_app {α:Type} {wd:Str→α} {S:List Sh} {n:Nat} {A:List (List α)} (xs ys:List DD) : exL wd S n A (xs++ys)=exL wd S n A xs++exL wd S n A ys:=by
 unfold exL
 rw [List.map_append,List.flatten_append]
theorem exL_take {α:Type} {wd:Str→α} {S:List Sh} {n:Nat} {A:List (List α)} (xs:List DD) (k:Nat) : (exL wd S n A (xs.take k)).length≤(exL wd S n A xs).length:=by
 conv=>rhs; rw [← List.take_append_drop k xs]
 rw [exL_app,List.length_append]
 omega
theorem sb_take {β:Type} {wd:Str→β} {G:List (List β)} (l:List (Str ⊕ Nat)) (k:Nat) : (sb wd G (l.take k)).length≤(sb wd G l).length:=by
 conv=>rhs; rw [← List.take_append_drop k l]
 rw [sb_app,List.length_append]
 omega
theorem small2000 {n:Nat} (h:n≤3000) : n < sizeLine:=Nat.lt_of_le_of_lt h (by decide)
theorem cutTk (vs:List V) (k:Nat) : cutV vs none (some (k:Int))=vs.take k:=by
 unfold cutV
 rw [HT.sIx_none,HT.sIx_nat,List.drop_zero,Nat.sub_zero]
 by_cases h:k≤vs.length
 ·rw [Nat.min_eq_left h]
 ·rw [Nat.min_eq_right (by omega),List.take_of_length_le (Nat.le_refl _),List.take_of_length_le (by omega)]
theorem Reps.take {K:PySem.W.Frag} {H:Hp} : ∀ {l:List DD} {xs:List V} (n:Nat),Reps K H l xs→Reps K H (l.take n) (xs.take n)
 | l,xs,0,h=>by rw [List.take_zero,List.take_zero]; exact Reps.nil
 | [],xs,n+1,h=>by unfold Reps at h; rw [h]; exact Reps.nil
 | d :: l,xs,n+1,h=>by
  unfold Reps at h
  obtain ⟨y,r,rfl,h3,h4⟩:=h
  exact Reps.cons h3 (Reps.take n h4)
theorem reps_strs {K:PySem.W.Frag} {H:Hp} : ∀ ns:List Str,Reps K H (ns.map DD.str) (ns.map V.str)
 | []=>Reps.nil
 | n :: r=>Reps.cons (rep_str n) (reps_strs r)
def ArgAt (H:Hp) (ga:Addr) (A:List (List Str)) : Prop:=∃ bs:List Addr,H ga=some (.lst (bs.map V.ref))∧bs.length=A.length∧∀ (i:Nat) b,bs[i]? = some b→H b=some (.lst ((A.getD i []).map V.str))
theorem ArgAt.mono {H H':Hp} {ga:Addr} {A:List (List Str)} (s:Same H H') (h:ArgAt H ga A) : ArgAt H' ga A:=by
 obtain ⟨bs,h1,h2,h3⟩:=h
 exact ⟨bs,s _ _ h1,h2,fun i b e=>s _ _ (h3 i b e)⟩
def FlAt (K:PySem.W.Frag) (B G:Hp) (fa:Addr) (S:List Sh) (i:Nat) : Prop:=∃ kvs:List (Key × V),G fa=some (.dK kvs)∧kvs.length≤i∧∀ (j:Nat) s,j < i→S[j]? = some s→∃ b vs,valV kvs (.inr (tx s.n))=some (.ref b)∧G b=some (.lst vs)∧Reps K B ((FL S s).map lfD) vs
theorem FlAt.mono {K:PySem.W.Frag} {B B' G G':Hp} {fa:Addr} {S:List Sh} {i:Nat} (s0:Same B B') (s:Same G G') (h:FlAt K B G fa S i) : FlAt K B' G' fa S i:=by
 obtain ⟨kvs,h1,h2,h3⟩:=h
 exact ⟨kvs,s _ _ h1,h2,fun j t hj ej=>by obtain ⟨b,vs,a1,a2,a3⟩:=h3 j t hj ej; exact ⟨b,vs,a1,s _ _ a2,a3.mono s0⟩⟩
theorem putK_le {kvs:List (Key × V)} {k:Key} {v:V} : (putK kvs k v).length≤kvs.length+1:=by
 unfold putK
 split
 ·rw [List.length_map]; omega
 ·rw [List.length_append]; exact Nat.le_refl _
mutual
def DD.calls:DD→Nat
 | .bl _=>0
 | .int _=>0
 | .str _=>0
 | .tup l=>(if l.length=3 then 1 else 0)+callsL l
 | .lst l=>callsL l
def callsL:List DD→Nat
 | []=>0
 | d :: l=>d.calls+callsL l
end
theorem calls_cons (a:DD) (l:List DD) : callsL (a :: l)=a.calls+callsL l:=by rw [callsL]
theorem calls_app:∀ (l l2:List DD),callsL (l++l2)=callsL l+callsL l2
 | [],l2=>by show callsL l2=callsL []+callsL l2; unfold callsL; omega
 | d :: l,l2=>by
  show callsL (d :: (l++l2))=_
  rw [calls_cons,calls_cons,calls_app l l2]
  omega
theorem calls_one (d:DD) : callsL [d]=d.calls:=by
 unfold callsL
 show d.calls+callsL []=_
 unfold callsL
 omega
theorem calls_wd (w:Wd0) : (wdD w).calls=0:=by simp [wdD,DD.calls,callsL]
theorem calls_pl (k:Nat) : (plD k).calls=0:=by simp [plD,DD.calls,callsL]
theorem calls_cl (n:Wd0) (as:List (List DD)) : (clD n as).calls=1+callsL (as.map DD.lst):=by simp [clD,DD.calls,callsL]
theorem calls_lst (l:List DD) : (DD.lst l).calls=callsL l:=by rw [DD.calls]
theorem cal_le {S:List Sh} (h:∀ s ∈ S,0≤s.k∧s.k≤60) {M:List (Wd0 × Nat)} {c:Nat} : ∀ {d:Nat} {x:DD},Nd M c d x→0≤szC S d x∧szC S d x≤61 * (x.calls:Int)
 | d+1,x,hx=>by
  rcases hx.out with ⟨w,rfl⟩ | ⟨k,h1,h2,rfl⟩ | ⟨nm,as,rfl,h1,h2⟩
  ·rw [sc_wd,calls_wd]; exact ⟨Int.le_refl _,Int.le_refl _⟩
  ·rw [sc_pl,calls_pl]; exact ⟨Int.le_refl _,Int.le_refl _⟩
  ·have q1:∀ l:List DD,(∀ y ∈ l,Nd M c d y)→0≤calL S d l∧calL S d l≤61 * (callsL l:Int):=fun l=>by
    induction l with
    | nil=>intro _; simp [calL,callsL]
    | cons y r ih =>
     intro hy
     have a1:=ih fun z hz=>hy z (List.mem_cons_of_mem _ hz)
     have a2:=cal_le h (hy y List.mem_cons_self)
     have e:calL S d (y :: r)=szC S d y+calL S d r:=by unfold calL; rw [List.map_cons,List.sum_cons]
     rw [e,calls_cons]
     omega
   have q2:∀ as:List (List DD),(∀ a ∈ as,∀ y ∈ a,Nd M c d y)→0≤(as.map (calL S d)).sum∧(as.map (calL S d)).sum≤61 * (callsL (as.map DD.lst) : Int):=fun as=>by
    induction as with
    | nil=>intro _; simp [callsL]
    | cons a r ih =>
     intro hy
     have a1:=ih fun z hz=>hy z (List.mem_cons_of_mem _ hz)
     have a2:=q1 a (hy a List.mem_cons_self)
     rw [List.map_cons,List.sum_cons,List.map_cons,calls_cons,calls_lst]
     omega
   have q:=q2 as fun a ha y hy=>(h2 a ha).2 y hy
   rw [calls_cl]
   cases hF:shF S (tx nm) with
   | none =>
    have:szC S (d+1) (clD nm as)=0:=by
     show (match shF S (tx nm) with | none=>0 | some s=>1+s.k+((as.map DD.lst).map fun a=>((ddL a).map (szC S d)).sum).sum)=0
     rw [hF]
    omega
   | some s =>
    rw [sc_cl hF]
    have hs:s ∈ S:=by unfold shF at hF; exact List.mem_of_find?_eq_some hF
    have:=h s hs
    omega
theorem calL_le {S:List Sh} (h:∀ s ∈ S,0≤s.k∧s.k≤60) {M:List (Wd0 × Nat)} {c d:Nat} : ∀ {l:List DD},(∀ y ∈ l,Nd M c d y)→0≤calL S d l∧calL S d l≤61 * (callsL l:Int)
 | [],_=>by simp [calL,callsL]
 | y :: r,hy=>by
  have a1:=calL_le h (l:=r) fun z hz=>hy z (List.mem_cons_of_mem _ hz)
  have a2:=cal_le h (hy y List.mem_cons_self)
  have e:calL S d (y :: r)=szC S d y+calL S d r:=by unfold calL; rw [List.map_cons,List.sum_cons]
  rw [e,calls_cons]
  omega
def tcl:List Gf→Nat
 | []=>0
 | [g]=>callsL g.xs+callsL (g.ds.map DD.lst)
 | g :: h :: r=>callsL g.xs+callsL (g.ds.map DD.lst)+1+tcl (h :: r)
def lfS:Str ⊕ Nat→Str
 | .inl x=>x
 | .inr _=>tx []
theorem sb_lf:∀ {l:List (Str ⊕ Nat)},(∀ y ∈ l,lfOk 0 y)→sb id [] l=l.map lfS
 | [],_=>rfl
 | .inl x :: r,h=>by
  show [x]++sb id [] r=_
  rw [sb_lf fun y hy=>h y (List.mem_cons_of_mem _ hy)]
  rfl
 | .inr k :: r,h=>by
  have:1≤k∧k≤0:=h (.inr k) List.mem_cons_self
  omega
theorem wt_nil {α:Type} {f:Nat→Int} : dot f (wt ([] : List (List α))) 0=f 0:=by show f 0 * 1=_; omega
section
variable {X:Cx}
end
def Cat {α:Type} (R:α→V→List Addr→Prop) : List α→List V→List Addr→Prop
 | [],vs,l=>vs=[]∧l=[]
 | x :: xs,vs,l=>∃ v vr l1 l2,vs=v :: vr∧l=l1++l2∧R x v l1∧Cat R xs vr l2
section
variable {α:Type} {R R':α→V→List Addr→Prop}
theorem Cat.nil:Cat R [] [] []:=⟨rfl,rfl⟩
theorem Cat.snoc:∀ {xs:List α} {vs:List V} {l:List Addr} {x:α} {v:V} {l1:List Addr},Cat R xs vs l→R x v l1→Cat R (xs++[x]) (vs++[v]) (l++l1)
 | [],vs,l,x,v,l1,h,hx=>by
  obtain ⟨rfl,rfl⟩:=h
  exact ⟨v,[],l1,[],rfl,(List.append_nil _).symm,hx,rfl,rfl⟩
 | y :: xs,vs,l,x,v,l1,h,hx=>by
  obtain ⟨w,vr,a,b,rfl,rfl,h1,h2⟩:=h
  exact ⟨w,vr++[v],a,b++l1,rfl,List.append_assoc _ _ _,h1,Cat.snoc h2 hx⟩
theorem Cat.imp:∀ {xs:List α} {vs:List V} {l:List Addr},(∀ x ∈ xs,∀ v l,R x v l→R' x v l)→Cat R xs vs l→Cat R' xs vs l
 | [],_,_,_,h=>h
 | y :: xs,vs,l,hi,h=>by
  obtain ⟨w,vr,a,b,h0,h0',h1,h2⟩:=h
  exact ⟨w,vr,a,b,h0,h0',hi y List.mem_cons_self _ _ h1,Cat.imp (fun x hx=>hi x (List.mem_cons_of_mem _ hx)) h2⟩
theorem Cat.len:∀ {xs:List α} {vs:List V} {l:List Addr},Cat R xs vs l→vs.length=xs.length
 | [],_,_,h=>by rw [h.1]; rfl
 | y :: xs,vs,l,h=>by
  obtain ⟨w,vr,a,b,rfl,_,_,h2⟩:=h
  rw [List.length_cons,List.length_cons,h2.len]
end
def ApG (H:Hp) (N:DD→V→List Addr→Prop) (a:List DD) (y:V) (l:List Addr) : Prop:=∃ b vs l',y = .ref b∧H b=some (.lst vs)∧l=b :: l'∧a.length≤30000∧Cat N a vs l'
def ApN (K:PySem.W.Frag) (H:Hp) : Nat→DD→V→List Addr→Prop
 | 0,_,_,_=>False
 | d+1,x,v,l=>(Rep K H x v∧l=[]∧((∃ w,x=wdD w)∨∃ k,x=plD k))∨∃ n as t b ys l',x=clD n as∧v = .ref t∧H t=some (.tup [.str (PySem.Str.ofString "call"),.str (tx n),.ref b])∧H b=some (.lst ys)∧l=b :: l'∧as.length≤10∧Cat (ApG H (ApN K H d)) as ys l'
theorem ApN.out {K:PySem.W.Frag} {H:Hp} {d:Nat} {x:DD} {v:V} {l:List Addr} (h:ApN K H (d+1) x v l) : (Rep K H x v∧l=[]∧((∃ w,x=wdD w)∨∃ k,x=plD k))∨∃ n as t b ys l',x=clD n as∧v = .ref t∧H t=some (.tup [.str (PySem.Str.ofString "call"),.str (tx n),.ref b])∧H b=some (.lst ys)∧l=b :: l'∧as.length≤10∧Cat (ApG H (ApN K H d)) as ys l':=h
theorem ApG.mono {H H':Hp} {N N':DD→V→List Addr→Prop} (s:Same H H') {a:List DD} {y:V} {l:List Addr} (hN:∀ x ∈ a,∀ v l,N x v l→N' x v l) (h:ApG H N a y l) : ApG H' N' a y l:=by
 obtain ⟨b,vs,l',h1,h2,h3,h4,h5⟩:=h
 exact ⟨b,vs,l',h1,s _ _ h2,h3,h4,h5.imp hN⟩
theorem ApN.mono {K:PySem.W.Frag} {H H':Hp} (s:Same H H') : ∀ {d:Nat} {x:DD} {v:V} {l:List Addr},ApN K H d x v l→ApN K H' d x v l
 | d+1,x,v,l,h=>by
  rcases h.out with ⟨h1,h2,h3⟩ | ⟨n,as,t,b,ys,l',h1,h2,h3,h4,h5,h6,h7⟩
  ·exact .inl ⟨h1.mono s,h2,h3⟩
  ·exact .inr ⟨n,as,t,b,ys,l',h1,h2,s _ _ h3,s _ _ h4,h5,h6,h7.imp fun a _ y l z=>z.mono s fun x _ v l z=>ApN.mono s z⟩
theorem Cat.mono {K:PySem.W.Frag} {H H':Hp} (s:Same H H') {d:Nat} {xs:List DD} {vs:List V} {l:List Addr} (h:Cat (ApN K H d) xs vs l) : Cat (ApN K H' d) xs vs l:=h.imp fun _ _ _ _ z=>z.mono s
theorem Cat.reps {K:PySem.W.Frag} {H:Hp} {α:Type} {R:α→V→List Addr→Prop} {f:α→DD} : ∀ {xs:List α} {vs:List V} {l:List Addr},(∀ x ∈ xs,∀ v l,R x v l→Rep K H (f x) v)→Cat R xs vs l→Reps K H (xs.map f) vs
 | [],vs,l,_,h=>by rw [h.1]; exact Reps.nil
 | x :: xs,vs,l,hi,h=>by
  obtain ⟨w,vr,a,b,rfl,_,h1,h2⟩:=h
  exact Reps.cons (hi x List.mem_cons_self _ _ h1) (Cat.reps (fun x hx=>hi x (List.mem_cons_of_mem _ hx)) h2)
theorem ApN.rep {K:PySem.W.Frag} {H:Hp} : ∀ {d:Nat} {x:DD} {v:V} {l:List Addr},ApN K H d x v l→Rep K H x v
 | d+1,x,v,l,h=>by
  rcases h.out with ⟨h1,h2,h3⟩ | ⟨n,as,t,b,ys,l',rfl,rfl,h3,h4,h5,h6,h7⟩
  ·exact h1
  ·refine rep_tup (SqT.of h3) (by simp) (Reps.cons (rep_str _) (Reps.cons (rep_str _) (Reps.cons (rep_lst (SqL.of h4) (by rw [List.length_map]; omega) ?_) Reps.nil)))
   refine h7.reps fun a _ y l z=>?_
   obtain ⟨b,vs,l',rfl,z2,z3,z4,z5⟩:=z
   have:=z5.reps (f:=id) fun x _ v l z=>ApN.rep z
   rw [List.map_id] at this
   exact rep_lst (SqL.of z2) (by omega) this
theorem Cat.rep {K:PySem.W.Frag} {H:Hp} {d:Nat} {xs:List DD} {vs:List V} {l:List Addr} (h:Cat (ApN K H d) xs vs l) : Reps K H xs vs:=by
 have:=h.reps (f:=id) fun x _ v l z=>ApN.rep z
 rw [List.map_id] at this
 exact this
structure NewL (H H':Hp) (l:List Addr) : Prop where
 nd:l.Nodup
 new:∀ b ∈ l,H b=none
 at':∀ b ∈ l,∃ o,H' b=some (.lst o)∧o.length≤30000
theorem NewL.nil {H H':Hp} : NewL H H' []:=⟨List.nodup_nil,fun b hb=>(by cases hb),fun b hb=>(by cases hb)⟩
theorem NewL.up {H H' H2:Hp} {l:List Addr} (h:NewL H H' l) (s:Same H' H2) : NewL H H2 l:=⟨h.nd,h.new,fun b hb=>by obtain ⟨o,h1,h2⟩:=h.at' b hb; exact ⟨o,s _ _ h1,h2⟩⟩
theorem NewL.app {H G G':Hp} {l l2:List Addr} (h:NewL H G l) (s:Same H G) (s2:Same G G') (h2:NewL G G' l2) : NewL H G' (l++l2):=by
 refine ⟨List.nodup_append.mpr ⟨h.nd,h2.nd,fun a ha b hb e=>?_⟩,fun b hb=>?_,fun b hb=>?_⟩
 ·subst e
  obtain ⟨o,h3,_⟩:=h.at' a ha
  rw [h2.new a hb] at h3
  cases h3
 ·rcases List.mem_append.mp hb with hb | hb
  ·exact h.new b hb
  ·exact s.free (h2.new b hb)
 ·rcases List.mem_append.mp hb with hb | hb
  ·exact (h.up s2).at' b hb
  ·exact h2.at' b hb
theorem NewL.one {H G G':Hp} {l:List Addr} {p:Addr} {o:List V} (h:NewL H G l) (s:Same H G) (s2:Same G G') (hp:G p=none) (hk:G' p=some (.lst o)) (ho:o.length≤30000) : NewL H G' (p :: l):=by
 refine ⟨List.nodup_cons.mpr ⟨fun z=>?_,h.nd⟩,fun b hb=>?_,fun b hb=>?_⟩
 ·obtain ⟨o,h3,_⟩:=h.at' p z
  rw [hp] at h3
  cases h3
 ·rcases List.mem_cons.mp hb with rfl | hb
  ·exact s.free hp
  ·exact h.new b hb
 ·rcases List.mem_cons.mp hb with rfl | hb
  ·exact ⟨o,hk,ho⟩
  ·exact (h.up s2).at' b hb
def mxE (B H G:Hp) (os:List Addr) : Hp:=fun b=>if b ∈ os then none else match H b with
 | none=>G b
 | some _=>B b
section
variable {B H G G' G2:Hp} {os:List Addr} {pt:Addr}
theorem mxE_new {b:Addr} {o:HO} (h0:H b=none) (h1:b ∉ os) (h:G b=some o) : mxE B H G os b=some o:=by
 unfold mxE
 rw [if_neg h1,h0]
 exact h
theorem mxE_of {b:Addr} {o:HO} (h:mxE B H G os b=some o) : b ∉ os∧((H b=none∧G b=some o)∨B b=some o):=by
 unfold mxE at h
 split at h
 ·cases h
 ·rename_i z
  cases e:H b with
  | none=>rw [e] at h; exact ⟨z,.inl ⟨rfl,h⟩⟩
  | some q=>rw [e] at h; exact ⟨z,.inr h⟩
theorem mxE_old (sB:Same B H) {b:Addr} {o:HO} (h1:b ∉ os) (h:B b=some o) : mxE B H G os b=some o:=by
 unfold mxE
 rw [if_neg h1,sB b o h]
 exact h
theorem mxE_base (sB:Same B H) (ho:∀ b ∈ os,B b=none) : Same B (mxE B H G os):=fun b o h=>mxE_old sB (fun z=>by rw [ho b z] at h; cases h) h
theorem mxE_step (sB:Same B H) (h:∀ b o,b ∉ os→G b=some o→G2 b=some o) : Same (mxE B H G os) (mxE B H G2 os):=fun b o hb=>by
 obtain ⟨h1,h2 | h2⟩:=mxE_of hb
 ·exact mxE_new h2.1 h1 (h b o h1 h2.2)
 ·exact mxE_old sB h1 h2
theorem mxE_in (sB:Same B H) (s1:Same H G) {x:HO} (hpt:H pt=none) (hp:G pt=some x) (h:∀ b o,b≠pt→G' b=some o→G2 b=some o) : Same (mxE B G G' []) (mxE B H G2 [pt]):=fun b o hb=>by
 obtain ⟨_,h2 | h2⟩:=mxE_of hb
 ·have nb:b≠pt:=fun z=>by rw [z,hp] at h2; cases h2.1
  exact mxE_new (s1.free h2.1) (by simpa using nb) (h b o nb h2.2)
 ·have nb:b≠pt:=fun z=>by rw [z] at h2; rw [sB _ _ h2] at hpt; cases hpt
  exact mxE_old sB (by simpa using nb) h2
theorem mxE_nil (sB:Same B H) : Same (mxE B H G os) (mxE B H G []):=fun b o hb=>by
 obtain ⟨h1,h2 | h2⟩:=mxE_of hb
 ·exact mxE_new h2.1 (by simp) h2.2
 ·exact mxE_old sB (by simp) h2
theorem mxE_out (sB:Same B H) (s1:Same H G) : Same (mxE B H G os) G:=fun b o hb=>by
 obtain ⟨h1,h2 | h2⟩:=mxE_of hb
 ·exact h2.2
 ·exact s1 _ _ (sB _ _ h2)
end
def thD (k:Nat) : Nat→DD→Bool
 | _+1,.tup [_,.int j]=>decide (j=(k:Int))
 | d+1,.tup [_,.str _,.lst as]=>as.any fun a=>(ddL a).any (thD k d)
 | _,_=>false
theorem th_wd {k d:Nat} {w:Wd0} : thD k (d+1) (wdD w)=false:=rfl
theorem th_pl {k d j:Nat} : thD k (d+1) (plD j)=decide (j=k):=by
 show decide ((j:Int)=(k:Int))=_
 by_cases h:j=k
 ·rw [decide_eq_true h,decide_eq_true (by omega)]
 ·rw [decide_eq_false h,decide_eq_false (by omega)]
theorem th_cl {k d:Nat} {n:Wd0} {as:List (List DD)} : thD k (d+1) (clD n as)=as.any fun a=>a.any (thD k d):=by
 show (as.map DD.lst).any (fun a=>(ddL a).any (thD k d))=_
 rw [List.any_map]
 rfl
theorem arg_zero (r:List Int) : ∀ (l:List Int) (i:Nat),(∀ y ∈ l,y=0)→argS r i l=0
 | [],i,_=>rfl
 | z :: l,i,h=>by
  show r.getD i 0 * z+argS r (i+1) l=0
  rw [h z List.mem_cons_self,Int.mul_zero,arg_zero r l (i+1) fun y hy=>h y (List.mem_cons_of_mem _ hy)]
  rfl
theorem sumN {f:DD→Int} {t:DD→Bool} : ∀ {l:List DD},(∀ y ∈ l,(t y=true→1≤f y)∧(t y=false→f y=0))→0≤(l.map f).sum∧(l.any t=true→1≤(l.map f).sum)∧(l.any t=false→(l.map f).sum=0)
 | [],_=>⟨Int.le_refl _,fun h=>(by cases h),fun _=>rfl⟩
 | y :: l,h=>by
  obtain ⟨q0,q1,q2⟩:=sumN (f:=f) (t:=t) (l:=l) fun z hz=>h z (List.mem_cons_of_mem _ hz)
  obtain ⟨r1,r2⟩:=h y List.mem_cons_self
  rw [List.map_cons,List.sum_cons,List.any_cons]
  cases e:t y with
  | true =>
   have:=r1 e
   exact ⟨by omega,fun _=>by omega,fun z=>by cases z⟩
  | false =>
   have:=r2 e
   rw [Bool.false_or]
   exact ⟨by omega,fun z=>by have:=q1 z; omega,fun z=>by have:=q2 z; omega⟩
theorem th_sz {S:List Sh} (h:ShX S) {c k:Nat} (hk:1≤k) : ∀ {d:Nat} {x:DD},Nd (menuS S) c d x→(thD k d x=true→1≤szR S k d x)∧(thD k d x=false→szR S k d x=0)
 | d+1,x,hx=>by
  rcases hx.out with ⟨w,rfl⟩ | ⟨j,h1,h2,rfl⟩ | ⟨nm,as,rfl,h1,h2⟩
  ·rw [th_wd,sz_wd,if_neg (by omega)]
   exact ⟨fun z=>(by cases z),fun _=>rfl⟩
  ·rw [th_pl,sz_pl]
   by_cases e:j=k
   ·rw [decide_eq_true e,if_pos e]; exact ⟨fun _=>Int.le_refl _,fun z=>by cases z⟩
   ·rw [decide_eq_false e,if_neg e]; exact ⟨fun z=>(by cases z),fun _=>rfl⟩
  ·obtain ⟨j,s,_,_,hs,e1,e2,hF⟩:=call_of (i:=S.length) h.nd (by rw [List.take_of_length_le (Nat.le_refl _)]; exact h1)
   rw [th_cl,sz_cl hF,if_neg (by omega)]
   have q:∀ a ∈ as,0≤(a.map (szR S k d)).sum∧(a.any (thD k d)=true→1≤(a.map (szR S k d)).sum)∧(a.any (thD k d)=false→(a.map (szR S k d)).sum=0):=fun a ha=>sumN fun y hy=>th_sz h hk ((h2 a ha).2 y hy)
   obtain ⟨g0,g1⟩:=arg_ge s.r (as.map fun a=>(a.map (szR S k d)).sum) 1 (fun j h1 h2=>h.pos s hs j h1 (by rw [List.length_map] at h2; omega)) fun y hy=>by
    obtain ⟨a,ha,rfl⟩:=List.mem_map.mp hy
    exact (q a ha).1
   refine ⟨fun z=>?_,fun z=>?_⟩
   ·obtain ⟨a,ha,hz⟩:=List.any_eq_true.mp z
    have:=g1 _ (List.mem_map.mpr ⟨a,ha,rfl⟩)
    have:=(q a ha).2.1 hz
    omega
   ·rw [arg_zero]
    ·rfl
    ·intro y hy
     obtain ⟨a,ha,rfl⟩:=List.mem_map.mp hy
     refine (q a ha).2.2 ?_
     have:=List.any_eq_false.mp z a ha
     simpa using this
theorem th_row {S:List Sh} (h:ShX S) {c d k:Nat} (hk:1≤k) {xs:List DD} (hx:∀ x ∈ xs,Nd (menuS S) c d x) : decide ((xs.map (szR S k d)).sum=0) = !(xs.any (thD k d)):=by
 obtain ⟨_,q1,q2⟩:=sumN (f:=szR S k d) (t:=thD k d) (l:=xs) fun y hy=>th_sz h hk (hx y hy)
 cases e:xs.any (thD k d) with
 | true=>have:=q1 e; rw [decide_eq_false (by omega)]; rfl
 | false=>rw [decide_eq_true (q2 e)]; rfl
def mis (c d:Nat) (xs:List DD) : Bool:=(List.range c).any fun k=>!(xs.any (thD (k+1) d))
theorem rwL_tl {f:Nat→Int} {c:Nat} : rwL f c=f 0 :: (List.range c).map fun k=>f (k+1):=by
 unfold rwL
 rw [List.range_succ_eq_map,List.map_cons,List.map_map]
 rfl
theorem mis_row {S:List Sh} (h:ShX S) {c d:Nat} {xs:List DD} (hx:∀ x ∈ xs,Nd (menuS S) c d x) : ((List.range c).any fun k=>decide ((xs.map (szR S (k+1) d)).sum=0))=mis c d xs:=by
 unfold mis
 refine congrArg (fun f=>(List.range c).any f) (funext fun k=>?_)
 exact th_row h (by omega) hx
def Ns (M:List (Wd0 × Nat)) (c:Nat) : Nat→DD→Prop
 | 0,_=>False
 | d+1,x=>(∃ w,x=wdD w)∨(∃ k,1≤k∧k≤c∧x=plD k)∨∃ n as,x=clD n as∧(n,as.length) ∈ M∧∀ a ∈ as,∀ y ∈ a,Ns M c d y
theorem Ns.out {M:List (Wd0 × Nat)} {c d:Nat} {x:DD} (h:Ns M c (d+1) x) : (∃ w,x=wdD w)∨(∃ k,1≤k∧k≤c∧x=plD k)∨∃ n as,x=clD n as∧(n,as.length) ∈ M∧∀ a ∈ as,∀ y ∈ a,Ns M c d y:=h
theorem Ns.pos {M:List (Wd0 × Nat)} {c d:Nat} {x:DD} (h:Ns M c d x) : ∃ e,d=e+1:=by
 cases d with
 | zero=>exact h.elim
 | succ e=>exact ⟨e,rfl⟩
theorem Nd.ns {M:List (Wd0 × Nat)} {c:Nat} : ∀ {d:Nat} {x:DD},Nd M c d x→Ns M c d x
 | d+1,x,h=>by
  rcases h.out with ⟨w,rfl⟩ | ⟨k,h1,h2,rfl⟩ | ⟨n,as,rfl,h1,h2⟩
  ·exact .inl ⟨w,rfl⟩
  ·exact .inr (.inl ⟨k,h1,h2,rfl⟩)
  ·exact .inr (.inr ⟨n,as,rfl,h1,fun a ha y hy=>Nd.ns ((h2 a ha).2 y hy)⟩)
theorem Ns.up {M M':List (Wd0 × Nat)} {c:Nat} (hM:∀ x ∈ M,x ∈ M') : ∀ {d d':Nat} {x:DD},d≤d'→Ns M c d x→Ns M' c d' x
 | d+1,d',x,hd,h=>by
  obtain ⟨e,rfl⟩ : ∃ e,d' = e+1:=⟨d' - 1,by omega⟩
  rcases h.out with ⟨w,rfl⟩ | ⟨k,h1,h2,rfl⟩ | ⟨n,as,rfl,h1,h2⟩
  ·exact .inl ⟨w,rfl⟩
  ·exact .inr (.inl ⟨k,h1,h2,rfl⟩)
  ·exact .inr (.inr ⟨n,as,rfl,hM _ h1,fun a ha y hy=>Ns.up hM (by omega) (h2 a ha y hy)⟩)

mutual
def DD.lv:DD→Nat
 | .bl _=>0
 | .int _=>0
 | .str _=>0
 | .tup l=>(if l.length=2 then 1 else 0)+lvL l
 | .lst l=>lvL l
def lvL:List DD→Nat
 | []=>0
 | d :: l=>d.lv+lvL l
end
theorem lv_nil:lvL []=0:=by rw [lvL]
theorem lv_cons (a:DD) (l:List DD) : lvL (a :: l)=a.lv+lvL l:=by rw [lvL]
theorem lv_lst (l:List DD) : (DD.lst l).lv=lvL l:=by rw [DD.lv]
theorem lv_wd (w:Wd0) : (wdD w).lv=1:=by simp [wdD,DD.lv,lvL]
theorem lv_pl (k:Nat) : (plD k).lv=1:=by simp [plD,DD.lv,lvL]
theorem lv_cl (n:Wd0) (as:List (List DD)) : (clD n as).lv=lvL (as.map DD.lst):=by simp [clD,DD.lv,lvL]
theorem calls_nil:callsL []=0:=by rw [callsL]
theorem len_lv {M:List (Wd0 × Nat)} {c d:Nat} : ∀ {l:List DD},(∀ x ∈ l,Ns M c d x)→l.length≤lvL l+callsL l
 | [],_=>Nat.zero_le _
 | x :: r,h=>by
  have q1:=len_lv (l:=r) fun y hy=>h y (List.mem_cons_of_mem _ hy)
  have q2:1≤x.lv+x.calls:=by
   have hx:=h x List.mem_cons_self
   obtain ⟨e,rfl⟩:=hx.pos
   rcases hx.out with ⟨w,rfl⟩ | ⟨k,h1,h2,rfl⟩ | ⟨n,as,rfl,h1,h2⟩
   ·rw [lv_wd]; omega
   ·rw [lv_pl]; omega
   ·rw [calls_cl]; omega
  rw [List.length_cons,lv_cons,calls_cons]
  omega
theorem lv_mem {l:List DD} {x:DD} (h:x ∈ l) : x.lv≤lvL l∧x.calls≤callsL l:=by
 induction l with
 | nil=>cases h
 | cons y r ih =>
  rw [lv_cons,calls_cons]
  rcases List.mem_cons.mp h with rfl | h
  ·omega
  ·have:=ih h
   omega
theorem Ns.nd {M:List (Wd0 × Nat)} {c:Nat} : ∀ {d:Nat} {x:DD},Ns M c d x→x.lv+x.calls≤300000→Nd M c d x
 | d+1,x,h,hl=>by
  rcases h.out with ⟨w,rfl⟩ | ⟨k,h1,h2,rfl⟩ | ⟨n,as,rfl,h1,h2⟩
  ·exact .inl ⟨w,rfl⟩
  ·exact .inr (.inl ⟨k,h1,h2,rfl⟩)
  ·rw [lv_cl,calls_cl] at hl
   refine .inr (.inr ⟨n,as,rfl,h1,fun a ha=>?_⟩)
   have q:=lv_mem (List.mem_map.mpr ⟨a,ha,rfl⟩ : DD.lst a ∈ as.map DD.lst)
   rw [lv_lst,calls_lst] at q
   have ql:=len_lv (h2 a ha)
   refine ⟨by omega,fun y hy=>Ns.nd (h2 a ha y hy) ?_⟩
   have:=lv_mem hy
   omega
theorem cl_inj {n n':Wd0} {as as':List (List DD)} (e:clD n as=clD n' as') : n=n'∧as=as':=by
 unfold clD at e
 injection e with e
 injection e with _ e
 injection e with e1 e
 injection e with e _
 injection e with e
 injection e1 with e1
 have e:=congrArg (fun z=>z.map ddL) e
 simp only [List.map_map] at e
 have q:∀ l:List (List DD),l.map (ddL ∘ DD.lst)=l:=fun l=>by
  have:(ddL ∘ DD.lst)=(id:List DD→List DD):=rfl
  rw [this,List.map_id]
 rw [q,q] at e
 exact ⟨tx_inj e1,e⟩
theorem ex_lenS {α:Type} {wd:Str→α} {S:List Sh} (h:ShX S) : ∀ {n c d:Nat} {M:List (Wd0 × Nat)} {A:List (List α)} {x:DD},En S n c x→Ns M c d x→((ex wd S n A x).length:Int)=dot (fun j=>szR S j d x) (wt A) c
 | n+1,c,d,M,A,x,he,hx=>by
  obtain ⟨d,rfl⟩:=hx.pos
  rcases he.out with ⟨w,rfl⟩ | ⟨k,h1,h2,rfl⟩ | ⟨nm,as,s,rfl,hF,h2,h3,h4,h5⟩
  ·have:=dot_one (W:=wt A) 1 c
   rw [ex_wd]
   show (1:Int)=_
   have e:dot (fun j=>szR S j (d+1) (wdD w)) (wt A) c=dot (fun j=>if j=0 then 1 else 0) (wt A) c:=dot_congr fun j _=>sz_wd
   rw [e,this]
   rfl
  ·rw [ex_pl]
   have e:dot (fun j=>szR S j (d+1) (plD k)) (wt A) c=dot (fun j=>if k=j then 1 else 0) (wt A) c:=dot_congr fun j _=>sz_pl
   rw [e,dot_pl,if_pos h2]
   obtain ⟨k,rfl⟩ : ∃ e,k=e+1:=⟨k - 1,by omega⟩
   rfl
  ·have hn:∀ a ∈ as,∀ y ∈ a,Ns M c d y:=by
    rcases hx.out with ⟨w,e⟩ | ⟨k,_,_,e⟩ | ⟨n',as',e,_,h'⟩
    ·exact absurd (congrArg (fun z=>match z with | DD.tup l=>l.length | _=>0) e) (by simp [clD,wdD])
    ·exact absurd (congrArg (fun z=>match z with | DD.tup l=>l.length | _=>0) e) (by simp [clD,plD])
    ·unfold clD at e
     injection e with e
     injection e with _ e
     injection e with _ e
     injection e with e _
     injection e with e
     have:as=as':=by
      have e:=congrArg (fun z=>z.map ddL) e
      simp only [List.map_map] at e
      have q:∀ l:List (List DD),l.map (ddL ∘ DD.lst)=l:=fun l=>by
       have:(ddL ∘ DD.lst)=(id:List DD→List DD):=rfl
       rw [this,List.map_id]
      rw [q,q] at e
      exact e
     rw [this]
     exact h'
   obtain ⟨j,hj⟩:=List.getElem?_of_mem h3
   rw [ex_cl hF]
   have e1:((exL wd S n (as.map (exL wd S n A)) s.ns).length:Int)=s.r.getD 0 0+argS s.r 1 ((as.map (exL wd S n A)).map fun g=>(g.length:Int)):=cl_len h h3 (by rw [List.length_map,h2]) h5
   have e3:(as.map (exL wd S n A)).map (fun g=>(g.length:Int))=as.map fun a=>dot (fun j=>(a.map (szR S j d)).sum) (wt A) c:=by
    rw [List.map_map]
    refine List.map_congr_left fun a ha=>?_
    show ((exL wd S n A a).length:Int)=_
    unfold exL
    rw [len_flat,dot_sum]
    refine congrArg List.sum (List.map_congr_left fun y hy=>?_)
    exact ex_lenS h (h4 a ha y hy) (hn a ha y hy)
   rw [e1,e3]
   have e4:dot (fun j=>szR S j (d+1) (clD nm as)) (wt A) c=dot (fun j=>(if j=0 then s.r.getD 0 0 else 0)+argS s.r 1 (as.map fun a=>(a.map (szR S j d)).sum)) (wt A) c:=dot_congr fun j _=>sz_cl hF
   rw [e4,dot_add,dot_one,dot_arg s.r (fun j (a:List DD)=>(a.map (szR S j d)).sum)]
   show _=s.r.getD 0 0 * 1+_
   omega
theorem exL_lenS {α:Type} {wd:Str→α} {S:List Sh} (h:ShX S) {n c d:Nat} {M:List (Wd0 × Nat)} {A:List (List α)} {xs:List DD} (he:∀ x ∈ xs,En S n c x) (hx:∀ x ∈ xs,Ns M c d x) : ((exL wd S n A xs).length:Int)=dot (fun j=>(xs.map (szR S j d)).sum) (wt A) c:=by
 unfold exL
 rw [len_flat,dot_sum]
 exact congrArg List.sum (List.map_congr_left fun y hy=>ex_lenS h (he y hy) (hx y hy))
theorem X_clE {α:Type} {wd:Str→α} {S:List Sh} {nm:Wd0} {as:List (List DD)} {s:Sh} {A:List (List α)} {c:Nat} (hF:shF S (tx nm)=some s) (has:∀ a ∈ as,∀ y ∈ a,En S 255 c y) (hb:∀ y ∈ s.ns,En S 255 s.c y) : ex wd S 256 A (clD nm as)=exL wd S 256 (as.map (exL wd S 256 A)) s.ns:=by
 rw [ex_cl hF]
 have e:as.map (exL wd S 255 A)=as.map (exL wd S 256 A):=List.map_congr_left fun a ha=>exL_congr fun y hy=>(ex_up (by decide) (has a ha y hy)).symm
 rw [e]
 exact exL_congr fun y hy=>(ex_up (by decide) (hb y hy)).symm
def fiD (A:List (List DD)) : Nat→DD→List DD
 | d+1,.tup [_,.str x,.lst as]=>[.tup [.str (PySem.Str.ofString "call"),.str x,.lst (as.map fun a=>.lst ((ddL a).map (fiD A d)).flatten)]]
 | _+1,.tup [_,.int k]=>A.getD (k - 1).toNat []
 | _,x=>[x]
def fiL (A:List (List DD)) (d:Nat) (xs:List DD) : List DD:=(xs.map (fiD A d)).flatten
section
variable {A:List (List DD)} {d k:Nat} {w n:Wd0} {as:List (List DD)}
theorem fi_wd:fiD A (d+1) (wdD w)=[wdD w]:=rfl
theorem fi_pl:fiD A (d+1) (plD k)=A.getD (k - 1) []:=by
 show A.getD ((k:Int) - 1).toNat []=_
 rw [show ((k:Int) - 1).toNat=k - 1 by omega]
theorem fi_cl:fiD A (d+1) (clD n as)=[clD n (as.map (fiL A d))]:=by
 show [DD.tup [.str (PySem.Str.ofString "call"),.str (tx n),.lst ((as.map DD.lst).map fun a=>.lst ((ddL a).map (fiD A d)).flatten)]]=_
 unfold clD
 rw [List.map_map,List.map_map]
 rfl
theorem fiL_snoc {xs:List DD} {i:Nat} {x:DD} (h:xs[i]? = some x) : fiL A d (xs.take (i+1))=fiL A d (xs.take i)++fiD A d x:=by
 unfold fiL
 rw [List.take_add_one,h,List.map_append,List.flatten_append]
 simp
theorem fiL_mem {xs:List DD} {z:DD} (h:z ∈ fiL A d xs) : ∃ x ∈ xs,z ∈ fiD A d x:=by
 unfold fiL at h
 obtain ⟨l,hl,hz⟩:=List.mem_flatten.mp h
 obtain ⟨x,hx,rfl⟩:=List.mem_map.mp hl
 exact ⟨x,hx,hz⟩
end
theorem getD_mem {α:Type} {A:List (List α)} {k:Nat} {z:α} (h:z ∈ A.getD k []) : ∃ a ∈ A,z ∈ a:=by
 rw [List.getD_eq_getElem?_getD] at h
 cases e:A[k]? with
 | none=>rw [e] at h; cases h
 | some a=>rw [e] at h; exact ⟨a,List.mem_of_getElem? e,h⟩
theorem fi_ns {M M':List (Wd0 × Nat)} {c c' e:Nat} {A:List (List DD)} (hM:∀ x ∈ M,x ∈ M') (hA:∀ a ∈ A,∀ x ∈ a,Ns M' c' e x) : ∀ {d:Nat} {y:DD},Ns M c d y→∀ z ∈ fiD A d y,Ns M' c' (d+e) z
 | d+1,y,h=>by
  intro z hz
  rcases h.out with ⟨w,rfl⟩ | ⟨k,h1,h2,rfl⟩ | ⟨n,as,rfl,h1,h2⟩
  ·rw [fi_wd] at hz
   rw [List.mem_singleton.mp hz,show d+1+e=(d+e)+1 by omega]
   exact .inl ⟨w,rfl⟩
  ·rw [fi_pl] at hz
   obtain ⟨a,ha,hz⟩:=getD_mem hz
   exact (hA a ha z hz).up (fun _ h=>h) (by omega)
  ·rw [fi_cl] at hz
   rw [List.mem_singleton.mp hz,show d+1+e=(d+e)+1 by omega]
   refine .inr (.inr ⟨n,_,rfl,by rw [List.length_map]; exact hM _ h1,fun b hb u hu=>?_⟩)
   obtain ⟨a,ha,rfl⟩:=List.mem_map.mp hb
   obtain ⟨v,hv,hu⟩:=fiL_mem hu
   exact fi_ns hM hA (h2 a ha v hv) u hu
theorem fi_en {S:List Sh} {c c' m:Nat} {A:List (List DD)} (hA:∀ a ∈ A,∀ x ∈ a,En S m c' x) : ∀ {d n:Nat} {M:List (Wd0 × Nat)} {y:DD},Ns M c d y→En S n c y→∀ z ∈ fiD A d y,En S (n+m) c' z
 | d+1,n,M,y,h,he=>by
  intro z hz
  cases n with
  | zero=>exact he.elim
  | succ n =>
  rcases h.out with ⟨w,rfl⟩ | ⟨k,h1,h2,rfl⟩ | ⟨nm,as,rfl,h1,h2⟩
  ·rw [fi_wd] at hz
   rw [List.mem_singleton.mp hz,show n+1+m=(n+m)+1 by omega]
   exact .inl ⟨w,rfl⟩
  ·rw [fi_pl] at hz
   obtain ⟨a,ha,hz⟩:=getD_mem hz
   exact (hA a ha z hz).up (by omega)
  ·rw [fi_cl] at hz
   rcases he.out with ⟨w,e⟩ | ⟨k,_,_,e⟩ | ⟨nm',as',s,e,hF,l1,hs,k1,k2⟩
   ·exact absurd (congrArg (fun z=>match z with | DD.tup l=>l.length | _=>0) e) (by simp [clD,wdD])
   ·exact absurd (congrArg (fun z=>match z with | DD.tup l=>l.length | _=>0) e) (by simp [clD,plD])
   ·obtain ⟨e1,e2⟩:=cl_inj e
    subst e1 e2
    rw [List.mem_singleton.mp hz,show n+1+m=(n+m)+1 by omega]
    refine .inr (.inr ⟨nm,_,s,rfl,hF,by rw [List.length_map]; exact l1,hs,fun b hb u hu=>?_,fun u hu=>(k2 u hu).up (by omega)⟩)
    obtain ⟨a,ha,rfl⟩:=List.mem_map.mp hb
    obtain ⟨v,hv,hu⟩:=fiL_mem hu
    exact fi_en hA (h2 a ha v hv) (k1 a ha v hv) u hu
theorem X_fi {α:Type} {wd:Str→α} {S:List Sh} {c c' m:Nat} {A:List (List DD)} {E:List (List α)} (hA:∀ a ∈ A,∀ x ∈ a,En S m c' x) : ∀ {d n:Nat} {M:List (Wd0 × Nat)} {y:DD},Ns M c d y→En S n c y→n+m≤255→exL wd S 256 E (fiD A d y)=ex wd S 256 (A.map (exL wd S 256 E)) y
 | d+1,n,M,y,h,he,hn=>by
  cases n with
  | zero=>exact he.elim
  | succ n =>
  rcases h.out with ⟨w,rfl⟩ | ⟨k,h1,h2,rfl⟩ | ⟨nm,as,rfl,h1,h2⟩
  ·rw [fi_wd]
   show ex wd S 256 E (wdD w)++[]=_
   rw [ex_wd,ex_wd]
   rfl
  ·rw [fi_pl,ex_pl,List.getD_eq_getElem?_getD,List.getD_eq_getElem?_getD,List.getElem?_map]
   cases A[k - 1]? <;> rfl
  ·have he':=he
   rcases he.out with ⟨w,e⟩ | ⟨k,_,_,e⟩ | ⟨nm',as',s,e,hF,l1,hs,k1,k2⟩
   ·exact absurd (congrArg (fun z=>match z with | DD.tup l=>l.length | _=>0) e) (by simp [clD,wdD])
   ·exact absurd (congrArg (fun z=>match z with | DD.tup l=>l.length | _=>0) e) (by simp [clD,plD])
   ·obtain ⟨e1,e2⟩:=cl_inj e
    subst e1 e2
    rw [fi_cl]
    show ex wd S 256 E (clD nm (as.map (fiL A d)))++[]=_
    rw [List.append_nil,X_clE (c:=c') hF (fun b hb u hu=>by
     obtain ⟨a,ha,rfl⟩:=List.mem_map.mp hb
     obtain ⟨v,hv,hu⟩:=fiL_mem hu
     exact (fi_en hA (h2 a ha v hv) (k1 a ha v hv) u hu).up (by omega)) (fun u hu=>(k2 u hu).up (by omega)),X_clE (c:=c) hF (fun a ha u hu=>(k1 a ha u hu).up (by omega)) (fun u hu=>(k2 u hu).up (by omega))]
    have e:(as.map (fiL A d)).map (exL wd S 256 E)=as.map (exL wd S 256 (A.map (exL wd S 256 E))):=by
     rw [List.map_map]
     refine List.map_congr_left fun a ha=>?_
     show exL wd S 256 E (fiL A d a)=_
     have q:∀ l:List DD,(∀ v ∈ l,v ∈ a)→exL wd S 256 E (fiL A d l)=exL wd S 256 (A.map (exL wd S 256 E)) l:=fun l=>by
      induction l with
      | nil=>intro _; rfl
      | cons v r ih =>
       intro hl
       have hv:=hl v List.mem_cons_self
       show exL wd S 256 E (fiD A d v++fiL A d r)=ex wd S 256 _ v++exL wd S 256 _ r
       rw [exL_app,ih fun u hu=>hl u (List.mem_cons_of_mem _ hu),X_fi hA (h2 a ha v hv) (k1 a ha v hv) (by omega)]
     exact q a fun v hv=>hv
    rw [e]
theorem XL_fi {α:Type} {wd:Str→α} {S:List Sh} {c c' m d n:Nat} {M:List (Wd0 × Nat)} {A:List (List DD)} {E:List (List α)} (hA:∀ a ∈ A,∀ x ∈ a,En S m c' x) (hn:n+m≤255) : ∀ {l:List DD},(∀ y ∈ l,Ns M c d y∧En S n c y)→exL wd S 256 E (fiL A d l)=exL wd S 256 (A.map (exL wd S 256 E)) l
 | [],_=>rfl
 | y :: r,h=>by
  show exL wd S 256 E (fiD A d y++fiL A d r)=ex wd S 256 _ y++exL wd S 256 _ r
  rw [exL_app,XL_fi hA hn fun u hu=>h u (List.mem_cons_of_mem _ hu),X_fi hA (h y List.mem_cons_self).1 (h y List.mem_cons_self).2 hn]
theorem calls_fl {c:Nat} {M:List (Wd0 × Nat)} {A:List (List DD)} {b:Nat} (hA:∀ a ∈ A,callsL a≤b) : ∀ {d:Nat} {y:DD},Ns M c d y→callsL (fiD A d y)≤y.calls+y.lv * b
 | d+1,y,h=>by
  rcases h.out with ⟨w,rfl⟩ | ⟨k,h1,h2,rfl⟩ | ⟨nm,as,rfl,h1,h2⟩
  ·rw [fi_wd,calls_one,calls_wd]; exact Nat.zero_le _
  ·rw [fi_pl,calls_pl,lv_pl,List.getD_eq_getElem?_getD]
   cases e:A[k - 1]? with
   | none=>show callsL []≤_; rw [calls_nil]; exact Nat.zero_le _
   | some a =>
    have:=hA a (List.mem_of_getElem? e)
    show callsL a≤_
    omega
  ·rw [fi_cl,calls_one,calls_cl,calls_cl,lv_cl]
   have q1:∀ l:List DD,(∀ v ∈ l,Ns M c d v)→callsL (fiL A d l)≤callsL l+lvL l * b:=fun l=>by
    induction l with
    | nil=>intro _; show callsL []≤_; rw [calls_nil]; exact Nat.zero_le _
    | cons v r ih =>
     intro hv
     have a1:=ih fun z hz=>hv z (List.mem_cons_of_mem _ hz)
     have a2:=calls_fl hA (hv v List.mem_cons_self)
     show callsL (fiD A d v++fiL A d r)≤_
     rw [calls_app,calls_cons,lv_cons,Nat.add_mul]
     omega
   have q2:∀ as:List (List DD),(∀ a ∈ as,∀ v ∈ a,Ns M c d v)→callsL ((as.map (fiL A d)).map DD.lst)≤callsL (as.map DD.lst)+lvL (as.map DD.lst) * b:=fun as=>by
    induction as with
    | nil=>intro _; show callsL []≤_; rw [calls_nil]; exact Nat.zero_le _
    | cons a r ih =>
     intro hv
     have a1:=ih fun z hz=>hv z (List.mem_cons_of_mem _ hz)
     have a2:=q1 a (hv a List.mem_cons_self)
     rw [List.map_cons,List.map_cons,List.map_cons,calls_cons,calls_cons,lv_cons,calls_lst,calls_lst,lv_lst,Nat.add_mul]
     omega
   have:=q2 as h2
   omega
theorem callsL_fl {c d:Nat} {M:List (Wd0 × Nat)} {A:List (List DD)} {b:Nat} (hA:∀ a ∈ A,callsL a≤b) : ∀ {l:List DD},(∀ v ∈ l,Ns M c d v)→callsL (fiL A d l)≤callsL l+lvL l * b
 | [],_=>by show callsL []≤_; rw [calls_nil]; exact Nat.zero_le _
 | v :: r,hv=>by
  have a1:=callsL_fl hA (l:=r) fun z hz=>hv z (List.mem_cons_of_mem _ hz)
  have a2:=calls_fl hA (hv v List.mem_cons_self)
  show callsL (fiD A d v++fiL A d r)≤_
  rw [calls_app,calls_cons,lv_cons,Nat.add_mul]
  omega
theorem lv_le {S:List Sh} (h:ShX S) {c:Nat} : ∀ {d:Nat} {x:DD},Ns (menuS S) c d x→(x.lv:Int)≤dot (fun j=>szR S j d x) (fun _=>1) c
 | d+1,x,hx=>by
  rcases hx.out with ⟨w,rfl⟩ | ⟨k,h1,h2,rfl⟩ | ⟨nm,as,rfl,h1,h2⟩
  ·have e:dot (fun j=>szR S j (d+1) (wdD w)) (fun _=>1) c=dot (fun j=>if j=0 then 1 else 0) (fun _=>1) c:=dot_congr fun j _=>sz_wd
   rw [e,dot_one,lv_wd]
   decide
  ·have e:dot (fun j=>szR S j (d+1) (plD k)) (fun _=>1) c=dot (fun j=>if k=j then 1 else 0) (fun _=>1) c:=dot_congr fun j _=>sz_pl
   rw [e,dot_pl,if_pos h2,lv_pl]
   decide
  ·obtain ⟨j,s,_,_,hs,e1,e2,hF⟩:=call_of (i:=S.length) h.nd (by rw [List.take_of_length_le (Nat.le_refl _)]; exact h1)
   have e4:dot (fun j=>szR S j (d+1) (clD nm as)) (fun _=>1) c=dot (fun j=>(if j=0 then s.r.getD 0 0 else 0)+argS s.r 1 (as.map fun a=>(a.map (szR S j d)).sum)) (fun _=>1) c:=dot_congr fun j _=>sz_cl hF
   rw [e4,dot_add,dot_one,dot_arg s.r (fun j (a:List DD)=>(a.map (szR S j d)).sum),lv_cl]
   have q:∀ a ∈ as,(lvL a:Int)≤dot (fun j=>(a.map (szR S j d)).sum) (fun _=>1) c:=fun a ha=>by
    rw [dot_sum]
    have q1:∀ l:List DD,(∀ v ∈ l,v ∈ a)→(lvL l:Int)≤(l.map fun x=>dot (fun j=>szR S j d x) (fun _=>1) c).sum:=fun l=>by
     induction l with
     | nil=>intro _; rw [lv_nil]; exact Int.le_refl _
     | cons v r ih =>
      intro hl
      have a1:=ih fun u hu=>hl u (List.mem_cons_of_mem _ hu)
      have a2:=lv_le h (h2 a ha v (hl v List.mem_cons_self))
      rw [lv_cons,List.map_cons,List.sum_cons]
      omega
    exact q1 a fun v hv=>hv
   have g0:0≤s.r.getD 0 0:=by
    rw [List.getD_eq_getElem?_getD]
    cases e:s.r[0]? with
    | none=>exact Int.le_refl _
    | some y=>exact h.nn s hs y (List.mem_of_getElem? e)
   have q3:∀ (as:List (List DD)) (i:Nat),(∀ a ∈ as,(lvL a:Int)≤dot (fun j=>(a.map (szR S j d)).sum) (fun _=>1) c)→(∀ j,i≤j→j < i+as.length→1≤s.r.getD j 0)→(lvL (as.map DD.lst) : Int)≤argS s.r i (as.map fun a=>dot (fun j=>(a.map (szR S j d)).sum) (fun _=>1) c):=fun as=>by
    induction as with
    | nil=>intro i _ _; rw [List.map_nil,lv_nil]; exact Int.le_refl _
    | cons a r ih =>
     intro i ha hr
     have a1:=ih (i+1) (fun b hb=>ha b (List.mem_cons_of_mem _ hb)) fun j h1 h2=>hr j (by omega) (by rw [List.length_cons]; omega)
     have a2:=ha a List.mem_cons_self
     have a3:=hr i (Nat.le_refl _) (by rw [List.length_cons]; omega)
     rw [List.map_cons,List.map_cons,lv_cons,lv_lst]
     show _≤s.r.getD i 0 * _+argS s.r (i+1) _
     have hz:(0:Int)≤dot (fun j=>(a.map (szR S j d)).sum) (fun _=>1) c:=by omega
     have:=Int.mul_le_mul_of_nonneg_right a3 hz
     omega
   have:=q3 as 1 q fun j h1 h2=>h.pos s hs j h1 (by omega)
   omega
theorem en_ns {S:List Sh} (h:ShX S) {c:Nat} : ∀ {d:Nat} {x:DD},Ns (menuS S) c d x→En S (d+96) c x
 | d+1,x,hx=>by
  rw [show d+1+96=(d+96)+1 by omega]
  rcases hx.out with ⟨w,rfl⟩ | ⟨k,h1,h2,rfl⟩ | ⟨nm,as,rfl,h1,h2⟩
  ·exact .inl ⟨w,rfl⟩
  ·exact .inr (.inl ⟨k,h1,h2,rfl⟩)
  ·obtain ⟨j,s,hj,ej,hs,e1,e2,hF⟩:=call_of (i:=S.length) h.nd (by rw [List.take_of_length_le (Nat.le_refl _)]; exact h1)
   have:=h.len
   exact .inr (.inr ⟨nm,as,s,rfl,hF,e2.symm,hs,fun a ha y hy=>en_ns h (h2 a ha y hy),fun y hy=>(en_of h j 24 s.c y (h.ord j s ej y hy)).up (by omega)⟩)
def stL' (f:Int→DD→List DD) : Int→List DD→List DD
 | _,[]=>[]
 | t,x :: r=>f t x++stL' f (t - (x.calls:Int)) r
def stA' (f:Int→DD→List DD) : Int→List (List DD)→List (List DD)
 | _,[]=>[]
 | t,a :: r=>stL' f t a :: stA' f (t - (callsL a:Int)) r
def stD (S:List Sh) : Nat→Int→DD→List DD
 | d+1,t,.tup [_,.str x,.lst as]=>if t=0 then (match shF S x with
   | none=>[]
   | some s=>fiL (as.map ddL) 12 s.ns) else [.tup [.str (PySem.Str.ofString "call"),.str x,.lst ((stA' (stD S d) (t - 1) (as.map ddL)).map DD.lst)]]
 | _,_,x=>[x]
def stL (S:List Sh) (d:Nat) (t:Int) (xs:List DD) : List DD:=stL' (stD S d) t xs
section
variable {S:List Sh} {d k:Nat} {t:Int} {w n:Wd0} {as:List (List DD)} {s:Sh}
theorem map_ddL (as:List (List DD)) : (as.map DD.lst).map ddL=as:=by
 rw [List.map_map]
 have:(ddL ∘ DD.lst)=(id:List DD→List DD):=rfl
 rw [this,List.map_id]
theorem st_wd:stD S (d+1) t (wdD w)=[wdD w]:=rfl
theorem st_pl:stD S (d+1) t (plD k)=[plD k]:=rfl
theorem st_cl0 (hF:shF S (tx n)=some s) : stD S (d+1) 0 (clD n as)=fiL as 12 s.ns:=by
 show (if (0:Int)=0 then (match shF S (tx n) with | none=>[] | some s=>fiL ((as.map DD.lst).map ddL) 12 s.ns) else _)=_
 rw [if_pos rfl,hF,map_ddL]
theorem st_cl1 (ht:t≠0) : stD S (d+1) t (clD n as)=[clD n (stA' (stD S d) (t - 1) as)]:=by
 show (if t=0 then _ else [DD.tup [.str (PySem.Str.ofString "call"),.str (tx n),.lst ((stA' (stD S d) (t - 1) ((as.map DD.lst).map ddL)).map DD.lst)]])=_
 rw [if_neg ht,map_ddL]
 rfl
theorem stA_len (f:Int→DD→List DD) : ∀ (as:List (List DD)) (t:Int),(stA' f t as).length=as.length
 | [],_=>rfl
 | a :: r,t=>by
  show (stL' f t a :: stA' f (t - (callsL a:Int)) r).length=_
  rw [List.length_cons,List.length_cons,stA_len f r]
theorem stA_mem {f:Int→DD→List DD} : ∀ {as:List (List DD)} {t:Int} {b:List DD},b ∈ stA' f t as→∃ a ∈ as,∃ u,b=stL' f u a
 | a :: r,t,b,h=>by
  rcases List.mem_cons.mp (show b ∈ stL' f t a :: stA' f (t - (callsL a:Int)) r from h) with rfl | h
  ·exact ⟨a,List.mem_cons_self,t,rfl⟩
  ·obtain ⟨a',ha,u,e⟩:=stA_mem h
   exact ⟨a',List.mem_cons_of_mem _ ha,u,e⟩
theorem stL_mem {f:Int→DD→List DD} : ∀ {l:List DD} {t:Int} {z:DD},z ∈ stL' f t l→∃ x ∈ l,∃ u,z ∈ f u x
 | x :: r,t,z,h=>by
  rcases List.mem_append.mp (show z ∈ f t x++stL' f (t - (x.calls:Int)) r from h) with h | h
  ·exact ⟨x,List.mem_cons_self,t,h⟩
  ·obtain ⟨y,hy,u,e⟩:=stL_mem h
   exact ⟨y,List.mem_cons_of_mem _ hy,u,e⟩
end
structure Sh0 (S:List Sh) : Prop where
 x:ShX S
 ord0:∀ (i:Nat) s,S[i]? = some s→∀ x ∈ s.ns,Nd (menuS (S.take i)) s.c 12 x
section
variable {S:List Sh} (h:Sh0 S)
include h
theorem body48 {s:Sh} (hs:s ∈ S) : ∀ y ∈ s.ns,En S 96 s.c y∧Ns (menuS S) s.c 12 y:=fun y hy=>by
 obtain ⟨j,hj⟩:=List.getElem?_of_mem hs
 have hl:=(List.getElem?_eq_some_iff.mp hj).1
 have:=h.x.len
 exact ⟨(en_of h.x j 12 s.c y (h.ord0 j s hj y hy)).up (by omega),(h.ord0 j s hj y hy).ns.up menuS_take (Nat.le_refl _)⟩
theorem st_ns {c:Nat} : ∀ {d:Nat} {x:DD},Ns (menuS S) c d x→∀ t,∀ z ∈ stD S d t x,Ns (menuS S) c (d+12) z
 | d+1,x,hx=>by
  intro t z hz
  rcases hx.out with ⟨w,rfl⟩ | ⟨k,h1,h2,rfl⟩ | ⟨nm,as,rfl,h1,h2⟩
  ·rw [st_wd] at hz
   rw [List.mem_singleton.mp hz]
   exact hx.up (fun _ h=>h) (by omega)
  ·rw [st_pl] at hz
   rw [List.mem_singleton.mp hz]
   exact hx.up (fun _ h=>h) (by omega)
  ·obtain ⟨j,s,_,_,hs,e1,e2,hF⟩:=call_of (i:=S.length) h.x.nd (by rw [List.take_of_length_le (Nat.le_refl _)]; exact h1)
   by_cases ht:t=0
   ·subst ht
    rw [st_cl0 hF] at hz
    obtain ⟨y,hy,hz⟩:=fiL_mem hz
    exact (fi_ns (fun _ h=>h) h2 (body48 h hs y hy).2 z hz).up (fun _ h=>h) (by omega)
   ·rw [st_cl1 ht] at hz
    rw [List.mem_singleton.mp hz,show d+1+12=(d+12)+1 by omega]
    refine .inr (.inr ⟨nm,_,rfl,by rw [stA_len]; exact h1,fun b hb u hu=>?_⟩)
    obtain ⟨a,ha,v,rfl⟩:=stA_mem hb
    obtain ⟨y,hy,v2,hu⟩:=stL_mem hu
    exact st_ns (h2 a ha y hy) v2 u hu
theorem st_en {c:Nat} : ∀ {d n:Nat} {x:DD},Ns (menuS S) c d x→En S n c x→∀ t,∀ z ∈ stD S d t x,En S (n+96) c z
 | d+1,n,x,hx,he=>by
  intro t z hz
  cases n with
  | zero=>exact he.elim
  | succ n =>
  rcases hx.out with ⟨w,rfl⟩ | ⟨k,h1,h2,rfl⟩ | ⟨nm,as,rfl,h1,h2⟩
  ·rw [st_wd] at hz
   rw [List.mem_singleton.mp hz]
   exact he.up (by omega)
  ·rw [st_pl] at hz
   rw [List.mem_singleton.mp hz]
   exact he.up (by omega)
  ·rcases he.out with ⟨w,e⟩ | ⟨k,_,_,e⟩ | ⟨nm',as',s,e,hF,l1,hs,k1,k2⟩
   ·exact absurd (congrArg (fun z=>match z with | DD.tup l=>l.length | _=>0) e) (by simp [clD,wdD])
   ·exact absurd (congrArg (fun z=>match z with | DD.tup l=>l.length | _=>0) e) (by simp [clD,plD])
   ·obtain ⟨e1,e2⟩:=cl_inj e
    subst e1 e2
    by_cases ht:t=0
    ·subst ht
     rw [st_cl0 hF] at hz
     obtain ⟨y,hy,hz⟩:=fiL_mem hz
     exact (fi_en k1 (body48 h hs y hy).2 (body48 h hs y hy).1 z hz).up (by omega)
    ·rw [st_cl1 ht] at hz
     rw [List.mem_singleton.mp hz,show n+1+96=(n+96)+1 by omega]
     refine .inr (.inr ⟨nm,_,s,rfl,hF,by rw [stA_len]; exact l1,hs,fun b hb u hu=>?_,fun u hu=>(k2 u hu).up (by omega)⟩)
     obtain ⟨a,ha,v,rfl⟩:=stA_mem hb
     obtain ⟨y,hy,v2,hu⟩:=stL_mem hu
     exact st_en (h2 a ha y hy) (k1 a ha y hy) v2 u hu
theorem X_st {α:Type} {wd:Str→α} {E:List (List α)} {c:Nat} : ∀ {d n:Nat} {x:DD},Ns (menuS S) c d x→En S n c x→n+96≤255→∀ t,exL wd S 256 E (stD S d t x)=ex wd S 256 E x
 | d+1,n,x,hx,he,hn=>by
  intro t
  cases n with
  | zero=>exact he.elim
  | succ n =>
  rcases hx.out with ⟨w,rfl⟩ | ⟨k,h1,h2,rfl⟩ | ⟨nm,as,rfl,h1,h2⟩
  ·rw [st_wd]; exact List.append_nil _
  ·rw [st_pl]; exact List.append_nil _
  ·rcases he.out with ⟨w,e⟩ | ⟨k,_,_,e⟩ | ⟨nm',as',s,e,hF,l1,hs,k1,k2⟩
   ·exact absurd (congrArg (fun z=>match z with | DD.tup l=>l.length | _=>0) e) (by simp [clD,wdD])
   ·exact absurd (congrArg (fun z=>match z with | DD.tup l=>l.length | _=>0) e) (by simp [clD,plD])
   ·obtain ⟨e1,e2⟩:=cl_inj e
    subst e1 e2
    have hb:∀ y ∈ s.ns,En S 255 s.c y:=fun y hy=>(body48 h hs y hy).1.up (by decide)
    rw [X_clE (c:=c) hF (fun a ha u hu=>(k1 a ha u hu).up (by omega)) hb]
    by_cases ht:t=0
    ·subst ht
     rw [st_cl0 hF]
     exact XL_fi (c:=s.c) (n:=96) k1 (by omega) fun y hy=>⟨(body48 h hs y hy).2,(body48 h hs y hy).1⟩
    ·rw [st_cl1 ht]
     show ex wd S 256 E (clD nm (stA' (stD S d) (t - 1) as))++[]=_
     rw [List.append_nil,X_clE (c:=c) hF (fun b hb u hu=>by
      obtain ⟨a,ha,v,rfl⟩:=stA_mem hb
      obtain ⟨y,hy,v2,hu⟩:=stL_mem hu
      exact (st_en h (h2 a ha y hy) (k1 a ha y hy) v2 u hu).up (by omega)) hb]
     have q1:∀ (l:List DD) (t:Int),(∀ y ∈ l,Ns (menuS S) c d y∧En S n c y)→exL wd S 256 E (stL' (stD S d) t l)=exL wd S 256 E l:=fun l=>by
      induction l with
      | nil=>intro t _; rfl
      | cons y r ih =>
       intro t hy
       show exL wd S 256 E (stD S d t y++stL' (stD S d) (t - (y.calls:Int)) r)=ex wd S 256 E y++exL wd S 256 E r
       rw [exL_app,ih _ fun u hu=>hy u (List.mem_cons_of_mem _ hu),X_st (hy y List.mem_cons_self).1 (hy y List.mem_cons_self).2 (by omega)]
     have q2:∀ (as:List (List DD)) (t:Int),(∀ a ∈ as,∀ y ∈ a,Ns (menuS S) c d y∧En S n c y)→(stA' (stD S d) t as).map (exL wd S 256 E)=as.map (exL wd S 256 E):=fun as=>by
      induction as with
      | nil=>intro t _; rfl
      | cons a r ih =>
       intro t hy
       show exL wd S 256 E (stL' (stD S d) t a) :: (stA' (stD S d) (t - (callsL a:Int)) r).map (exL wd S 256 E)=_
       rw [q1 a t (hy a List.mem_cons_self),ih _ fun b hb=>hy b (List.mem_cons_of_mem _ hb)]
       rfl
     rw [q2 as _ fun a ha y hy=>⟨h2 a ha y hy,k1 a ha y hy⟩]
theorem XL_st {α:Type} {wd:Str→α} {E:List (List α)} {c d n:Nat} (hn:n+96≤255) : ∀ {l:List DD} {t:Int},(∀ y ∈ l,Ns (menuS S) c d y∧En S n c y)→exL wd S 256 E (stL S d t l)=exL wd S 256 E l
 | [],t,_=>rfl
 | y :: r,t,hy=>by
  show exL wd S 256 E (stD S d t y++stL S d (t - (y.calls:Int)) r)=ex wd S 256 E y++exL wd S 256 E r
  rw [exL_app,XL_st hn fun u hu=>hy u (List.mem_cons_of_mem _ hu),X_st h (hy y List.mem_cons_self).1 (hy y List.mem_cons_self).2 hn]
end
theorem calls_snoc {xs:List DD} {i:Nat} {x:DD} (h:xs[i]? = some x) : callsL (xs.take (i+1))=callsL (xs.take i)+x.calls:=by
 rw [List.take_add_one,h,calls_app]
 show _+callsL [x]=_
 rw [calls_one]
theorem stL_snoc {S:List Sh} {d:Nat} : ∀ {xs:List DD} {i:Nat} {x:DD} {t:Int},xs[i]? = some x→stL S d t (xs.take (i+1))=stL S d t (xs.take i)++stD S d (t - (callsL (xs.take i) : Int)) x
 | y :: r,0,x,t,e=>by
  have e:y=x:=Option.some.inj e
  subst e
  show stD S d t y++stL' (stD S d) (t - (y.calls:Int)) []=[]++stD S d (t - (callsL [] : Int)) y
  rw [calls_nil]
  show stD S d t y++[]=stD S d (t - ((0:Nat) : Int)) y
  rw [List.append_nil]
  congr 1
  omega
 | y :: r,i+1,x,t,e=>by
  have e:r[i]? = some x:=by simpa using e
  show stD S d t y++stL S d (t - (y.calls:Int)) (r.take (i+1))=(stD S d t y++stL S d (t - (y.calls:Int)) (r.take i))++stD S d (t - (callsL (y :: r.take i) : Int)) x
  rw [stL_snoc e,List.append_assoc,calls_cons]
  congr 2
  congr 1
  omega
theorem stA_snoc {S:List Sh} {d:Nat} : ∀ {as:List (List DD)} {i:Nat} {a:List DD} {t:Int},as[i]? = some a→stA' (stD S d) t (as.take (i+1))=stA' (stD S d) t (as.take i)++[stL S d (t - (callsL ((as.take i).map DD.lst) : Int)) a]
 | b :: r,0,a,t,e=>by
  have e:b=a:=Option.some.inj e
  subst e
  show [stL' (stD S d) t b]=[]++[stL S d (t - (callsL [] : Int)) b]
  rw [calls_nil]
  show [stL S d t b]=[stL S d (t - ((0:Nat) : Int)) b]
  congr 2
  omega
 | b :: r,i+1,a,t,e=>by
  have e:r[i]? = some a:=by simpa using e
  show stL' (stD S d) t b :: stA' (stD S d) (t - (callsL b:Int)) (r.take (i+1))=(stL' (stD S d) t b :: stA' (stD S d) (t - (callsL b:Int)) (r.take i))++[stL S d (t - (callsL (DD.lst b :: (r.take i).map DD.lst) : Int)) a]
  rw [stA_snoc e,calls_cons,calls_lst]
  show _ :: (_++[stL S d _ a])=_ :: (_++[stL S d _ a])
  congr 4
  omega
theorem callsA_snoc {as:List (List DD)} {i:Nat} {a:List DD} (h:as[i]? = some a) : callsL ((as.take (i+1)).map DD.lst)=callsL ((as.take i).map DD.lst)+callsL a:=by
 rw [List.take_add_one,h,List.map_append,calls_app]
 show _+callsL [DD.lst a]=_
 rw [calls_one,calls_lst]
theorem callsA_sum:∀ as:List (List DD),((as.map fun a=>(callsL a:Int)).sum:Int)=(callsL (as.map DD.lst) : Int)
 | []=>by rw [List.map_nil,List.map_nil,calls_nil]; rfl
 | a :: r=>by
  rw [List.map_cons,List.sum_cons,callsA_sum r,List.map_cons,calls_cons,calls_lst]
  omega
theorem fiL_take {A:List (List DD)} {d:Nat} (xs:List DD) (k:Nat) : (fiL A d (xs.take k)).length≤(fiL A d xs).length:=by
 conv=>rhs; rw [← List.take_append_drop k xs]
 unfold fiL
 rw [List.map_append,List.flatten_append,List.length_append]
 omega
theorem fiL_of {A:List (List DD)} {d:Nat} {xs:List DD} {x z:DD} (hx:x ∈ xs) (hz:z ∈ fiD A d x) : z ∈ fiL A d xs:=List.mem_flatten.mpr ⟨_,List.mem_map.mpr ⟨x,hx,rfl⟩,hz⟩
theorem stL_take {S:List Sh} {d:Nat} : ∀ (xs:List DD) (t:Int) (k:Nat),(stL S d t (xs.take k)).length≤(stL S d t xs).length∧∀ z ∈ stL S d t (xs.take k),z ∈ stL S d t xs
 | [],t,k=>by rw [List.take_nil]; exact ⟨Nat.le_refl _,fun z h=>h⟩
 | x :: r,t,0=>⟨Nat.zero_le _,fun z h=>(by cases h)⟩
 | x :: r,t,k+1=>by
  have q:=stL_take (S:=S) (d:=d) r (t - (x.calls:Int)) k
  show (stD S d t x++stL S d (t - (x.calls:Int)) (r.take k)).length≤(stD S d t x++stL S d (t - (x.calls:Int)) r).length∧∀ z ∈ stD S d t x++stL S d (t - (x.calls:Int)) (r.take k),z ∈ stD S d t x++stL S d (t - (x.calls:Int)) r
  refine ⟨by rw [List.length_append,List.length_append]; omega,fun z hz=>?_⟩
  rcases List.mem_append.mp hz with hz | hz
  ·exact List.mem_append.mpr (.inl hz)
  ·exact List.mem_append.mpr (.inr (q.2 z hz))
theorem cl_nd {M:List (Wd0 × Nat)} {c D:Nat} {n:Wd0} {bs:List (List DD)} (h:Nd M c D (clD n bs)) : ∀ b ∈ bs,b.length≤300000+D∧∀ y ∈ b,Nd M c (D - 1) y:=by
 obtain ⟨e,rfl⟩:=h.pos
 rcases h.out with ⟨w,e⟩ | ⟨k,_,_,e⟩ | ⟨n',bs',e,_,h'⟩
 ·exact absurd (congrArg (fun z=>match z with | DD.tup l=>l.length | _=>0) e) (by simp [clD,wdD])
 ·exact absurd (congrArg (fun z=>match z with | DD.tup l=>l.length | _=>0) e) (by simp [clD,plD])
 ·obtain ⟨_,e2⟩:=cl_inj e
  subst e2
  exact fun b hb=>⟨by have:=(h' b hb).1; omega,(h' b hb).2⟩
theorem stA_take {f:Int→DD→List DD} : ∀ (as:List (List DD)) (t:Int) (k:Nat),∀ b ∈ stA' f t (as.take k),b ∈ stA' f t as
 | [],t,k=>by rw [List.take_nil]; exact fun b h=>h
 | a :: r,t,0=>fun b h=>(by cases h)
 | a :: r,t,k+1=>fun b hb=>by
  rcases List.mem_cons.mp (show b ∈ stL' f t a :: stA' f (t - (callsL a:Int)) (r.take k) from hb) with rfl | hb
  ·exact List.mem_cons_self
  ·exact List.mem_cons_of_mem _ (stA_take r _ k b hb)
end L2

set_option maxHeartbeats 4000000
namespace HT
open PySem PySem.Spec PyProof.Rows
section
variable {prog:Program} {w:World} {A:Around} {E:Value→Shared→Prop} {s:Shared}
theorem getItem_tuple_whole {t sl:Addr} {items:Array Value} {vl vu:Value} {lo hi:Option Int} {Q:Value→Shared→Prop} (ht:IsTup s.heap t items) (hs:s.heap.IsSliceOf sl vl vu .none) (pl:IsPart vl lo) (pu:IsPart vu hi)
  (hw:sIx items.size 0 lo=0∧sIx items.size items.size hi=items.size)
  (h:Q (.ref t) s) : wpAny (model prog w) A (getItem (.ref t) (.ref sl)) Q E s:=by
 obtain ⟨os,hos,hcs,hds⟩:=id hs
 have hTs:s.TypeIs (.ref sl) "slice":=⟨os,hos,hcs⟩
 unfold getItem
 try with_reducible refine wpAny_holding ?_
 first | refine wpAny_bind (wpAny_pure ?_) | skip
 refine wpAny_bind (wpAny_sequenceKey ht.typeIs (by decide) ?_)
 refine wpAny_bind (wpAny_callSpecial?_slot (name:=Str.ofString "__getitem__") ht.typeIs PyProof.Rows.slot_tuple_getitem
  (wpAny_call_entry PyProof.Rows.slot_tuple_getitem ht.typeIs entry_tuple_getitem ?_ (args_tuple_getitem _ _)))
 show wpAny _ _ (Builtin.Tuple.tupleItemsOf (.ref t) >>= _) _ _ s
 refine wpAny_bind (tupleItemsOf_ ht ?_)
 refine wpAny_bind (wpAny_typeOf hTs ?_)
 rw [if_pos (by decide)]
 refine wpAny_bind (sliceApplied_gen hs pl pu ?_)
 have hyes:((((sIx items.size 0 lo:Nat) : Int) == 0 && (1:Int) == 1 && (sIx items.size items.size hi - sIx items.size 0 lo) == items.size)=true):=by
  rw [hw.1,hw.2,Nat.sub_zero]
  simp
 show wpAny _ _ (if (((sIx items.size 0 lo:Nat) : Int) == 0 && (1:Int) == 1 && (sIx items.size items.size hi - sIx items.size 0 lo) == items.size)=true then _ else _) _ _ s
 rw [if_pos hyes]
 unfold Builtin.Tuple.tupleIsExact
 refine wpAny_bind (wpAny_bind (wpAny_typeOf ht.typeIs (wpAny_pure ?_)))
 rw [if_pos (by decide)]
 refine wpAny_bind (wpAny_rule ?_)
 exact wpAny_pure ⟨_,rfl,wpAny_pure h⟩
end
end HT
namespace L2
open PySem PySem.Spec PyProof.Rows Tl
def rSlA (K:PySem.W.Frag) : V→Option Int→Option Int→Hp→VK→Prop:=fun x lo hi H Q=>∃ a xs,x = .ref a∧SqT K H a xs∧∀ p H',Same H H'→SqT K H' p (cutV xs lo hi)→Q (.ref p) H'
theorem sl_tupA {X:Cx} : SlR X (rSlA X.K):=by
 intro pins s σ H x v vl vu lo hi sl Q I rx hs pl pu h
 obtain ⟨a,xs,rfl,hx,q⟩:=h
 by_cases hw:HT.sIx xs.length 0 lo=0∧HT.sIx xs.length xs.length hi=xs.length
 ·cases rx
  obtain ⟨its,r,ht,hz⟩:=I.tuple hx
  have hlen:its.toArray.size=xs.length:=by rw [List.size_toArray]; exact r.length.symm
  refine ⟨"tuple",_,PyProof.Rows.slot_tuple_getitem.lookup,ht.typeIs,?_⟩
  have e:cutV xs lo hi=xs:=by unfold cutV; rw [hw.1,hw.2,List.drop_zero,Nat.sub_zero,List.take_of_length_le (Nat.le_refl _)]
  exact HT.getItem_tuple_whole ht hs pl pu (by rw [hlen]; exact hw) ⟨.ref a,H,I,rfl,q a H (Same.refl _) (by rw [e]; exact hx)⟩
 ·exact sl_tup pins s σ H (.ref a) v vl vu lo hi sl Q I rx hs pl pu ⟨a,xs,rfl,hx,hw,fun p hp=>q p _ (same_new hp _) (SqT.of upd_same)⟩
theorem cutV_to {vs:List V} {k:Nat} (h:k≤vs.length) : cutV vs none (some (k:Int))=vs.take k:=by
 unfold cutV
 rw [HT.sIx_none,HT.sIx_nat,Nat.min_eq_left h,List.drop_zero,Nat.sub_zero]
theorem cutV_from {vs:List V} {k:Nat} (h:k≤vs.length) : cutV vs (some (k:Int)) none=vs.drop k:=by
 unfold cutV
 rw [HT.sIx_none,HT.sIx_nat,Nat.min_eq_left h,List.take_of_length_le (by rw [List.length_drop]; exact Nat.le_refl _)]
theorem cutV_four {a b c d:V} {r:List V} : cutV (a :: b :: c :: d :: r) none (some 4)=[a,b,c,d]:=by
 have:=cutV_to (vs:=a :: b :: c :: d :: r) (k:=4) (by simp)
 exact this
theorem ints_eq {K:PySem.W.Frag} {H:Hp} : ∀ {l:List Int} {xs:List V},Reps K H (l.map DD.int) xs→xs=l.map V.int
 | [],xs,h=>by
  have:=h.len
  exact List.eq_nil_of_length_eq_zero (by simpa using this)
 | i :: l,xs,h=>by
  rw [List.map_cons] at h
  unfold Reps at h
  obtain ⟨x,ys,rfl,h1,h2⟩:=h
  rw [h1.intO,ints_eq h2]
  rfl
theorem ints_out {K:PySem.W.Frag} {H:Hp} {l:List Int} {v:V} (h:Rep K H (.lst (l.map DD.int)) v) : ∃ b,v = .ref b∧SqL K H b (l.map V.int):=by
 obtain ⟨b,xs,rfl,hb,_,rb⟩:=h.lstO
 rw [ints_eq rb] at hb
 exact ⟨b,rfl,hb⟩
theorem sz_fuel {S:List Sh} {M:List (Wd0 × Nat)} {c j:Nat} : ∀ {d e:Nat} {x:DD},Ns M c d x→d≤e→szR S j e x=szR S j d x
 | d+1,e,x,h,he=>by
  obtain ⟨e,rfl⟩ : ∃ k,e=k+1:=⟨e - 1,by omega⟩
  rcases h.out with ⟨w,rfl⟩ | ⟨k,h1,h2,rfl⟩ | ⟨n,as,rfl,h1,h2⟩
  ·rw [sz_wd,sz_wd]
  ·rw [sz_pl,sz_pl]
  ·cases hF:shF S (tx n) with
   | none =>
    have q:∀ m,szR S j (m+1) (clD n as)=0:=fun m=>by
     show (match shF S (tx n) with | none=>0 | some s=>(if j=0 then s.r.getD 0 0 else 0)+argS s.r 1 ((as.map DD.lst).map fun a=>((ddL a).map (szR S j m)).sum))=0
     rw [hF]
    rw [q,q]
   | some s =>
    rw [sz_cl hF,sz_cl hF]
    congr 2
    exact List.map_congr_left fun a ha=>congrArg List.sum (List.map_congr_left fun y hy=>sz_fuel (h2 a ha y hy) (by omega))
theorem row_fuel {S:List Sh} {M:List (Wd0 × Nat)} {c d e:Nat} {xs:List DD} (h:∀ x ∈ xs,Ns M c d x) (he:d≤e) : rowL S c e xs=rowL S c d xs:=rwL_congr fun j _=>congrArg List.sum (List.map_congr_left fun x hx=>sz_fuel (h x hx) he)
theorem shF_rows:∀ {T S:List Sh},T.map Sh.n=S.map Sh.n→T.map Sh.r=S.map Sh.r→∀ x,(shF T x).map Sh.r=(shF S x).map Sh.r
 | [],[],_,_,_=>rfl
 | [],s :: S,h,_,_=>by simp at h
 | t :: T,[],h,_,_=>by simp at h
 | t :: T,s :: S,h1,h2,x=>by
  simp only [List.map_cons,List.cons.injEq] at h1 h2
  have ih:=shF_rows h1.2 h2.2 x
  unfold shF at ih ⊢
  rw [List.find?_cons,List.find?_cons,h1.1]
  by_cases e:tx s.n=x
  ·rw [decide_eq_true e]; show some t.r=some s.r; rw [h2.1]
  ·rw [decide_eq_false e]; exact ih
theorem sz_rows {S T:List Sh} (hr:∀ x,(shF T x).map Sh.r=(shF S x).map Sh.r) {M:List (Wd0 × Nat)} {c j:Nat} : ∀ {d:Nat} {x:DD},Ns M c d x→szR T j d x=szR S j d x
 | d+1,x,h=>by
  rcases h.out with ⟨w,rfl⟩ | ⟨k,h1,h2,rfl⟩ | ⟨n,as,rfl,h1,h2⟩
  ·rw [sz_wd,sz_wd]
  ·rw [sz_pl,sz_pl]
  ·have hn:=hr (tx n)
   cases hF:shF S (tx n) with
   | none =>
    have hF':shF T (tx n)=none:=by
     rw [hF] at hn
     cases e:shF T (tx n) with
     | none=>rfl
     | some s=>rw [e] at hn; cases hn
    have q:∀ U:List Sh,shF U (tx n)=none→szR U j (d+1) (clD n as)=0:=fun U hU=>by
     show (match shF U (tx n) with | none=>0 | some s=>(if j=0 then s.r.getD 0 0 else 0)+argS s.r 1 ((as.map DD.lst).map fun a=>((ddL a).map (szR U j d)).sum))=0
     rw [hU]
    rw [q _ hF,q _ hF']
   | some s =>
    rw [hF] at hn
    cases hF':shF T (tx n) with
    | none=>rw [hF'] at hn; cases hn
    | some s' =>
     rw [hF'] at hn
     have e:s'.r=s.r:=Option.some.inj hn
     rw [sz_cl hF,sz_cl hF',e]
     congr 2
     exact List.map_congr_left fun a ha=>congrArg List.sum (List.map_congr_left fun y hy=>sz_rows hr (h2 a ha y hy))
theorem row_rows {S T:List Sh} (h1:T.map Sh.n=S.map Sh.n) (h2:T.map Sh.r=S.map Sh.r) {M:List (Wd0 × Nat)} {c d:Nat} {xs:List DD} (h:∀ x ∈ xs,Ns M c d x) : rowL T c d xs=rowL S c d xs:=rwL_congr fun j _=>congrArg List.sum (List.map_congr_left fun x hx=>sz_rows (shF_rows h1 h2) (h x hx))
theorem mem_tk {α:Type} {l:List α} {i:Nat} {x:α} (h:x ∈ l.take i) : x ∈ l:=List.mem_of_mem_take h
theorem ShX.take {S:List Sh} (h:ShX S) (i:Nat) : ShX (S.take i):=by
 refine ⟨by rw [List.map_take]; exact h.nd.sublist (List.take_sublist _ _),by have:=h.len; rw [List.length_take]; omega,fun j s hj x hx=>?_,fun s hs=>?_,fun s hs=>h.pos s (mem_tk hs),fun s hs=>h.nn s (mem_tk hs),fun s hs=>h.sum s (mem_tk hs)⟩
 ·have hl:=(List.getElem?_eq_some_iff.mp hj).1
  rw [List.length_take] at hl
  rw [List.getElem?_take_of_lt (by omega)] at hj
  rw [List.take_take,Nat.min_eq_left (by omega)]
  exact h.ord j s hj x hx
 ·obtain ⟨j,hj⟩:=List.getElem?_of_mem hs
  have hl:=(List.getElem?_eq_some_iff.mp hj).1
  rw [List.length_take] at hl
  rw [List.getElem?_take_of_lt (by omega)] at hj
  have nd:((S.take i).map Sh.n).Nodup:=by rw [List.map_take]; exact h.nd.sublist (List.take_sublist _ _)
  have e:=row_app (S:=S.take i) (T:=S.drop i) (c:=s.c) (d:=24) (xs:=s.ns) nd fun x hx=>(h.ord j s hj x hx).up (fun y hy=>by
   have q:S.take j=(S.take i).take j:=by rw [List.take_take,Nat.min_eq_left (by omega)]
   rw [q] at hy
   exact menuS_take y hy) (Nat.le_refl _) (Nat.le_refl _)
  rw [List.take_append_drop] at e
  rw [← e]
  exact h.eqr s (mem_tk hs)
theorem Sh0.take {S:List Sh} (h:Sh0 S) (i:Nat) : Sh0 (S.take i):=⟨h.x.take i,fun j s hj x hx=>by
 have hl:=(List.getElem?_eq_some_iff.mp hj).1
 rw [List.length_take] at hl
 rw [List.getElem?_take_of_lt (by omega)] at hj
 rw [List.take_take,Nat.min_eq_left (by omega)]
 exact h.ord0 j s hj x hx⟩
theorem Sh0.snoc {S:List Sh} {s:Sh} (h:Sh0 S) (nd:((S++[s]).map Sh.n).Nodup) (hl:S.length < 4) (ho:∀ x ∈ s.ns,Nd (menuS S) s.c 12 x) (he:s.r=rowL S s.c 12 s.ns) (hp:∀ k,1≤k→k≤s.c→1≤s.r.getD k 0) (hn:∀ y ∈ s.r,0≤y) (hs:s.r.sum≤400) : Sh0 (S++[s]):=by
 refine ⟨h.x.snoc nd hl (fun x hx=>(ho x hx).up (fun _ h=>h) (Nat.le_refl _) (by decide)) (he.trans (row_fuel (fun x hx=>(ho x hx).ns) (by decide)).symm) hp hn hs,fun i t hi x hx=>?_⟩
 by_cases hlt:i < S.length
 ·rw [List.getElem?_append_left hlt] at hi
  rw [List.take_append_of_le_length (by omega)]
  exact h.ord0 i t hi x hx
 ·rw [List.getElem?_append_right (by omega)] at hi
  have h0:i - S.length=0:=by
   have:=(List.getElem?_eq_some_iff.mp hi).1
   simp at this
   omega
  rw [h0] at hi
  have e:s=t:=by simpa using hi
  subst e
  rw [show i=S.length by omega,List.take_left']
  ·exact ho x hx
  ·rfl
theorem ex_app {α:Type} {wd:Str→α} {S T:List Sh} (h:ShX S) : ∀ {n c d:Nat} {A:List (List α)} {x:DD},Ns (menuS S) c d x→ex wd (S++T) n A x=ex wd S n A x
 | 0,c,d,A,x,hx=>by cases x <;> rfl
 | n+1,c,d,A,x,hx=>by
  obtain ⟨d,rfl⟩:=hx.pos
  rcases hx.out with ⟨w,rfl⟩ | ⟨k,h1,h2,rfl⟩ | ⟨nm,as,rfl,h1,h2⟩
  ·rw [ex_wd,ex_wd]
  ·rw [ex_pl,ex_pl]
  ·obtain ⟨j,s,_,ej,hs,e1,e2,hF⟩:=call_of (i:=S.length) h.nd (by rw [List.take_of_length_le (Nat.le_refl _)]; exact h1)
   rw [ex_cl (shF_app hF),ex_cl hF]
   have ea:as.map (exL wd (S++T) n A)=as.map (exL wd S n A):=List.map_congr_left fun a ha=>by
    unfold exL
    exact congrArg List.flatten (List.map_congr_left fun y hy=>ex_app h (h2 a ha y hy))
   rw [ea]
   unfold exL
   exact congrArg List.flatten (List.map_congr_left fun y hy=>ex_app h (d:=24) ((h.ord j s ej y hy).ns.up menuS_take (Nat.le_refl _)))
theorem exL_tk {α:Type} {wd:Str→α} {S:List Sh} (h:ShX S) {n c d i:Nat} {A:List (List α)} {xs:List DD} (hx:∀ x ∈ xs,Ns (menuS (S.take i)) c d x) : exL wd S n A xs=exL wd (S.take i) n A xs:=by
 conv=>lhs; rw [← List.take_append_drop i S]
 unfold exL
 exact congrArg List.flatten (List.map_congr_left fun y hy=>ex_app (h.take i) (hx y hy))
theorem dot_sel {f W:Nat→Int} {j:Nat} (h0:W 0=1) : ∀ {c:Nat},(∀ i,1≤i→i≤c→W i=if i=j then 1 else 0)→dot f W c=f 0+if 1≤j∧j≤c then f j else 0
 | 0,_=>by
  rw [if_neg (by omega)]
  show f 0 * W 0=_
  rw [h0]
  omega
 | c+1,h=>by
  have ih:=dot_sel (f:=f) h0 (c:=c) fun i h1 h2=>h i h1 (by omega)
  have hW:=h (c+1) (by omega) (Nat.le_refl _)
  show dot f W c+f (c+1) * W (c+1)=_
  rw [ih,hW]
  by_cases e:c+1=j
  ·subst e
   rw [if_neg (by omega),if_pos rfl,if_pos (by omega)]
   omega
  ·rw [if_neg e]
   by_cases e2:1≤j∧j≤c
   ·rw [if_pos e2,if_pos (by omega)]; omega
   ·rw [if_neg e2,if_neg (by omega)]; omega
def unA (c j:Nat) : List (List Unit):=(List.range c).map fun k=>if k+1=j then [()] else []
theorem wt_un {c j:Nat} : wt (unA c j) 0=1∧∀ i,1≤i→i≤c→wt (unA c j) i=if i=j then 1 else 0:=by
 refine ⟨rfl,fun i h1 h2=>?_⟩
 obtain ⟨i,rfl⟩ : ∃ e,i=e+1:=⟨i - 1,by omega⟩
 show (((unA c j).getD i []).length:Int)=_
 unfold unA
 rw [List.getD_eq_getElem?_getD,List.getElem?_map,List.getElem?_range (by omega)]
 show ((if i+1=j then [()] else []).length:Int)=_
 by_cases e:i+1=j
 ·rw [if_pos e,if_pos e]; rfl
 ·rw [if_neg e,if_neg e]; rfl
theorem row_st {S:List Sh} (h:Sh0 S) {c:Nat} {xs:List DD} (hx:∀ x ∈ xs,Ns (menuS S) c 12 x) (t:Int) : rowL S c 24 (stL S 12 t xs)=rowL S c 12 xs:=by
 have he:∀ x ∈ xs,En S 108 c x:=fun x hm=>en_ns h.x (hx x hm)
 have hz:∀ z ∈ stL S 12 t xs,Ns (menuS S) c 24 z∧En S 204 c z:=fun z hz=>by
  obtain ⟨x,hm,u,hu⟩:=stL_mem hz
  exact ⟨st_ns h (hx x hm) u z hu,st_en h (hx x hm) (he x hm) u z hu⟩
 have key:∀ A:List (List Unit),dot (fun j=>((stL S 12 t xs).map (szR S j 24)).sum) (wt A) c=dot (fun j=>(xs.map (szR S j 12)).sum) (wt A) c:=fun A=>by
  have ew:exL (fun _=>()) S 256 A (stL S 12 t xs)=exL (fun _=>()) S 256 A xs:=XL_st h (n:=108) (by decide) fun x hm=>⟨hx x hm,he x hm⟩
  have l1:=exL_lenS (wd:=fun _=>()) (n:=256) (A:=A) h.x (fun x hm=>(he x hm).up (by decide)) hx
  have l2:=exL_lenS (wd:=fun _=>()) (n:=256) (A:=A) h.x (fun z hm=>(hz z hm).2.up (by decide)) (fun z hm=>(hz z hm).1)
  rw [← l1,← l2,ew]
 refine rwL_congr fun j hj=>?_
 have k0:=key (unA c 0)
 rw [dot_sel wt_un.1 wt_un.2,dot_sel wt_un.1 wt_un.2,if_neg (by omega),if_neg (by omega)] at k0
 have kj:=key (unA c j)
 rw [dot_sel wt_un.1 wt_un.2,dot_sel wt_un.1 wt_un.2] at kj
 by_cases e:j=0
 ·subst e
  omega
 ·rw [if_pos (by omega),if_pos (by omega)] at kj
  omega
theorem lvL_row {S:List Sh} (h:ShX S) {c d:Nat} {xs:List DD} (hx:∀ x ∈ xs,Ns (menuS S) c d x) : (lvL xs:Int)≤(rowL S c d xs).sum:=by
 have e:(rowL S c d xs).sum=dot (fun j=>(xs.map (szR S j d)).sum) (fun _=>1) c:=by
  rw [dot_ones fun _ _=>rfl]
  rfl
 rw [e,dot_sum]
 have q1:∀ l:List DD,(∀ v ∈ l,v ∈ xs)→(lvL l:Int)≤(l.map fun x=>dot (fun j=>szR S j d x) (fun _=>1) c).sum:=fun l=>by
  induction l with
  | nil=>intro _; rw [lv_nil]; exact Int.le_refl _
  | cons v r ih =>
   intro hl
   have a1:=ih fun u hu=>hl u (List.mem_cons_of_mem _ hu)
   have a2:=lv_le h (hx v (hl v List.mem_cons_self))
   rw [lv_cons,List.map_cons,List.sum_cons]
   omega
 exact q1 xs fun v hv=>hv
theorem st_callsF {S:List Sh} (h:Sh0 S) (hc:∀ s ∈ S,callsL s.ns≤63) {c:Nat} : ∀ {d:Nat} {x:DD},Ns (menuS S) c d x→x.calls≤63→∀ t:Int,(t < 0∨(x.calls:Int)≤t→callsL (stD S d t x)≤x.calls)∧callsL (stD S d t x)≤x.calls+26000
 | d+1,x,hx,hl=>by
  intro t
  rcases hx.out with ⟨w,rfl⟩ | ⟨k,h1,h2,rfl⟩ | ⟨nm,as,rfl,h1,h2⟩
  ·rw [st_wd,calls_one,calls_wd]; exact ⟨fun _=>Nat.zero_le _,Nat.zero_le _⟩
  ·rw [st_pl,calls_one,calls_pl]; exact ⟨fun _=>Nat.zero_le _,Nat.zero_le _⟩
  ·obtain ⟨j,s,_,ej,hs,e1,e2,hF⟩:=call_of (i:=S.length) h.x.nd (by rw [List.take_of_length_le (Nat.le_refl _)]; exact h1)
   rw [calls_cl] at hl ⊢
   by_cases ht:t=0
   ·subst ht
    rw [st_cl0 hF]
    have hA:∀ a ∈ as,callsL a≤63:=fun a ha=>by
     have q:=lv_mem (List.mem_map.mpr ⟨a,ha,rfl⟩ : DD.lst a ∈ as.map DD.lst)
     rw [calls_lst] at q
     omega
    have q:=callsL_fl hA (l:=s.ns) fun v hv=>(body48 h hs v hv).2
    have hlv:=lvL_row h.x (c:=s.c) (d:=24) (xs:=s.ns) fun v hv=>(h.x.ord j s ej v hv).ns.up menuS_take (Nat.le_refl _)
    rw [← h.x.eqr s hs] at hlv
    have h4:=h.x.sum s hs
    have h6:=hc s hs
    have h5:lvL s.ns≤400:=by omega
    have:lvL s.ns * 63≤400 * 63:=Nat.mul_le_mul_right 63 h5
    exact ⟨fun z=>by omega,by omega⟩
   ·rw [st_cl1 ht,calls_one,calls_cl]
    have q1:∀ (l:List DD) (t:Int),(∀ v ∈ l,Ns (menuS S) c d v∧v.calls≤63)→(t < 0∨(callsL l:Int)≤t→callsL (stL' (stD S d) t l)≤callsL l)∧callsL (stL' (stD S d) t l)≤callsL l+26000:=fun l=>by
     induction l with
     | nil=>intro t _; show (_→callsL []≤_)∧callsL []≤_; rw [calls_nil]; exact ⟨fun _=>Nat.zero_le _,Nat.zero_le _⟩
     | cons v r ih =>
      intro t hv
      have a1:=ih (t - (v.calls:Int)) fun z hz=>hv z (List.mem_cons_of_mem _ hz)
      have a2:=st_callsF h hc (hv v List.mem_cons_self).1 (hv v List.mem_cons_self).2 t
      show (_→callsL (stD S d t v++stL' (stD S d) (t - (v.calls:Int)) r)≤_)∧callsL (stD S d t v++stL' (stD S d) (t - (v.calls:Int)) r)≤_
      rw [calls_app,calls_cons]
      generalize callsL (stL' (stD S d) (t - (v.calls:Int)) r)=y1 at a1 ⊢
      generalize callsL (stD S d t v)=y2 at a2 ⊢
      refine ⟨fun z=>?_,?_⟩
      ·rcases z with z | z
       ·have:=a1.1 (.inl (by omega)); have:=a2.1 (.inl z); omega
       ·have:=a1.1 (.inr (by omega)); have:=a2.1 (.inr (by omega)); omega
      ·by_cases z:t < (v.calls:Int)
       ·have:=a1.1 (.inl (by omega)); have:=a2.2; omega
       ·have:=a2.1 (.inr (by omega)); have:=a1.2; omega
    have q2:∀ (as:List (List DD)) (t:Int),(∀ a ∈ as,∀ v ∈ a,Ns (menuS S) c d v∧v.calls≤63)→(t < 0∨(callsL (as.map DD.lst) : Int)≤t→callsL ((stA' (stD S d) t as).map DD.lst)≤callsL (as.map DD.lst))∧callsL ((stA' (stD S d) t as).map DD.lst)≤callsL (as.map DD.lst)+26000:=fun as=>by
     induction as with
     | nil=>intro t _; show (_→callsL []≤_)∧callsL []≤_; rw [calls_nil]; exact ⟨fun _=>Nat.zero_le _,Nat.zero_le _⟩
     | cons a r ih =>
      intro t hv
      have a1:=ih (t - (callsL a:Int)) fun z hz=>hv z (List.mem_cons_of_mem _ hz)
      have a2:=q1 a t (hv a List.mem_cons_self)
      show (_→callsL (DD.lst (stL' (stD S d) t a) :: (stA' (stD S d) (t - (callsL a:Int)) r).map DD.lst)≤_)∧callsL (DD.lst (stL' (stD S d) t a) :: (stA' (stD S d) (t - (callsL a:Int)) r).map DD.lst)≤_
      rw [calls_cons,calls_lst,List.map_cons,calls_cons,calls_lst]
      generalize callsL ((stA' (stD S d) (t - (callsL a:Int)) r).map DD.lst)=y1 at a1 ⊢
      generalize callsL (stL' (stD S d) t a)=y2 at a2 ⊢
      refine ⟨fun z=>?_,?_⟩
      ·rcases z with z | z
       ·have:=a1.1 (.inl (by omega)); have:=a2.1 (.inl z); omega
       ·have:=a1.1 (.inr (by omega)); have:=a2.1 (.inr (by omega)); omega
      ·by_cases z:t < (callsL a:Int)
       ·have:=a1.1 (.inl (by omega)); have:=a2.2; omega
       ·have:=a2.1 (.inr (by omega)); have:=a1.2; omega
    have:=q2 as (t - 1) fun a ha v hv=>⟨h2 a ha v hv,by
     have q:=lv_mem (List.mem_map.mpr ⟨a,ha,rfl⟩ : DD.lst a ∈ as.map DD.lst)
     rw [calls_lst] at q
     have:=lv_mem hv
     omega⟩
    generalize callsL ((stA' (stD S d) (t - 1) as).map DD.lst)=y1 at this ⊢
    exact ⟨fun z=>by have:=this.1 (by omega); omega,by have:=this.2; omega⟩
theorem stL_callsF {S:List Sh} (h:Sh0 S) (hc:∀ s ∈ S,callsL s.ns≤63) {c d:Nat} : ∀ {l:List DD} {t:Int},(∀ v ∈ l,Ns (menuS S) c d v∧v.calls≤63)→(t < 0∨(callsL l:Int)≤t→callsL (stL S d t l)≤callsL l)∧callsL (stL S d t l)≤callsL l+26000
 | [],t,_=>by show (_→callsL []≤_)∧callsL []≤_; rw [calls_nil]; exact ⟨fun _=>Nat.zero_le _,Nat.zero_le _⟩
 | v :: r,t,hv=>by
  have a1:=stL_callsF h hc (l:=r) (t:=t - (v.calls:Int)) fun z hz=>hv z (List.mem_cons_of_mem _ hz)
  have a2:=st_callsF h hc (hv v List.mem_cons_self).1 (hv v List.mem_cons_self).2 t
  show (_→callsL (stD S d t v++stL S d (t - (v.calls:Int)) r)≤_)∧callsL (stD S d t v++stL S d (t - (v.calls:Int)) r)≤_
  rw [calls_app,calls_cons]
  generalize callsL (stL S d (t - (v.calls:Int)) r)=y1 at a1 ⊢
  generalize callsL (stD S d t v)=y2 at a2 ⊢
  refine ⟨fun z=>?_,?_⟩
  ·rcases z with z | z
   ·have:=a1.1 (.inl (by omega)); have:=a2.1 (.inl z); omega
   ·have:=a1.1 (.inr (by omega)); have:=a2.1 (.inr (by omega)); omega
  ·by_cases z:t < (v.calls:Int)
   ·have:=a1.1 (.inl (by omega)); have:=a2.2; omega
   ·have:=a2.1 (.inr (by omega)); have:=a1.2; omega
theorem step_body {S:List Sh} (h:Sh0 S) (hc:∀ s ∈ S,callsL s.ns≤63) {c:Nat} {xs:List DD} (hx:∀ x ∈ xs,Ns (menuS S) c 12 x) (hw:(rowL S c 12 xs).sum≤400) (h63:callsL xs≤63) (t:Int) : (∀ z ∈ stL S 12 t xs,Nd (menuS S) c 24 z)∧rowL S c 24 (stL S 12 t xs)=rowL S c 12 xs∧lvL (stL S 12 t xs)+callsL (stL S 12 t xs)≤26500∧(stL S 12 t xs).length≤26500:=by
 have hz:∀ z ∈ stL S 12 t xs,Ns (menuS S) c 24 z:=fun z hz=>by
  obtain ⟨x,hm,u,hu⟩:=stL_mem hz
  exact st_ns h (hx x hm) u z hu
 have er:=row_st h hx t
 have lv:=lvL_row h.x hz
 rw [er] at lv
 have cl:=(stL_callsF h hc (t:=t) (l:=xs) fun v hv=>⟨hx v hv,by have:=lv_mem hv; omega⟩).2
 have hl:=len_lv hz
 refine ⟨fun z hm=>(hz z hm).nd ?_,er,by omega,by omega⟩
 have:=lv_mem hm
 omega
structure An (S:List Sh) (k0:Nat) (body:List DD) (T:List Sh) : Prop where
 le:T.length≤S.length
 al:∀ i s',T[i]? = some s'→∃ s,S[i]? = some s∧s'.n=s.n∧s'.c=s.c∧s'.r=s.r∧(i < k0→s' = s)∧s'.ns=if i=k0 then body else s.ns
theorem An.map {β:Type} {S T:List Sh} {k0:Nat} {body:List DD} (h:An S k0 body T) {f:Sh→β} (hf:∀ s' s:Sh,s'.n=s.n→s'.c=s.c→s'.r=s.r→f s' = f s) : T.map f=(S.take T.length).map f:=by
 refine List.ext_getElem? fun i=>?_
 rw [List.getElem?_map,List.getElem?_map]
 by_cases hi:i < T.length
 ·rw [List.getElem?_take_of_lt hi]
  obtain ⟨s,e,e1,e2,e3,_⟩:=h.al i _ (List.getElem?_eq_getElem hi)
  rw [List.getElem?_eq_getElem hi,e]
  exact congrArg some (hf _ _ e1 e2 e3)
 ·rw [List.getElem?_eq_none (by omega),List.getElem?_eq_none (by rw [List.length_take]; omega)]
theorem An.menu {S T:List Sh} {k0:Nat} {body:List DD} (h:An S k0 body T) : menuS T=menuS (S.take T.length):=h.map fun s' s e1 e2 _=>by rw [e1,e2]
theorem An.row {S T:List Sh} {k0:Nat} {body:List DD} (h:An S k0 body T) {M:List (Wd0 × Nat)} {c d:Nat} {xs:List DD} (hx:∀ x ∈ xs,Ns M c d x) : rowL T c d xs=rowL (S.take T.length) c d xs:=row_rows (h.map fun _ _ e _ _=>e) (h.map fun _ _ _ _ e=>e) hx
theorem An.start {S:List Sh} {k0:Nat} {body:List DD} (h:k0≤S.length) : An S k0 body (S.take k0):=by
 refine ⟨by rw [List.length_take]; omega,fun i s' e=>?_⟩
 have hl:=(List.getElem?_eq_some_iff.mp e).1
 rw [List.length_take] at hl
 rw [List.getElem?_take_of_lt (by omega)] at e
 exact ⟨s',e,rfl,rfl,rfl,fun _=>rfl,by rw [if_neg (by omega)]⟩
theorem An.snoc {S T:List Sh} {k0:Nat} {body:List DD} (h:An S k0 body T) (hk:k0≤T.length) {s:Sh} (hs:S[T.length]? = some s) (k:Int) : An S k0 body (T++[⟨s.n,s.c,if T.length=k0 then body else s.ns,s.r,k⟩]):=by
 have hl:=(List.getElem?_eq_some_iff.mp hs).1
 refine ⟨by rw [List.length_append,List.length_singleton]; omega,fun i s' e=>?_⟩
 by_cases hi:i < T.length
 ·rw [List.getElem?_append_left hi] at e
  exact h.al i s' e
 ·have hi2:=(List.getElem?_eq_some_iff.mp e).1
  rw [List.length_append,List.length_singleton] at hi2
  have e0:i=T.length:=by omega
  subst e0
  rw [List.getElem?_append_right (Nat.le_refl _),Nat.sub_self] at e
  have e:_=s':=Option.some.inj e
  subst e
  exact ⟨s,hs,rfl,rfl,rfl,fun z=>by omega,rfl⟩
theorem ex_an {α:Type} {wd:Str→α} {S T:List Sh} {k0:Nat} {body:List DD} {t:Int} {s0:Sh} (h:Sh0 S) (hT:ShX T) (an:An S k0 body T) (hl:T.length=S.length) (h0:S[k0]? = some s0) (hb:body=stL (S.take k0) 12 t s0.ns) : ∀ (i d c:Nat) (x:DD),d≤100→Ns (menuS (S.take i)) c d x→∀ A:List (List α),ex wd T 256 A x=ex wd S 256 A x:=by
 have hM:menuS T=menuS S:=by rw [an.menu,hl,List.take_of_length_le (Nat.le_refl _)]
 intro i
 induction i using Nat.strongRecOn with
 | ind i ih =>
  intro d
  induction d with
  | zero=>intro c x _ hx; exact hx.elim
  | succ d ihd =>
   intro c x hd hx A
   rcases hx.out with ⟨w,rfl⟩ | ⟨k,h1,h2,rfl⟩ | ⟨nm,as,rfl,h1,h2⟩
   ·rw [ex_wd,ex_wd]
   ·rw [ex_pl,ex_pl]
   ·obtain ⟨j,s,hj,ej,hs,e1,e2,hF⟩:=call_of h.x.nd h1
    have hjl:=(List.getElem?_eq_some_iff.mp ej).1
    have ej':=List.getElem?_eq_getElem (l:=T) (show j < T.length by omega)
    have hs':=List.mem_of_getElem? ej'
    obtain ⟨s2,ej2,f1,f2,f3,f4,f5⟩:=an.al j _ ej'
    rw [ej] at ej2
    have e:=Option.some.inj ej2
    subst e
    generalize T[j]'(by omega)=s' at ej' hs' f1 f2 f3 f4 f5
    have hF':shF T (tx nm)=some s':=by
     have:=shF_of hT.nd hs'
     rw [f1,e1] at this
     exact this
    have nS:∀ a ∈ as,∀ y ∈ a,Ns (menuS S) c d y:=fun a ha y hy=>(h2 a ha y hy).up menuS_take (Nat.le_refl _)
    have bS:∀ y ∈ s.ns,Ns (menuS S) s.c 12 y:=fun y hy=>(body48 h hs y hy).2
    rw [X_clE (c:=c) hF' (fun a ha y hy=>(en_ns hT (by rw [hM]; exact nS a ha y hy)).up (by omega)) (fun y hy=>(en_ns hT ((hT.ord j s' ej' y hy).ns.up menuS_take (Nat.le_refl _))).up (by decide)),
     X_clE (c:=c) hF (fun a ha y hy=>(en_ns h.x (nS a ha y hy)).up (by omega)) (fun y hy=>(en_ns h.x (bS y hy)).up (by decide))]
    have ea:as.map (exL wd T 256 A)=as.map (exL wd S 256 A):=List.map_congr_left fun a ha=>by
     unfold exL
     exact congrArg List.flatten (List.map_congr_left fun y hy=>ihd c y (by omega) (h2 a ha y hy) A)
    rw [ea]
    generalize as.map (exL wd S 256 A)=B
    have go:∀ (l:List DD) (e:Nat),e≤100→(∀ y ∈ l,Ns (menuS (S.take j)) s.c e y)→exL wd T 256 B l=exL wd S 256 B l:=fun l e he hy=>by
     unfold exL
     exact congrArg List.flatten (List.map_congr_left fun y hm=>ih j hj e s.c y he (hy y hm) B)
    have b0:∀ y ∈ s.ns,Ns (menuS (S.take j)) s.c 12 y:=fun y hy=>(h.ord0 j s ej y hy).ns
    by_cases hk:j=k0
    ·subst hk
     rw [ej] at h0
     have e:=Option.some.inj h0
     subst e
     rw [if_pos rfl] at f5
     rw [f5,hb]
     have h24:∀ z ∈ stL (S.take j) 12 t s.ns,Ns (menuS (S.take j)) s.c 24 z:=fun z hz=>by
      obtain ⟨x,hm,u,hu⟩:=stL_mem hz
      exact st_ns (h.take j) (b0 x hm) u z hu
     rw [go _ 24 (by decide) h24,exL_tk h.x h24,exL_tk h.x b0]
     exact XL_st (h.take j) (n:=108) (by decide) fun x hm=>⟨b0 x hm,en_ns (h.take j).x (b0 x hm)⟩
    ·rw [if_neg hk] at f5
     rw [f5]
     exact go _ 12 (by decide) b0
theorem exL_an {α:Type} {wd:Str→α} {S T:List Sh} {k0:Nat} {body:List DD} {t:Int} {s0:Sh} (h:Sh0 S) (hT:ShX T) (an:An S k0 body T) (hl:T.length=S.length) (h0:S[k0]? = some s0) (hb:body=stL (S.take k0) 12 t s0.ns) {d c:Nat} {xs:List DD} (hd:d≤100) (hx:∀ x ∈ xs,Ns (menuS S) c d x) (A:List (List α)) : exL wd T 256 A xs=exL wd S 256 A xs:=by
 unfold exL
 exact congrArg List.flatten (List.map_congr_left fun y hm=>ex_an h hT an hl h0 hb S.length d c y hd (by rw [List.take_of_length_le (Nat.le_refl _)]; exact hx y hm) A)
end L2

namespace K19
open PySem PySem.Spec L2 Tl

def isL (c:Nat) : Bool:=decide (97≤c∧c≤122)
def isF (c:Nat) : Bool:=decide (48≤c∧c≤57)
def LL:List Nat:=[97,98,99,100,101,102,103,104,105,106,107,108,109,110,111,112,113,114,115,116,117,118,119,120,121,122]
def FF:List Nat:=[48,49,50,51,52,53,54,55,56,57]
def isName:List Nat→Bool
 | []=>false
 | c :: r=>decide ((c :: r).length≤12) && (isL c && (c :: r).all fun d=>isL d || isF d)
theorem name_short {c:Nat} {r:List Nat} (h:(c :: r).length≤12) : isName (c :: r)=(isL c && (c :: r).all fun d=>isL d || isF d):=by
 show (decide _ && _)=_
 rw [decide_eq_true h,Bool.true_and]
theorem ce:(PySem.Str.ofString "")=tx []:=by decide +kernel
theorem name_len {l:List Nat} (h:isName l=true) : l.length≤12∧l≠[]∧∀ c ∈ l,c < 127:=by
 cases l with
 | nil=>cases h
 | cons c r =>
  unfold isName at h
  rw [Bool.and_eq_true,Bool.and_eq_true] at h
  refine ⟨of_decide_eq_true h.1,by simp,fun d hd=>?_⟩
  have:=List.all_eq_true.mp h.2.2 d hd
  rcases Bool.or_eq_true_iff.mp this with q | q
  ·unfold isL at q
   have:=of_decide_eq_true q
   omega
  ·unfold isF at q
   have:=of_decide_eq_true q
   omega

def nm (ns:List (List Nat)) (i:Nat) : List Nat:=ns.getD i []

def al (b:Nat) : Nat:=(LL++FF).getD b 0
theorem at_both:∀ k:Nat,k < 36→atI (PySem.Str.ofString "abcdefghijklmnopqrstuvwxyz0123456789").cps.toList (k:Int)=some (al k):=by decide +kernel
theorem al_inj:∀ b:Nat,b < 36→∀ c:Nat,c < 36→al b=al c→b=c:=by decide +kernel
theorem al_let:∀ b:Nat,b < 26→isL (al b)=true:=by decide +kernel
theorem al_any:∀ b:Nat,b < 36→(isL (al b) || isF (al b))=true:=by decide +kernel
structure Ix (xs:List Nat) : Prop where
 ne:xs≠[]
 len:xs.length≤12
 fst:∀ b,xs.head? = some b→b < 26
 all:∀ b ∈ xs,b < 36
theorem Ix.name {xs:List Nat} (h:Ix xs) : isName (xs.map al)=true:=by
 cases xs with
 | nil=>exact absurd rfl h.ne
 | cons b r =>
  have hl:(al b :: r.map al).length≤12:=by have:=h.len; simp at this ⊢; omega
  show isName (al b :: r.map al)=true
  rw [name_short hl,al_let b (h.fst b rfl),Bool.true_and]
  refine List.all_eq_true.mpr fun d hd=>?_
  obtain ⟨b',hb',rfl⟩:=List.mem_map.mp (show d ∈ (b :: r).map al from hd)
  exact al_any b' (h.all b' hb')
theorem join_one:∀ cs:List Nat,joinL [] (cs.map fun c=>[c])=cs
 | []=>rfl
 | [c]=>rfl
 | c :: d :: r=>by
  show [c]++[]++joinL [] ((d :: r).map fun c=>[c])=_
  rw [join_one (d :: r)]
  rfl
theorem sum_one:∀ cs:List Nat,((cs.map fun c=>tx [c]).map (·.length)).sum=cs.length
 | []=>rfl
 | c :: r=>by
  rw [List.map_cons,List.map_cons,List.sum_cons,sum_one r,tx_len]
  simp only [List.length_cons,List.length_nil]
  omega
structure Names (ns:List (List Nat)) (m:Nat) : Prop where
 len:ns.length=m
 name:∀ i,i < m→isName (nm ns i)=true
 inj:∀ i j,i < m→j < m→nm ns i=nm ns j→i=j
def xsB (bs:List Nat) (size at' j:Nat) : List Nat:=(List.range size).map fun k=>(bs.getD k 0+(if k=at' then j else 0)) % (if 0 < k then 36 else 26)
theorem md (x k:Nat) : x % (if 0 < k then 36 else 26) < 36:=by
 by_cases h:0 < k
 ·rw [if_pos h]; omega
 ·rw [if_neg h]; omega
theorem xsB_get (bs:List Nat) (size at' j k:Nat) (h:k < size) : (xsB bs size at' j)[k]? = some ((bs.getD k 0+(if k=at' then j else 0)) % (if 0 < k then 36 else 26)):=by
 unfold xsB
 rw [List.getElem?_map,List.getElem?_range h]
 rfl
theorem xsB_ix {bs:List Nat} {size at' j:Nat} (h1:1≤size) (h2:size≤12) : Ix (xsB bs size at' j):=by
 have hl:(xsB bs size at' j).length=size:=by unfold xsB; simp
 refine ⟨fun e=>by rw [e] at hl; simp at hl; omega,by omega,fun b hb=>?_,fun b hb=>?_⟩
 ·have e:(xsB bs size at' j)[0]? = some b:=by rw [← List.head?_eq_getElem?]; exact hb
  rw [xsB_get _ _ _ _ 0 (by omega)] at e
  have e2:=Option.some.inj e
  simp only [Nat.lt_irrefl,if_false] at e2
  omega
 ·unfold xsB at hb
  obtain ⟨k,_,rfl⟩:=List.mem_map.mp hb
  exact md _ _
theorem xsB_inj {bs:List Nat} {size at' i j:Nat} (h:at' < size) (hi:i < 20) (hj:j < 20) (e:(xsB bs size at' i).map al=(xsB bs size at' j).map al) : i=j:=by
 have e1:=congrArg (fun l=>l[at']?) e
 simp only [List.getElem?_map,xsB_get _ _ _ _ _ h] at e1
 have e2:=Option.some.inj e1
 have e3:=al_inj _ (md _ _) _ (md _ _) e2
 simp only [if_true] at e3
 by_cases h0:0 < at'
 ·simp only [if_pos h0] at e3; omega
 ·simp only [if_neg h0] at e3; omega
theorem get_map {α:Type} {f:α→V} {l:List α} {i:Nat} {y:V} (h:(l.map f)[i]? = some y) : ∃ x,l[i]? = some x∧y=f x:=by
 rw [List.getElem?_map] at h
 cases e:l[i]? with
 | none=>rw [e] at h; cases h
 | some x=>rw [e] at h; exact ⟨x,rfl,(Option.some.inj h).symm⟩
theorem nm_map {f:Nat→List Nat} {m i:Nat} (h:i < m) : nm ((List.range m).map f) i=f i:=by
 unfold nm
 rw [List.getD_eq_getElem?_getD,List.getElem?_map,List.getElem?_range h]
 rfl
theorem join1:∀ cs:List Nat,joinL [] (cs.map fun c=>[c])=cs
 | []=>rfl
 | [c]=>rfl
 | c :: d :: r=>by
  show [c]++[]++joinL [] ((d :: r).map fun c=>[c])=_
  rw [join1 (d :: r)]
  rfl
theorem cOw:(PySem.Str.ofString "o")=tx [111]:=by decide +kernel
theorem cNil:(PySem.Str.ofString "")=tx []:=by decide +kernel
theorem ej1 (cs:List Nat) : Txt.join (PySem.Str.ofString "") (cs.map fun d=>tx [d])=tx cs:=by
 rw [cNil,show (cs.map fun d=>tx [d])=((cs.map fun d=>[d]).map tx) by rw [List.map_map]; rfl,join_tx,join1]
def alW:List Nat:=[33,34,35,38,39,40,41,42,43,44,45,46,47,48,49,50,51,52,53,54,55,56,57,58,59,60,61,62,63,64,65,66,67,68,69,70,71,72,73,74,75,76,77,78,79,80,81,82,83,84,85,86,87,88,89,90,92,94,95,96,97,98,99,100,101,102,103,104,105,106,107,108,109,110,111,112,113,114,115,116,117,118,119,120,121,122,123,125,126]
theorem at_alW:∀ k:Nat,k < 89→atI (PySem.Str.ofString "!\"#&'()*+,-./0123456789:;<=>?@ABCDEFGHIJKLMNOPQRSTUVWXYZ\\^_`abcdefghijklmnopqrstuvwxyz{}~").cps.toList (k:Int)=some (alW.getD k 0):=by decide +kernel
def MOk (M:List (Wd0 × Nat)) : Prop:=M.length≤40∧∀ x ∈ M,x.1.length≤12∧(∀ c ∈ x.1,c < 127)∧x.2≤10
structure ShOk (S:List Sh) : Prop where
 nd:(S.map Sh.n).Nodup
 len:S.length≤4
 row:∀ s ∈ S,s.r.length=s.c+1
 c9:∀ s ∈ S,s.c≤9
 nam:∀ s ∈ S,s.n.length≤12∧∀ c ∈ s.n,c < 127
 r4:∀ s ∈ S,∀ y ∈ s.r,0≤y∧y≤400
 nod:∀ s ∈ S,s.ns.length≤200∧∃ M,∀ x ∈ s.ns,Nd M s.c 12 x
 o:Sh0 S
 k6:∀ s ∈ S,0≤s.k∧s.k≤60
 cls:∀ s ∈ S,callsL s.ns≤63
theorem ShOk.x {S:List Sh} (h:ShOk S) : ShX S:=h.o.x
structure ShW (S:List Sh) : Prop where
 nd:(S.map Sh.n).Nodup
 len:S.length≤4
 row:∀ s ∈ S,s.r.length=s.c+1
 c9:∀ s ∈ S,s.c≤9
 nam:∀ s ∈ S,s.n.length≤12∧∀ c ∈ s.n,c < 127
 r4:∀ s ∈ S,∀ y ∈ s.r,0≤y∧y≤400
 x:ShX S
 k6:∀ s ∈ S,0≤s.k∧s.k≤60
theorem ShOk.w {S:List Sh} (h:ShOk S) : ShW S:=⟨h.nd,h.len,h.row,h.c9,h.nam,h.r4,h.x,h.k6⟩
theorem shF_mem {S:List Sh} {x:Str} {s:Sh} (h:shF S x=some s) : s ∈ S∧tx s.n=x:=by
 unfold shF at h
 exact ⟨List.mem_of_find?_eq_some h,by simpa using List.find?_some h⟩
def NmAt (K:PySem.W.Frag) (H:Hp) (na:Addr) (S:List Sh) : Prop:=∃ kvs:List (Key × V),H na=some (.dK kvs)∧∀ x:Str,(shF S x=none→valV kvs (.inr x)=none)∧∀ s,shF S x=some s→∃ v,valV kvs (.inr x)=some v∧Rep K H (shD s) v
theorem NmAt.mono {K:PySem.W.Frag} {H H':Hp} {na:Addr} {S:List Sh} (s:Same H H') (h:NmAt K H na S) : NmAt K H' na S:=by
 obtain ⟨kvs,h1,h2⟩:=h
 exact ⟨kvs,s _ _ h1,fun x=>⟨(h2 x).1,fun t e=>by obtain ⟨v,a1,a2⟩:=(h2 x).2 t e; exact ⟨v,a1,a2.mono s⟩⟩⟩
theorem fst_at {α:Type} (f:α→Nat) {l:List α} {k:Nat} {x:α} (e:l[k]? = some x) (h:fstN ((l.take k).map f)=0) (hx:f x≠0) : fstN (l.map f)=f x:=by
 have h1:l=l.take k++(x :: l.drop (k+1)):=by
  conv=>lhs; rw [← List.take_append_drop k l]
  rw [List.drop_eq_getElem_cons (List.getElem?_eq_some_iff.mp e).1,(List.getElem?_eq_some_iff.mp e).2]
 rw [h1,List.map_append,fstN_app,h,if_pos rfl,List.map_cons]
 show (if f x=0 then _ else f x)=f x
 rw [if_neg hx]
theorem fst_next {α:Type} (f:α→Nat) {l:List α} {k:Nat} {x:α} (e:l[k]? = some x) (h:fstN ((l.take k).map f)=0) (hx:f x=0) : fstN ((l.take (k+1)).map f)=0:=by
 rw [List.take_add_one,e,List.map_append,fstN_app,h,if_pos rfl]
 show (if f x=0 then 0 else f x)=0
 rw [if_pos hx]
theorem zero_row (c:Nat) : (List.replicate ((c:Int)+1).toNat [V.int 0]).flatten=(rwL (fun _=>0) c).map V.int:=by
 rw [rep1,show ((c:Int)+1).toNat=c+1 by omega]
 unfold rwL
 rw [List.map_map]
 refine List.ext_getElem? fun i=>?_
 rw [List.getElem?_replicate,List.getElem?_map]
 by_cases hi:i < c+1
 ·rw [if_pos hi,List.getElem?_range hi]; rfl
 ·rw [if_neg hi,List.getElem?_eq_none (by rw [List.length_range]; omega)]; rfl
theorem row_word {S:List Sh} {c d k:Nat} {xs:List DD} {w:Wd0} (e:xs[k]? = some (wdD w)) : (rwL (fun i=>if i=0 then ((xs.take k).map (szR S 0 (d+1))).sum+1 else ((xs.take k).map (szR S i (d+1))).sum) c)=rowL S c (d+1) (xs.take (k+1)):=rwL_congr fun j _=>by
 rw [sum_snoc _ e,sz_wd]
 by_cases h:j=0
 ·rw [if_pos h,if_pos h,h]
 ·rw [if_neg h,if_neg h]; omega
theorem row_place {S:List Sh} {c d k p:Nat} {xs:List DD} (e:xs[k]? = some (plD p)) : (rwL (fun i=>if i=p then ((xs.take k).map (szR S p (d+1))).sum+1 else ((xs.take k).map (szR S i (d+1))).sum) c)=rowL S c (d+1) (xs.take (k+1)):=rwL_congr fun j _=>by
 rw [sum_snoc _ e,sz_pl]
 by_cases h:j=p
 ·rw [if_pos h,if_pos h.symm,h]
 ·rw [if_neg h,if_neg (fun z=>h z.symm)]; omega
theorem get_r {s:Sh} {j:Nat} (h:j < s.r.length) : s.r[j]? = some (s.r.getD j 0):=by
 rw [List.getD_eq_getElem?_getD,List.getElem?_eq_getElem h]
 rfl
theorem andH {a:Prop} {_inst:Decidable a} {X A:Prop} {B:Hp→Prop} {G:Hp} (P:Hp→Prop) (hP:P G) (hb:∀ G',P G'→B G') (hx:(∀ G',P G'→B G')→X) : if a then X else (if false=true then A else B G):=by
 split
 ·exact hx hb
 ·exact iteF (hb G hP)
def MnAt (K:PySem.W.Frag) (H:Hp) (ma:Addr) (M:List (Wd0 × Nat)) : Prop:=∃ ms:List V,SqL K H ma ms∧ms.length=M.length∧∀ (i:Nat) v,ms[i]? = some v→∃ (a:Addr) (n:Wd0) (m:Nat) (rest:List V),v = .ref a∧SqT K H a (.str (tx n) :: .int (m:Int) :: rest)∧M[i]? = some (n,m)
theorem szR_nn {S:List Sh} (h:∀ s ∈ S,∀ y ∈ s.r,0≤y) (j:Nat) {M:List (Wd0 × Nat)} {c:Nat} : ∀ {d:Nat} {x:DD},Nd M c d x→0≤szR S j d x
 | d+1,x,hn=>by
  rcases hn.out with ⟨w,rfl⟩ | ⟨k,h1,h2,rfl⟩ | ⟨n,as,rfl,h1,h2⟩
  ·rw [sz_wd]; split <;> omega
  ·rw [sz_pl]; split <;> omega
  ·cases hF:shF S (tx n) with
   | none =>
    have:szR S j (d+1) (clD n as)=0:=by
     show (match shF S (tx n) with | none=>0 | some s=>(if j=0 then s.r.getD 0 0 else 0)+argS s.r 1 ((as.map DD.lst).map fun a=>((ddL a).map (szR S j d)).sum))=0
     rw [hF]
    omega
   | some s =>
    rw [sz_cl hF]
    have hr:=h s (shF_mem hF).1
    have g0:∀ i,0≤s.r.getD i 0:=fun i=>by
     rw [List.getD_eq_getElem?_getD]
     cases e:s.r[i]? with
     | none=>exact Int.le_refl _
     | some y=>exact hr y (List.mem_of_getElem? e)
    have ha:∀ (l:List Int) (i:Nat),(∀ y ∈ l,0≤y)→0≤argS s.r i l:=fun l=>by
     induction l with
     | nil=>intro i _; exact Int.le_refl _
     | cons y ys ih =>
      intro i hy
      have q1:=ih (i+1) fun z hz=>hy z (List.mem_cons_of_mem _ hz)
      have q2:=Int.mul_nonneg (g0 i) (hy y List.mem_cons_self)
      show 0≤s.r.getD i 0 * y+argS s.r (i+1) ys
      omega
    have hsum:∀ l:List DD,(∀ y ∈ l,0≤szR S j d y)→0≤(l.map (szR S j d)).sum:=fun l=>by
     induction l with
     | nil=>intro _; exact Int.le_refl _
     | cons y ys ih =>
      intro hy
      have q1:=ih fun z hz=>hy z (List.mem_cons_of_mem _ hz)
      have q2:=hy y List.mem_cons_self
      rw [List.map_cons,List.sum_cons]
      omega
    have q:=ha (as.map fun a=>(a.map (szR S j d)).sum) 1 fun y hy=>by
     obtain ⟨a,ha,rfl⟩:=List.mem_map.mp hy
     exact hsum a fun z hz=>szR_nn h j ((h2 a ha).2 z hz)
    have:=g0 0
    split <;> omega
theorem sumZ_nn {f:DD→Int} : ∀ {l:List DD},(∀ y ∈ l,0≤f y)→0≤(l.map f).sum
 | [],_=>Int.le_refl _
 | y :: ys,hy=>by
  have q1:=sumZ_nn (f:=f) (l:=ys) fun z hz=>hy z (List.mem_cons_of_mem _ hz)
  have q2:=hy y List.mem_cons_self
  rw [List.map_cons,List.sum_cons]
  omega
theorem sumI_nn:∀ {l:List Int},(∀ y ∈ l,0≤y)→0≤l.sum
 | [],_=>Int.le_refl _
 | y :: ys,hy=>by
  have q1:=sumI_nn (l:=ys) fun z hz=>hy z (List.mem_cons_of_mem _ hz)
  have q2:=hy y List.mem_cons_self
  rw [List.sum_cons]
  omega
theorem le_sum:∀ {l:List Int},(∀ y ∈ l,0≤y)→∀ x ∈ l,x≤l.sum
 | y :: ys,h,x,hx=>by
  have q2:=h y List.mem_cons_self
  have hs:=sumI_nn (l:=ys) fun z hz=>h z (List.mem_cons_of_mem _ hz)
  rw [List.sum_cons]
  rcases List.mem_cons.mp hx with rfl | hx
  ·omega
  ·have:=le_sum (fun z hz=>h z (List.mem_cons_of_mem _ hz)) x hx
   omega
theorem row_nn {S:List Sh} (h:∀ s ∈ S,∀ y ∈ s.r,0≤y) {M:List (Wd0 × Nat)} {c d:Nat} {xs:List DD} (hx:∀ x ∈ xs,Nd M c d x) : ∀ y ∈ rowL S c d xs,0≤y:=fun y hy=>by
 unfold rowL rwL at hy
 obtain ⟨j,_,rfl⟩:=List.mem_map.mp hy
 exact sumZ_nn fun x hm=>szR_nn h j (hx x hm)
theorem sum_le1 {f:DD→Int} : ∀ {l:List DD},(∀ y ∈ l,f y≤1)→(l.map f).sum≤l.length
 | [],_=>Int.le_refl _
 | y :: ys,hy=>by
  have q1:=sum_le1 (f:=f) (l:=ys) fun z hz=>hy z (List.mem_cons_of_mem _ hz)
  have q2:=hy y List.mem_cons_self
  rw [List.map_cons,List.sum_cons,List.length_cons]
  omega
theorem wr_ok {S:List Sh} (nd:(S.map Sh.n).Nodup) {c:Nat} : ∀ {d:Nat} {x:DD},Nd (S.map fun s=>(s.n,s.c)) c d x→wrD S d x=0
 | d+1,x,hn=>by
  rcases hn.out with ⟨w,rfl⟩ | ⟨k,h1,h2,rfl⟩ | ⟨n,as,rfl,h1,h2⟩
  ·exact wr_wd
  ·exact wr_pl
  ·obtain ⟨s,hs,e⟩:=List.mem_map.mp h1
   obtain ⟨e1,e2⟩:=Prod.mk.inj e
   subst e1
   have hF:shF S (tx s.n)=some s:=by
    cases hq:shF S (tx s.n) with
    | none =>
     unfold shF at hq
     exact absurd (decide_eq_true (rfl:tx s.n=tx s.n)) (List.find?_eq_none.mp hq s hs)
    | some t =>
     obtain ⟨t1,t2⟩:=shF_mem hq
     have e3:=tx_inj t2
     obtain ⟨i,hi⟩:=List.getElem?_of_mem hs
     obtain ⟨j,hj⟩:=List.getElem?_of_mem t1
     have:i=j:=(List.getElem?_inj (by rw [List.length_map]; exact (List.getElem?_eq_some_iff.mp hi).1) nd).mp (by rw [List.getElem?_map,List.getElem?_map,hi,hj]; show some s.n=some t.n; rw [e3])
     rw [this,hj] at hi
     exact hi
   rw [wr_fit hF e2.symm]
   refine fstN_zero fun y hy=>?_
   obtain ⟨a,ha,rfl⟩:=List.mem_map.mp hy
   exact fstN_zero fun z hz=>by
    obtain ⟨b,hb,rfl⟩:=List.mem_map.mp hz
    exact wr_ok nd ((h2 a ha).2 b hb)
theorem orH {a:Prop} {_inst:Decidable a} {X A B:Prop} (hA:A) (hx:A→¬ a→X) : if a then (if true=true then A else B) else X:=by
 split
 ·exact iteT hA
 ·exact hx hA (by assumption)
theorem mok_of {S:List Sh} (h:ShW S) : MOk (S.map fun s=>(s.n,s.c)):=by
 have:=h.len
 refine ⟨by rw [List.length_map]; omega,fun x hx=>?_⟩
 obtain ⟨s,hs,rfl⟩:=List.mem_map.mp hx
 have:=h.c9 s hs
 exact ⟨(h.nam s hs).1,(h.nam s hs).2,by show s.c≤10; omega⟩
theorem names_nd {ns:List (List Nat)} {m:Nat} (h:Names ns m) : ns.Nodup:=by
 refine List.pairwise_iff_getElem.mpr fun i j hi hj hij e=>?_
 have l:=h.len
 have e1:∀ (k:Nat) (hk:k < ns.length),nm ns k=ns[k]:=fun k hk=>by unfold nm; rw [List.getD_eq_getElem?_getD,List.getElem?_eq_getElem hk]; rfl
 have:=h.inj i j (by omega) (by omega) (by rw [e1 i hi,e1 j hj,e])
 omega
theorem menu_of {K:PySem.W.Frag} {H:Hp} {sa:Addr} {S:List Sh} (r:Rep K H (.lst (S.map shD)) (.ref sa)) : MnAt K H sa (S.map fun s=>(s.n,s.c)):=by
 obtain ⟨a,vs,e,h1,_,h2⟩:=r.lstO
 cases e
 refine ⟨vs,h1,by rw [h2.len,List.length_map,List.length_map],fun i v hv=>?_⟩
 obtain ⟨d,e1,r1⟩:=h2.getR hv
 rw [List.getElem?_map] at e1
 obtain ⟨s,e2,rfl⟩:=Option.map_eq_some_iff.mp e1
 obtain ⟨a,xs,rfl,st,_,rx⟩:=r1.tupO
 unfold Reps at rx
 obtain ⟨x0,r0,rfl,y0,rx⟩:=rx
 unfold Reps at rx
 obtain ⟨x1,r1,rfl,y1,rx⟩:=rx
 rw [y0.strO,y1.intO] at st
 exact ⟨a,s.n,s.c,r1,rfl,st,by rw [List.getElem?_map,e2]; rfl⟩
theorem at0 {α:Type} {xs:List α} {j:Nat} {v:α} (h:xs[j]? = some v) : atI xs (0+(j:Int))=some v:=by
 rw [Int.zero_add]
 exact atI_nat h
theorem ix0 {l j:Nat} (h:j < l) : ixN l (0+(j:Int))=some j:=by
 rw [Int.zero_add]
 exact ixN_nat h
theorem strNe1:¬ V.str (PySem.Str.ofString "place")=V.str (PySem.Str.ofString "word"):=fun z=>absurd (V.str.inj z) (by decide +kernel)
theorem strNe2:¬ V.str (PySem.Str.ofString "call")=V.str (PySem.Str.ofString "word"):=fun z=>absurd (V.str.inj z) (by decide +kernel)
theorem strNe3:¬ V.str (PySem.Str.ofString "call")=V.str (PySem.Str.ofString "place"):=fun z=>absurd (V.str.inj z) (by decide +kernel)
theorem strNe4:¬ V.str (PySem.Str.ofString "word")=V.str (PySem.Str.ofString "call"):=fun z=>absurd (V.str.inj z) (by decide +kernel)
theorem strNe5:¬ V.str (PySem.Str.ofString "place")=V.str (PySem.Str.ofString "call"):=fun z=>absurd (V.str.inj z) (by decide +kernel)
theorem deep_mem:∀ {l:List DD} {i:Nat} {d:DD},l[i]? = some d→d.deep≤deeps l
 | [],i,d,e=>by simp at e
 | a :: r,0,d,e=>by
  have e:a=d:=Option.some.inj e
  unfold deeps
  rw [e]
  omega
 | a :: r,i+1,d,e=>by
  have:=deep_mem (l:=r) (i:=i) (d:=d) (by simpa using e)
  unfold deeps
  omega
theorem shF_snoc {S:List Sh} {i:Nat} {s:Sh} (x:Str) (h:S[i]? = some s) : shF (S.take (i+1)) x=(shF (S.take i) x).or (if tx s.n=x then some s else none):=by
 unfold shF
 rw [List.take_add_one,h,List.find?_append]
 refine congrArg _ ?_
 show List.find? _ [s]=_
 rw [List.find?_cons]
 by_cases e:tx s.n=x
 ·rw [if_pos e,decide_eq_true e]
 ·rw [if_neg e,decide_eq_false e]; rfl
def FitAt (K:PySem.W.Frag) (H:Hp) (S:List Sh) (x:Str) (ys:List V) : Prop:=ys.length≤S.length∧(shF S x=none→ys=[])∧∀ s,shF S x=some s→∃ v r,ys=v :: r∧Rep K H (shD s) v
theorem FitAt.yes {K:PySem.W.Frag} {H:Hp} {S:List Sh} {i:Nat} {s:Sh} {x:Str} {ys:List V} {v:V} (f:FitAt K H (S.take i) x ys) (h:S[i]? = some s) (e:tx s.n=x) (r:Rep K H (shD s) v) : FitAt K H (S.take (i+1)) x (ys++[v]):=by
 have hi:=(List.getElem?_eq_some_iff.mp h).1
 obtain ⟨f1,f2,f3⟩:=f
 rw [List.length_take] at f1
 refine ⟨by rw [List.length_append,List.length_take,List.length_singleton]; omega,fun z=>?_,fun t z=>?_⟩
 ·rw [shF_snoc x h,if_pos e] at z
  cases hq:shF (S.take i) x with
  | none=>rw [hq] at z; cases z
  | some t=>rw [hq] at z; cases z
 ·rw [shF_snoc x h,if_pos e] at z
  cases hq:shF (S.take i) x with
  | none =>
   rw [hq] at z
   have z:s=t:=Option.some.inj z
   rw [f2 hq,← z]
   exact ⟨v,[],rfl,r⟩
  | some u =>
   rw [hq] at z
   have z:u=t:=Option.some.inj z
   obtain ⟨w,q,h1,h2⟩:=f3 u hq
   rw [h1,← z]
   exact ⟨w,q++[v],rfl,h2⟩
theorem FitAt.no {K:PySem.W.Frag} {H:Hp} {S:List Sh} {i:Nat} {s:Sh} {x:Str} {ys:List V} (f:FitAt K H (S.take i) x ys) (h:S[i]? = some s) (e:¬ tx s.n=x) : FitAt K H (S.take (i+1)) x ys:=by
 obtain ⟨f1,f2,f3⟩:=f
 have he:shF (S.take (i+1)) x=shF (S.take i) x:=by
  rw [shF_snoc x h,if_neg e]
  cases shF (S.take i) x <;> rfl
 rw [List.length_take] at f1
 refine ⟨by rw [List.length_take]; omega,?_,?_⟩
 ·rw [he]; exact f2
 ·rw [he]; exact f3
theorem fold_val (k:Key) : ∀ (kvs m:List (Key × V)),(kvs.map Prod.fst).Nodup→valV (kvs.foldl (fun m kv=>putK m kv.1 kv.2) m) k=match kvs.find? (fun kv=>decide (kv.1=k)) with
  | some kv=>some kv.2
  | none=>valV m k
 | [],m,_=>rfl
 | kv :: r,m,hn=>by
  rw [List.map_cons,List.nodup_cons] at hn
  show valV (r.foldl (fun m kv=>putK m kv.1 kv.2) (putK m kv.1 kv.2)) k=_
  rw [fold_val k r _ hn.2,valV_put,List.find?_cons]
  by_cases e:kv.1=k
  ·have hf:r.find? (fun kv=>decide (kv.1=k))=none:=List.find?_eq_none.mpr fun x hx z=>hn.1 (by
    have z:x.1=k:=of_decide_eq_true z
    rw [e,← z]
    exact List.mem_map.mpr ⟨x,hx,rfl⟩)
   rw [hf,decide_eq_true e]
   show (if k=kv.1 then some kv.2 else _)=some kv.2
   rw [if_pos e.symm]
  ·rw [decide_eq_false e,if_neg (fun z=>e z.symm)]

theorem pl_one {S:List Sh} (h:∀ s ∈ S,∀ y ∈ s.r,0≤y) {M:List (Wd0 × Nat)} {c d k:Nat} {xs:List DD} (hx:∀ x ∈ xs,Nd M c (d+1) x) (hk:plD k ∈ xs) : 1≤(xs.map (szR S k (d+1))).sum:=by
 have:=le_sum (l:=xs.map (szR S k (d+1))) (fun y hy=>by
  obtain ⟨x,hm,rfl⟩:=List.mem_map.mp hy
  exact szR_nn h k (hx x hm)) (szR S k (d+1) (plD k)) (List.mem_map.mpr ⟨_,hk,rfl⟩)
 rw [sz_pl,if_pos rfl] at this
 exact this
theorem rw_getD {f:Nat→Int} {c k:Nat} (h:k≤c) : (rwL f c).getD k 0=f k:=by
 rw [List.getD_eq_getElem?_getD,rwL_get f h]
 rfl
theorem sum_small:∀ {l:List Int},(∀ y ∈ l,y≤12)→l.sum≤12 * (l.length:Int)
 | [],_=>Int.le_refl _
 | y :: r,h=>by
  have h1:=h y List.mem_cons_self
  have h2:=sum_small (l:=r) fun z hz=>h z (List.mem_cons_of_mem _ hz)
  rw [List.sum_cons,List.length_cons]
  omega
theorem cal_zero {S:List Sh} {d:Nat} : ∀ {l:List DD},(∀ x ∈ l,szC S d x=0)→calL S d l=0
 | [],_=>rfl
 | x :: r,h=>by
  have h2:=cal_zero (l:=r) fun z hz=>h z (List.mem_cons_of_mem _ hz)
  unfold calL at h2 ⊢
  rw [List.map_cons,List.sum_cons,h x List.mem_cons_self,h2]
  rfl
def rfN (S:List Sh) (d:Nat) (xs:List DD) : Nat:=if wrL S d xs=0 then (if 400 < (xs.map (szR S 0 d)).sum∨400 < calL S d xs then 3 else 0) else if wrL S d xs=1 then 1 else 2
theorem strNe6:¬ V.str (PySem.Str.ofString "word")=V.str (PySem.Str.ofString "place"):=fun z=>absurd (V.str.inj z) (by decide +kernel)
def rfM (S:List Sh) (c d:Nat) (xs:List DD) : Nat:=if wrL S d xs=0 then (if mis c d xs=true then 2 else if 400 < (rowL S c d xs).sum∨60 < calL S d xs then 3 else 0) else if wrL S d xs=1 then 1 else 2
theorem cutTl (v:V) (us:List V) : cutV (v :: us) (some 1) none=us:=by
 have h1:HT.sIx (v :: us).length 0 (some 1)=1:=by
  show (if (1:Int) < 0 then ((1:Int)+((v :: us).length:Int)).toNat else min (1:Int).toNat (v :: us).length)=1
  rw [if_neg (by decide),List.length_cons]
  show min 1 (us.length+1)=1
  omega
 have h2:HT.sIx (v :: us).length (v :: us).length none=(v :: us).length:=rfl
 unfold cutV
 rw [h1,h2]
 simp
theorem flat_ints (l:List Int) : (l.map V.int).all flatV=true:=List.all_eq_true.mpr fun x hx=>by
 obtain ⟨i,_,rfl⟩:=List.mem_map.mp hx
 rfl
theorem in_zero:∀ l:List Int,inV (.int 0) (l.map V.int)=l.any fun y=>decide (y=0)
 | []=>rfl
 | y :: l=>by
  show (eqV (.int y) (.int 0) || inV (.int 0) (l.map V.int))=_
  rw [in_zero l,List.any_cons]
  refine congrArg (fun b=>b || _) ?_
  show (y == 0)=decide (y=0)
  rfl

theorem sh_out {K:PySem.W.Frag} {H:Hp} {s:Sh} {v:V} (h:Rep K H (shD s) v) : ∃ a nv rv,v = .ref a∧SqT K H a [.str (tx s.n),.int (s.c:Int),nv,rv,.int s.k]∧Rep K H (.lst s.ns) nv∧Rep K H (.lst (s.r.map DD.int)) rv:=by
 obtain ⟨a,zs,rfl,st,_,rz⟩:=h.tupO
 unfold Reps at rz
 obtain ⟨z0,r0,rfl,y0,rz⟩:=rz
 unfold Reps at rz
 obtain ⟨z1,r1,rfl,y1,rz⟩:=rz
 obtain ⟨z2,z3,z4,rfl,y2,y3,y4⟩:=Reps.three rz
 rw [y0.strO,y1.intO,y4.intO] at st
 exact ⟨a,z2,z3,rfl,st,y2,y3⟩
theorem sh1_deep {U:List Sh} (h:ShW U) {s:Sh} (hs:s ∈ U) : (shD s).deep≤77:=by
 obtain ⟨j,hj⟩:=List.getElem?_of_mem hs
 have h1:deeps s.ns≤72:=deeps_le fun x hx=>(h.x.ord j s hj x hx).deep
 have h2:deeps (s.r.map DD.int)≤0:=deeps_le fun x hx=>by
  obtain ⟨i,_,rfl⟩:=List.mem_map.mp hx
  exact Nat.le_refl _
 simp [shD,DD.deep,deeps]
 omega
theorem sh_deep {U:List Sh} (h:ShW U) : (DD.lst (U.map shD)).deep≤80:=by
 have:deeps (U.map shD)≤77:=deeps_le fun x hx=>by
  obtain ⟨s,hs,rfl⟩:=List.mem_map.mp hx
  exact sh1_deep h hs
 simp [DD.deep]
 omega
theorem nd_deep {M:List (Wd0 × Nat)} {c d:Nat} {xs:List DD} (h:∀ x ∈ xs,Nd M c d x) (hd:d≤24) : (DD.lst xs).deep≤80:=by
 have:=deeps_le (k:=72) (l:=xs) fun x hx=>Nat.le_trans (h x hx).deep (by omega)
 simp [DD.deep]
 omega
theorem m10_of {U:List Sh} (h:ShW U) : ∀ m ∈ menuS U,m.2≤10:=fun m hm=>((mok_of h).2 m hm).2.2
theorem row_self {S:List Sh} (h:Sh0 S) {i:Nat} {s:Sh} (hs:S[i]? = some s) : rowL (S.take i) s.c 12 s.ns=s.r∧rowL (S.take i) s.c 24 s.ns=s.r:=by
 have e:=row_app (S:=S.take i) (T:=S.drop i) (h.x.take i).nd (h.x.ord i s hs)
 rw [List.take_append_drop,← h.x.eqr s (List.mem_of_getElem? hs)] at e
 exact ⟨by rw [← row_fuel (e:=24) (fun x hx=>(h.ord0 i s hs x hx).ns) (by decide)]; exact e.symm,e.symm⟩
end K19
namespace K19
open PySem PySem.Spec L2 Tl

noncomputable abbrev s_l_alike:Stmt:=top 27
noncomputable abbrev s_l_copy:Stmt:=top 28
noncomputable abbrev s_copied:Stmt:=top 6
noncomputable abbrev s_by_name:Stmt:=top 16
noncomputable abbrev s_short_called:Stmt:=top 17
noncomputable abbrev s_sum_of_rows:Stmt:=top 19
noncomputable abbrev s_size_among:Stmt:=top 18
noncomputable abbrev s_size_of:Stmt:=top 12
noncomputable abbrev s_new_short:Stmt:=top 13
noncomputable abbrev s_l_made:Stmt:=top 40
noncomputable abbrev s_l_size:Stmt:=top 33
noncomputable abbrev s_l_anew:Stmt:=top 42
noncomputable abbrev s_l_cell_at:Stmt:=top 25
noncomputable abbrev s_l_draw:Stmt:=top 26
noncomputable abbrev s_l_flat:Stmt:=top 36
noncomputable abbrev s_l_flats:Stmt:=top 37
noncomputable abbrev s_l_many:Stmt:=top 39
noncomputable abbrev s_l_end_argument:Stmt:=top 31
noncomputable abbrev s_l_word_by:Stmt:=top 30
noncomputable abbrev s_l_nodes:Stmt:=top 32
noncomputable abbrev s_words_out:Stmt:=top 20
noncomputable abbrev s_put_out:Stmt:=top 14
noncomputable abbrev s_l_put:Stmt:=top 41
noncomputable abbrev s_l_names:Stmt:=top 29
noncomputable abbrev s_l_short:Stmt:=top 34
noncomputable abbrev s_l_shorts:Stmt:=top 35
noncomputable abbrev s_l_sound:Stmt:=top 38
noncomputable abbrev s_calls_in:Stmt:=top 7
noncomputable abbrev s_arguments_stepped:Stmt:=top 22
noncomputable abbrev s_filled:Stmt:=top 23
noncomputable abbrev s_stepped:Stmt:=top 21
noncomputable abbrev s_one_step:Stmt:=top 15
noncomputable abbrev s_law:Stmt:=top 43
set_option genInjectivity false in
structure Adr where
 f_l_alike:Addr
 fd_l_alike:FuncData
 f_l_copy:Addr
 fd_l_copy:FuncData
 f_copied:Addr
 fd_copied:FuncData
 f_by_name:Addr
 fd_by_name:FuncData
 f_short_called:Addr
 fd_short_called:FuncData
 f_sum_of_rows:Addr
 fd_sum_of_rows:FuncData
 f_size_among:Addr
 fd_size_among:FuncData
 f_size_of:Addr
 fd_size_of:FuncData
 f_new_short:Addr
 fd_new_short:FuncData
 f_l_made:Addr
 fd_l_made:FuncData
 f_l_size:Addr
 fd_l_size:FuncData
 f_l_anew:Addr
 fd_l_anew:FuncData
 f_l_cell_at:Addr
 fd_l_cell_at:FuncData
 f_l_draw:Addr
 fd_l_draw:FuncData
 f_l_flat:Addr
 fd_l_flat:FuncData
 f_l_flats:Addr
 fd_l_flats:FuncData
 f_l_many:Addr
 fd_l_many:FuncData
 f_l_end_argument:Addr
 fd_l_end_argument:FuncData
 f_l_word_by:Addr
 fd_l_word_by:FuncData
 f_l_nodes:Addr
 fd_l_nodes:FuncData
 f_words_out:Addr
 fd_words_out:FuncData
 f_put_out:Addr
 fd_put_out:FuncData
 f_l_put:Addr
 fd_l_put:FuncData
 f_l_names:Addr
 fd_l_names:FuncData
 f_l_short:Addr
 fd_l_short:FuncData
 f_l_shorts:Addr
 fd_l_shorts:FuncData
 f_l_sound:Addr
 fd_l_sound:FuncData
 f_calls_in:Addr
 fd_calls_in:FuncData
 f_arguments_stepped:Addr
 fd_arguments_stepped:FuncData
 f_filled:Addr
 fd_filled:FuncData
 f_stepped:Addr
 fd_stepped:FuncData
 f_one_step:Addr
 fd_one_step:FuncData
 f_law:Addr
 fd_law:FuncData
 c_BadCall:Addr
 c_NoShort:Addr
 c_TooLong:Addr
structure Txt (P:Program) (w:World) (K:PySem.W.Frag) (mg:Str→Option Value) (a:Adr) : Prop where
 d_l_alike:DefOk K mg "_law_alike" s_l_alike ["found","due"] a.f_l_alike a.fd_l_alike
 d_l_copy:DefOk K mg "_law_copy" s_l_copy ["thing"] a.f_l_copy a.fd_l_copy
 d_copied:DefOk K mg "copied" s_copied ["nodes"] a.f_copied a.fd_copied
 d_by_name:DefOk K mg "by_name" s_by_name ["shorts"] a.f_by_name a.fd_by_name
 d_short_called:DefOk K mg "short_called" s_short_called ["named","call"] a.f_short_called a.fd_short_called
 d_sum_of_rows:DefOk K mg "sum_of_rows" s_sum_of_rows ["row","other","times"] a.f_sum_of_rows a.fd_sum_of_rows
 d_size_among:DefOk K mg "size_among" s_size_among ["named","nodes","count"] a.f_size_among a.fd_size_among
 d_size_of:DefOkV K mg "size_of" s_size_of ["shorts","nodes","count"] a.f_size_of a.fd_size_of (.int 0 277)
 d_new_short:DefOk K mg "new_short" s_new_short ["shorts","name","count","nodes"] a.f_new_short a.fd_new_short
 d_l_made:DefOk K mg "_law_made" s_l_made ["told","short"] a.f_l_made a.fd_l_made
 d_l_size:DefOk K mg "_law_size" s_l_size ["shorts","nodes","count"] a.f_l_size a.fd_l_size
 d_l_anew:DefOk K mg "_law_anew" s_l_anew ["shorts","at","body"] a.f_l_anew a.fd_l_anew
 d_l_cell_at:DefOk K mg "_law_cell_at" s_l_cell_at ["script","k"] a.f_l_cell_at a.fd_l_cell_at
 d_l_draw:DefOk K mg "_law_draw" s_l_draw ["cell","k","many"] a.f_l_draw a.fd_l_draw
 d_l_flat:DefOk K mg "_law_flat" s_l_flat ["flats","nodes"] a.f_l_flat a.fd_l_flat
 d_l_flats:DefOk K mg "_law_flats" s_l_flats ["shorts"] a.f_l_flats a.fd_l_flats
 d_l_many:DefOk K mg "_law_many" s_l_many ["nodes"] a.f_l_many a.fd_l_many
 d_l_end_argument:DefOk K mg "_law_end_argument" s_l_end_argument ["frames"] a.f_l_end_argument a.fd_l_end_argument
 d_l_word_by:DefOk K mg "_law_word_by" s_l_word_by ["cell"] a.f_l_word_by a.fd_l_word_by
 d_l_nodes:DefOk K mg "_law_nodes" s_l_nodes ["cells","shorts","count"] a.f_l_nodes a.fd_l_nodes
 d_words_out:DefOk K mg "words_out" s_words_out ["named","nodes","arguments"] a.f_words_out a.fd_words_out
 d_put_out:DefOk K mg "put_out" s_put_out ["shorts","nodes"] a.f_put_out a.fd_put_out
 d_l_put:DefOk K mg "_law_put" s_l_put ["told","nodes"] a.f_l_put a.fd_l_put
 d_l_names:DefOk K mg "_law_names" s_l_names ["cell","many"] a.f_l_names a.fd_l_names
 d_l_short:DefOk K mg "_law_short" s_l_short ["shorts","name","count","nodes"] a.f_l_short a.fd_l_short
 d_l_shorts:DefOk K mg "_law_shorts" s_l_shorts ["script","many","per"] a.f_l_shorts a.fd_l_shorts
 d_l_sound:DefOk K mg "_law_sound" s_l_sound ["shorts","nodes","count"] a.f_l_sound a.fd_l_sound
 d_calls_in:DefOk K mg "calls_in" s_calls_in ["nodes"] a.f_calls_in a.fd_calls_in
 d_arguments_stepped:DefOk K mg "arguments_stepped" s_arguments_stepped ["named","arguments","at"] a.f_arguments_stepped a.fd_arguments_stepped
 d_filled:DefOk K mg "filled" s_filled ["nodes","arguments"] a.f_filled a.fd_filled
 d_stepped:DefOk K mg "stepped" s_stepped ["named","nodes","at"] a.f_stepped a.fd_stepped
 d_one_step:DefOk K mg "one_step" s_one_step ["shorts","nodes","at"] a.f_one_step a.fd_one_step
 d_law:DefOk K mg "law" s_law ["script"] a.f_law a.fd_law
 z_bool:mg "bool" = none
 z_dict:mg "dict" = none
 z_enumerate:mg "enumerate" = none
 z_int:mg "int" = none
 z_isinstance:mg "isinstance" = none
 z_len:mg "len" = none
 z_list:mg "list" = none
 z_range:mg "range" = none
 z_str:mg "str" = none
 z_sum:mg "sum" = none
 z_tuple:mg "tuple" = none
 z_zip:mg "zip" = none
 x_BadCall:ExcOk K mg "BadCall" a.c_BadCall
 x_NoShort:ExcOk K mg "NoShort" a.c_NoShort
 x_TooLong:ExcOk K mg "TooLong" a.c_TooLong
 t_TooLong_TooLong:Takes K a.c_TooLong a.c_TooLong
 m_MOST_CALLS:∃ t,mg "MOST_CALLS" = some (.int 400 t)
 m_MOST_CALLS_OF_SHORT:∃ t,mg "MOST_CALLS_OF_SHORT" = some (.int 60 t)
 m_MOST_WORDS:∃ t,mg "MOST_WORDS" = some (.int 400 t)
section
variable {P:Program} {w:World} {K:PySem.W.Frag} {mg:Str→Option Value} {base:Heap} {a:Adr}


theorem sc_l_alike:FnScope ["found","due","k"] ["found","due"] (defScope s_l_alike):=⟨rfl,rfl,rfl,by decide +kernel,rfl,by decide +kernel,by decide +kernel⟩
theorem ok_l_alike_n (T:Txt P w K mg a) : ∀ n:Nat,FnOk P w K mg base CX0 n a.f_l_alike a.fd_l_alike ["found","due"] (sp_alike K n)
 | 0=>⟨fun vs H Q E h=>(by obtain ⟨d,x,y,_,h0,_⟩:=h; exact absurd h0 (Nat.not_lt_zero _)),fun A outer s H args us vs Q E _ _ _ _ h=>(by obtain ⟨d,x,y,_,h0,_⟩:=h; exact absurd h0 (Nat.not_lt_zero _))⟩
 | n+1=>by
  have g_l_alike:=ok_l_alike_n T n
  have d_l_alike:=T.d_l_alike
  have z_bool:=T.z_bool
  have z_int:=T.z_int
  have z_isinstance:=T.z_isinstance
  have z_len:=T.z_len
  have z_list:=T.z_list
  have z_range:=T.z_range
  have z_str:=T.z_str
  have z_tuple:=T.z_tuple

  refine T.d_l_alike.fn.ok sc_l_alike (fun vs H Q E h=>?_) (fun cdv A outer s H vs Q E hr h=>?_)
  ·obtain ⟨d,x,y,rfl,_⟩:=h
   rfl
  obtain ⟨d,x,y,rfl,hd,rx,ry,q⟩:=h
  refine ⟨_,(pss_cons (ps_if (pt_val (pe_callB call_isi rfl z_isinstance PyProof.Rows.boot_isinstance (pa_cons (pv 1) (pa_cons (pe_bltn (v:=.ty "bool") rfl z_bool PyProof.Rows.boot_bool rfl) pa_nil))) (fun _=>rfl)) (pss_one (ps_ret (pe_and (pe_callB call_isi rfl z_isinstance PyProof.Rows.boot_isinstance (pa_cons (pv 0) (pa_cons (pe_bltn (v:=.ty "bool") rfl z_bool PyProof.Rows.boot_bool rfl) pa_nil))) (pe_one (pe_cmpR op_eq (pv 0) (pv 1) (nomark _)))))) pss_nil)
   (pss_cons (ps_if (pt_val (pe_callB call_isi rfl z_isinstance PyProof.Rows.boot_isinstance (pa_cons (pv 1) (pa_cons (pe_bltn (v:=.ty "int") rfl z_int PyProof.Rows.boot_int rfl) pa_nil))) (fun _=>rfl)) (pss_one (ps_ret (pe_and (pe_callB call_isi rfl z_isinstance PyProof.Rows.boot_isinstance (pa_cons (pv 0) (pa_cons (pe_bltn (v:=.ty "int") rfl z_int PyProof.Rows.boot_int rfl) pa_nil))) (pe_and (pe_not (pe_callB call_isi rfl z_isinstance PyProof.Rows.boot_isinstance (pa_cons (pv 0) (pa_cons (pe_bltn (v:=.ty "bool") rfl z_bool PyProof.Rows.boot_bool rfl) pa_nil)))) (pe_one (pe_cmpR op_eq (pv 0) (pv 1) (nomark _))))))) pss_nil)
   (pss_cons (ps_if (pt_val (pe_callB call_isi rfl z_isinstance PyProof.Rows.boot_isinstance (pa_cons (pv 1) (pa_cons (pe_bltn (v:=.ty "str") rfl z_str PyProof.Rows.boot_str rfl) pa_nil))) (fun _=>rfl)) (pss_one (ps_ret (pe_and (pe_callB call_isi rfl z_isinstance PyProof.Rows.boot_isinstance (pa_cons (pv 0) (pa_cons (pe_bltn (v:=.ty "str") rfl z_str PyProof.Rows.boot_str rfl) pa_nil))) (pe_one (pe_cmpR op_eq (pv 0) (pv 1) (nomark _)))))) pss_nil)
   (pss_cons (ps_if (pt_val (pe_callB call_isi rfl z_isinstance PyProof.Rows.boot_isinstance (pa_cons (pv 1) (pa_cons (pe_bltn (v:=.ty "tuple") rfl z_tuple PyProof.Rows.boot_tuple rfl) pa_nil))) (fun _=>rfl)) (pss_one (ps_if (pt_not (pt_val (pe_callB call_isi rfl z_isinstance PyProof.Rows.boot_isinstance (pa_cons (pv 0) (pa_cons (pe_bltn (v:=.ty "tuple") rfl z_tuple PyProof.Rows.boot_tuple rfl) pa_nil))) (fun _=>rfl))) (pss_one (ps_ret pe_bl)) pss_nil)) (pss_one (ps_if (pt_not (pt_val (pe_callB call_isi rfl z_isinstance PyProof.Rows.boot_isinstance (pa_cons (pv 0) (pa_cons (pe_bltn (v:=.ty "list") rfl z_list PyProof.Rows.boot_list rfl) pa_nil))) (fun _=>rfl))) (pss_one (ps_ret pe_bl)) pss_nil)))
   (pss_cons (ps_if (pt_cmpR op_ne (pe_callB call_len rfl z_len PySem.boot_len (pa_cons (pv 0) pa_nil)) (pe_callB call_len rfl z_len PySem.boot_len (pa_cons (pv 1) pa_nil)) (nomark _)) (pss_one (ps_ret pe_bl)) pss_nil)
   (pss_cons (ps_for PassesOwn.never rfl (pi_range1 rfl z_range (pa_cons (pe_callB call_len rfl z_len PySem.boot_len (pa_cons (pv 1) pa_nil)) pa_nil)) (pg_name (i:=2) sc_l_alike.nd rfl (Or.inl rfl)) (pss_one (ps_if (pt_not (pt_val (pe_callD d_l_alike g_l_alike hr rfl (pa_cons (pe_ix ix_seq (pv 0) (pv 2) (fun _ _=>rfl)) (pa_cons (pe_ix ix_seq (pv 1) (pv 2) (fun _ _=>rfl)) pa_nil))) (fun _=>rfl))) (pss_one (ps_ret pe_bl)) pss_nil)))
   (pss_one (ps_ret pe_bl)))))))),?_⟩
  cases d with
  | bl b =>
   unfold Rep at rx ry
   subst rx ry
   refine ⟨_,rfl,_,"bool",true,rfl,by decide,rfl,_,rfl,?_⟩
   refine iteT ?_
   refine ⟨_,rfl,_,"bool",true,rfl,by decide,rfl,_,rfl,?_⟩
   refine iteT ?_
   refine ⟨_,rfl,_,rfl,rfl,?_⟩
   rw [decide_eq_true rfl]
   exact q
  | int i =>
   unfold Rep at rx ry
   subst rx ry
   refine ⟨_,rfl,_,"bool",false,rfl,by decide,rfl,_,rfl,?_⟩
   refine iteF ?_
   refine ⟨_,rfl,_,"int",true,rfl,by decide,rfl,_,rfl,?_⟩
   refine iteT ?_
   refine ⟨_,rfl,_,"int",true,rfl,by decide,rfl,_,rfl,?_⟩
   refine iteT ?_
   refine ⟨_,rfl,_,"bool",false,rfl,by decide,rfl,_,rfl,_,rfl,?_⟩
   refine iteT ?_
   refine ⟨_,rfl,_,rfl,rfl,?_⟩
   rw [decide_eq_true rfl]
   exact q
  | str i =>
   unfold Rep at rx ry
   subst rx ry
   refine ⟨_,rfl,_,"bool",false,rfl,by decide,rfl,_,rfl,?_⟩
   refine iteF ?_
   refine ⟨_,rfl,_,"int",false,rfl,by decide,rfl,_,rfl,?_⟩
   refine iteF ?_
   refine ⟨_,rfl,_,"str",true,rfl,by decide,rfl,_,rfl,?_⟩
   refine iteT ?_
   refine ⟨_,rfl,_,"str",true,rfl,by decide,rfl,_,rfl,?_⟩
   refine iteT ?_
   refine ⟨_,rfl,_,rfl,rfl,?_⟩
   rw [decide_eq_true rfl]
   exact q
  | lst l =>
   unfold Rep at rx ry
   unfold DD.deep at hd
   obtain ⟨a1,xs,rfl,s1,hl,r1⟩:=rx
   obtain ⟨a2,ys,rfl,s2,_,r2⟩:=ry
   have l1:=r1.len
   have l2:=r2.len
   refine ⟨_,rfl,_,"bool",false,rfl,by decide,.inl ⟨⟨_,s2⟩,rfl⟩,_,rfl,?_⟩
   refine iteF ?_
   refine ⟨_,rfl,_,"int",false,rfl,by decide,.inl ⟨⟨_,s2⟩,rfl⟩,_,rfl,?_⟩
   refine iteF ?_
   refine ⟨_,rfl,_,"str",false,rfl,by decide,.inl ⟨⟨_,s2⟩,rfl⟩,_,rfl,?_⟩
   refine iteF ?_
   refine ⟨_,rfl,_,"tuple",false,rfl,by decide,.inl ⟨⟨_,s2⟩,rfl⟩,_,rfl,?_⟩
   refine iteF ?_
   refine ⟨_,rfl,_,"list",true,rfl,by decide,.inl ⟨⟨_,s1⟩,rfl⟩,_,rfl,?_⟩
   refine iteF ?_
   refine ⟨_,rfl,_,_,rfl,.inl ⟨_,s1,rfl⟩,_,rfl,_,_,rfl,.inl ⟨_,s2,rfl⟩,rfl,_,rfl,?_⟩
   refine iteNS (by rw [l1,l2]) ?_
   refine ⟨_,rfl,_,_,rfl,.inl ⟨_,s2,rfl⟩,_,rfl,by omega,by omega,for_range (fun i σ H2=>H2=H∧∃ v,σ=[some (.ref a1),some (.ref a2),v]) ⟨rfl,none,rfl⟩ ?_ ?_⟩
   ·rintro i σ H2 hi ⟨rfl,v,rfl⟩
    have hi2:i < l.length:=by simp at hi; omega
    obtain ⟨x,ex,hx⟩:=r1.get (List.getElem?_eq_getElem hi2)
    obtain ⟨y,ey,hy⟩:=r2.get (List.getElem?_eq_getElem hi2)
    have hdd:=deeps_get (List.getElem?_eq_getElem hi2)
    have ix:∀ {zs:List V} {z:V},zs[i]? = some z→atI zs (0+(i:Int))=some z:=fun e=>by rw [Int.zero_add]; exact atI_nat e
    refine ⟨_,rfl,_,rfl,.inl ⟨_,_,_,_,rfl,rfl,s1,ix ex,_,rfl,_,rfl,.inl ⟨_,_,_,_,rfl,rfl,s2,ix ey,_,_,_,rfl,by omega,hx,hy,_,rfl,?_⟩⟩⟩
    refine iteF ?_
    exact ⟨rfl,_,rfl⟩
   ·rintro σ H2 ⟨rfl,v,rfl⟩
    exact q
  | tup l =>
   unfold Rep at rx ry
   unfold DD.deep at hd
   obtain ⟨a1,xs,rfl,s1,hl,r1⟩:=rx
   obtain ⟨a2,ys,rfl,s2,_,r2⟩:=ry
   have l1:=r1.len
   have l2:=r2.len
   refine ⟨_,rfl,_,"bool",false,rfl,by decide,.inr ⟨⟨_,s2⟩,rfl⟩,_,rfl,?_⟩
   refine iteF ?_
   refine ⟨_,rfl,_,"int",false,rfl,by decide,.inr ⟨⟨_,s2⟩,rfl⟩,_,rfl,?_⟩
   refine iteF ?_
   refine ⟨_,rfl,_,"str",false,rfl,by decide,.inr ⟨⟨_,s2⟩,rfl⟩,_,rfl,?_⟩
   refine iteF ?_
   refine ⟨_,rfl,_,"tuple",true,rfl,by decide,.inr ⟨⟨_,s2⟩,rfl⟩,_,rfl,?_⟩
   refine iteT ?_
   refine ⟨_,rfl,_,"tuple",true,rfl,by decide,.inr ⟨⟨_,s1⟩,rfl⟩,_,rfl,?_⟩
   refine iteF ?_
   refine ⟨_,rfl,_,_,rfl,.inr ⟨_,s1,rfl⟩,_,rfl,_,_,rfl,.inr ⟨_,s2,rfl⟩,rfl,_,rfl,?_⟩
   refine iteNS (by rw [l1,l2]) ?_
   refine ⟨_,rfl,_,_,rfl,.inr ⟨_,s2,rfl⟩,_,rfl,by omega,by omega,for_range (fun i σ H2=>H2=H∧∃ v,σ=[some (.ref a1),some (.ref a2),v]) ⟨rfl,none,rfl⟩ ?_ ?_⟩
   ·rintro i σ H2 hi ⟨rfl,v,rfl⟩
    have hi2:i < l.length:=by simp at hi; omega
    obtain ⟨x,ex,hx⟩:=r1.get (List.getElem?_eq_getElem hi2)
    obtain ⟨y,ey,hy⟩:=r2.get (List.getElem?_eq_getElem hi2)
    have hdd:=deeps_get (List.getElem?_eq_getElem hi2)
    have ix:∀ {zs:List V} {z:V},zs[i]? = some z→atI zs (0+(i:Int))=some z:=fun e=>by rw [Int.zero_add]; exact atI_nat e
    refine ⟨_,rfl,_,rfl,.inr (.inl ⟨_,_,_,_,rfl,rfl,s1,ix ex,_,rfl,_,rfl,.inr (.inl ⟨_,_,_,_,rfl,rfl,s2,ix ey,_,_,_,rfl,by omega,hx,hy,_,rfl,?_⟩)⟩)⟩
    refine iteF ?_
    exact ⟨rfl,_,rfl⟩
   ·rintro σ H2 ⟨rfl,v,rfl⟩
    exact q
theorem ok_l_alike (T:Txt P w K mg a) : FnOk P w K mg base CX0 100 a.f_l_alike a.fd_l_alike ["found","due"] (sp_alike K 100):=ok_l_alike_n T 100

theorem sc_l_copy:FnScope ["thing"] ["thing"] (defScope s_l_copy):=⟨rfl,rfl,rfl,by decide +kernel,rfl,by decide +kernel,by decide +kernel⟩
def sp_cp (K:PySem.W.Frag) (n:Nat) : Sp:=fun vs H Q _=>∃ (d:DD) (v:V),vs=[v]∧d.deep < n∧Rep K H d v∧∀ v' H',Same H H'→Rep K H' d v'→Q v' H'
theorem ok_l_copy_n (T:Txt P w K mg a) : ∀ n:Nat,FnOk P w K mg base CX0 (n+4) a.f_l_copy a.fd_l_copy ["thing"] (sp_cp K n)
 | 0=>⟨fun vs H Q E h=>(by obtain ⟨d,v,_,h1,_⟩:=h; omega),fun A outer s H args us vs Q E _ _ _ _ h=>(by obtain ⟨d,v,_,h1,_⟩:=h; omega)⟩
 | n+1=>by
  have g_l_copy:=ok_l_copy_n T n
  have d_l_copy:=T.d_l_copy
  have z_isinstance:=T.z_isinstance
  have z_list:=T.z_list
  have z_tuple:=T.z_tuple

  refine T.d_l_copy.fn.ok sc_l_copy (fun vs H Q E h=>?_) (fun cdv A outer s H vs Q E hr h=>?_)
  ·obtain ⟨d,v,rfl,_⟩:=h
   rfl
  obtain ⟨d,v,rfl,hd,rv,q⟩:=h
  have hu:=Nat.lt_of_succ_lt (hu_of hr)
  refine ⟨_,(pss_cons (ps_if (pt_val (pe_callB call_isi rfl z_isinstance PyProof.Rows.boot_isinstance (pa_cons (pv 0) (pa_cons (pe_bltn (v:=.ty "list") rfl z_list PyProof.Rows.boot_list rfl) pa_nil))) (fun _=>rfl)) (pss_one (ps_ret (pe_lc rfl (lcok (caps:=[]) (js:=[]) (cap:=trivial)) (pi_list (pv 0)) (fun _ _ _ _=>pts_nil) (fun _ _ _ _=>(pe_callD d_l_copy g_l_copy hr rfl (pa_cons (pv 0) pa_nil)))))) pss_nil)
   (pss_cons (ps_if (pt_val (pe_callB call_isi rfl z_isinstance PyProof.Rows.boot_isinstance (pa_cons (pv 0) (pa_cons (pe_bltn (v:=.ty "tuple") rfl z_tuple PyProof.Rows.boot_tuple rfl) pa_nil))) (fun _=>rfl)) (pss_one (ps_ret (pe_callTy call_tuple_of rfl z_tuple PyProof.Rows.boot_tuple (pa_cons (pe_lc rfl (lcok (caps:=[]) (js:=[]) (cap:=trivial)) (pi_tup (pv 0)) (fun _ _ _ _=>pts_nil) (fun _ _ _ _=>(pe_callD d_l_copy g_l_copy hr rfl (pa_cons (pv 0) pa_nil)))) pa_nil)))) pss_nil)
   (pss_one (ps_ret (pv 0))))),?_⟩
  cases d with
  | bl b =>
   refine ⟨_,rfl,_,"list",false,rfl,by decide,rv.isi "list",_,rfl,?_⟩
   refine iteF ?_
   refine ⟨_,rfl,_,"tuple",false,rfl,by decide,rv.isi "tuple",_,rfl,?_⟩
   refine iteF ?_
   exact ⟨_,rfl,q _ _ (Same.refl _) rv⟩
  | int b =>
   refine ⟨_,rfl,_,"list",false,rfl,by decide,rv.isi "list",_,rfl,?_⟩
   refine iteF ?_
   refine ⟨_,rfl,_,"tuple",false,rfl,by decide,rv.isi "tuple",_,rfl,?_⟩
   refine iteF ?_
   exact ⟨_,rfl,q _ _ (Same.refl _) rv⟩
  | str b =>
   refine ⟨_,rfl,_,"list",false,rfl,by decide,rv.isi "list",_,rfl,?_⟩
   refine iteF ?_
   refine ⟨_,rfl,_,"tuple",false,rfl,by decide,rv.isi "tuple",_,rfl,?_⟩
   refine iteF ?_
   exact ⟨_,rfl,q _ _ (Same.refl _) rv⟩
  | lst l =>
   obtain ⟨aa,xs,rfl,sx,hl,rx⟩:=rv.lstO
   have xl:=rx.len
   unfold DD.deep at hd
   refine ⟨_,rfl,_,"list",true,rfl,by decide,rv.isi "list",_,rfl,?_⟩
   refine iteT ?_
   refine ⟨_,rfl,aa,rfl,⟨_,sx⟩,lc_list (K:=K) (a:=aa) (xs:=xs) (fun i ys G=>Same H G∧Reps K G (l.take i) ys) ⟨Same.refl _,Reps.nil⟩ (fun i ys G _ z=>z.1.seq sx) ?_ ?_ ?_⟩
   ·rintro i ys G hi ⟨_,r2⟩
    rw [r2.len,List.length_take]
    exact small1000 (by omega)
   ·rintro i y ys G hy ⟨s1,r2⟩
    obtain ⟨d,e,r3⟩:=rx.getR hy
    have hdd:=deep_mem e
    refine yes_go ?_
    refine ⟨_,rfl,d,y,rfl,by omega,r3.mono s1,fun v' G' s2 r4=>⟨s1.trans s2,?_⟩⟩
    rw [List.take_add_one,e]
    exact (r2.mono s2).snoc r4
   ·rintro ys G ⟨s1,r2⟩ p hp
    rw [xl,List.take_of_length_le (Nat.le_refl _)] at r2
    have g2:=same_new hp (.lst ys)
    exact q _ _ (s1.trans g2) (rep_lst (SqL.of upd_same) hl (r2.mono g2))
  | tup l =>
   obtain ⟨aa,xs,rfl,sx,hl,rx⟩:=rv.tupO
   have xl:=rx.len
   unfold DD.deep at hd
   refine ⟨_,rfl,_,"list",false,rfl,by decide,rv.isi "list",_,rfl,?_⟩
   refine iteF ?_
   refine ⟨_,rfl,_,"tuple",true,rfl,by decide,rv.isi "tuple",_,rfl,?_⟩
   refine iteT ?_
   refine ⟨_,rfl,aa,rfl,⟨_,sx⟩,lc_tupl (K:=K) (a:=aa) (xs:=xs) (fun i ys G=>Same H G∧Reps K G (l.take i) ys) ⟨Same.refl _,Reps.nil⟩ (fun i ys G _ z=>z.1.tup sx) ?_ ?_ ?_⟩
   ·rintro i ys G hi ⟨_,r2⟩
    rw [r2.len,List.length_take]
    exact small1000 (by omega)
   ·rintro i y ys G hy ⟨s1,r2⟩
    obtain ⟨d,e,r3⟩:=rx.getR hy
    have hdd:=deep_mem e
    refine yes_go ?_
    refine ⟨_,rfl,d,y,rfl,by omega,r3.mono s1,fun v' G' s2 r4=>⟨s1.trans s2,?_⟩⟩
    rw [List.take_add_one,e]
    exact (r2.mono s2).snoc r4
   ·rintro ys G ⟨s1,r2⟩ p hp
    rw [xl,List.take_of_length_le (Nat.le_refl _)] at r2
    have g2:=same_new hp (.lst ys)
    refine ⟨p,ys,rfl,.inl ⟨SqL.of upd_same,fun p3 hp3=>?_⟩⟩
    have g3:=same_new hp3 (.tup ys)
    exact q _ _ ((s1.trans g2).trans g3) (rep_tup (SqT.of upd_same) hl ((r2.mono g2).mono g3))
theorem ok_l_copy (T:Txt P w K mg a) : FnOk P w K mg base CX0 130 a.f_l_copy a.fd_l_copy ["thing"] (sp_cp K (130 - 4)):=ok_l_copy_n T (130 - 4)

theorem sc_copied:FnScope ["nodes","told","node"] ["nodes"] (defScope s_copied):=⟨rfl,rfl,rfl,by decide +kernel,rfl,by decide +kernel,by decide +kernel⟩
def sp_cpd (K:PySem.W.Frag) (n:Nat) : Sp:=fun vs H Q _=>∃ (B:Hp) (xv:V) (xs:List DD) (M:List (Wd0 × Nat)) (c d:Nat),vs=[xv]∧d < n∧d≤40∧Same B H∧Rep K B (.lst xs) xv∧(∀ x ∈ xs,Nd M c d x)∧(∀ m ∈ M,m.2≤10)∧lvL xs+callsL xs≤30000 ∧
  ∀ p H' vs l,Same H H'→H p=none→H' p=some (.lst vs)→Cat (ApN K (mxE B H H' []) d) xs vs l→NewL H H' (p :: l)→Q (.ref p) H'
theorem ok_copied_n (T:Txt P w K mg a) : ∀ n:Nat,FnOk P w K mg base CX0 (n+4) a.f_copied a.fd_copied ["nodes"] (sp_cpd K n)
 | 0=>⟨fun vs H Q E h=>(by obtain ⟨B,xv,xs,M,c,d,_,h1,_⟩:=h; omega),fun A outer s H args us vs Q E _ _ _ _ h=>(by obtain ⟨B,xv,xs,M,c,d,_,h1,_⟩:=h; omega)⟩
 | n+1=>by
  have g_copied:=ok_copied_n T n
  have d_copied:=T.d_copied

  refine T.d_copied.fn.ok sc_copied (fun vs H Q E h=>?_) (fun cdv A outer s H vs Q E hr h=>?_)
  ·obtain ⟨B,xv,xs,M,c,d,rfl,_⟩:=h
   rfl
  obtain ⟨B,xv,xs,M,c,d,rfl,hd,hd20,sB,rx,ndx,m10,hlv,q⟩:=h
  have xl900:xs.length≤30000:=Nat.le_trans (len_lv fun x hx=>(ndx x hx).ns) hlv
  have hu:=Nat.lt_of_succ_lt (hu_of hr)
  refine ⟨_,(pss_cons (ps_set (i:=1) sc_copied.nd rfl (Or.inl rfl) (pe_lst pa_nil))
   (pss_cons (ps_for PassesOwn.never rfl (pi_list (pv 0)) (pg_name (i:=2) sc_copied.nd rfl (Or.inl rfl)) (pss_one (ps_if (pt_cmpR op_eq (pe_ix ix_tup (pv 2) pe_int (fun _ _=>rfl)) pe_str (nomark _)) (pss_one (ps_expr (pe_bm PySem.F.plainAttrs_list PySem.F.slot_list_append PySem.F.type_list_append mt_append (pv 1) (pa_cons (pe_tup (pa_cons pe_str (pa_cons (pe_ix ix_tup (pv 2) pe_int (fun _ _=>rfl)) (pa_cons (pe_lc rfl (lcok (caps:=[]) (js:=[]) (cap:=trivial)) (pi_list (pe_ix ix_tup (pv 2) pe_int (fun _ _=>rfl))) (fun _ _ _ _=>pts_nil) (fun _ _ _ _=>(pe_callD d_copied g_copied hr rfl (pa_cons (pv 0) pa_nil)))) pa_nil)))) pa_nil)))) (pss_one (ps_expr (pe_bm PySem.F.plainAttrs_list PySem.F.slot_list_append PySem.F.type_list_append mt_append (pv 1) (pa_cons (pv 2) pa_nil)))))))
   (pss_one (ps_ret (pv 1))))),?_⟩
  obtain ⟨xa,vs0,rfl,sxB,_,rxs⟩:=rx.lstO
  have xl:=rxs.len
  have sx:=sB.seq sxB
  refine ⟨small (by simp),fun pt hpt=>?_⟩
  have g1:=same_new hpt (.lst [])
  have k1:upd H pt (.lst []) pt=some (.lst []):=upd_same
  generalize upd H pt (.lst [])=H1 at g1 k1 ⊢
  have bpt:∀ b ∈ [pt],B b=none:=fun b hb=>by
   rw [List.mem_singleton.mp hb]
   exact sB.free hpt
  refine ⟨_,rfl,xa,rfl,⟨_,g1.seq sx⟩,for_list (K:=K) (a:=xa) (xs:=vs0) (fun k σ G=>∃ (v2:Option V) (vs:List V) (l:List Addr),σ=[some (.ref xa),some (.ref pt),v2]∧Same H G∧G pt=some (.lst vs)∧Cat (ApN K (mxE B H G [pt]) d) (xs.take k) vs l∧NewL H (erL G [pt]) l) ⟨none,[],[],rfl,g1,k1,Cat.nil,NewL.nil⟩ (fun k σ G _ z=>by obtain ⟨_,_,_,_,s1,_⟩:=z; exact s1.seq sx) ?_ ?_⟩
  ·rintro k y σ G hy ⟨v2,vs,l,rfl,s1,kt,ct,nw⟩
   obtain ⟨x0,e0,r0⟩:=rxs.getR hy
   have hk9:k < 30000:=by have:=(List.getElem?_eq_some_iff.mp hy).1; omega
   have nd0:=ndx x0 (List.mem_of_getElem? e0)
   have vl:=ct.len
   rw [List.length_take] at vl
   have sBG:=sB.trans s1
   obtain ⟨e,rfl⟩:=nd0.pos
   have esn:xs.take (k+1)=xs.take k++[x0]:=by rw [List.take_add_one,e0]; rfl
   have stp:∀ {G2:Hp},(∀ b o,b≠pt→G b=some o→G2 b=some o)→Same (mxE B H G [pt]) (mxE B H G2 [pt]):=fun h=>mxE_step sB fun b o nb hb=>h b o (by simpa using nb) hb
   have stn:∀ {G2:Hp},(∀ b o,b≠pt→G b=some o→G2 b=some o)→Same (erL G [pt]) (erL G2 [pt]):=fun h=>erL_step (fun b o nb hb=>h b o (by simpa using nb) hb) fun b hb=>.inl hb
   rcases nd0.out with ⟨w',rfl⟩ | ⟨pk,hp1,hp2,rfl⟩ | ⟨nm',as,rfl,hM,has⟩
   ·obtain ⟨ta,zs,rfl,st,_,rz⟩:=id r0.tupO
    obtain ⟨z0,z1,rfl,y0,y1⟩:=Reps.two rz
    rw [y0.strO,y1.strO] at st
    refine ⟨_,rfl,_,_,_,_,rfl,rfl,sBG.tup st,rfl,rfl,_,rfl,?_⟩
    rw [decide_eq_false strNe4]
    refine iteF ?_
    refine ⟨_,rfl,.inl ⟨rfl,_,SqL.of kt⟩,_,rfl,_,_,_,rfl,rfl,kt,small1000 (by omega),?_⟩
    have ke:∀ b o,b≠pt→G b=some o→(upd G pt (.lst (vs++[V.ref ta]))) b=some o:=fun b o nb hb=>by rw [upd_ne nb]; exact hb
    refine ⟨_,vs++[V.ref ta],l,rfl,s1.put hpt,upd_same,?_,nw.up (stn ke)⟩
    rw [esn]
    have:=(ct.mono (stp ke)).snoc (x:=wdD w') (v:=V.ref ta) (l1:=[]) (.inl ⟨r0.mono (mxE_base sB bpt),rfl,.inl ⟨_,rfl⟩⟩)
    rwa [List.append_nil] at this
   ·obtain ⟨ta,zs,rfl,st,_,rz⟩:=id r0.tupO
    obtain ⟨z0,z1,rfl,y0,y1⟩:=Reps.two rz
    rw [y0.strO,y1.intO] at st
    refine ⟨_,rfl,_,_,_,_,rfl,rfl,sBG.tup st,rfl,rfl,_,rfl,?_⟩
    rw [decide_eq_false strNe5]
    refine iteF ?_
    refine ⟨_,rfl,.inl ⟨rfl,_,SqL.of kt⟩,_,rfl,_,_,_,rfl,rfl,kt,small1000 (by omega),?_⟩
    have ke:∀ b o,b≠pt→G b=some o→(upd G pt (.lst (vs++[V.ref ta]))) b=some o:=fun b o nb hb=>by rw [upd_ne nb]; exact hb
    refine ⟨_,vs++[V.ref ta],l,rfl,s1.put hpt,upd_same,?_,nw.up (stn ke)⟩
    rw [esn]
    have:=(ct.mono (stp ke)).snoc (x:=plD pk) (v:=V.ref ta) (l1:=[]) (.inl ⟨r0.mono (mxE_base sB bpt),rfl,.inr ⟨_,rfl⟩⟩)
    rwa [List.append_nil] at this
   ·obtain ⟨ta,zs,rfl,stB,_,rz⟩:=r0.tupO
    obtain ⟨z0,z1,z2,rfl,y0,y1,y2⟩:=Reps.three rz
    rw [y0.strO,y1.strO] at stB
    obtain ⟨la,ys,rfl,slB,_,rl⟩:=y2.lstO
    have yl:=rl.len
    rw [List.length_map] at yl
    have a10:as.length≤10:=m10 _ hM
    have st:=sBG.tup stB
    have sl:=sBG.seq slB
    refine ⟨_,rfl,_,_,_,_,rfl,rfl,st,rfl,rfl,_,rfl,?_⟩
    rw [decide_eq_true rfl]
    refine iteT ?_
    refine ⟨_,rfl,.inl ⟨rfl,_,SqL.of kt⟩,_,rfl,_,_,_,_,rfl,rfl,st,rfl,_,rfl,_,_,_,_,rfl,rfl,st,rfl,la,rfl,⟨_,sl⟩,lc_list (K:=K) (a:=la) (xs:=ys) (fun j zs G'=>Same G G'∧∃ l2,Cat (ApG (mxE B G G' []) (ApN K (mxE B G G' []) e)) (as.take j) zs l2∧NewL G G' l2) ⟨Same.refl _,[],Cat.nil,NewL.nil⟩ (fun j zs G' _ z=>z.1.seq sl) ?_ ?_ ?_⟩
    ·rintro j zs G' hj ⟨_,l2,c2,_⟩
     rw [c2.len,List.length_take]
     exact small1000 (by omega)
    ·rintro j y zs G' hy ⟨s2,l2,c2,n2⟩
     obtain ⟨dj,ejm,rj⟩:=rl.getR hy
     rw [List.getElem?_map] at ejm
     obtain ⟨aj,eaj,rfl⟩:=Option.map_eq_some_iff.mp ejm
     clear ejm
     have haj:=has aj (List.mem_of_getElem? eaj)
     have lvj:lvL aj+callsL aj≤30000:=by
      have q1:=lv_mem (List.mem_of_getElem? e0)
      rw [lv_cl,calls_cl] at q1
      have q2:=lv_mem (List.mem_map.mpr ⟨aj,List.mem_of_getElem? eaj,rfl⟩ : DD.lst aj ∈ as.map DD.lst)
      rw [lv_lst,calls_lst] at q2
      omega
     have lnj:aj.length≤30000:=Nat.le_trans (len_lv fun x hx=>(haj.2 x hx).ns) lvj
     refine yes_go ?_
     refine ⟨_,rfl,B,y,aj,M,c,e,rfl,by omega,by omega,sBG.trans s2,rj,haj.2,m10,lvj,fun p G5 vs5 l5 s5 fp kp c5 n5=>⟨s2.trans s5,l2++(p :: l5),?_,n2.app s2 s5 n5⟩⟩
     rw [List.take_add_one,eaj]
     have u1:Same (mxE B G G' []) (mxE B G G5 []):=mxE_step sBG fun b o _ hb=>s5 _ _ hb
     have u2:Same (mxE B G' G5 []) (mxE B G G5 []):=fun b o hb=>by
      obtain ⟨_,h2 | h2⟩:=mxE_of hb
      ·exact mxE_new (s2.free h2.1) (by simp) h2.2
      ·exact mxE_old sBG (by simp) h2
     refine (c2.imp fun a _ y l z=>z.mono u1 fun x _ v l z=>z.mono u1).snoc ⟨p,vs5,l5,rfl,mxE_new (s2.free fp) (by simp) kp,rfl,lnj,c5.mono u2⟩
    rintro zs G' ⟨s2,l2,c2,n2⟩ pb hpb
    rw [yl,List.take_of_length_le (Nat.le_refl _)] at c2
    have zl:=c2.len
    have g3:=same_new hpb (.lst zs)
    have k3:upd G' pb (.lst zs) pb=some (.lst zs):=upd_same
    have n3:=n2.one s2 g3 hpb k3 (by omega)
    have fb:=s2.free hpb
    generalize upd G' pb (.lst zs)=G3 at g3 k3 n3 ⊢
    refine ⟨le3,fun p hp=>?_⟩
    have g4:=same_new hp (.tup [V.str (PySem.Str.ofString "call"),V.str (tx nm'),V.ref pb])
    have k4:upd G3 p (.tup [V.str (PySem.Str.ofString "call"),V.str (tx nm'),V.ref pb]) p=some (.tup [V.str (PySem.Str.ofString "call"),V.str (tx nm'),V.ref pb]):=upd_same
    have fp:=(s2.trans g3).free hp
    have n4:=n3.up g4
    have k34:=g4 _ _ k3
    generalize upd G3 p (.tup [V.str (PySem.Str.ofString "call"),V.str (tx nm'),V.ref pb])=G4 at g4 k4 n4 k34 ⊢
    have s34:=g3.trans g4
    have s24:=s2.trans s34
    refine ⟨_,_,_,rfl,rfl,s24 _ _ kt,small1000 (by omega),?_⟩
    have npb:pb≠pt:=Ne.symm (ne_of_none kt fb)
    have np:p≠pt:=Ne.symm (ne_of_none kt fp)
    have ke:∀ b o,b≠pt→G4 b=some o→(upd G4 pt (.lst (vs++[V.ref p]))) b=some o:=fun b o nb hb=>by rw [upd_ne nb]; exact hb
    have ke0:∀ b o,b≠pt→G b=some o→(upd G4 pt (.lst (vs++[V.ref p]))) b=some o:=fun b o nb hb=>ke b o nb (s24 _ _ hb)
    have kin:Same (mxE B G G' []) (mxE B H (upd G4 pt (.lst (vs++[V.ref p]))) [pt]):=mxE_in sB s1 hpt kt fun b o nb hb=>ke b o nb (s34 _ _ hb)
    refine ⟨_,vs++[V.ref p],l++(pb :: l2),rfl,(s1.trans s24).put hpt,upd_same,?_,?_⟩
    ·rw [esn]
     refine (ct.mono (stp ke0)).snoc (.inr ⟨nm',as,p,pb,zs,l2,rfl,rfl,mxE_new (s1.free fp) (by simpa using np) (ke _ _ np k4),mxE_new (s1.free fb) (by simpa using npb) (ke _ _ npb k34),rfl,a10,c2.imp fun a _ y l z=>z.mono kin fun x _ v l z=>z.mono kin⟩)
    ·refine nw.app (fun b o hb=>erL_get (by simpa using ne_of_none hb hpt) (s1 b o hb)) (stn ke0) ⟨n4.nd,fun b hb=>?_,fun b hb=>?_⟩
     ·unfold erL
      split
      ·rfl
      ·exact n4.new b hb
     ·obtain ⟨o,h1,h2⟩:=n4.at' b hb
      have nb:b≠pt:=Ne.symm (ne_of_none kt (n4.new b hb))
      exact ⟨o,erL_get (by simpa using nb) (ke b _ nb h1),h2⟩
  ·rintro σ G ⟨v2,vs,l,rfl,s1,kt,ct,nw⟩
   rw [xl,List.take_of_length_le (Nat.le_refl _)] at ct
   have vl:=ct.len
   have nfin:NewL H G (pt :: l):=by
    refine ⟨List.nodup_cons.mpr ⟨fun z=>?_,nw.nd⟩,fun b hb=>?_,fun b hb=>?_⟩
    ·obtain ⟨o,h1,_⟩:=nw.at' pt z
     exact (erL_of h1).1 (by simp)
    ·rcases List.mem_cons.mp hb with rfl | hb
     ·exact hpt
     ·exact nw.new b hb
    ·rcases List.mem_cons.mp hb with rfl | hb
     ·exact ⟨_,kt,by omega⟩
     ·obtain ⟨o,h1,h2⟩:=nw.at' b hb
      exact ⟨o,(erL_of h1).2,h2⟩
   exact ⟨_,rfl,q pt G vs l s1 hpt kt (ct.mono (mxE_nil sB)) nfin⟩
theorem ok_copied (T:Txt P w K mg a) : FnOk P w K mg base CX0 45 a.f_copied a.fd_copied ["nodes"] (sp_cpd K (45 - 4)):=ok_copied_n T (45 - 4)
def sp_by_name (K:PySem.W.Frag) : Sp:=fun vs H Q _=>∃ (sv:V) (S:List Sh),vs=[sv]∧Rep K H (.lst (S.map shD)) sv∧(S.map Sh.n).Nodup∧S.length≤100∧∀ p H',Same H H'→NmAt K H' p S→Q (.ref p) H'
theorem sc_by_name:FnScope ["shorts"] ["shorts"] (defScope s_by_name):=⟨rfl,rfl,rfl,by decide +kernel,rfl,by decide +kernel,by decide +kernel⟩
theorem ok_by_name (T:Txt P w K mg a) : FnOk P w K mg base CX0 1 a.f_by_name a.fd_by_name ["shorts"] (sp_by_name K):=by
 have z_dict:=T.z_dict
 refine T.d_by_name.fn.ok sc_by_name (fun vs H Q E h=>?_) (fun cdv A outer s H vs Q E hr h=>?_)
 ·obtain ⟨sv,S,rfl,_⟩:=h
  rfl
 obtain ⟨sv,S,rfl,rs,nd,sl,q⟩:=h
 have hu:=Nat.lt_of_succ_lt (hu_of hr)
 refine ⟨_,(pss_one (ps_ret (pe_callTy (call_dict_pairs rfl) rfl z_dict PyProof.Rows.boot_dict (pa_cons (pe_lc rfl (lcok (caps:=[]) (js:=[]) (cap:=trivial)) (pi_list (pv 0)) (fun _ _ _ _=>pts_nil) (fun _ _ _ _=>(pe_tup (pa_cons (pe_ix (r:=rIxT K) ix_tup (pv 0) pe_int (fun _ _=>rfl)) (pa_cons (pv 0) pa_nil))))) pa_nil)))),?_⟩
 obtain ⟨sa,xs,rfl,sx,_,rx⟩:=rs.lstO
 have xl:=rx.len
 rw [List.length_map] at xl
 refine ⟨_,rfl,sa,rfl,⟨_,sx⟩,lc_list (K:=K) (a:=sa) (xs:=xs) (fun i ys G=>Same H G∧ys.length=i∧∀ (j:Nat) y,ys[j]? = some y→∃ s v b,S[j]? = some s∧xs[j]? = some v∧y=V.ref b∧G b=some (.tup [.str (tx s.n),v])) ⟨Same.refl _,rfl,fun j y e=>by simp at e⟩ (fun i ys G _ z=>z.1.seq sx) ?_ ?_ ?_⟩
 ·rintro i ys G hi ⟨_,e,_⟩
  rw [e]
  exact small1000 (by omega)
 ·rintro i y ys G hy ⟨s1,e,hz⟩
  obtain ⟨d,e1,r1⟩:=rx.getR hy
  rw [List.getElem?_map] at e1
  obtain ⟨t,e2,rfl⟩:=Option.map_eq_some_iff.mp e1
  obtain ⟨ta,zs,rfl,st,_,rz⟩:=r1.tupO
  have hz0:zs[0]? = some (V.str (tx t.n)):=by
   obtain ⟨x,h1,h2⟩:=rz.get (i:=0) (d:=.str (tx t.n)) rfl
   rw [h1,h2.strO]
  refine yes_go ?_
  refine ⟨_,rfl,_,_,_,_,rfl,rfl,s1.tup st,atI_nat hz0,_,rfl,le2,fun p hp=>⟨s1.trans (same_new hp _),by rw [List.length_append,e]; rfl,fun j y ej=>?_⟩⟩
  by_cases hj:j < ys.length
  ·rw [List.getElem?_append_left hj] at ej
   obtain ⟨s,v,b,a1,a2,a3,a4⟩:=hz j y ej
   exact ⟨s,v,b,a1,a2,a3,same_new hp _ _ _ a4⟩
  ·rw [List.getElem?_append_right (by omega)] at ej
   have h0:j - ys.length=0:=by
    have:=(List.getElem?_eq_some_iff.mp ej).1
    simp at this
    omega
   rw [h0] at ej
   have hji:j=i:=by omega
   subst hji
   have ej:V.ref p=y:=by simpa using ej
   exact ⟨t,_,p,e2,hy,ej.symm,upd_same⟩
 ·rintro ys G ⟨s1,e,hz⟩ p hp
  have g2:=same_new hp (.lst ys)
  have kvl:(S.zip xs).length=xs.length:=by rw [List.length_zip]; omega
  refine ⟨p,ys,(S.zip xs).map (fun z=>(.inr (tx z.1.n),z.2)),rfl,SqL.of upd_same,by omega,⟨by rw [List.length_map,kvl,e],fun j y k v ej ek=>?_⟩,fun p2 hp2=>?_⟩
  ·obtain ⟨s,v',b,a1,a2,a3,a4⟩:=hz j y ej
   refine ⟨b,a3,SqT.of ?_⟩
   rw [List.getElem?_map,(List.getElem?_zip_eq_some (z:=(s,v'))).mpr ⟨a1,a2⟩] at ek
   cases ek
   exact g2 _ _ a4
  ·have g3:=same_new hp2 (.dK (laidK ((S.zip xs).map (fun z=>((.inr (tx z.1.n) : Key),z.2)))))
   have s3:=(s1.trans g2).trans g3
   refine q p2 _ s3 ⟨_,upd_same,fun x=>?_⟩
   have ndk:(((S.zip xs).map (fun z=>((.inr (tx z.1.n) : Key),z.2))).map Prod.fst).Nodup:=by
    have e1:((S.zip xs).map (fun z=>((.inr (tx z.1.n) : Key),z.2))).map Prod.fst=((S.zip xs).map Prod.fst).map (fun s=>(.inr (tx s.n) : Key)):=by rw [List.map_map,List.map_map]; rfl
    rw [e1,List.map_fst_zip (by omega),show S.map (fun s=>(.inr (tx s.n) : Key))=(S.map Sh.n).map (fun n=>.inr (tx n)) by rw [List.map_map]; rfl]
    exact List.Pairwise.map _ (fun a b h z=>h (tx_inj (Sum.inr.inj z))) nd
   unfold laidK
   rw [fold_val _ _ _ ndk]
   have key:∀ (S:List Sh) (xs:List V),S.length=xs.length→Reps K H (S.map shD) xs→(shF S x=none→((S.zip xs).map (fun z=>((.inr (tx z.1.n) : Key),z.2))).find? (fun kv=>decide (kv.1 = .inr x))=none)∧∀ s,shF S x=some s→∃ v,((S.zip xs).map (fun z=>((.inr (tx z.1.n) : Key),z.2))).find? (fun kv=>decide (kv.1 = .inr x))=some (.inr x,v)∧Rep K H (shD s) v:=by
    intro S
    induction S with
    | nil=>intro xs _ _; exact ⟨fun _=>rfl,fun s h=>by cases h⟩
    | cons t r ih =>
     intro xs hl hr
     cases xs with
     | nil=>cases hl
     | cons v xs =>
      have hr:Reps K H (shD t :: r.map shD) (v :: xs):=hr
      unfold Reps at hr
      obtain ⟨v0,r0,e0,h1,h2⟩:=hr
      cases e0
      have ih:=ih xs (by simpa using hl) h2
      unfold shF at ih ⊢
      rw [List.zip_cons_cons,List.map_cons,List.find?_cons,List.find?_cons]
      by_cases e:tx t.n=x
      ·rw [decide_eq_true e,decide_eq_true (by rw [e])]
       exact ⟨fun z=>(by cases z),fun s z=>⟨v,by rw [e],by cases z; exact h1⟩⟩
      ·rw [decide_eq_false e,decide_eq_false (fun z=>e (Sum.inr.inj z))]
       exact ih
   have kk:=key S xs xl.symm rx
   refine ⟨fun h=>?_,fun s h=>?_⟩
   ·rw [kk.1 h]
    rfl
   ·obtain ⟨v,h1,h2⟩:=kk.2 s h
    rw [h1]
    exact ⟨v,rfl,h2.mono s3⟩
def sp_short_called (K:PySem.W.Frag) (CN CB:Addr) : Sp:=fun vs H Q E=>∃ (H0:Hp) (na:Addr) (cv:V) (S:List Sh) (n:Wd0) (as:List (List DD)),vs=[.ref na,cv]∧Same H0 H∧NmAt K H0 na S∧Rep K H0 (clD n as) cv∧n.length≤12∧(∀ c ∈ n,c < 127)∧(shF S (tx n)=none→E (.ref CN) none H) ∧
  (∀ s,shF S (tx n)=some s→as.length≠s.c→E (.ref CB) none H)∧∀ s v,shF S (tx n)=some s→as.length=s.c→Rep K H0 (shD s) v→Q v H
theorem sc_short_called:FnScope ["named","call","name","short"] ["named","call"] (defScope s_short_called):=⟨rfl,rfl,rfl,by decide +kernel,rfl,by decide +kernel,by decide +kernel⟩
theorem ok_short_called (T:Txt P w K mg a) : FnOk P w K mg base (CXe P w) 1 a.f_short_called a.fd_short_called ["named","call"] (sp_short_called K a.c_NoShort a.c_BadCall):=by
 have z_len:=T.z_len
 have x_BadCall:=T.x_BadCall
 have x_NoShort:=T.x_NoShort
 refine T.d_short_called.fn.okE sc_short_called (fun vs H Q E h=>?_) (fun cdv A outer s H vs Q E hr h=>?_)
 ·obtain ⟨H0,na,cv,S,n,as,rfl,_⟩:=h
  rfl
 obtain ⟨H0,na,cv,S,n,as,rfl,s0,hN,rc,n12,n127,qN,qB,q⟩:=h
 have hu:=Nat.lt_of_succ_lt (hu_of hr)
 refine ⟨_,(pss_cons (ps_set (i:=2) sc_short_called.nd rfl (Or.inl rfl) (pe_ix ix_tup (pv 1) pe_int (fun _ _=>rfl)))
   (pss_cons (ps_if (pt_cmpR (op_notin_dict (hu_of hr)) (pv 2) (pv 0) (by with_unfolding_all rfl)) (pss_one (ps_raise rfl wish_cx x_NoShort rfl (pa_cons (pe_fstr (pj_cons pp_str (pj_cons (pp_repr (pv 2)) pj_nil))) pa_nil))) pss_nil)
   (pss_cons (ps_set (i:=3) sc_short_called.nd rfl (Or.inl rfl) (pe_dget (hu_of hr) (pv 0) (pv 2) (fun _ _=>rfl)))
   (pss_cons (ps_if (pt_cmpR op_ne (pe_callB call_len_seq rfl z_len PySem.boot_len (pa_cons (pe_ix ix_tup (pv 1) pe_int (fun _ _=>rfl)) pa_nil)) (pe_ix ix_tup (pv 3) pe_int (fun _ _=>rfl)) (nomark _)) (pss_one (ps_raise rfl wish_cx x_BadCall rfl (pa_cons (pe_fstr (pj_cons pp_str (pj_cons (pp_repr (pv 2)) (pj_cons pp_str pj_nil)))) pa_nil))) pss_nil)
   (pss_one (ps_ret (pv 3))))))),?_⟩
 obtain ⟨ca,xs,rfl,sc,_,rx⟩:=rc.tupO
 obtain ⟨x0,x1,x2,rfl,r0,r1,r2⟩:=Reps.three rx
 rw [r0.strO,r1.strO] at sc
 have sc:=s0.tup sc
 obtain ⟨la,ys,rfl,sl,_,rl⟩:=r2.lstO
 have sl:=s0.seq sl
 have yl:=rl.len
 rw [List.length_map] at yl
 obtain ⟨kvs,hk,hv⟩:=hN
 have hk:=s0 _ _ hk
 have hv:=hv (tx n)
 refine ⟨_,rfl,_,_,_,_,rfl,rfl,sc,rfl,?_⟩
 dsimp only [gName]
 refine ⟨_,rfl,_,rfl,na,_,rfl,.inl ⟨kvs,.inr (tx n),.inl hk,rfl,rfl⟩,_,rfl,?_⟩
 cases hF:shF S (tx n) with
 | none =>
  rw [hv.1 hF]
  refine iteT ?_
  exact ⟨⟨trivial,⟨n,rfl,by omega,n127⟩,trivial⟩,fun z=>⟨le1,qN hF⟩⟩
 | some s =>
  obtain ⟨v,hv1,hv2⟩:=hv.2 s hF
  rw [hv1]
  refine iteF ?_
  refine ⟨_,rfl,_,rfl,na,v,rfl,.inl ⟨kvs,.inr (tx n),.inl hk,rfl,hv1.symm⟩,?_⟩
  dsimp only [gName]
  obtain ⟨ta,zs,rfl,st,_,rz⟩:=hv2.tupO
  have hz1:zs[1]? = some (V.int (s.c:Int)):=by
   obtain ⟨x,h1,h2⟩:=rz.get (i:=1) (d:=.int (s.c:Int)) rfl
   rw [h1,h2.intO]
  refine ⟨_,rfl,_,_,_,_,rfl,rfl,sc,rfl,_,_,rfl,.inl sl,_,rfl,_,_,_,_,rfl,rfl,s0.tup st,atI_nat hz1,rfl,_,rfl,?_⟩
  by_cases e:as.length=s.c
  ·rw [decide_eq_true (by rw [yl,e])]
   refine iteF ?_
   exact ⟨_,rfl,q s _ hF e hv2⟩
  ·rw [decide_eq_false (fun z=>e (by have:=V.int.inj z; omega))]
   refine iteT ?_
   exact ⟨⟨trivial,⟨n,rfl,by omega,n127⟩,trivial,trivial⟩,fun z=>⟨le1,qB s hF e⟩⟩
def sp_sum_of_rows (K:PySem.W.Frag) : Sp:=fun vs H Q _=>∃ (ra oa:Addr) (f g:Nat→Int) (c:Nat) (t:Int),vs=[.ref ra,.ref oa,.int t]∧c≤9∧0≤t∧t≤1000∧SqL K H ra ((rwL f c).map V.int)∧SqL K H oa ((rwL g c).map V.int)∧∀ p H',H p=none→Same H H'→H' p=some (.lst ((rwL (fun j=>f j+t * g j) c).map V.int))→Q (.ref p) H'
theorem sc_sum_of_rows:FnScope ["row","other","times"] ["row","other","times"] (defScope s_sum_of_rows):=⟨rfl,rfl,rfl,by decide +kernel,rfl,by decide +kernel,by decide +kernel⟩
theorem ok_sum_of_rows (T:Txt P w K mg a) : FnOk P w K mg base CX0 1 a.f_sum_of_rows a.fd_sum_of_rows ["row","other","times"] (sp_sum_of_rows K):=by
 have z_zip:=T.z_zip
 refine T.d_sum_of_rows.fn.ok sc_sum_of_rows (fun vs H Q E h=>?_) (fun cdv A outer s H vs Q E hr h=>?_)
 ·obtain ⟨ra,oa,f,g,c,t,rfl,_⟩:=h
  rfl
 obtain ⟨ra,oa,f,g,c,t,rfl,hc,ht0,ht1,hr1,ho1,q⟩:=h
 have hu:=Nat.lt_of_succ_lt (hu_of hr)
 refine ⟨_,(pss_one (ps_ret (pe_lc2 rfl (lcok (caps:=["times"]) (js:=[2]) (cap:=⟨⟨rfl,.inl rfl,rfl,.inl rfl⟩,trivial⟩)) (pi_zip rfl z_zip (pv 0) (pv 1)) (fun _ _ _ _=>pts_nil) (fun _ _ _ _=>(pe_op op_add (pv 0) (pe_op op_mul (pv 2) (pv 1))))))),?_⟩
 have l1:((rwL f c).map V.int).length=c+1:=by rw [List.length_map,rwL_len]
 have l2:((rwL g c).map V.int).length=c+1:=by rw [List.length_map,rwL_len]
 refine ⟨_,rfl,_,rfl,ra,oa,rfl,rfl,⟨_,hr1⟩,⟨_,ho1⟩,lc_zip (K:=K) (a:=ra) (b:=oa) (xs:=(rwL f c).map V.int) (ys:=(rwL g c).map V.int) (fun i zs G=>Same H G∧zs=((rwL (fun j=>f j+t * g j) c).take i).map V.int) (by rw [l1,l2]) ⟨Same.refl _,rfl⟩ (fun i zs G _ z=>⟨z.1.seq hr1,z.1.seq ho1⟩) ?_ ?_ ?_⟩
 ·rintro i zs G hi ⟨_,rfl⟩
  rw [List.length_map,List.length_take]
  exact small1000 (by omega)
 ·rintro i x y zs G p hx hy ⟨s1,rfl⟩ hp
  have hi:i≤c:=by have:=(List.getElem?_eq_some_iff.mp hx).1; omega
  rw [List.getElem?_map,rwL_get f hi] at hx
  rw [List.getElem?_map,rwL_get g hi] at hy
  cases hx
  cases hy
  refine yes_go ?_
  refine ⟨_,rfl,_,rfl,_,rfl,_,_,rfl,rfl,.inl ⟨by omega,by omega⟩,_,_,rfl,rfl,s1.trans (same_new hp _),?_⟩
  rw [List.take_add_one,rwL_get _ hi,List.map_append]
  rfl
 ·rintro zs G ⟨s1,rfl⟩ p hp
  rw [l1,List.take_of_length_le (by rw [rwL_len]; exact Nat.le_refl _)]
  exact q p _ (s1.free hp) (s1.trans (same_new hp _)) upd_same

theorem sc_size_among:FnScope ["named","nodes","count","row","calls","node","short","k","argument","size"] ["named","nodes","count"] (defScope s_size_among):=⟨rfl,rfl,rfl,by decide +kernel,rfl,by decide +kernel,by decide +kernel⟩
def sp_sa (K:PySem.W.Frag) (CN CB:Addr) (n:Nat) : Sp:=fun vs H Q E=>∃ (na:Addr) (xv:V) (c d:Nat) (S:List Sh) (xs:List DD) (M:List (Wd0 × Nat)),vs=[.ref na,xv,.int (c:Int)]∧d < n∧c≤9∧NmAt K H na S∧ShW S∧MOk M∧Rep K H (.lst xs) xv∧(∀ x ∈ xs,Nd M c d x) ∧
  (wrL S d xs=1→∀ H',Same H H'→E (.ref CN) none H')∧(wrL S d xs=2→∀ H',Same H H'→E (.ref CB) none H') ∧
  (wrL S d xs=0→∀ p r H',Same H H'→H r=none→H' p=some (.tup [.ref r,.int (calL S d xs)])→H' r=some (.lst ((rowL S c d xs).map V.int))→Q (.ref p) H')
theorem ok_size_among_n (T:Txt P w K mg a) : ∀ n:Nat,FnOk P w K mg base (CXe P w) (n+4) a.f_size_among a.fd_size_among ["named","nodes","count"] (sp_sa K a.c_NoShort a.c_BadCall n)
 | 0=>⟨fun vs H Q E h=>(by obtain ⟨na,xv,c,d,S,xs,M,_,h1,_⟩:=h; omega),fun A outer s H args us vs Q E _ _ _ _ h=>(by obtain ⟨na,xv,c,d,S,xs,M,_,h1,_⟩:=h; omega)⟩
 | n+1=>by
  have g_size_among:=ok_size_among_n T n
  have d_size_among:=T.d_size_among
  have g_short_called:=ok_short_called (P:=P) (w:=w) (base:=base) T
  have d_short_called:=T.d_short_called
  have g_sum_of_rows:=ok_sum_of_rows (P:=P) (w:=w) (base:=base) T
  have d_sum_of_rows:=T.d_sum_of_rows
  have z_enumerate:=T.z_enumerate

  refine T.d_size_among.fn.okE sc_size_among (fun vs H Q E h=>?_) (fun cdv A outer s H vs Q E hr h=>?_)
  ·obtain ⟨na,xv,c,d,S,xs,M,rfl,_⟩:=h
   rfl
  obtain ⟨na,xv,c,d,S,xs,M,rfl,hd,hc,hNm,sok,mok,rx,ndx,q1,q2,q⟩:=h
  have hu:=Nat.lt_of_succ_lt (hu_of hr)
  refine ⟨_,(pss_cons (ps_set (i:=3) sc_size_among.nd rfl (Or.inl rfl) (pe_op op_rep (pe_lst (pa_cons pe_int pa_nil)) (pe_op op_add (pv 2) pe_int)))
   (pss_cons (ps_set (i:=4) sc_size_among.nd rfl (Or.inl rfl) pe_int)
   (pss_cons (ps_for PassesOwn.leaving rfl (pi_list (pv 1)) (pg_name (i:=5) sc_size_among.nd rfl (Or.inl rfl)) (pss_one (ps_if (pt_cmpR op_eq (pe_ix ix_tup (pv 5) pe_int (fun _ _=>rfl)) pe_str (nomark _)) (pss_one (ps_asg (pe_op op_add (pe_ix ix_list (pv 3) pe_int (fun _ _=>rfl)) pe_int) (pg_sub (pv 3) pe_int set_list))) (pss_one (ps_if (pt_cmpR op_eq (pe_ix ix_tup (pv 5) pe_int (fun _ _=>rfl)) pe_str (nomark _)) (pss_one (ps_asg (pe_op op_add (pe_ix ix_list (pv 3) (pe_ix ix_tup (pv 5) pe_int (fun _ _=>rfl)) (fun _ _=>rfl)) pe_int) (pg_sub (pv 3) (pe_ix ix_tup (pv 5) pe_int (fun _ _=>rfl)) set_list))) (pss_cons (ps_set (i:=6) sc_size_among.nd rfl (Or.inl rfl) (pe_callX pass_cx d_short_called g_short_called (hr.mono (by omega)) rfl (pa_cons (pv 0) (pa_cons (pv 5) pa_nil))))
   (pss_cons (ps_asg (pe_op op_add (pe_ix ix_list (pv 3) pe_int (fun _ _=>rfl)) (pe_ix ix_list (pe_ix ix_tup (pv 6) pe_int (fun _ _=>rfl)) pe_int (fun _ _=>rfl))) (pg_sub (pv 3) pe_int set_list))
   (pss_cons (ps_set (i:=4) sc_size_among.nd rfl (Or.inl rfl) (pe_op op_add (pe_op op_add (pv 4) pe_int) (pe_ix ix_tup (pv 6) pe_int (fun _ _=>rfl))))
   (pss_one (ps_for PassesOwn.leaving rfl (pi_enum1 rfl z_enumerate (pe_ix ix_tup (pv 5) pe_int (fun _ _=>rfl)) pe_int) (pg_tup rfl (pgs_cons (pg_name (i:=7) sc_size_among.nd rfl (Or.inl rfl)) (pgs_cons (pg_name (i:=8) sc_size_among.nd rfl (Or.inl rfl)) pgs_nil))) (pss_cons (ps_set (i:=9) sc_size_among.nd rfl (Or.inl rfl) (pe_callX pass_cx d_size_among g_size_among hr rfl (pa_cons (pv 0) (pa_cons (pv 8) (pa_cons (pv 2) pa_nil)))))
   (pss_cons (ps_set (i:=3) sc_size_among.nd rfl (Or.inl rfl) (pe_callD d_sum_of_rows g_sum_of_rows (hr.mono (by omega)) rfl (pa_cons (pv 3) (pa_cons (pe_ix ix_tup (pv 9) pe_int (fun _ _=>rfl)) (pa_cons (pe_ix ix_list (pe_ix ix_tup (pv 6) pe_int (fun _ _=>rfl)) (pv 7) (fun _ _=>rfl)) pa_nil)))))
   (pss_one (ps_set (i:=4) sc_size_among.nd rfl (Or.inl rfl) (pe_op op_add (pv 4) (pe_ix ix_tup (pv 9) pe_int (fun _ _=>rfl)))))))))))))))))
   (pss_one (ps_ret (pe_tup (pa_cons (pv 3) (pa_cons (pv 4) pa_nil)))))))),?_⟩
  obtain ⟨xa,vs0,rfl,sx,_,rxs⟩:=rx.lstO
  have xl:=rxs.len
  refine ⟨le1,fun p1 hp1=>?_⟩
  have g1:=same_new hp1 (.lst [V.int 0])
  refine ⟨_,rfl,_,_,rfl,rfl,_,_,_,rfl,rfl,upd_same,by omega,by omega,small (by simp; omega),fun ra hra=>?_⟩
  have fra:=g1.free hra
  have g2:=g1.trans (same_new hra (.lst (List.replicate ((c:Int)+1).toNat [V.int 0]).flatten))
  have kra:upd (upd H p1 (.lst [V.int 0])) ra (.lst (List.replicate ((c:Int)+1).toNat [V.int 0]).flatten) ra=some (.lst ((rowL S c d (xs.take 0)).map V.int)):=by
   rw [upd_same,zero_row]
   rfl
  generalize upd (upd H p1 (.lst [V.int 0])) ra (.lst (List.replicate ((c:Int)+1).toNat [V.int 0]).flatten)=H2 at g2 kra ⊢
  refine ⟨_,rfl,xa,rfl,⟨_,g2.seq sx⟩,for_list (K:=K) (a:=xa) (xs:=vs0) (fun k σ G=>∃ (ra:Addr) (v5 v6 v7 v8 v9:Option V),σ=[some (.ref na),some (.ref xa),some (.int (c:Int)),some (.ref ra),some (.int (calL S d (xs.take k))),v5,v6,v7,v8,v9]∧wrL S d (xs.take k)=0∧Same H G∧H ra=none∧G ra=some (.lst ((rowL S c d (xs.take k)).map V.int))) ⟨ra,none,none,none,none,none,rfl,rfl,g2,fra,kra⟩ (fun k σ G _ z=>by obtain ⟨_,_,_,_,_,_,_,_,s1,_⟩:=z; exact s1.seq sx) ?_ ?_⟩
  ·rintro k y σ G hy ⟨ra,v5,v6,v7,v8,v9,rfl,w0,s1,fra,kra⟩
   obtain ⟨x0,e0,r0⟩:=rxs.getR hy
   have nd0:=ndx x0 (List.mem_of_getElem? e0)
   obtain ⟨e,rfl⟩:=nd0.pos
   rcases nd0.out with ⟨w',rfl⟩ | ⟨pk,hp1,hp2,rfl⟩ | ⟨nm',as,rfl,hM,has⟩
   ·obtain ⟨ta,zs,rfl,st,_,rz⟩:=r0.tupO
    obtain ⟨z0,z1,rfl,y0,y1⟩:=Reps.two rz
    rw [y0.strO,y1.strO] at st
    refine ⟨_,rfl,_,_,_,_,rfl,rfl,s1.tup st,rfl,rfl,_,rfl,?_⟩
    rw [decide_eq_true rfl]
    refine iteT ?_
    refine ⟨_,rfl,_,_,_,_,rfl,rfl,SqL.of kra,rwL_at _ (Nat.zero_le _),_,_,rfl,rfl,_,rfl,_,_,_,_,rfl,rfl,kra,ixN_nat (j:=0) (by rw [List.length_map]; unfold rowL; rw [rwL_len]; omega),?_⟩
    have ec:calL S (e+1) (xs.take (k+1))=calL S (e+1) (xs.take k):=by unfold calL; rw [sum_snoc _ e0,sc_wd]; omega
    refine ⟨ra,some (.ref ta),v6,v7,v8,v9,by rw [ec]; rfl,fst_next _ e0 w0 wr_wd,s1.put fra,fra,?_⟩
    rw [upd_same]
    unfold rowL
    rw [rwL_set _ _ (Nat.zero_le _)]
    exact congrArg (fun z=>some (HO.lst (z.map V.int))) (row_word e0)
   ·obtain ⟨ta,zs,rfl,st,_,rz⟩:=r0.tupO
    obtain ⟨z0,z1,rfl,y0,y1⟩:=Reps.two rz
    rw [y0.strO,y1.intO] at st
    have st1:=s1.tup st
    refine ⟨_,rfl,_,_,_,_,rfl,rfl,st1,rfl,rfl,_,rfl,?_⟩
    rw [decide_eq_false strNe1]
    refine iteF ?_
    refine ⟨_,rfl,_,_,_,_,rfl,rfl,st1,rfl,rfl,_,rfl,?_⟩
    rw [decide_eq_true rfl]
    refine iteT ?_
    refine ⟨_,rfl,_,rfl,_,_,_,_,rfl,rfl,st1,rfl,_,_,_,_,rfl,rfl,SqL.of kra,rwL_at _ hp2,_,_,rfl,rfl,_,rfl,_,rfl,_,_,_,_,rfl,rfl,st1,rfl,_,_,_,_,rfl,rfl,kra,ixN_nat (by rw [List.length_map]; unfold rowL; rw [rwL_len]; omega),?_⟩
    have ec:calL S (e+1) (xs.take (k+1))=calL S (e+1) (xs.take k):=by unfold calL; rw [sum_snoc _ e0,sc_pl]; omega
    refine ⟨ra,some (.ref ta),v6,v7,v8,v9,by rw [ec]; rfl,fst_next _ e0 w0 wr_pl,s1.put fra,fra,?_⟩
    rw [upd_same]
    unfold rowL
    rw [rwL_set _ _ hp2]
    exact congrArg (fun z=>some (HO.lst (z.map V.int))) (row_place e0)
   ·have r0':=r0
    obtain ⟨ta,zs,rfl,st,_,rz⟩:=r0.tupO
    obtain ⟨z0,z1,z2,rfl,y0,y1,y2⟩:=Reps.three rz
    rw [y0.strO,y1.strO] at st
    obtain ⟨la,ys,rfl,sl,_,rl⟩:=y2.lstO
    have yl:=rl.len
    rw [List.length_map] at yl
    have st1:=s1.tup st
    refine ⟨_,rfl,_,_,_,_,rfl,rfl,st1,rfl,rfl,_,rfl,?_⟩
    rw [decide_eq_false strNe2]
    refine iteF ?_
    refine ⟨_,rfl,_,_,_,_,rfl,rfl,st1,rfl,rfl,_,rfl,?_⟩
    rw [decide_eq_false strNe3]
    refine iteF ?_
    have mo:=mok.2 _ hM
    refine ⟨_,rfl,_,rfl,H,na,_,S,nm',as,rfl,s1,hNm,r0',mo.1,mo.2.1,fun hF=>?_,fun s hF hl=>?_,fun s sv hF hl rs=>?_⟩
    ·exact q1 (by unfold wrL; rw [fst_at _ e0 w0 (by rw [wr_none hF]; decide)]; exact wr_none hF) _ s1
    ·exact q2 (by unfold wrL; rw [fst_at _ e0 w0 (by rw [wr_bad hF hl]; decide)]; exact wr_bad hF hl) _ s1
    have hs:=(shF_mem hF).1
    have rl1:=sok.row s hs
    have hwf:=wr_fit (d:=e) hF hl
    obtain ⟨sa,us,rfl,sst,_,ru⟩:=rs.tupO
    obtain ⟨x3,hu3,r3⟩:=ru.get (i:=3) (d:=.lst (s.r.map DD.int)) rfl
    obtain ⟨ba,bs,rfl,sb,_,rb⟩:=r3.lstO
    have hbs:=rb.intsO
    subst hbs
    obtain ⟨x4,hu4,r4⟩:=ru.get (i:=4) (d:=.int s.k) rfl
    rw [r4.intO] at hu4
    have hb0:atI (s.r.map V.int) 0=some (V.int (s.r.getD 0 0)):=atI_nat (j:=0) (by rw [List.getElem?_map,get_r (by omega)]; rfl)
    dsimp only [gName]
    refine ⟨_,rfl,_,_,_,_,rfl,rfl,SqL.of kra,rwL_at _ (Nat.zero_le _),_,rfl,_,_,_,_,rfl,rfl,s1.tup sst,atI_nat hu3,_,_,_,_,rfl,rfl,s1.seq sb,hb0,_,_,rfl,rfl,_,rfl,_,_,_,_,rfl,rfl,kra,ixN_nat (j:=0) (by rw [List.length_map]; unfold rowL; rw [rwL_len]; omega),?_⟩
    unfold rowL
    rw [rwL_set _ _ (Nat.zero_le _)]
    have s2:Same H (upd G ra (.lst ((rwL (fun i=>if i=0 then ((xs.take k).map (szR S 0 (e+1))).sum+s.r.getD 0 0 else ((xs.take k).map (szR S i (e+1))).sum) c).map V.int))):=s1.put fra
    have k2:upd G ra (.lst ((rwL (fun i=>if i=0 then ((xs.take k).map (szR S 0 (e+1))).sum+s.r.getD 0 0 else ((xs.take k).map (szR S i (e+1))).sum) c).map V.int)) ra=some (.lst ((rwL (fun i=>if i=0 then ((xs.take k).map (szR S 0 (e+1))).sum+s.r.getD 0 0 else ((xs.take k).map (szR S i (e+1))).sum) c).map V.int)):=upd_same
    generalize upd G ra (.lst ((rwL (fun i=>if i=0 then ((xs.take k).map (szR S 0 (e+1))).sum+s.r.getD 0 0 else ((xs.take k).map (szR S i (e+1))).sum) c).map V.int))=G2 at s2 k2 ⊢
    generalize hfq:(fun i=>if i=0 then ((xs.take k).map (szR S 0 (e+1))).sum+s.r.getD 0 0 else ((xs.take k).map (szR S i (e+1))).sum)=FR' at k2
    refine ⟨_,rfl,_,_,rfl,rfl,_,rfl,_,_,_,_,rfl,rfl,s2.tup sst,atI_nat hu4,_,_,rfl,rfl,?_⟩
    dsimp only [gName]
    refine ⟨_,rfl,_,_,_,_,rfl,rfl,s2.tup st,rfl,la,rfl,⟨_,s2.seq sl⟩,for_enum1 (K:=K) (a:=la) (xs:=ys) (fun j σ G=>∃ (ra:Addr) (v7 v8 v9:Option V),σ=[some (.ref na),some (.ref xa),some (.int (c:Int)),some (.ref ra),some (.int (calL S (e+1) (xs.take k)+1+s.k+((as.take j).map (calL S e)).sum)),some (.ref ta),some (.ref sa),v7,v8,v9]∧fstN ((as.take j).map (wrL S e))=0∧Same H G∧H ra=none∧G ra=some (.lst ((rwL (fun i=>FR' i+argS s.r 1 ((as.take j).map fun a=>(a.map (szR S i e)).sum)) c).map V.int))) ⟨ra,v7,v8,v9,by simp,rfl,s2,fra,by rw [k2]; exact congrArg (fun z=>some (HO.lst (List.map V.int z))) (rwL_congr fun i _=>by simp [argS])⟩ (fun j σ G _ z=>by obtain ⟨_,_,_,_,_,_,s3,_⟩:=z; exact s3.seq sl) ?_ ?_⟩
    ·rintro j y σ G pe hy ⟨ra,v7,v8,v9,rfl,wj,s3,fra,kra⟩ hpe
     obtain ⟨dj,ejm,rj⟩:=rl.getR hy
     rw [List.getElem?_map] at ejm
     obtain ⟨aj,ej,rfl⟩:=Option.map_eq_some_iff.mp ejm
     clear ejm
     have hjl:j < as.length:=(List.getElem?_eq_some_iff.mp ej).1
     refine ⟨pe,_,rfl,SqT.of upd_same,rfl,_,_,rfl,_,_,rfl,rfl,?_⟩
     dsimp only [gName]
     have g3:=same_new hpe (.tup [V.int ((j+1:Nat) : Int),y])
     have s4:=s3.trans g3
     have kra4:=g3 _ _ kra
     generalize upd G pe (.tup [V.int ((j+1:Nat) : Int),y])=G4 at s4 kra4 ⊢
     have hwD:∀ m,m≠0→wrL S e aj=m→wrL S (e+1) xs=m:=fun m hm hw=>by
      have h1:wrD S (e+1) (clD nm' as)=m:=by rw [hwf,fst_at _ ej wj (by rw [hw]; exact hm),hw]
      unfold wrL
      rw [fst_at _ e0 w0 (by rw [h1]; exact hm),h1]
     refine ⟨_,rfl,_,rfl,_,rfl,na,y,c,e,S,aj,M,rfl,by omega,hc,hNm.mono s4,sok,mok,rj.mono s4,(has aj (List.mem_of_getElem? ej)).2,fun hw H' s'=>q1 (hwD 1 (by decide) hw) _ (s4.trans s'),fun hw H' s'=>q2 (hwD 2 (by decide) hw) _ (s4.trans s'),fun hw p2 r2 G5 s5 fr2 kp2 kr2=>?_⟩
     have s45:=s4.trans s5
     have hjr:=get_r (s:=s) (j:=j+1) (by omega)
     have hjb:=sok.r4 s hs _ (List.mem_of_getElem? hjr)
     refine ⟨_,rfl,_,rfl,_,_,_,_,rfl,rfl,SqT.of kp2,rfl,_,rfl,_,_,_,_,rfl,rfl,s45.tup sst,atI_nat hu3,_,rfl,_,_,_,_,rfl,rfl,s45.seq sb,atI_nat (by rw [List.getElem?_map,hjr]; rfl),ra,r2,_,_,c,_,rfl,hc,hjb.1,by omega,SqL.of (s5 _ _ kra4),SqL.of kr2,fun p6 G6 fp6 s6 k6=>?_⟩
     dsimp only [gName]
     refine ⟨_,rfl,_,rfl,_,_,_,_,rfl,rfl,SqT.of (s6 _ _ kp2),rfl,_,_,rfl,rfl,?_⟩
     refine ⟨p6,_,_,_,by rw [sum_snocA _ ej,← Int.add_assoc]; rfl,fst_next _ ej wj hw,s45.trans s6,s45.free fp6,?_⟩
     rw [k6]
     refine congrArg (fun z=>some (HO.lst (List.map V.int z))) (rwL_congr fun i _=>?_)
     rw [List.take_add_one,ej,List.map_append]
     show _=FR' i+argS s.r 1 (_++[(aj.map (szR S i e)).sum])
     rw [argS_snoc,List.length_map,List.length_take,Nat.min_eq_left (by omega),show 1+j=j+1 by omega]
     omega
    ·rintro σ G ⟨ra,v7,v8,v9,rfl,wj,s3,fra,kra⟩
     rw [yl,List.take_of_length_le (Nat.le_refl _)] at wj kra ⊢
     have ec:calL S (e+1) (xs.take (k+1))=calL S (e+1) (xs.take k)+1+s.k+(as.map (calL S e)).sum:=by
      show ((xs.take (k+1)).map (szC S (e+1))).sum=((xs.take k).map (szC S (e+1))).sum+1+s.k+_
      rw [sum_snoc _ e0,sc_cl hF]
      omega
     refine ⟨ra,_,_,_,_,_,by rw [ec],fst_next _ e0 w0 (by rw [hwf]; exact wj),s3,fra,?_⟩
     rw [kra]
     refine congrArg (fun z=>some (HO.lst (List.map V.int z))) (rwL_congr fun i _=>?_)
     rw [sum_snoc _ e0,sz_cl hF,← hfq]
     dsimp only
     by_cases h0:i=0
     ·rw [if_pos h0,if_pos h0,h0]; omega
     ·rw [if_neg h0,if_neg h0]; omega
  ·rintro σ G ⟨ra,v5,v6,v7,v8,v9,rfl,w0,s1,fra,kra⟩
   rw [xl,List.take_of_length_le (Nat.le_refl _)] at w0 kra ⊢
   refine ⟨_,rfl,_,rfl,le2,fun p hp=>?_⟩
   have g3:=same_new hp (.tup [V.ref ra,V.int (calL S d xs)])
   exact q w0 p ra _ (s1.trans g3) fra upd_same (g3 _ _ kra)
theorem ok_size_among (T:Txt P w K mg a) : FnOk P w K mg base (CXe P w) 45 a.f_size_among a.fd_size_among ["named","nodes","count"] (sp_sa K a.c_NoShort a.c_BadCall (45 - 4)):=ok_size_among_n T (45 - 4)
def sp_size_of (K:PySem.W.Frag) (CN CB:Addr) : Sp:=fun vs H Q E=>∃ (sv xv:V) (c d:Nat) (S:List Sh) (xs:List DD) (M:List (Wd0 × Nat)),vs=[sv,xv,.int (c:Int)]∧d < 41∧c≤9∧Rep K H (.lst (S.map shD)) sv∧ShW S∧MOk M∧Rep K H (.lst xs) xv∧(∀ x ∈ xs,Nd M c d x)∧(wrL S d xs=1→∀ H',Same H H'→E (.ref CN) none H')∧(wrL S d xs=2→∀ H',Same H H'→E (.ref CB) none H') ∧
  (wrL S d xs=0→∀ p r H',Same H H'→H r=none→H' p=some (.tup [.ref r,.int (calL S d xs)])→H' r=some (.lst ((rowL S c d xs).map V.int))→Q (.ref p) H')
theorem sc_size_of:FnScope ["shorts","nodes","count"] ["shorts","nodes","count"] (defScope s_size_of):=⟨rfl,rfl,rfl,by decide +kernel,rfl,by decide +kernel,by decide +kernel⟩
theorem ok_size_of (T:Txt P w K mg a) : FnOk P w K mg base (CXe P w) 46 a.f_size_of a.fd_size_of ["shorts","nodes","count"] (sp_size_of K a.c_NoShort a.c_BadCall):=by
 have g_by_name:=ok_by_name (P:=P) (w:=w) (base:=base) T
 have d_by_name:=T.d_by_name
 have g_size_among:=ok_size_among (P:=P) (w:=w) (base:=base) T
 have d_size_among:=T.d_size_among
 refine T.d_size_of.fn.okE sc_size_of (fun vs H Q E h=>?_) (fun cdv A outer s H vs Q E hr h=>?_)
 ·obtain ⟨sv,xv,c,d,S,xs,M,rfl,_⟩:=h
  rfl
 obtain ⟨sv,xv,c,d,S,xs,M,rfl,hd,hc,rS,sok,mok,rx,ndx,q1,q2,q⟩:=h
 have hu:=Nat.lt_of_succ_lt (hu_of hr)
 refine ⟨_,(pss_one (ps_ret (pe_callX pass_cx d_size_among g_size_among (hr.mono (by decide)) rfl (pa_cons (pe_callD d_by_name g_by_name (hr.mono (by decide)) rfl (pa_cons (pv 0) pa_nil)) (pa_cons (pv 1) (pa_cons (pv 2) pa_nil)))))),?_⟩
 refine ⟨_,rfl,sv,S,rfl,rS,sok.nd,by have:=sok.len; omega,fun p H1 s1 hN=>?_⟩
 exact ⟨_,rfl,_,rfl,p,xv,c,d,S,xs,M,rfl,hd,hc,hN,sok,mok,rx.mono s1,ndx,fun hw H' s'=>q1 hw _ (s1.trans s'),fun hw H' s'=>q2 hw _ (s1.trans s'),fun hw p r H' s' fr kp kr=>q hw p r H' (s1.trans s') (s1.free fr) kp kr⟩
def sp_new_short (K:PySem.W.Frag) (CN CB CT:Addr) : Sp:=fun vs H Q E=>∃ (sv xv:V) (nm':Wd0) (c d:Nat) (S:List Sh) (xs:List DD) (M:List (Wd0 × Nat)),vs=[sv,.str (tx nm'),.int (c:Int),xv]∧nm'.length≤12∧(∀ c ∈ nm',c < 127)∧d≤40∧c≤9∧Rep K H (.lst (S.map shD)) sv∧ShW S∧MOk M∧Rep K H (.lst xs) xv∧(∀ x ∈ xs,Nd M c d x)∧lvL xs+callsL xs≤30000∧(rfM S c d xs=1→∀ H',Same H H'→E (.ref CN) none H')∧(rfM S c d xs=2→∀ H',Same H H'→E (.ref CB) none H')∧(rfM S c d xs=3→∀ H',Same H H'→E (.ref CT) none H') ∧
  (rfM S c d xs=0→∀ p pc r H' vs l,Same H H'→H' p=some (.tup [.str (tx nm'),.int (c:Int),.ref pc,.ref r,.int (calL S d xs)])→H' pc=some (.lst vs)→Cat (ApN K H' d) xs vs l→NewL H H' (pc :: l)→H r=none→r ∉ pc :: l→H' r=some (.lst ((rowL S c d xs).map V.int))→Q (.ref p) H')
theorem sc_new_short:FnScope ["shorts","name","count","nodes","size","row","calls"] ["shorts","name","count","nodes"] (defScope s_new_short):=⟨rfl,rfl,rfl,by decide +kernel,rfl,by decide +kernel,by decide +kernel⟩
theorem ok_new_short (T:Txt P w K mg a) : FnOk P w K mg base (CXe P w) 47 a.f_new_short a.fd_new_short ["shorts","name","count","nodes"] (sp_new_short K a.c_NoShort a.c_BadCall a.c_TooLong):=by
 have g_copied:=ok_copied (P:=P) (w:=w) (base:=base) T
 have d_copied:=T.d_copied
 have g_size_of:=ok_size_of (P:=P) (w:=w) (base:=base) T
 have d_size_of:=T.d_size_of
 have z_sum:=T.z_sum
 have x_BadCall:=T.x_BadCall
 have x_TooLong:=T.x_TooLong
 have m_MOST_CALLS_OF_SHORT:=T.m_MOST_CALLS_OF_SHORT
 have m_MOST_WORDS:=T.m_MOST_WORDS
 obtain ⟨t_MOST_CALLS_OF_SHORT,m_MOST_CALLS_OF_SHORT⟩:=m_MOST_CALLS_OF_SHORT
 obtain ⟨t_MOST_WORDS,m_MOST_WORDS⟩:=m_MOST_WORDS
 refine T.d_new_short.fn.okE sc_new_short (fun vs H Q E h=>?_) (fun cdv A outer s H vs Q E hr h=>?_)
 ·obtain ⟨sv,xv,nm',c,d,S,xs,M,rfl,_⟩:=h
  rfl
 obtain ⟨sv,xv,nm',c,d,S,xs,M,rfl,n12,n127,hd,hc,rS,sok,mok,rx,ndx,xl9,q1,q2,q3,q⟩:=h
 have hu:=Nat.lt_of_succ_lt (hu_of hr)
 refine ⟨_,(pss_cons (ps_set (i:=4) sc_new_short.nd rfl (Or.inl rfl) (pe_callXV pass_cx d_size_of g_size_of (hr.mono (by decide)) rfl (pa_cons (pv 0) (pa_cons (pv 3) (pa_cons (pv 2) pa_nil)))))
   (pss_cons (ps_set (i:=5) sc_new_short.nd rfl (Or.inl rfl) (pe_ix ix_tup (pv 4) pe_int (fun _ _=>rfl)))
   (pss_cons (ps_set (i:=6) sc_new_short.nd rfl (Or.inl rfl) (pe_ix ix_tup (pv 4) pe_int (fun _ _=>rfl)))
   (pss_cons (ps_if (pt_cmpR op_in_seq pe_int (pe_slice sl_list (pv 5) (po_some pe_int) po_none) (by with_unfolding_all rfl)) (pss_one (ps_raise rfl wish_cx x_BadCall rfl (pa_cons (pe_fstr (pj_cons pp_str (pj_cons (pp_repr (pv 1)) (pj_cons pp_str pj_nil)))) pa_nil))) pss_nil)
   (pss_cons (ps_if (PW.pt (pw_or (pt_cmpR op_gt (pe_callB (call_sum rfl) rfl z_sum PyProof.Rows.boot_sum (pa_cons (pv 5) pa_nil)) (pe_glob (v:=.int 400) rfl m_MOST_WORDS ⟨_,rfl⟩) (nomark _)) (pw_or1 (pt_cmpR op_gt (pv 6) (pe_glob (v:=.int 60) rfl m_MOST_CALLS_OF_SHORT ⟨_,rfl⟩) (nomark _))))) (pss_one (ps_raise rfl wish_cx x_TooLong rfl (pa_cons (pe_fstr (pj_cons pp_str (pj_cons (pp_repr (pv 1)) (pj_cons pp_str pj_nil)))) pa_nil))) pss_nil)
   (pss_one (ps_ret (pe_tup (pa_cons (pv 1) (pa_cons (pv 2) (pa_cons (pe_callD d_copied g_copied (hr.mono (by decide)) rfl (pa_cons (pv 3) pa_nil)) (pa_cons (pv 5) (pa_cons (pv 6) pa_nil))))))))))))),?_⟩
 refine ⟨_,rfl,_,rfl,_,rfl,sv,xv,c,d,S,xs,M,rfl,by omega,hc,rS,sok,mok,rx,ndx,fun hw H' s'=>q1 (by unfold rfM; rw [hw]; rfl) _ s',fun hw H' s'=>q2 (by unfold rfM; rw [hw]; rfl) _ s',fun hw p1 r1 H1 s1 fr1 kp1 kr1=>?_⟩
 refine ⟨_,rfl,_,_,_,_,rfl,rfl,SqT.of kp1,rfl,?_⟩
 refine ⟨_,rfl,_,_,_,_,rfl,rfl,SqT.of kp1,rfl,?_⟩
 dsimp only [gName]
 have nd2:∀ x ∈ xs,Nd (menuS S) c d x:=fun x hx=>nd_of_wr (ndx x hx) (fstN_mem hw _ (List.mem_map.mpr ⟨x,hx,rfl⟩))
 have erow:(rowL S c d xs).map V.int=V.int ((xs.map (szR S 0 d)).sum) :: ((List.range c).map fun k=>(xs.map (szR S (k+1) d)).sum).map V.int:=by
  unfold rowL
  rw [rwL_tl,List.map_cons]
 refine ⟨_,rfl,_,rfl,_,_,rfl,SqL.of kr1,fun p2 hp2=>?_⟩
 rw [erow,cutTl]
 have g2:=same_new hp2 (.lst (((List.range c).map fun k=>(xs.map (szR S (k+1) d)).sum).map V.int))
 have k2:upd H1 p2 (.lst (((List.range c).map fun k=>(xs.map (szR S (k+1) d)).sum).map V.int)) p2=some (.lst (((List.range c).map fun k=>(xs.map (szR S (k+1) d)).sum).map V.int)):=upd_same
 generalize upd H1 p2 (.lst (((List.range c).map fun k=>(xs.map (szR S (k+1) d)).sum).map V.int))=H2 at g2 k2 ⊢
 have s12:=s1.trans g2
 have kr2:=g2 _ _ kr1
 refine ⟨_,_,rfl,.inl (SqL.of k2),rfl,flat_ints _,_,rfl,?_⟩
 have em:inV (V.int 0) (((List.range c).map fun k=>(xs.map (szR S (k+1) d)).sum).map V.int)=mis c d xs:=by
  rw [in_zero,List.any_map]
  exact mis_row sok.x nd2
 show (if inV (V.int 0) (((List.range c).map fun k=>(xs.map (szR S (k+1) d)).sum).map V.int)=true then _ else _)
 rw [em]
 have big:mis c d xs≠true→(400 < (rowL S c d xs).sum∨60 < calL S d xs)→rfM S c d xs=3:=fun h0 h=>by unfold rfM; rw [if_pos hw,if_neg h0,if_pos h]
 have no:mis c d xs≠true→¬ (400 < (rowL S c d xs).sum∨60 < calL S d xs)→rfM S c d xs=0:=fun h0 h=>by unfold rfM; rw [if_pos hw,if_neg h0,if_neg h]
 refine ite2 (fun c0=>?_) (fun c0=>?_)
 ·exact ⟨⟨trivial,⟨nm',rfl,by omega,n127⟩,trivial,trivial⟩,fun z=>⟨le1,q2 (by unfold rfM; rw [if_pos hw,if_pos c0]) _ s12⟩⟩
 refine ⟨_,rfl,r1,_,rfl,SqL.of kr2,_,_,rfl,rfl,_,rfl,?_⟩
 refine ite2 (fun c1=>iteT ?_) (fun c1=>?_)
 ·have c1:(400:Int) < (rowL S c d xs).sum:=of_decide_eq_true c1
  exact ⟨⟨trivial,⟨nm',rfl,by omega,n127⟩,trivial,trivial⟩,fun z=>⟨le1,q3 (big c0 (.inl c1)) _ s12⟩⟩
 have c1:¬ (400:Int) < (rowL S c d xs).sum:=fun z=>c1 (decide_eq_true z)
 refine ⟨_,rfl,_,_,rfl,rfl,_,rfl,?_⟩
 refine ite2 (fun c2=>?_) (fun c2=>?_)
 ·have c2:(60:Int) < calL S d xs:=of_decide_eq_true c2
  exact ⟨⟨trivial,⟨nm',rfl,by omega,n127⟩,trivial,trivial⟩,fun z=>⟨le1,q3 (big c0 (.inr c2)) _ s12⟩⟩
 have c2:¬ (60:Int) < calL S d xs:=fun z=>c2 (decide_eq_true z)
 refine ⟨_,rfl,_,rfl,_,rfl,H2,xv,xs,M,c,d,rfl,by omega,by omega,Same.refl _,rx.mono s12,ndx,fun m hm=>(mok.2 m hm).2.2,xl9,fun pc H3 vs l s3 fpc kpc cc nn=>?_⟩
 refine ⟨_,rfl,_,rfl,small (by simp),fun p hp=>?_⟩
 have g4:=same_new hp (.tup [V.str (tx nm'),V.int (c:Int),V.ref pc,V.ref r1,V.int (calL S d xs)])
 have nr:r1 ∉ pc :: l:=fun z=>by
  have:=nn.new r1 z
  rw [kr2] at this
  cases this
 exact q (no c0 (fun z=>z.elim c1 c2)) p pc r1 _ vs l (s12.trans (s3.trans g4)) upd_same (g4 _ _ kpc) ((cc.mono (mxE_out (Same.refl _) s3)).mono g4) ⟨nn.nd,fun b hb=>s12.free (nn.new b hb),(nn.up g4).at'⟩ fr1 nr ((s3.trans g4) _ _ kr2)
def sp_made (K:PySem.W.Frag) : Sp:=fun vs H Q _=>∃ (tv:V) (sa:Addr) (U:List Sh) (n:Wd0) (c:Nat) (xs:List DD) (xv:V) (rest:List V),vs=[tv,.ref sa]∧Rep K H (.lst (U.map shD)) tv∧ShW U∧SqT K H sa (.str (tx n) :: .int (c:Int) :: xv :: rest)∧Rep K H (.lst xs) xv∧n.length≤12∧(∀ c ∈ n,c < 127)∧c≤9∧(∀ x ∈ xs,Nd (menuS U) c 24 x)∧lvL xs+callsL xs≤30000∧(rowL U c 24 xs).sum≤400∧mis c 24 xs≠true ∧
  (60 < calL U 24 xs→∀ H',Same H H'→Q .non H')∧(¬ 60 < calL U 24 xs→∀ p H',Same H H'→Rep K H' (shD ⟨n,c,xs,rowL U c 24 xs,calL U 24 xs⟩) (.ref p)→Q (.ref p) H')
theorem sc_l_made:FnScope ["told","short","made"] ["told","short"] (defScope s_l_made):=⟨rfl,rfl,rfl,by decide +kernel,rfl,by decide +kernel,by decide +kernel⟩
theorem ok_l_made (T:Txt P w K mg a) : FnOk P w K mg base CX0 131 a.f_l_made a.fd_l_made ["told","short"] (sp_made K):=by
 have g_l_copy:=ok_l_copy (P:=P) (w:=w) (base:=base) T
 have d_l_copy:=T.d_l_copy
 have g_new_short:=ok_new_short (P:=P) (w:=w) (base:=base) T
 have d_new_short:=T.d_new_short
 have x_TooLong:=T.x_TooLong
 refine T.d_l_made.fn.ok sc_l_made (fun vs H Q E h=>?_) (fun cdv A outer s H vs Q E hr h=>?_)
 ·obtain ⟨tv,sa,U,n,c,xs,xv,rest,rfl,_⟩:=h
  rfl
 obtain ⟨tv,sa,U,n,c,xs,xv,rest,rfl,rU,sw,hs,rx,n12,n127,c9,ndx,lvx,s4,hmis,q1,q2⟩:=h
 have hu:=Nat.lt_of_succ_lt (hu_of hr)
 refine ⟨_,(pss_cons (ps_set (i:=2) sc_l_made.nd rfl (Or.inl rfl) pe_non)
   (pss_cons (ps_try_set (i:=2) sc_l_made.nd rfl (Or.inl rfl) d_new_short g_new_short (hr.mono (by decide)) rfl (fun _=>(pa_cons (pe_callD d_l_copy g_l_copy (hr.mono (by decide)) rfl (pa_cons (pv 0) pa_nil)) (pa_cons (pe_ix (r:=rIxT K) ix_tup (pv 1) pe_int (fun _ _=>rfl)) (pa_cons (pe_ix (r:=rIxT K) ix_tup (pv 1) pe_int (fun _ _=>rfl)) (pa_cons (pe_callD d_l_copy g_l_copy (hr.mono (by decide)) rfl (pa_cons (pe_ix (r:=rIxT K) ix_tup (pv 1) pe_int (fun _ _=>rfl)) pa_nil)) pa_nil))))) rfl x_TooLong ⟨rfl,rfl⟩ (fun _=>(pss_one (ps_set (i:=2) sc_l_made.nd rfl (Or.inl rfl) pe_non))))
   (pss_one (ps_ret (pv 2))))),?_⟩
 have dU:=sh_deep sw
 have dX:=nd_deep ndx (by decide)
 have hw:wrL U 24 xs=0:=fstN_zero fun y hy=>by
  obtain ⟨x,hx,rfl⟩:=List.mem_map.mp hy
  exact wr_ok sw.nd (ndx x hx)
 have xl:=len_lv fun x hx=>(ndx x hx).ns
 refine ⟨_,rfl,_,_,rfl,by omega,rU,fun v1 G1 t1 r1=>⟨_,rfl,_,_,_,_,rfl,rfl,t1.tup hs,atI_nat (j:=0) rfl,_,rfl,_,_,_,_,rfl,rfl,t1.tup hs,atI_nat (j:=1) rfl,_,rfl,_,_,_,_,rfl,rfl,t1.tup hs,atI_nat (j:=2) rfl,_,_,rfl,by omega,rx.mono t1,fun v2 G2 t2 r2=>?_⟩⟩
 have s12:=t1.trans t2
 by_cases hb:60 < calL U 24 xs
 ·have hR:rfM U c 24 xs=3:=by unfold rfM; rw [if_pos hw,if_neg hmis,if_pos (.inr hb)]
  refine ⟨v1,v2,n,c,24,U,xs,menuS U,rfl,n12,n127,by decide,c9,r1.mono t2,sw,mok_of sw,r2,ndx,lvx,fun e=>absurd (hR.symm.trans e) (by decide),fun e=>absurd (hR.symm.trans e) (by decide),fun _ G3 t3=>⟨_,rfl,T.t_TooLong_TooLong,?_⟩,fun e=>absurd (hR.symm.trans e) (by decide)⟩
  exact ⟨_,rfl,q1 hb _ (s12.trans t3)⟩
 ·have hR:rfM U c 24 xs=0:=by unfold rfM; rw [if_pos hw,if_neg hmis,if_neg (by rintro (z | z) <;> omega)]
  refine ⟨v1,v2,n,c,24,U,xs,menuS U,rfl,n12,n127,by decide,c9,r1.mono t2,sw,mok_of sw,r2,ndx,lvx,fun e=>absurd (hR.symm.trans e) (by decide),fun e=>absurd (hR.symm.trans e) (by decide),fun e=>absurd (hR.symm.trans e) (by decide),fun _ p pc r G3 vc l t3 kp kpc cc nn frr nr kr=>?_⟩
  have vcl:=cc.len
  exact ⟨_,rfl,q2 hb p _ (s12.trans t3) (rep_tup (SqT.of kp) (by simp) (Reps.cons (rep_str _) (Reps.cons (rep_int _) (Reps.cons (rep_lst (SqL.of kpc) (by show xs.length≤_; omega) cc.rep) (Reps.cons (rep_lst (SqL.of kr) (by rw [List.length_map]; show (rwL _ c).length≤_; rw [rwL_len]; omega) (reps_ints _)) (Reps.cons (rep_int _) Reps.nil))))))⟩

theorem sc_l_size:FnScope ["shorts","nodes","count","row","calls","node","short","inner","j","times","k"] ["shorts","nodes","count"] (defScope s_l_size):=⟨rfl,rfl,rfl,by decide +kernel,rfl,by decide +kernel,by decide +kernel⟩
def sp_sz (K:PySem.W.Frag) (n:Nat) : Sp:=fun vs H Q _=>∃ (sv xv:V) (c d:Nat) (S:List Sh) (xs:List DD) (M:List (Wd0 × Nat)),vs=[sv,xv,.int (c:Int)]∧d < n∧c≤9∧Rep K H (.lst (S.map shD)) sv∧ShW S∧Rep K H (.lst xs) xv∧(∀ x ∈ xs,Nd M c d x)∧(∀ m ∈ M,m.2≤10)∧wrL S d xs=0 ∧
  ∀ p r H',Same H H'→H r=none→H' p=some (.tup [.ref r,.int (calL S d xs)])→H' r=some (.lst ((rowL S c d xs).map V.int))→Q (.ref p) H'
theorem ok_l_size_n (T:Txt P w K mg a) : ∀ n:Nat,FnOk P w K mg base CX0 (n+4) a.f_l_size a.fd_l_size ["shorts","nodes","count"] (sp_sz K n)
 | 0=>⟨fun vs H Q E h=>(by obtain ⟨sv,xv,c,d,S,xs,M,_,h1,_⟩:=h; omega),fun A outer s H args us vs Q E _ _ _ _ h=>(by obtain ⟨sv,xv,c,d,S,xs,M,_,h1,_⟩:=h; omega)⟩
 | n+1=>by
  have g_l_size:=ok_l_size_n T n
  have d_l_size:=T.d_l_size
  have z_len:=T.z_len
  have z_range:=T.z_range
  have z_sum:=T.z_sum

  refine T.d_l_size.fn.ok sc_l_size (fun vs H Q E h=>?_) (fun cdv A outer s H vs Q E hr h=>?_)
  ·obtain ⟨sv,xv,c,d,S,xs,M,rfl,_⟩:=h
   rfl
  obtain ⟨sv,xv,c,d,S,xs,M,rfl,hd,hc,rS,sok,rx,ndx,mok,w0,q⟩:=h
  have hu:=Nat.lt_of_succ_lt (hu_of hr)
  refine ⟨_,(pss_cons (ps_set (i:=3) sc_l_size.nd rfl (Or.inl rfl) (pe_op op_rep (pe_lst (pa_cons pe_int pa_nil)) (pe_op op_add (pv 2) pe_int)))
   (pss_cons (ps_set (i:=4) sc_l_size.nd rfl (Or.inl rfl) pe_int)
   (pss_cons (ps_for PassesOwn.never rfl (pi_list (pv 1)) (pg_name (i:=5) sc_l_size.nd rfl (Or.inr rfl)) (pss_one (ps_if (pt_cmpR op_eq (pe_ix ix_tup (pv 5) pe_int (fun _ _=>rfl)) pe_str (nomark _)) (pss_one (ps_asg (pe_op op_add (pe_ix ix_list (pv 3) pe_int (fun _ _=>rfl)) pe_int) (pg_sub (pv 3) pe_int set_list))) (pss_one (ps_if (pt_cmpR op_eq (pe_ix ix_tup (pv 5) pe_int (fun _ _=>rfl)) pe_str (nomark _)) (pss_one (ps_asg (pe_op op_add (pe_ix ix_list (pv 3) (pe_ix ix_tup (pv 5) pe_int (fun _ _=>rfl)) (fun _ _=>rfl)) pe_int) (pg_sub (pv 3) (pe_ix ix_tup (pv 5) pe_int (fun _ _=>rfl)) set_list))) (pss_cons (ps_set (i:=6) sc_l_size.nd rfl (Or.inl rfl) (pe_ix ix_list (pe_lc rfl (lcok (caps:=["node"]) (js:=[5]) (cap:=⟨⟨rfl,.inl rfl,rfl,.inl rfl⟩,trivial⟩)) (pi_list (pv 0)) (fun _ _ _ _=>(pts_one (pt_cmpR op_eq (pe_ix (r:=rIxT K) ix_tup (pv 0) pe_int (fun _ _=>rfl)) (pe_ix (r:=rIxT K) ix_tup (pv 1) pe_int (fun _ _=>rfl)) (nomark _)))) (fun _ _ _ _=>(pv 0))) pe_int (fun _ _=>rfl)))
   (pss_cons (ps_lc (k:=7) rfl (lcok (caps:=["shorts","count"]) (js:=[0,2]) (cap:=⟨⟨rfl,.inl rfl,rfl,.inl rfl⟩,⟨⟨rfl,.inl rfl,rfl,.inl rfl⟩,trivial⟩⟩)) (pi_list (pe_ix ix_tup (pv 5) pe_int (fun _ _=>rfl))) (fun _ _ _ _=>pts_nil) (fun _ _ _ _=>(pe_callD d_l_size g_l_size hr rfl (pa_cons (pv 1) (pa_cons (pv 0) (pa_cons (pv 2) pa_nil))))) sc_l_size.nd rfl rfl)
   (pss_cons (ps_set (i:=4) sc_l_size.nd rfl (Or.inl rfl) (pe_op op_add (pe_op op_add (pe_op op_add (pv 4) pe_int) (pe_ix ix_tup (pv 6) pe_int (fun _ _=>rfl))) (pe_callB (call_sum rfl) rfl z_sum PyProof.Rows.boot_sum (pa_cons (pe_lc rfl (lcok (caps:=[]) (js:=[]) (cap:=trivial)) (pi_list (pv 7)) (fun _ _ _ _=>pts_nil) (fun _ _ _ _=>(pe_ix (r:=rIxT K) ix_tup (pv 0) pe_int (fun _ _=>rfl)))) pa_nil))))
   (pss_cons (ps_asg (pe_op op_add (pe_ix ix_list (pv 3) pe_int (fun _ _=>rfl)) (pe_ix ix_list (pe_ix ix_tup (pv 6) pe_int (fun _ _=>rfl)) pe_int (fun _ _=>rfl))) (pg_sub (pv 3) pe_int set_list))
   (pss_one (ps_for PassesOwn.never rfl (pi_range1 rfl z_range (pa_cons (pe_callB call_len_seq rfl z_len PySem.boot_len (pa_cons (pv 7) pa_nil)) pa_nil)) (pg_name (i:=8) sc_l_size.nd rfl (Or.inl rfl)) (pss_cons (ps_set (i:=9) sc_l_size.nd rfl (Or.inl rfl) (pe_ix ix_list (pe_ix ix_tup (pv 6) pe_int (fun _ _=>rfl)) (pe_op op_add (pv 8) pe_int) (fun _ _=>rfl)))
   (pss_one (ps_for PassesOwn.never rfl (pi_range1 rfl z_range (pa_cons (pe_op op_add (pv 2) pe_int) pa_nil)) (pg_name (i:=10) sc_l_size.nd rfl (Or.inl rfl)) (pss_one (ps_asg (pe_op op_add (pe_ix ix_list (pv 3) (pv 10) (fun _ _=>rfl)) (pe_op op_mul (pv 9) (pe_ix ix_list (pe_ix ix_tup (pe_ix ix_list (pv 7) (pv 8) (fun _ _=>rfl)) pe_int (fun _ _=>rfl)) (pv 10) (fun _ _=>rfl)))) (pg_sub (pv 3) (pv 10) set_list)))))))))))))))))
   (pss_one (ps_ret (pe_tup (pa_cons (pv 3) (pa_cons (pv 4) pa_nil)))))))),?_⟩
  obtain ⟨sa,us,rfl,ssa,_,rus⟩:=rS.lstO
  have ul:=rus.len
  rw [List.length_map] at ul
  have sl4:=sok.len
  obtain ⟨xa,vs0,rfl,sx,_,rxs⟩:=rx.lstO
  have xl:=rxs.len
  have hwA:=fstN_mem w0
  refine ⟨le1,fun p1 hp1=>?_⟩
  have g1:=same_new hp1 (.lst [V.int 0])
  refine ⟨_,rfl,_,_,rfl,rfl,_,_,_,rfl,rfl,upd_same,by omega,by omega,small (by simp; omega),fun ra hra=>?_⟩
  have fra:=g1.free hra
  have g2:=g1.trans (same_new hra (.lst (List.replicate ((c:Int)+1).toNat [V.int 0]).flatten))
  have kra:upd (upd H p1 (.lst [V.int 0])) ra (.lst (List.replicate ((c:Int)+1).toNat [V.int 0]).flatten) ra=some (.lst ((rowL S c d (xs.take 0)).map V.int)):=by
   rw [upd_same,zero_row]
   rfl
  generalize upd (upd H p1 (.lst [V.int 0])) ra (.lst (List.replicate ((c:Int)+1).toNat [V.int 0]).flatten)=H2 at g2 kra ⊢
  refine ⟨_,rfl,xa,rfl,⟨_,g2.seq sx⟩,for_list (K:=K) (a:=xa) (xs:=vs0) (fun k σ G=>∃ (v5 v6 v7 v8 v9 v10:Option V),σ=[some (.ref sa),some (.ref xa),some (.int (c:Int)),some (.ref ra),some (.int (calL S d (xs.take k))),v5,v6,v7,v8,v9,v10]∧Same H G∧H ra=none∧G ra=some (.lst ((rowL S c d (xs.take k)).map V.int))) ⟨none,none,none,none,none,none,rfl,g2,fra,kra⟩ (fun k σ G _ z=>by obtain ⟨_,_,_,_,_,_,_,s1,_⟩:=z; exact s1.seq sx) ?_ ?_⟩
  ·rintro k y σ G hy ⟨v5,v6,v7,v8,v9,v10,rfl,s1,fra,kra⟩
   obtain ⟨x0,e0,r0⟩:=rxs.getR hy
   have nd0:=ndx x0 (List.mem_of_getElem? e0)
   have hw0:=hwA _ (List.mem_map.mpr ⟨x0,List.mem_of_getElem? e0,rfl⟩)
   obtain ⟨e,rfl⟩:=nd0.pos
   rcases nd0.out with ⟨w',rfl⟩ | ⟨pk,hp1,hp2,rfl⟩ | ⟨nm',as,rfl,hM,has⟩
   ·obtain ⟨ta,zs,rfl,st,_,rz⟩:=r0.tupO
    obtain ⟨z0,z1,rfl,y0,y1⟩:=Reps.two rz
    rw [y0.strO,y1.strO] at st
    refine ⟨_,rfl,_,_,_,_,rfl,rfl,s1.tup st,rfl,rfl,_,rfl,?_⟩
    rw [decide_eq_true rfl]
    refine iteT ?_
    refine ⟨_,rfl,_,_,_,_,rfl,rfl,SqL.of kra,rwL_at _ (Nat.zero_le _),_,_,rfl,rfl,_,rfl,_,_,_,_,rfl,rfl,kra,ixN_nat (j:=0) (by rw [List.length_map]; unfold rowL; rw [rwL_len]; omega),?_⟩
    have ec:calL S (e+1) (xs.take (k+1))=calL S (e+1) (xs.take k):=by unfold calL; rw [sum_snoc _ e0,sc_wd]; omega
    refine ⟨some (.ref ta),v6,v7,v8,v9,v10,by rw [ec]; rfl,s1.put fra,fra,?_⟩
    rw [upd_same]
    unfold rowL
    rw [rwL_set _ _ (Nat.zero_le _)]
    exact congrArg (fun z=>some (HO.lst (z.map V.int))) (row_word e0)
   ·obtain ⟨ta,zs,rfl,st,_,rz⟩:=r0.tupO
    obtain ⟨z0,z1,rfl,y0,y1⟩:=Reps.two rz
    rw [y0.strO,y1.intO] at st
    have st1:=s1.tup st
    refine ⟨_,rfl,_,_,_,_,rfl,rfl,st1,rfl,rfl,_,rfl,?_⟩
    rw [decide_eq_false strNe1]
    refine iteF ?_
    refine ⟨_,rfl,_,_,_,_,rfl,rfl,st1,rfl,rfl,_,rfl,?_⟩
    rw [decide_eq_true rfl]
    refine iteT ?_
    refine ⟨_,rfl,_,rfl,_,_,_,_,rfl,rfl,st1,rfl,_,_,_,_,rfl,rfl,SqL.of kra,rwL_at _ hp2,_,_,rfl,rfl,_,rfl,_,rfl,_,_,_,_,rfl,rfl,st1,rfl,_,_,_,_,rfl,rfl,kra,ixN_nat (by rw [List.length_map]; unfold rowL; rw [rwL_len]; omega),?_⟩
    have ec:calL S (e+1) (xs.take (k+1))=calL S (e+1) (xs.take k):=by unfold calL; rw [sum_snoc _ e0,sc_pl]; omega
    refine ⟨some (.ref ta),v6,v7,v8,v9,v10,by rw [ec]; rfl,s1.put fra,fra,?_⟩
    rw [upd_same]
    unfold rowL
    rw [rwL_set _ _ hp2]
    exact congrArg (fun z=>some (HO.lst (z.map V.int))) (row_place e0)
   ·obtain ⟨ta,zs,rfl,st,_,rz⟩:=r0.tupO
    obtain ⟨z0,z1,z2,rfl,y0,y1,y2⟩:=Reps.three rz
    rw [y0.strO,y1.strO] at st
    obtain ⟨la,ys,rfl,sl,_,rl⟩:=y2.lstO
    have yl:=rl.len
    rw [List.length_map] at yl
    have sg:=s1
    have st1:=s1.tup st
    have stg:=st1
    refine ⟨_,rfl,_,_,_,_,rfl,rfl,st1,rfl,rfl,_,rfl,?_⟩
    rw [decide_eq_false strNe2]
    refine iteF ?_
    refine ⟨_,rfl,_,_,_,_,rfl,rfl,st1,rfl,rfl,_,rfl,?_⟩
    rw [decide_eq_false strNe3]
    refine iteF ?_
    have hal:as.length≤10:=mok _ hM
    refine ⟨_,rfl,sa,rfl,⟨_,sg.seq ssa⟩,lc_list (K:=K) (a:=sa) (xs:=us) (fun i ys G'=>G' = G∧FitAt K H (S.take i) (tx nm') ys) ⟨rfl,by rw [List.take_zero]; exact ⟨Nat.le_refl _,fun _=>rfl,fun s z=>by cases z⟩⟩ (fun i ys G' _ z=>by rw [z.1]; exact sg.seq ssa) ?_ ?_ ?_⟩
    ·rintro i ys G' hi ⟨_,f1,_⟩
     rw [List.length_take] at f1
     exact small1000 (by omega)
    ·rintro i y ys G' hy ⟨eG,fit⟩
     rw [eG]
     obtain ⟨d1,e1,r1⟩:=rus.getR hy
     rw [List.getElem?_map] at e1
     obtain ⟨t,e2,rfl⟩:=Option.map_eq_some_iff.mp e1
     obtain ⟨tb,ws,rfl,st1,_,rw1⟩:=id r1.tupO
     have hw0:ws[0]? = some (V.str (tx t.n)):=by
      obtain ⟨x,h1,h2⟩:=rw1.get (i:=0) (d:=.str (tx t.n)) rfl
      rw [h1,h2.strO]
     refine ⟨_,rfl,_,_,_,_,rfl,rfl,sg.tup st1,atI_nat hw0,_,rfl,_,_,_,_,rfl,rfl,stg,rfl,rfl,_,rfl,?_⟩
     by_cases en:tx t.n=tx nm'
     ·rw [decide_eq_true (by rw [en])]
      refine iteT ?_
      exact ⟨_,rfl,rfl,fit.yes e2 en r1⟩
     ·rw [decide_eq_false (fun z=>en (V.str.inj z))]
      refine iteF ?_
      exact ⟨rfl,fit.no e2 en⟩
    rintro ys_ G' ⟨eG,fit⟩ pf hpf
    rw [eG] at hpf ⊢
    clear eG G'
    rw [ul,List.take_of_length_le (Nat.le_refl _)] at fit
    have gf:=same_new hpf (.lst ys_)
    have kf:upd G pf (.lst ys_) pf=some (.lst ys_):=upd_same
    generalize upd G pf (.lst ys_)=G1 at gf kf ⊢
    cases hF:shF S (tx nm') with
    | none=>rw [wr_none hF] at hw0; exact absurd hw0 (by decide)
    | some s =>
    have hl:as.length=s.c:=by
     by_cases z:as.length=s.c
     ·exact z
     ·rw [wr_bad hF z] at hw0; exact absurd hw0 (by decide)
    rw [wr_fit hF hl] at hw0
    have hwB:=fstN_mem hw0
    have hs:=(shF_mem hF).1
    have rl1:=sok.row s hs
    obtain ⟨v,r,rfl,rv⟩:=fit.2.2 s hF
    refine ⟨_,_,_,_,rfl,rfl,SqL.of kf,atI_nat (j:=0) rfl,?_⟩
    obtain ⟨tv,us2,rfl,stv,_,ru⟩:=rv.tupO
    obtain ⟨x3,hu3,r3⟩:=ru.get (i:=3) (d:=.lst (s.r.map DD.int)) rfl
    obtain ⟨ba,bs,rfl,sb,_,rb⟩:=r3.lstO
    have hbs:=rb.intsO
    subst hbs
    obtain ⟨x4,hu4,r4⟩:=ru.get (i:=4) (d:=.int s.k) rfl
    rw [r4.intO] at hu4
    have hb0:atI (s.r.map V.int) 0=some (V.int (s.r.getD 0 0)):=atI_nat (j:=0) (by rw [List.getElem?_map,get_r (by omega)]; rfl)
    have s2:=s1.trans gf
    have kra1:=gf _ _ kra
    dsimp only [gName]
    refine ⟨_,rfl,_,_,_,_,rfl,rfl,s2.tup st,rfl,la,rfl,⟨_,s2.seq sl⟩,lc_list (K:=K) (a:=la) (xs:=ys) (fun i zs G'=>Same G1 G'∧zs.length=i∧∀ (j:Nat) z,zs[j]? = some z→∃ p r aj,as[j]? = some aj∧z = .ref p∧G' p=some (.tup [.ref r,.int (calL S e aj)])∧G' r=some (.lst ((rowL S c e aj).map V.int))∧r≠ra) ⟨Same.refl _,rfl,fun j z ez=>by simp at ez⟩ (fun i zs G' _ z=>(s2.trans z.1).seq sl) ?_ ?_ ?_⟩
    ·rintro i zs G' hi ⟨_,e1,_⟩
     exact small1000 (by omega)
    ·rintro i y zs G' hy ⟨s3,e1,hz⟩
     obtain ⟨dj,ejm,rj⟩:=rl.getR hy
     rw [List.getElem?_map] at ejm
     obtain ⟨aj,ej,rfl⟩:=Option.map_eq_some_iff.mp ejm
     clear ejm
     have s23:=s2.trans s3
     refine yes_go ?_
     refine ⟨_,rfl,_,rfl,_,rfl,_,y,c,e,S,aj,M,rfl,by omega,hc,rS.mono s23,sok,rj.mono s23,(has aj (List.mem_of_getElem? ej)).2,mok,hwB _ (List.mem_map.mpr ⟨aj,List.mem_of_getElem? ej,rfl⟩),fun p r G5 s5 fr kp kr=>⟨s3.trans s5,by rw [List.length_append,e1]; rfl,fun j z ez=>?_⟩⟩
     by_cases hj:j < zs.length
     ·rw [List.getElem?_append_left hj] at ez
      obtain ⟨p',r',aj',h1,h2,h3,h4,h5⟩:=hz j z ez
      exact ⟨p',r',aj',h1,h2,s5 _ _ h3,s5 _ _ h4,h5⟩
     ·rw [List.getElem?_append_right (by omega)] at ez
      have h0:j - zs.length=0:=by
       have:=(List.getElem?_eq_some_iff.mp ez).1
       simp at this
       omega
      rw [h0] at ez
      have hji:j=i:=by omega
      subst hji
      exact ⟨p,r,aj,ej,by simpa using ez.symm,kp,kr,Ne.symm (ne_of_none (s3 _ _ kra1) fr)⟩
    rintro zs G' ⟨s3,e1,hz⟩ pi hpi
    rw [yl] at e1
    have g4:=same_new hpi (.lst zs)
    have k4:upd G' pi (.lst zs) pi=some (.lst zs):=upd_same
    have s4:=s3.trans g4
    have kra4:=s4 _ _ kra1
    have hz4:∀ (j:Nat) z,zs[j]? = some z→∃ p r aj,as[j]? = some aj∧z = .ref p∧upd G' pi (.lst zs) p=some (.tup [.ref r,.int (calL S e aj)])∧upd G' pi (.lst zs) r=some (.lst ((rowL S c e aj).map V.int))∧r≠ra:=fun j z ez=>by
     obtain ⟨p,r,aj,h1,h2,h3,h4,h5⟩:=hz j z ez
     exact ⟨p,r,aj,h1,h2,g4 _ _ h3,g4 _ _ h4,h5⟩
    generalize upd G' pi (.lst zs)=G4 at g4 k4 s4 kra4 hz4 ⊢
    have s24:=s2.trans s4
    refine ⟨_,rfl,_,_,rfl,rfl,_,rfl,_,_,_,_,rfl,rfl,s24.tup stv,atI_nat hu4,_,_,rfl,rfl,_,rfl,pi,rfl,⟨_,SqL.of k4⟩,lc_list (K:=K) (a:=pi) (xs:=zs) (fun i qs G'=>G' = G4∧qs=((as.take i).map (calL S e)).map V.int) ⟨rfl,rfl⟩ (fun i qs G' _ z=>by rw [z.1]; exact SqL.of k4) ?_ ?_ ?_⟩
    ·rintro i qs G' hi ⟨_,rfl⟩
     rw [List.length_map,List.length_map,List.length_take]
     exact small1000 (by omega)
    ·rintro i z qs G' ez ⟨eG,rfl⟩
     rw [eG]
     obtain ⟨p,r,aj,h1,rfl,h3,h4,h5⟩:=hz4 i z ez
     refine yes_go ?_
     refine ⟨_,rfl,_,_,_,_,rfl,rfl,SqT.of h3,rfl,rfl,?_⟩
     rw [List.take_add_one,h1,List.map_append,List.map_append]
     rfl
    rintro qs G' ⟨eG,rfl⟩ pq hpq
    rw [eG] at hpq ⊢
    clear eG G'
    rw [e1,List.take_of_length_le (Nat.le_refl _)]
    have g5:=same_new hpq (.lst ((as.map (calL S e)).map V.int))
    have k5:upd G4 pq (.lst ((as.map (calL S e)).map V.int)) pq=some (.lst ((as.map (calL S e)).map V.int)):=upd_same
    generalize upd G4 pq (.lst ((as.map (calL S e)).map V.int))=G5 at g5 k5 ⊢
    refine ⟨pq,_,rfl,SqL.of k5,_,_,rfl,rfl,?_⟩
    have s25:=s24.trans g5
    have kra5:=g5 _ _ kra4
    have ec:calL S (e+1) (xs.take (k+1))=calL S (e+1) (xs.take k)+1+s.k+(as.map (calL S e)).sum:=by
     show ((xs.take (k+1)).map (szC S (e+1))).sum=((xs.take k).map (szC S (e+1))).sum+1+s.k+_
     rw [sum_snoc _ e0,sc_cl hF]
     omega
    dsimp only [gName]
    rw [← ec]
    refine ⟨_,rfl,_,_,_,_,rfl,rfl,SqL.of kra5,rwL_at _ (Nat.zero_le _),_,rfl,_,_,_,_,rfl,rfl,s25.tup stv,atI_nat hu3,_,_,_,_,rfl,rfl,s25.seq sb,hb0,_,_,rfl,rfl,_,rfl,_,_,_,_,rfl,rfl,kra5,ixN_nat (j:=0) (by rw [List.length_map]; unfold rowL; rw [rwL_len]; omega),?_⟩
    unfold rowL
    rw [rwL_set _ _ (Nat.zero_le _)]
    obtain ⟨G6,eG6⟩ : ∃ G6,G6=upd G5 ra (.lst ((rwL (fun i=>if i=0 then ((xs.take k).map (szR S 0 (e+1))).sum+s.r.getD 0 0 else ((xs.take k).map (szR S i (e+1))).sum) c).map V.int)):=⟨_,rfl⟩
    rw [← eG6]
    have kp6:∀ b o,b≠ra→G5 b=some o→G6 b=some o:=fun b o nb hb=>by rw [eG6,upd_ne nb]; exact hb
    have k6:G6 ra=some (.lst ((rwL (fun i=>if i=0 then ((xs.take k).map (szR S 0 (e+1))).sum+s.r.getD 0 0 else ((xs.take k).map (szR S i (e+1))).sum) c).map V.int)):=by rw [eG6,upd_same]
    clear eG6
    generalize hfq:(fun i=>if i=0 then ((xs.take k).map (szR S 0 (e+1))).sum+s.r.getD 0 0 else ((xs.take k).map (szR S i (e+1))).sum)=FQ at k6
    have npi:pi≠ra:=Ne.symm (ne_of_none (s3 _ _ kra1) hpi)
    have kpi:=g5 _ _ k4
    have AT:∀ {G:Hp},(∀ b o,b≠ra→G5 b=some o→G b=some o)→Same H G:=fun kp b o hb=>kp b o (ne_of_none hb fra) (s25 b o hb)
    refine ⟨_,rfl,_,_,rfl,.inl (SqL.of (kp6 _ _ npi kpi)),_,rfl,by omega,by omega,for_range (fun j σ G=>∃ (v8 v9 v10:Option V),σ=[some (.ref sa),some (.ref xa),some (.int (c:Int)),some (.ref ra),some (.int (calL S (e+1) (xs.take (k+1)))),some (.ref ta),some (.ref tv),some (.ref pi),v8,v9,v10]∧(∀ b o,b≠ra→G5 b=some o→G b=some o)∧G ra=some (.lst ((rwL (fun i=>FQ i+argS s.r 1 ((as.take j).map fun a=>(a.map (szR S i e)).sum)) c).map V.int))) ⟨v8,v9,v10,rfl,kp6,by rw [k6]; exact congrArg (fun z=>some (HO.lst (List.map V.int z))) (rwL_congr fun i _=>by simp [argS])⟩ ?_ ?_⟩
    ·rintro j σ G hj ⟨v8,v9,v10,rfl,kp,kra⟩
     have hj2:j < zs.length:=by omega
     obtain ⟨p,r,aj,h1,h2,h3,h4,h5⟩:=hz4 j _ (List.getElem?_eq_getElem hj2)
     have ezj:zs[j]? = some (V.ref p):=by rw [List.getElem?_eq_getElem hj2,h2]
     have np:p≠ra:=ne_of h3 kra4 (by intro z; cases z)
     have hjr:=get_r (s:=s) (j:=j+1) (by omega)
     have hjb:=sok.r4 s hs _ (List.mem_of_getElem? hjr)
     have sH:=AT kp
     refine ⟨_,rfl,_,_,_,_,rfl,rfl,sH.tup stv,atI_nat hu3,_,rfl,_,_,rfl,rfl,_,_,_,_,rfl,rfl,sH.seq sb,by rw [show (0+(j:Int)+1)=((j+1:Nat) : Int) by omega]; exact atI_nat (by rw [List.getElem?_map,hjr]; rfl),?_⟩
     dsimp only [gName]
     generalize s.r.getD (j+1) 0=t at hjb hjr ⊢
     refine ⟨_,rfl,_,_,rfl,rfl,_,rfl,by omega,by omega,for_range (fun m σ G2=>∃ v10:Option V,σ=[some (.ref sa),some (.ref xa),some (.int (c:Int)),some (.ref ra),some (.int (calL S (e+1) (xs.take (k+1)))),some (.ref ta),some (.ref tv),some (.ref pi),some (.int (0+(j:Int))),some (.int t),v10]∧(∀ b o,b≠ra→G5 b=some o→G2 b=some o)∧G2 ra=some (.lst ((rwL (fun i=>if i < m then FQ i+argS s.r 1 ((as.take j).map fun a=>(a.map (szR S i e)).sum)+t * (aj.map (szR S i e)).sum else FQ i+argS s.r 1 ((as.take j).map fun a=>(a.map (szR S i e)).sum)) c).map V.int))) ⟨v10,rfl,kp,by rw [kra]; exact congrArg (fun z=>some (HO.lst (List.map V.int z))) (rwL_congr fun i _=>by rw [if_neg (by omega)])⟩ ?_ ?_⟩
     ·rintro m σ G2 hm ⟨v10,rfl,kp2,kra2⟩
      have hm2:m≤c:=by omega
      refine ⟨_,rfl,_,rfl,_,_,_,_,rfl,rfl,SqL.of kra2,at0 (by rw [List.getElem?_map,rwL_get _ hm2]; rfl),_,rfl,_,rfl,_,rfl,_,_,_,_,rfl,rfl,SqL.of (kp2 _ _ npi kpi),at0 ezj,_,_,_,_,rfl,rfl,SqT.of (kp2 _ _ np (g5 _ _ h3)),rfl,_,rfl,_,_,_,_,rfl,rfl,SqL.of (kp2 _ _ h5 (g5 _ _ h4)),at0 (by unfold rowL; rw [List.getElem?_map,rwL_get _ hm2]; rfl),_,_,rfl,rfl,.inl ⟨by omega,by omega⟩,_,_,rfl,rfl,_,rfl,_,rfl,_,_,_,_,rfl,rfl,kra2,ix0 (by rw [List.length_map,rwL_len]; omega),?_⟩
      refine ⟨_,rfl,fun b o nb hb=>by rw [upd_ne nb]; exact kp2 b o nb hb,?_⟩
      rw [upd_same,rwL_set _ _ hm2]
      refine congrArg (fun z=>some (HO.lst (List.map V.int z))) (rwL_congr fun i _=>?_)
      by_cases him:i=m
      ·rw [if_pos him,if_neg (by omega),if_pos (by omega),him]
      ·rw [if_neg him]
       by_cases hlt:i < m
       ·rw [if_pos hlt,if_pos (by omega)]
       ·rw [if_neg hlt,if_neg (by omega)]
     ·rintro σ G2 ⟨v10,rfl,kp2,kra2⟩
      refine ⟨_,_,_,rfl,kp2,?_⟩
      rw [kra2]
      refine congrArg (fun z=>some (HO.lst (List.map V.int z))) (rwL_congr fun i hi=>?_)
      rw [if_pos (by omega),List.take_add_one,h1,List.map_append]
      show _=FQ i+argS s.r 1 (_++[(aj.map (szR S i e)).sum])
      rw [argS_snoc,List.length_map,List.length_take,Nat.min_eq_left (by omega),show 1+j=j+1 by omega,List.getD_eq_getElem?_getD,hjr]
      show _=_+(_+t * _)
      omega
    ·rintro σ G ⟨v8,v9,v10,rfl,kp,kra⟩
     have ez:((zs.length:Nat) : Int).toNat=as.length:=by omega
     rw [ez,List.take_of_length_le (Nat.le_refl _)] at kra
     refine ⟨_,_,_,_,_,_,rfl,AT kp,fra,?_⟩
     rw [kra]
     refine congrArg (fun z=>some (HO.lst (List.map V.int z))) (rwL_congr fun i _=>?_)
     rw [sum_snoc _ e0,sz_cl hF,← hfq]
     dsimp only
     by_cases h0:i=0
     ·rw [if_pos h0,if_pos h0,h0]; omega
     ·rw [if_neg h0,if_neg h0]; omega
  ·rintro σ G ⟨v5,v6,v7,v8,v9,v10,rfl,s1,fra,kra⟩
   rw [xl,List.take_of_length_le (Nat.le_refl _)] at kra ⊢
   refine ⟨_,rfl,_,rfl,le2,fun p hp=>?_⟩
   have g3:=same_new hp (.tup [V.ref ra,V.int (calL S d xs)])
   exact q p ra _ (s1.trans g3) fra upd_same (g3 _ _ kra)
theorem ok_l_size (T:Txt P w K mg a) : FnOk P w K mg base CX0 45 a.f_l_size a.fd_l_size ["shorts","nodes","count"] (sp_sz K (45 - 4)):=ok_l_size_n T (45 - 4)
theorem next_an {S U:List Sh} {k0:Nat} {t:Int} {s0 s:Sh} {xs:List DD} (sok:ShOk S) (sw:ShW U) (h0:S[k0]? = some s0) (an:An S k0 (stL (S.take k0) 12 t s0.ns) U) (hs:S[U.length]? = some s) (hx:xs=if U.length=k0 then stL (S.take k0) 12 t s0.ns else s.ns) :
  (∀ x ∈ xs,Nd (menuS U) s.c 24 x)∧lvL xs+callsL xs≤30000∧rowL U s.c 24 xs=s.r∧mis s.c 24 xs≠true:=by
 have hm:=List.mem_of_getElem? hs
 have main:(∀ x ∈ xs,Nd (menuS U) s.c 24 x)∧lvL xs+callsL xs≤30000∧rowL U s.c 24 xs=s.r:=by
  by_cases e:U.length=k0
  ·rw [if_pos e] at hx
   rw [e,h0] at hs
   have e2:=Option.some.inj hs
   subst e2
   have h4:=sok.x.sum s0 hm
   obtain ⟨r1,r2⟩:=row_self sok.o h0
   obtain ⟨b1,b2,b3,b4⟩:=step_body (sok.o.take k0) (fun s hs=>sok.cls s (mem_tk hs)) (c:=s0.c) (xs:=s0.ns) (fun x hx=>(sok.o.ord0 k0 s0 h0 x hx).ns) (by rw [r1]; exact h4) (sok.cls s0 hm) t
   rw [hx]
   refine ⟨?_,by omega,?_⟩
   ·rw [an.menu,e]; exact b1
   ·rw [an.row fun x hx=>(b1 x hx).ns,e,b2,r1]
  ·rw [if_neg e] at hx
   rw [hx]
   have n1:=sok.o.ord0 _ s hs
   have n2:∀ x ∈ s.ns,Nd (menuS (S.take U.length)) s.c 24 x:=fun x hx=>(n1 x hx).up (fun _ h=>h) (Nat.le_refl _) (by decide)
   obtain ⟨r1,r2⟩:=row_self sok.o hs
   have lv:=lvL_row (sok.x.take U.length) (c:=s.c) (d:=24) (xs:=s.ns) fun x hx=>(n2 x hx).ns
   rw [r2] at lv
   have h4:=sok.x.sum s hm
   have h6:=sok.cls s hm
   refine ⟨?_,by omega,?_⟩
   ·rw [an.menu]; exact n2
   ·rw [an.row fun x hx=>(n2 x hx).ns,r2]
 obtain ⟨m1,m2,m3⟩:=main
 refine ⟨m1,m2,m3,?_⟩
 rw [← mis_row sw.x m1]
 intro z
 obtain ⟨k,hk,hz⟩:=List.any_eq_true.mp z
 have hk:=List.mem_range.mp hk
 have hz:=of_decide_eq_true hz
 have hp:=sok.x.pos s hm (k+1) (by omega) (by omega)
 rw [← m3] at hp
 unfold rowL at hp
 rw [rw_getD (by omega)] at hp
 omega
theorem sw_snoc {S U:List Sh} {k0:Nat} {body:List DD} {s:Sh} {xs:List DD} (sok:ShOk S) (sw:ShW U) (hk:k0≤U.length) (an:An S k0 body U) (hs:S[U.length]? = some s) (hx:xs=if U.length=k0 then body else s.ns) (nd:∀ x ∈ xs,Nd (menuS U) s.c 24 x) (hr:rowL U s.c 24 xs=s.r) (h6:¬ 60 < calL U 24 xs) :
  An S k0 body (U++[Sh.mk s.n s.c xs s.r (calL U 24 xs)])∧ShW (U++[Sh.mk s.n s.c xs s.r (calL U 24 xs)]):=by
 have hm:=List.mem_of_getElem? hs
 have hl:=(List.getElem?_eq_some_iff.mp hs).1
 have h4:=sok.len
 have an':An S k0 body (U++[Sh.mk s.n s.c xs s.r (calL U 24 xs)]):=by rw [hx]; exact an.snoc hk hs _
 have ndn:((U++[Sh.mk s.n s.c xs s.r (calL U 24 xs)]).map Sh.n).Nodup:=by
  rw [an'.map (f:=Sh.n) fun _ _ e _ _=>e,List.map_take]
  exact sok.nd.sublist (List.take_sublist _ _)
 have mem:∀ {P:Sh→Prop},(∀ t ∈ U,P t)→P (Sh.mk s.n s.c xs s.r (calL U 24 xs))→∀ t ∈ U++[Sh.mk s.n s.c xs s.r (calL U 24 xs)],P t:=fun h1 h2 t ht=>by
  rcases List.mem_append.mp ht with ht | ht
  ·exact h1 t ht
  ·rw [List.mem_singleton.mp ht]; exact h2
 exact ⟨an',ndn,by rw [List.length_append,List.length_singleton]; omega,mem sw.row (sok.row s hm),mem sw.c9 (sok.c9 s hm),mem sw.nam (sok.nam s hm),mem sw.r4 (sok.r4 s hm),sw.x.snoc ndn (by omega) nd hr.symm (sok.x.pos s hm) (fun y hy=>(sok.r4 s hm y hy).1) (sok.x.sum s hm),mem sw.k6 ⟨(calL_le sw.k6 nd).1,by show calL U 24 xs≤60; omega⟩⟩
theorem sw_take {S:List Sh} (sw:ShW S) (i:Nat) : ShW (S.take i):=⟨(sw.x.take i).nd,(sw.x.take i).len,fun s hs=>sw.row s (mem_tk hs),fun s hs=>sw.c9 s (mem_tk hs),fun s hs=>sw.nam s (mem_tk hs),fun s hs=>sw.r4 s (mem_tk hs),sw.x.take i,fun s hs=>sw.k6 s (mem_tk hs)⟩

def sp_anew (K:PySem.W.Frag) : Sp:=fun vs H Q _=>∃ (sa pb:Addr) (k0:Nat) (S:List Sh) (t:Int) (s0:Sh),vs=[.ref sa,.int (k0:Int),.ref pb]∧Rep K H (.lst (S.map shD)) (.ref sa)∧ShOk S∧S[k0]? = some s0∧Rep K H (.lst (stL (S.take k0) 12 t s0.ns)) (.ref pb) ∧
  (∀ p pe H',Same H H'→H' p=some (.tup [.bl true,.ref pe])→H' pe=some (.lst [])→Q (.ref p) H') ∧
  (∀ p pt U H',Same H H'→H' p=some (.tup [.bl true,.ref pt])→Rep K H' (.lst (U.map shD)) (.ref pt)→ShW U→An S k0 (stL (S.take k0) 12 t s0.ns) U→U.length=S.length→Q (.ref p) H')
theorem sc_l_anew:FnScope ["shorts","at","body","told","elder","short","row","calls","made"] ["shorts","at","body"] (defScope s_l_anew):=⟨rfl,rfl,rfl,by decide +kernel,rfl,by decide +kernel,by decide +kernel⟩
theorem ok_l_anew (T:Txt P w K mg a) : FnOk P w K mg base CX0 132 a.f_l_anew a.fd_l_anew ["shorts","at","body"] (sp_anew K):=by
 have g_l_alike:=ok_l_alike (P:=P) (w:=w) (base:=base) T
 have d_l_alike:=T.d_l_alike
 have g_l_made:=ok_l_made (P:=P) (w:=w) (base:=base) T
 have d_l_made:=T.d_l_made
 have g_l_size:=ok_l_size (P:=P) (w:=w) (base:=base) T
 have d_l_size:=T.d_l_size
 refine T.d_l_anew.fn.ok sc_l_anew (fun vs H Q E h=>?_) (fun cdv A outer s H vs Q E hr h=>?_)
 ·obtain ⟨sa,pb,k0,S,t,s0,rfl,_⟩:=h
  rfl
 obtain ⟨sa,pb,k0,S,t,s0,rfl,rS,sok,h0,rb,q1,q2⟩:=h
 have hu:=Nat.lt_of_succ_lt (hu_of hr)
 refine ⟨_,(pss_cons (ps_set (i:=3) sc_l_anew.nd rfl (Or.inl rfl) (pe_slice sl_list (pv 0) po_none (po_some (pv 1))))
   (pss_cons (ps_set (i:=4) sc_l_anew.nd rfl (Or.inl rfl) (pe_ix ix_list (pv 0) (pv 1) (fun _ _=>rfl)))
   (pss_cons (ps_for PassesOwn.never rfl (pi_list (pe_op op_cat (pe_lst (pa_cons (pe_tup (pa_cons (pe_ix ix_tup (pv 4) pe_int (fun _ _=>rfl)) (pa_cons (pe_ix ix_tup (pv 4) pe_int (fun _ _=>rfl)) (pa_cons (pv 2) (pa_cons (pe_ix ix_tup (pv 4) pe_int (fun _ _=>rfl)) pa_nil))))) pa_nil)) (pe_slice sl_list (pv 0) (po_some (pe_op op_add (pv 1) pe_int)) po_none))) (pg_name (i:=5) sc_l_anew.nd rfl (Or.inl rfl)) (pss_cons (ps_asg (pe_callD d_l_size g_l_size (hr.mono (by decide)) rfl (pa_cons (pv 3) (pa_cons (pe_ix ix_tup (pv 5) pe_int (fun _ _=>rfl)) (pa_cons (pe_ix ix_tup (pv 5) pe_int (fun _ _=>rfl)) pa_nil)))) (pg_tup rfl (pgs_cons (pg_name (i:=6) sc_l_anew.nd rfl (Or.inl rfl)) (pgs_cons (pg_name (i:=7) sc_l_anew.nd rfl (Or.inl rfl)) pgs_nil))))
   (pss_cons (ps_set (i:=8) sc_l_anew.nd rfl (Or.inl rfl) (pe_callD d_l_made g_l_made (hr.mono (by decide)) rfl (pa_cons (pv 3) (pa_cons (pv 5) pa_nil))))
   (pss_cons (ps_if (pt_cmpR op_gt (pv 7) pe_int (nomark _)) (pss_one (ps_ret (pe_tup (pa_cons (pe_cmpR op_isN (pv 8) pe_non (nomark _)) (pa_cons (pe_lst pa_nil) pa_nil))))) pss_nil)
   (pss_cons (ps_if (PW.pt (pw_or (pt_not (pt_val (pe_callD d_l_alike g_l_alike (hr.mono (by decide)) rfl (pa_cons (pv 8) (pa_cons (pe_op op_catT (pe_slice sl_tupA (pv 5) po_none (po_some pe_int)) (pe_tup (pa_cons (pv 7) pa_nil))) pa_nil))) (fun _=>rfl))) (pw_or1 (pt_cmpR (op_neL hu) (pv 6) (pe_ix ix_tup (pv 5) pe_int (fun _ _=>rfl)) (nomark _))))) (pss_one (ps_ret (pe_tup (pa_cons pe_bl (pa_cons (pe_lst pa_nil) pa_nil))))) pss_nil)
   (pss_one (ps_set (i:=3) sc_l_anew.nd rfl (Or.inl rfl) (pe_op op_catS (pv 3) (pe_lst (pa_cons (pv 8) pa_nil))))))))))
   (pss_one (ps_ret (pe_tup (pa_cons pe_bl (pa_cons (pv 3) pa_nil)))))))),?_⟩
 have sl4:=sok.len
 obtain ⟨sa',us,e,ssa,_,rus⟩:=rS.lstO
 cases e
 have ul:=rus.len
 rw [List.length_map] at ul
 have k0l:=(List.getElem?_eq_some_iff.mp h0).1
 generalize hbd:stL (S.take k0) 12 t s0.ns=body at rb q2
 refine ⟨_,rfl,_,rfl,_,rfl,_,_,rfl,ssa,fun p1 hp1=>?_⟩
 rw [cutV_to (by omega)]
 have g1:=same_new hp1 (.lst (us.take k0))
 have k1:upd H p1 (.lst (us.take k0)) p1=some (.lst (us.take k0)):=upd_same
 generalize upd H p1 (.lst (us.take k0))=H1 at g1 k1 ⊢
 obtain ⟨ev,eu,re⟩:=rus.get (i:=k0) (d:=shD s0) (by rw [List.getElem?_map,h0]; rfl)
 obtain ⟨ea,nv0,rv0,rfl,st0,rn0,rr0⟩:=sh_out re
 refine ⟨_,rfl,_,rfl,_,_,_,_,rfl,rfl,g1.seq ssa,atI_nat eu,?_⟩
 dsimp only [gName]
 refine ⟨_,rfl,_,_,_,_,rfl,rfl,g1.tup st0,rfl,_,rfl,_,_,_,_,rfl,rfl,g1.tup st0,rfl,_,rfl,_,rfl,_,_,_,_,rfl,rfl,g1.tup st0,rfl,le4,fun p2 hp2=>?_⟩
 have g2:=same_new hp2 (.tup [.str (tx s0.n),.int (s0.c:Int),.ref pb,rv0])
 have k2:upd H1 p2 (.tup [.str (tx s0.n),.int (s0.c:Int),.ref pb,rv0]) p2=some (.tup [.str (tx s0.n),.int (s0.c:Int),.ref pb,rv0]):=upd_same
 generalize upd H1 p2 (.tup [.str (tx s0.n),.int (s0.c:Int),.ref pb,rv0])=H2 at g2 k2 ⊢
 refine ⟨le1,fun p3 hp3=>?_⟩
 have g3:=same_new hp3 (.lst [V.ref p2])
 have k3:upd H2 p3 (.lst [V.ref p2]) p3=some (.lst [V.ref p2]):=upd_same
 generalize upd H2 p3 (.lst [V.ref p2])=H3 at g3 k3 ⊢
 have s13:=(g1.trans g2).trans g3
 refine ⟨_,rfl,_,rfl,_,_,rfl,rfl,_,rfl,_,_,rfl,s13.seq ssa,fun p4 hp4=>?_⟩
 rw [show ((k0:Int)+1)=((k0+1:Nat) : Int) by omega,cutV_from (by omega)]
 have g4:=same_new hp4 (.lst (us.drop (k0+1)))
 have k4:upd H3 p4 (.lst (us.drop (k0+1))) p4=some (.lst (us.drop (k0+1))):=upd_same
 generalize upd H3 p4 (.lst (us.drop (k0+1)))=H4 at g4 k4 ⊢
 refine ⟨_,_,_,_,rfl,rfl,g4 _ _ k3,k4,by rw [List.length_drop]; exact Nat.le_of_lt (small (by simp; omega)),fun p5 hp5=>?_⟩
 have g5:=same_new hp5 (.lst ([V.ref p2]++us.drop (k0+1)))
 have k5:upd H4 p5 (.lst ([V.ref p2]++us.drop (k0+1))) p5=some (.lst ([V.ref p2]++us.drop (k0+1))):=upd_same
 generalize upd H4 p5 (.lst ([V.ref p2]++us.drop (k0+1)))=H5 at g5 k5 ⊢
 have s05:=s13.trans (g4.trans g5)
 have k15:=((g2.trans g3).trans (g4.trans g5)) _ _ k1
 have k25:=(g3.trans (g4.trans g5)) _ _ k2
 have r15:Rep K H5 (.lst ((S.take k0).map shD)) (.ref p1):=rep_lst (SqL.of k15) (by rw [List.length_map,List.length_take]; omega) (by rw [List.map_take]; exact (rus.mono s05).take k0)
 refine ⟨p5,rfl,⟨_,SqL.of k5⟩,for_list (K:=K) (a:=p5) (xs:=[V.ref p2]++us.drop (k0+1)) (fun i σ G=>∃ (pt:Addr) (U:List Sh) (v5 v6 v7 v8:Option V),σ=[some (.ref sa),some (.int (k0:Int)),some (.ref pb),some (.ref pt),some (.ref ea),v5,v6,v7,v8]∧Same H5 G∧Rep K G (.lst (U.map shD)) (.ref pt)∧ShW U∧An S k0 body U∧U.length=k0+i) ⟨p1,S.take k0,none,none,none,none,rfl,Same.refl _,r15,sw_take sok.w k0,An.start (by omega),by rw [List.length_take]; omega⟩ (fun k σ G _ z=>by obtain ⟨_,_,_,_,_,_,_,s1,_⟩:=z; exact SqL.of (s1 _ _ k5)) ?_ ?_⟩
 ·rintro i y σ G hy ⟨pt,U,v5,v6,v7,v8,rfl,sG,rU,sw,an,uln⟩
  obtain ⟨s,ya,nv,rv,rest,hs,rfl,sy,rl1,rx,rr⟩ : ∃ (s:Sh) (ya:Addr) (nv rv:V) (rest:List V),S[U.length]? = some s∧y = .ref ya∧SqT K H5 ya (.str (tx s.n) :: .int (s.c:Int) :: nv :: rv :: rest)∧rest.length≤1∧Rep K H5 (.lst (if U.length=k0 then body else s.ns)) nv∧Rep K H5 (.lst (s.r.map DD.int)) rv:=by
   cases i with
   | zero =>
    have ey:V.ref p2=y:=Option.some.inj hy
    exact ⟨s0,p2,.ref pb,rv0,[],by rw [uln]; exact h0,ey.symm,SqT.of k25,by simp,by rw [if_pos (by omega)]; exact rb.mono s05,rr0.mono s05⟩
   | succ i =>
    have hy:us[k0+1+i]? = some y:=by
     rw [List.getElem?_append_right (by simp),List.length_singleton,Nat.add_sub_cancel,List.getElem?_drop] at hy
     exact hy
    obtain ⟨dd,e1,r1⟩:=rus.getR hy
    rw [List.getElem?_map] at e1
    obtain ⟨s,e2,rfl⟩:=Option.map_eq_some_iff.mp e1
    obtain ⟨a,nv,rv,rfl,st,rn,rr⟩:=sh_out r1
    exact ⟨s,a,nv,rv,[.int s.k],by rw [uln,show k0+(i+1)=k0+1+i by omega]; exact e2,rfl,s05.tup st,by simp,by rw [if_neg (by omega)]; exact rn.mono s05,rr.mono s05⟩
  obtain ⟨xs,hx⟩ : ∃ xs,xs=if U.length=k0 then body else s.ns:=⟨_,rfl⟩
  rw [← hx] at rx
  obtain ⟨nx,lvx,hrow,hmis⟩:=next_an (xs:=xs) sok sw h0 (by rw [hbd]; exact an) hs (by rw [hbd]; exact hx)
  have hm:=List.mem_of_getElem? hs
  have hul:=(List.getElem?_eq_some_iff.mp hs).1
  have nam:=sok.nam s hm
  have c9:=sok.c9 s hm
  have m10:=m10_of sw
  have s4:=sok.x.sum s hm
  have hw:wrL U 24 xs=0:=fstN_zero fun y hy=>by
   obtain ⟨x,hx,rfl⟩:=List.mem_map.mp hy
   exact wr_ok sw.nd (nx x hx)
  refine ⟨_,rfl,_,rfl,_,_,_,_,rfl,rfl,sG.tup sy,atI_nat (j:=2) rfl,_,rfl,_,_,_,_,rfl,rfl,sG.tup sy,atI_nat (j:=1) rfl,_,_,s.c,24,U,xs,menuS U,rfl,by decide,c9,rU,sw,rx.mono sG,nx,m10,hw,fun p6 r6 G6 s6 fr6 kp6 kr6=>?_⟩
  refine ⟨p6,_,rfl,SqT.of kp6,rfl,_,_,rfl,_,_,rfl,rfl,?_⟩
  dsimp only [gName]
  have sG6:=sG.trans s6
  refine ⟨_,rfl,_,rfl,.ref pt,ya,U,s.n,s.c,xs,nv,rv :: rest,rfl,rU.mono s6,sw,sG6.tup sy,rx.mono sG6,nam.1,nam.2,c9,nx,lvx,by rw [hrow]; exact s4,hmis,fun hb G7 s7=>?_,fun hb p7 G7 s7 r7=>?_⟩
  ·dsimp only [gName]
   refine ⟨_,rfl,_,_,rfl,rfl,_,rfl,?_⟩
   rw [decide_eq_true hb]
   refine iteT ?_
   refine ⟨_,rfl,rfl,small (by simp),fun p8 hp8=>?_⟩
   refine ⟨le2,fun p9 hp9=>?_⟩
   have g8:=same_new hp8 (.lst [])
   have g9:=same_new hp9 (.tup [V.bl (decide (V.non=V.non)),V.ref p8])
   exact q1 p9 p8 _ (s05.trans ((sG6.trans s7).trans (g8.trans g9))) (by rw [upd_same]; rfl) (g9 _ _ upd_same)
  ·dsimp only [gName]
   refine ⟨_,rfl,_,_,rfl,rfl,_,rfl,?_⟩
   rw [decide_eq_false hb]
   refine iteF ?_
   have s57:=sG6.trans s7
   obtain ⟨an',sw'⟩:=sw_snoc (xs:=xs) sok sw (by omega) an hs hx nx hrow hb
   refine ⟨_,rfl,_,rfl,_,rfl,_,_,rfl,s57.tup sy,fun pq G8 s8 kq=>?_⟩
   rw [cutV_four] at kq
   refine ⟨_,rfl,le1,fun p9 hp9=>?_⟩
   have g9:=same_new hp9 (.tup [V.int (calL U 24 xs)])
   have k9:upd G8 p9 (.tup [V.int (calL U 24 xs)]) p9=some (.tup [V.int (calL U 24 xs)]):=upd_same
   generalize upd G8 p9 (.tup [V.int (calL U 24 xs)])=G9 at g9 k9 ⊢
   refine ⟨_,_,_,_,rfl,rfl,g9.tup kq,SqT.of k9,by simp,small (by simp),fun z=>absurd z (by simp),fun _ pa hpa=>?_⟩
   have ga:=same_new hpa (.tup ([V.str (tx s.n),V.int (s.c:Int),nv,rv]++[V.int (calL U 24 xs)]))
   have ka:upd G9 pa (.tup ([V.str (tx s.n),V.int (s.c:Int),nv,rv]++[V.int (calL U 24 xs)])) pa=some (.tup ([V.str (tx s.n),V.int (s.c:Int),nv,rv]++[V.int (calL U 24 xs)])):=upd_same
   generalize upd G9 pa (.tup ([V.str (tx s.n),V.int (s.c:Int),nv,rv]++[V.int (calL U 24 xs)]))=Ga at ga ka ⊢
   have s7a:=s8.trans (g9.trans ga)
   have s5a:=s57.trans s7a
   rw [hrow] at r7
   have rdue:Rep K Ga (shD (Sh.mk s.n s.c xs s.r (calL U 24 xs))) (.ref pa):=rep_tup (SqT.of ka) (by simp) (Reps.cons (rep_str _) (Reps.cons (rep_int _) (Reps.cons (rx.mono s5a) (Reps.cons (rr.mono s5a) (Reps.cons (rep_int _) Reps.nil)))))
   have dd:=sh1_deep sw' (s:=Sh.mk s.n s.c xs s.r (calL U 24 xs)) (List.mem_append.mpr (.inr List.mem_cons_self))
   refine ⟨_,_,_,rfl,by omega,r7.mono s7a,rdue,_,rfl,?_⟩
   refine iteF ?_
   obtain ⟨rb',erv,srb⟩:=ints_out rr
   subst erv
   have kr6a:=(s7.trans s7a) _ _ kr6
   rw [hrow] at kr6a
   refine ⟨_,rfl,_,rfl,_,_,_,_,rfl,rfl,s5a.tup sy,atI_nat (j:=3) rfl,_,_,_,_,rfl,rfl,SqL.of kr6a,s5a.seq srb,flat_ints _,flat_ints _,_,rfl,?_⟩
   rw [if_pos rfl,eqVs_refl (flat_ints _)]
   refine iteF ?_
   refine ⟨_,rfl,_,rfl,le1,fun pb1 hpb1=>?_⟩
   have gb:=same_new hpb1 (.lst [V.ref p7])
   have kb:upd Ga pb1 (.lst [V.ref p7]) pb1=some (.lst [V.ref p7]):=upd_same
   generalize upd Ga pb1 (.lst [V.ref p7])=Gb at gb kb ⊢
   obtain ⟨pt',vU,e,kU,_,rvU⟩:=rU.lstO
   cases e
   have vUl:=rvU.len
   rw [List.length_map] at vUl
   have t0b:=((s6.trans s7).trans s7a).trans gb
   refine ⟨_,_,_,_,rfl,rfl,t0b.seq kU,SqL.of kb,by simp; exact Nat.le_of_lt (small (by omega)),fun pc hpc=>?_⟩
   have gc:=same_new hpc (.lst (vU++[V.ref p7]))
   refine ⟨pc,U++[Sh.mk s.n s.c xs s.r (calL U 24 xs)],_,_,_,_,rfl,sG.trans (t0b.trans gc),rep_lst (SqL.of upd_same) (by simp; omega) ?_,sw',an',by rw [List.length_append,List.length_singleton]; omega⟩
   rw [List.map_append]
   exact (rvU.mono (t0b.trans gc)).snoc (r7.mono (s7a.trans (gb.trans gc)))
 ·rintro σ G ⟨pt,U,v5,v6,v7,v8,rfl,sG,rU,sw,an,uln⟩
  refine ⟨_,rfl,le2,fun p9 hp9=>?_⟩
  have g9:=same_new hp9 (.tup [V.bl true,V.ref pt])
  rw [List.length_append,List.length_singleton,List.length_drop] at uln
  exact q2 p9 pt U _ (s05.trans (sG.trans g9)) upd_same (rU.mono g9) sw an (by omega)
def sp_l_cell_at (K:PySem.W.Frag) : Sp:=fun vs H Q _=>∃ (b:Addr) (ns:List Int) (k:Nat),vs=[.ref b,.int (k:Int)]∧SqL K H b (ns.map V.int)∧Q (.int (ns.getD k 0)) H
theorem sc_l_cell_at:FnScope ["script","k"] ["script","k"] (defScope s_l_cell_at):=⟨rfl,rfl,rfl,by decide +kernel,rfl,by decide +kernel,by decide +kernel⟩
theorem ok_l_cell_at (T:Txt P w K mg a) : FnOk P w K mg base CX0 1 a.f_l_cell_at a.fd_l_cell_at ["script","k"] (sp_l_cell_at K):=by
 have z_len:=T.z_len
 refine T.d_l_cell_at.fn.ok sc_l_cell_at (fun vs H Q E h=>?_) (fun cdv A outer s H vs Q E hr h=>?_)
 ·obtain ⟨b,ns,k,rfl,_⟩:=h
  rfl
 obtain ⟨b,ns,k,rfl,hS,q⟩:=h
 have hu:=Nat.lt_of_succ_lt (hu_of hr)
 refine ⟨_,(pss_cons (ps_if (pt_cmpR op_lt (pv 1) (pe_callB call_len_seq rfl z_len PySem.boot_len (pa_cons (pv 0) pa_nil)) (nomark _)) (pss_one (ps_ret (pe_ix ix_list (pv 0) (pv 1) (fun _ _=>rfl)))) pss_nil)
   (pss_one (ps_ret pe_int))),?_⟩
 refine ⟨_,rfl,_,rfl,_,_,rfl,.inl hS,_,_,rfl,rfl,_,rfl,?_⟩
 refine ite2 (fun c=>?_) (fun c=>?_)
 ·have hk:k < ns.length:=by
   have:=of_decide_eq_true c
   rw [List.length_map] at this
   omega
  refine ⟨_,rfl,_,rfl,_,_,_,_,rfl,rfl,hS,atI_nat (j:=k) (v:=.int (ns.getD k 0)) ?_,q⟩
  rw [List.getElem?_map,List.getElem?_eq_getElem hk,List.getD_eq_getElem?_getD,List.getElem?_eq_getElem hk]
  rfl
 ·have hk:ns.length≤k:=by
   refine Nat.le_of_not_lt fun hk=>c (decide_eq_true ?_)
   rw [List.length_map]
   omega
  have e:ns.getD k 0=0:=by rw [List.getD_eq_getElem?_getD,List.getElem?_eq_none hk]; rfl
  rw [e] at q
  exact q
def draw (c k m:Int) : Int:=(c+1) * (48271+7919 * k * k) % 2147483647 * ((c+1) * (48271+7919 * k * k) % 2147483647) % 2147483629 / 7 % m
theorem draw_in (c k:Int) {m:Int} (h:0 < m) : 0≤draw c k m∧draw c k m < m:=⟨Int.emod_nonneg _ (by omega),Int.emod_lt_of_pos _ h⟩
theorem sq_in {k:Int} (h0:0≤k) (h1:k≤100000) : 0≤7919 * k * k∧7919 * k * k≤79190000000000:=by
 have a:=Int.mul_nonneg h0 h0
 have b:k * k≤100000 * 100000:=Int.mul_le_mul h1 h1 h0 (by decide)
 rw [Int.mul_assoc]
 omega
theorem draw_nat (c k:Int) {m:Nat} (h:0 < m) : ∃ d:Nat,draw c k (m:Int)=(d:Int)∧d < m:=by
 have b:=draw_in c k (show (0:Int) < (m:Int) by omega)
 obtain ⟨d,hd⟩:=Int.eq_ofNat_of_zero_le b.1
 exact ⟨d,hd,by omega⟩

def sp_l_draw:Sp:=fun vs H Q _=>∃ c k m:Int,vs=[.int c,.int k,.int m]∧(0≤k∧k≤100000)∧0 < m∧Q (.int (draw c k m)) H
theorem sc_l_draw:FnScope ["cell","k","many","number"] ["cell","k","many"] (defScope s_l_draw):=⟨rfl,rfl,rfl,by decide +kernel,rfl,by decide +kernel,by decide +kernel⟩
theorem ok_l_draw (T:Txt P w K mg a) : FnOk P w K mg base CX0 1 a.f_l_draw a.fd_l_draw ["cell","k","many"] sp_l_draw:=by
 refine T.d_l_draw.fn.ok sc_l_draw (fun vs H Q E h=>?_) (fun cdv A outer s H vs Q E hr h=>?_)
 ·obtain ⟨c,k,m,rfl,_⟩:=h
  rfl
 obtain ⟨c,k,m,rfl,⟨h0,h1⟩,hm,q⟩:=h
 have hu:=Nat.lt_of_succ_lt (hu_of hr)
 refine ⟨_,(pss_cons (ps_set (i:=3) sc_l_draw.nd rfl (Or.inl rfl) (pe_op op_mod (pe_op op_mul (pe_op op_add (pv 0) pe_int) (pe_op op_add pe_int (pe_op op_mul (pe_op op_mul pe_int (pv 1)) (pv 1)))) pe_int))
   (pss_one (ps_ret (pe_op op_mod (pe_op op_fdiv (pe_op op_mod (pe_op op_mul (pv 3) (pv 3)) pe_int) pe_int) (pv 2))))),?_⟩
 have sq:=sq_in h0 h1
 refine ⟨_,rfl,_,_,rfl,rfl,_,rfl,_,_,rfl,rfl,.inl ⟨by decide,by decide⟩,_,rfl,_,_,rfl,rfl,.inr ⟨by omega,by omega⟩,_,_,rfl,rfl,_,_,rfl,rfl,.inr ⟨by omega,by omega⟩,_,_,rfl,rfl,(by decide:(0:Int) < 2147483647),?_⟩
 refine ⟨_,rfl,_,rfl,_,_,rfl,rfl,.inl ⟨by omega,by omega⟩,_,_,rfl,rfl,(by decide:(0:Int) < 2147483629),_,_,rfl,rfl,⟨by decide,by decide⟩,_,rfl,_,_,rfl,rfl,hm,?_⟩
 exact q

theorem sc_l_flat:FnScope ["flats","nodes","found","node","inner","one"] ["flats","nodes"] (defScope s_l_flat):=⟨rfl,rfl,rfl,by decide +kernel,rfl,by decide +kernel,by decide +kernel⟩
def sp_fl (K:PySem.W.Frag) (n:Nat) : Sp:=fun vs H Q _=>∃ (B:Hp) (fa:Addr) (xv:V) (S:List Sh) (xs:List DD) (i c d:Nat),vs=[.ref fa,xv]∧d < n∧d+24 * i≤255∧Same B H∧ShX S∧FlAt K B H fa S i∧Rep K B (.lst xs) xv∧(∀ x ∈ xs,Nd (menuS (S.take i)) c d x) ∧
  ∀ p H' vs L,Same H H'→H p=none→H' p=some (.lst vs)→Reps K B (L.map lfD) vs→L.length≤401→(∀ y ∈ L,lfOk c y)→((exL Sum.inl S 256 (idA c) xs).length≤400→L=exL Sum.inl S 256 (idA c) xs)→Q (.ref p) H'
theorem ok_l_flat_n (T:Txt P w K mg a) : ∀ n:Nat,FnOk P w K mg base CX0 (n+4) a.f_l_flat a.fd_l_flat ["flats","nodes"] (sp_fl K n)
 | 0=>⟨fun vs H Q E h=>(by obtain ⟨B,fa,xv,S,xs,i,c,d,_,h1,_⟩:=h; omega),fun A outer s H args us vs Q E _ _ _ _ h=>(by obtain ⟨B,fa,xv,S,xs,i,c,d,_,h1,_⟩:=h; omega)⟩
 | n+1=>by
  have g_l_flat:=ok_l_flat_n T n
  have d_l_flat:=T.d_l_flat
  have z_len:=T.z_len

  refine T.d_l_flat.fn.ok sc_l_flat (fun vs H Q E h=>?_) (fun cdv A outer s H vs Q E hr h=>?_)
  ·obtain ⟨B,fa,xv,S,xs,i,c,d,rfl,_⟩:=h
   rfl
  obtain ⟨B,fa,xv,S,xs,i,c,d,rfl,hd,hd63,sB,sx0,hFl,rx,ndx,q⟩:=h
  have hu:=Nat.lt_of_succ_lt (hu_of hr)
  refine ⟨_,(pss_cons (ps_set (i:=2) sc_l_flat.nd rfl (Or.inl rfl) (pe_lst pa_nil))
   (pss_cons (ps_for PassesOwn.never rfl (pi_list (pv 1)) (pg_name (i:=3) sc_l_flat.nd rfl (Or.inl rfl)) (pss_one (ps_if (pt_cmpR op_eq (pe_ix ix_tup (pv 3) pe_int (fun _ _=>rfl)) pe_str (nomark _)) (pss_cons (ps_lc (k:=4) rfl (lcok (caps:=["flats"]) (js:=[0]) (cap:=⟨⟨rfl,.inl rfl,rfl,.inl rfl⟩,trivial⟩)) (pi_list (pe_ix ix_tup (pv 3) pe_int (fun _ _=>rfl))) (fun _ _ _ _=>pts_nil) (fun _ _ _ _=>(pe_callD d_l_flat g_l_flat hr rfl (pa_cons (pv 1) (pa_cons (pv 0) pa_nil)))) sc_l_flat.nd rfl rfl)
   (pss_one (ps_for PassesOwn.never rfl (pi_list (pe_dget (hu_of hr) (pv 0) (pe_ix ix_tup (pv 3) pe_int (fun _ _=>rfl)) (fun _ _=>rfl))) (pg_name (i:=5) sc_l_flat.nd rfl (Or.inl rfl)) (pss_one (ps_if (pt_cmpR op_le (pe_callB call_len_seq rfl z_len PySem.boot_len (pa_cons (pv 2) pa_nil)) pe_int (nomark _)) (pss_one (ps_if (pt_cmpR op_eq (pe_ix ix_tup (pv 5) pe_int (fun _ _=>rfl)) pe_str (nomark _)) (pss_one (ps_expr (pe_bm PySem.F.plainAttrs_list PySem.F.slot_list_append PySem.F.type_list_append mt_append (pv 2) (pa_cons (pv 5) pa_nil)))) (pss_one (ps_set (i:=2) sc_l_flat.nd rfl (Or.inl rfl) (pe_op op_cat (pv 2) (pe_ix ix_list (pv 4) (pe_op op_sub (pe_ix ix_tup (pv 5) pe_int (fun _ _=>rfl)) pe_int) (fun _ _=>rfl))))))) pss_nil))))) (pss_one (ps_expr (pe_bm PySem.F.plainAttrs_list PySem.F.slot_list_append PySem.F.type_list_append mt_append (pv 2) (pa_cons (pv 3) pa_nil)))))))
   (pss_one (ps_ret (pe_slice sl_list (pv 2) po_none (po_some pe_int)))))),?_⟩
  obtain ⟨xa,vs0,rfl,sxB,l1000,rxs⟩:=rx.lstO
  have xl:=rxs.len
  have kF0:=hFl
  obtain ⟨kvs,hkv0,hkl,hkv⟩:=kF0
  have sx:=sB.seq sxB
  refine ⟨small (by simp),fun p1 hp1=>?_⟩
  have g1:=same_new hp1 (.lst [])
  have k1:upd H p1 (.lst []) p1=some (.lst []):=upd_same
  generalize upd H p1 (.lst [])=H1 at g1 k1 ⊢
  refine ⟨_,rfl,xa,rfl,⟨_,g1.seq sx⟩,for_list (K:=K) (a:=xa) (xs:=vs0) (fun k σ G=>∃ (pF:Addr) (v3 v4 v5:Option V) (vs:List V) (F:List (Str ⊕ Nat)),σ=[some (.ref fa),some (.ref xa),some (.ref pF),v3,v4,v5]∧Same H G∧H pF=none∧G pF=some (.lst vs)∧Reps K B (F.map lfD) vs∧F.length≤801+k∧(∀ y ∈ F,lfOk c y)∧((exL Sum.inl S 256 (idA c) xs).length≤400→F=exL Sum.inl S 256 (idA c) (xs.take k))) ⟨p1,none,none,none,[],[],rfl,g1,hp1,k1,Reps.nil,by simp,fun y hy=>(by cases hy),fun _=>rfl⟩ (fun k σ G _ z=>by obtain ⟨_,_,_,_,_,_,_,s1,_⟩:=z; exact s1.seq sx) ?_ ?_⟩
  ·rintro k y σ G hy ⟨pF,v3,v4,v5,vs,F,rfl,s1,fF,kF,rF,lF,oF,tF⟩
   obtain ⟨x0,e0,r0⟩:=rxs.getR hy
   have hk1000:k < 500000:=by have:=(List.getElem?_eq_some_iff.mp hy).1; omega
   have nd0:=ndx x0 (List.mem_of_getElem? e0)
   have es:=exL_snoc (wd:=Sum.inl) (S:=S) (n:=256) (A:=idA c) e0
   have vl:=rF.len
   rw [List.length_map] at vl
   have sBG:=sB.trans s1
   obtain ⟨e,rfl⟩:=nd0.pos
   rcases nd0.out with ⟨w',rfl⟩ | ⟨pk,hp1',hp2',rfl⟩ | ⟨nm',as,rfl,hM,has⟩
   ·obtain ⟨ta,zs,rfl,st,_,rz⟩:=id r0.tupO
    obtain ⟨z0,z1,rfl,y0,y1⟩:=Reps.two rz
    rw [y0.strO,y1.strO] at st
    refine ⟨_,rfl,_,_,_,_,rfl,rfl,sBG.tup st,rfl,rfl,_,rfl,?_⟩
    rw [decide_eq_false strNe4]
    refine iteF ?_
    refine ⟨_,rfl,.inl ⟨rfl,_,SqL.of kF⟩,_,rfl,_,_,_,rfl,rfl,kF,small (by omega),?_⟩
    refine ⟨pF,_,_,_,vs++[V.ref ta],F++[.inl (tx w')],rfl,s1.put fF,fF,upd_same,by rw [List.map_append]; exact rF.snoc r0,by rw [List.length_append,List.length_singleton]; omega,fun y hy=>?_,fun h=>by rw [tF h,es]; rfl⟩
    rcases List.mem_append.mp hy with hy | hy
    ·exact oF y hy
    ·rw [List.mem_singleton.mp hy]; exact trivial
   ·obtain ⟨ta,zs,rfl,st,_,rz⟩:=id r0.tupO
    obtain ⟨z0,z1,rfl,y0,y1⟩:=Reps.two rz
    rw [y0.strO,y1.intO] at st
    refine ⟨_,rfl,_,_,_,_,rfl,rfl,sBG.tup st,rfl,rfl,_,rfl,?_⟩
    rw [decide_eq_false strNe5]
    refine iteF ?_
    refine ⟨_,rfl,.inl ⟨rfl,_,SqL.of kF⟩,_,rfl,_,_,_,rfl,rfl,kF,small (by omega),?_⟩
    rw [ex_pl,idA_get (by omega),show pk - 1+1=pk by omega] at es
    refine ⟨pF,_,_,_,vs++[V.ref ta],F++[.inr pk],rfl,s1.put fF,fF,upd_same,by rw [List.map_append]; exact rF.snoc r0,by rw [List.length_append,List.length_singleton]; omega,fun y hy=>?_,fun h=>by rw [tF h,es]⟩
    rcases List.mem_append.mp hy with hy | hy
    ·exact oF y hy
    ·rw [List.mem_singleton.mp hy]; exact ⟨hp1',hp2'⟩
   ·obtain ⟨ta,zs0,rfl,stB,_,rz⟩:=r0.tupO
    obtain ⟨z0,z1,z2,rfl,y0,y1,y2⟩:=Reps.three rz
    rw [y0.strO,y1.strO] at stB
    obtain ⟨la,ys,rfl,slB,a1000,rl⟩:=y2.lstO
    rw [List.length_map] at a1000
    have sl:=sB.seq slB
    have st:=sB.tup stB
    have yl:=rl.len
    rw [List.length_map] at yl
    refine ⟨_,rfl,_,_,_,_,rfl,rfl,s1.tup st,rfl,rfl,_,rfl,?_⟩
    rw [decide_eq_true rfl]
    refine iteT ?_
    obtain ⟨j,s,hj,ej,hs,en,ec,hF⟩:=call_of sx0.nd hM
    have h4:=sx0.len
    have hj4:=(List.getElem?_eq_some_iff.mp ej).1
    have hacl:=X_cl (wd:=Sum.inl) (A:=idA c) sx0 hF ej (fun a ha=>(has a ha).2) (by omega)
    have e5:∀ y ∈ s.ns,En S 256 s.c y:=fun y hy=>(en64 sx0 (sx0.ord j s ej y hy) (by omega)).up (by decide)
    obtain ⟨AA,hAA⟩ : ∃ AA,AA=as.map (exL Sum.inl S 256 (idA c)):=⟨_,rfl⟩
    rw [← hAA] at hacl
    have AAl:AA.length=s.c:=by rw [hAA,List.length_map,ec]
    have atk:(exL Sum.inl S 256 (idA c) xs).length≤400→(exL Sum.inl S 256 (idA c) (xs.take k)).length+(ex Sum.inl S 256 (idA c) (clD nm' as)).length≤400:=fun h=>by
     have:=exL_take (wd:=Sum.inl) (S:=S) (n:=256) (A:=idA c) xs (k+1)
     rw [es,List.length_append] at this
     omega
    have atot:(exL Sum.inl S 256 (idA c) xs).length≤400→∀ a ∈ as,(exL Sum.inl S 256 (idA c) a).length≤400:=fun h a ha=>by
     have h1:=arg_le (wd:=Sum.inl) (n:=256) (g:=exL Sum.inl S 256 (idA c) a) sx0 hs AAl e5 (by rw [hAA]; exact List.mem_map.mpr ⟨a,ha,rfl⟩)
     have h2:=atk h
     rw [hacl] at h2
     omega
    rw [← X_sb sx0 hs AAl] at hacl
    rw [hacl] at atk es
    refine ⟨_,rfl,_,_,_,_,rfl,rfl,s1.tup st,rfl,la,rfl,⟨_,s1.seq sl⟩,lc_list (K:=K) (a:=la) (xs:=ys) (fun m zs G'=>Same G G'∧zs.length=m∧∀ (m':Nat) z,zs[m']? = some z→∃ b L ws aj,as[m']? = some aj∧z = .ref b∧b≠pF∧G' b=some (.lst ws)∧Reps K B (L.map lfD) ws∧L.length≤401∧(∀ y ∈ L,lfOk c y)∧((exL Sum.inl S 256 (idA c) aj).length≤400→L=exL Sum.inl S 256 (idA c) aj)) ⟨Same.refl _,rfl,fun m' z ez=>by simp at ez⟩ (fun m zs G' _ z=>(s1.trans z.1).seq sl) ?_ ?_ ?_⟩
    ·rintro m zs G' hm ⟨_,zl,_⟩
     rw [zl]
     exact small1000 (by omega)
    ·rintro m y zs G' hy ⟨s2,zl,hz⟩
     obtain ⟨dj,ejm,rj⟩:=rl.getR hy
     rw [List.getElem?_map] at ejm
     obtain ⟨aj,eaj,rfl⟩:=Option.map_eq_some_iff.mp ejm
     clear ejm
     have s12:=s1.trans s2
     refine yes_go ?_
     refine ⟨_,rfl,_,rfl,B,fa,y,S,aj,i,c,e,rfl,by omega,by omega,sB.trans s12,sx0,hFl.mono (Same.refl _) s12,rj,(has aj (List.mem_of_getElem? eaj)).2,fun p G5 ws L s5 fp kp rL lL oL tL=>⟨s2.trans s5,by rw [List.length_append,zl]; rfl,fun m' z ez=>?_⟩⟩
     by_cases hm':m' < zs.length
     ·rw [List.getElem?_append_left hm'] at ez
      obtain ⟨b,L,ws,aj,a1,a2,a3,a4,a5⟩:=hz m' z ez
      exact ⟨b,L,ws,aj,a1,a2,a3,s5 _ _ a4,a5⟩
     ·rw [List.getElem?_append_right (by omega)] at ez
      have h0:m' - zs.length=0:=by
       have:=(List.getElem?_eq_some_iff.mp ez).1
       simp at this
       omega
      rw [h0] at ez
      have ez:V.ref p=z:=by simpa using ez
      exact ⟨p,L,ws,aj,by rw [show m' = m by omega]; exact eaj,ez.symm,Ne.symm (ne_of_none (s2 _ _ kF) fp),kp,rL,lL,oL,tL⟩
    rintro zs G' ⟨s2,zl,hz⟩ pi hpi
    rw [yl] at zl
    have g3:=same_new hpi (.lst zs)
    have k3:upd G' pi (.lst zs) pi=some (.lst zs):=upd_same
    have npi:pi≠pF:=Ne.symm (ne_of_none (s2 _ _ kF) hpi)
    generalize upd G' pi (.lst zs)=G3 at g3 k3 ⊢
    have s13:=s1.trans (s2.trans g3)
    have kF3:=(s2.trans g3) _ _ kF
    obtain ⟨b,vs1,hb1,hb2,hb3⟩:=hkv j s hj ej
    rw [en] at hb1
    have b3l:=hb3.len
    rw [List.length_map] at b3l
    dsimp only [gName]
    refine ⟨_,rfl,_,rfl,_,_,_,_,rfl,rfl,s13.tup st,rfl,fa,_,rfl,.inl ⟨kvs,.inr (tx nm'),.inl (s13 _ _ hkv0),rfl,hb1.symm⟩,b,rfl,⟨_,SqL.of (s13 _ _ hb2)⟩,for_list (K:=K) (a:=b) (xs:=vs1) (fun m σ G=>∃ (pF':Addr) (v5:Option V) (vs:List V) (F:List (Str ⊕ Nat)),σ=[some (.ref fa),some (.ref xa),some (.ref pF'),some (.ref ta),some (.ref pi),v5]∧Same H G∧(∀ b o,b≠pF→G3 b=some o→G b=some o)∧(∀ o,G3 pF' = some o→pF' = pF)∧H pF' = none∧G pF' = some (.lst vs)∧Reps K B (F.map lfD) vs∧F.length≤801+k∧(∀ y ∈ F,lfOk c y)∧((exL Sum.inl S 256 (idA c) xs).length≤400→F=exL Sum.inl S 256 (idA c) (xs.take k)++sb Sum.inl AA ((FL S s).take m))) ⟨pF,v5,vs,F,rfl,s13,fun b o _ hb=>hb,fun o _=>rfl,fF,kF3,rF,lF,oF,fun h=>by rw [tF h]; exact (List.append_nil _).symm⟩ (fun m σ G _ z=>by obtain ⟨_,_,_,_,_,s4,_⟩:=z; exact SqL.of (s4 _ _ hb2)) ?_ ?_⟩
    ·rintro m y1 σ G4 hy1 ⟨pF',v5,vs',F',rfl,s4,kp,hp,fF',kF',rF',lF',oF',tF'⟩
     obtain ⟨dd,e1,r1⟩:=hb3.getR hy1
     rw [List.getElem?_map] at e1
     obtain ⟨lf,e2,rfl⟩:=Option.map_eq_some_iff.mp e1
     clear e1
     have vl':=rF'.len
     rw [List.length_map] at vl'
     have esb:=sb_snoc (wd:=Sum.inl) (G:=AA) e2
     refine ⟨_,rfl,_,_,rfl,.inl (SqL.of kF'),_,_,rfl,rfl,_,rfl,?_⟩
     refine ite2 (fun c4=>?_) (fun c4=>?_)
     ·have c4:=of_decide_eq_true c4
      have hle:F'.length≤400:=by omega
      cases lf with
      | inl x =>
       obtain ⟨tb,ws,rfl,st2,_,rw2⟩:=id (Rep.tupO (l:=[.str (PySem.Str.ofString "word"),.str x]) r1)
       obtain ⟨u0,u1,rfl,w0,w1⟩:=Reps.two rw2
       rw [w0.strO] at st2
       refine ⟨_,rfl,_,_,_,_,rfl,rfl,(sB.trans s4).tup st2,rfl,rfl,_,rfl,?_⟩
       rw [decide_eq_true rfl]
       refine iteT ?_
       refine ⟨_,rfl,.inl ⟨rfl,_,SqL.of kF'⟩,_,rfl,_,_,_,rfl,rfl,kF',small (by omega),?_⟩
       refine ⟨pF',_,vs'++[V.ref tb],F'++[.inl x],rfl,s4.put fF',fun b o nb hb=>?_,hp,fF',upd_same,by rw [List.map_append]; exact rF'.snoc r1,by rw [List.length_append,List.length_singleton]; omega,fun y hy=>?_,fun h=>by rw [tF' h,esb,List.append_assoc]; rfl⟩
       ·rw [upd_ne (fun z=>nb (by rw [z] at hb ⊢; exact hp o hb))]
        exact kp b o nb hb
       ·rcases List.mem_append.mp hy with hy | hy
        ·exact oF' y hy
        ·rw [List.mem_singleton.mp hy]; exact trivial
      | inr kk =>
       have hkk:1≤kk∧kk≤s.c:=FL_ok sx0 hs _ (List.mem_of_getElem? e2)
       obtain ⟨tb,ws,rfl,st2,_,rw2⟩:=id (Rep.tupO (l:=[.str (PySem.Str.ofString "place"),.int (kk:Int)]) r1)
       obtain ⟨u0,u1,rfl,w0,w1⟩:=Reps.two rw2
       rw [w0.strO,w1.intO] at st2
       have st4:=(sB.trans s4).tup st2
       refine ⟨_,rfl,_,_,_,_,rfl,rfl,st4,rfl,rfl,_,rfl,?_⟩
       rw [decide_eq_false strNe1]
       refine iteF ?_
       have hzk:zs[kk - 1]? = some zs[kk - 1]:=List.getElem?_eq_getElem (by omega)
       obtain ⟨bb,L,ws,aj,a1,a2,a3,a4,a5,a6,a7,a8⟩:=hz (kk - 1) _ hzk
       have wl:=a5.len
       rw [List.length_map] at wl
       have eAA:AA.getD (kk - 1) []=exL Sum.inl S 256 (idA c) aj:=by rw [hAA,List.getD_eq_getElem?_getD,List.getElem?_map,a1]; rfl
       refine ⟨_,rfl,_,rfl,_,rfl,_,_,_,_,rfl,rfl,st4,rfl,_,_,rfl,rfl,_,_,_,_,rfl,rfl,SqL.of (kp _ _ npi k3),by rw [show (kk:Int) - 1=((kk - 1:Nat) : Int) by omega]; exact atI_nat (by rw [hzk,a2]),_,_,_,_,rfl,rfl,kF',kp _ _ a3 (g3 _ _ a4),small (by omega),fun p2 hp2=>?_⟩
       refine ⟨p2,_,vs'++ws,F'++L,rfl,s4.trans (same_new hp2 _),fun b o nb hb=>same_new hp2 _ _ _ (kp b o nb hb),fun o ho=>?_,s4.free hp2,upd_same,by rw [List.map_append]; exact rF'.app a5,by rw [List.length_append]; omega,fun y hy=>?_,fun h=>by rw [tF' h,esb,List.append_assoc,a8 (atot h aj (List.mem_of_getElem? a1)),← eAA]; rfl⟩
       ·by_cases z:p2=pF
        ·exact z
        ·have:=kp p2 o z ho
         rw [hp2] at this
         cases this
       ·rcases List.mem_append.mp hy with hy | hy
        ·exact oF' y hy
        ·exact a7 y hy
     ·have c4:¬ ((vs'.length:Nat) : Int)≤400:=fun z=>c4 (decide_eq_true z)
      refine ⟨pF',_,vs',F',rfl,s4,kp,hp,fF',kF',rF',lF',oF',fun h=>?_⟩
      have h1:=atk h
      have h2:=congrArg List.length (tF' h)
      rw [List.length_append] at h2
      have h3:=sb_take (wd:=Sum.inl) (G:=AA) (FL S s) m
      omega
    ·rintro σ G4 ⟨pF',v5,vs',F',rfl,s4,kp,hp,fF',kF',rF',lF',oF',tF'⟩
     rw [b3l,List.take_of_length_le (Nat.le_refl _)] at tF'
     exact ⟨pF',_,_,_,vs',F',rfl,s4,fF',kF',rF',by omega,oF',fun h=>by rw [tF' h,es]⟩
  ·rintro σ G ⟨pF,v3,v4,v5,vs,F,rfl,s1,fF,kF,rF,lF,oF,tF⟩
   rw [xl,List.take_of_length_le (Nat.le_refl _)] at tF
   refine ⟨_,rfl,_,rfl,_,_,rfl,SqL.of kF,fun p3 hp3=>?_⟩
   have ct:cutV vs none (some 401)=vs.take 401:=cutTk vs 401
   rw [ct]
   exact q p3 _ (vs.take 401) (F.take 401) (s1.trans (same_new hp3 _)) (s1.free hp3) upd_same (by rw [List.map_take]; exact rF.take 401) (by rw [List.length_take]; omega) (fun y hy=>oF y (List.mem_of_mem_take hy)) (fun h=>by rw [tF h,List.take_of_length_le (by omega)])
theorem ok_l_flat (T:Txt P w K mg a) : FnOk P w K mg base CX0 45 a.f_l_flat a.fd_l_flat ["flats","nodes"] (sp_fl K (45 - 4)):=ok_l_flat_n T (45 - 4)
def sp_l_flats (K:PySem.W.Frag) : Sp:=fun vs H Q _=>∃ (sv:V) (S:List Sh),vs=[sv]∧Rep K H (.lst (S.map shD)) sv∧ShX S∧∀ p H',Same H H'→FlAt K H H' p S S.length→Q (.ref p) H'
theorem sc_l_flats:FnScope ["shorts","flats","short"] ["shorts"] (defScope s_l_flats):=⟨rfl,rfl,rfl,by decide +kernel,rfl,by decide +kernel,by decide +kernel⟩
theorem ok_l_flats (T:Txt P w K mg a) : FnOk P w K mg base CX0 46 a.f_l_flats a.fd_l_flats ["shorts"] (sp_l_flats K):=by
 have g_l_flat:=ok_l_flat (P:=P) (w:=w) (base:=base) T
 have d_l_flat:=T.d_l_flat
 refine T.d_l_flats.fn.ok sc_l_flats (fun vs H Q E h=>?_) (fun cdv A outer s H vs Q E hr h=>?_)
 ·obtain ⟨sv,S,rfl,_⟩:=h
  rfl
 obtain ⟨sv,S,rfl,rS,sx0,q⟩:=h
 have hu:=Nat.lt_of_succ_lt (hu_of hr)
 refine ⟨_,(pss_cons (ps_set (i:=1) sc_l_flats.nd rfl (Or.inl rfl) pe_dnewK)
   (pss_cons (ps_for PassesOwn.never rfl (pi_list (pv 0)) (pg_name (i:=2) sc_l_flats.nd rfl (Or.inl rfl)) (pss_one (ps_dput (hu_of hr) (pv 1) (pe_ix ix_tup (pv 2) pe_int (fun _ _=>rfl)) (pe_callD d_l_flat g_l_flat (hr.mono (by decide)) rfl (pa_cons (pv 1) (pa_cons (pe_ix ix_tup (pv 2) pe_int (fun _ _=>rfl)) pa_nil))) rfl)))
   (pss_one (ps_ret (pv 1))))),?_⟩
 obtain ⟨sa,us,rfl,ssa,_,rus⟩:=rS.lstO
 have ul:=rus.len
 rw [List.length_map] at ul
 intro fa hfa
 have g1:=same_new hfa (.dK [])
 have k1:upd H fa (.dK []) fa=some (.dK []):=upd_same
 generalize upd H fa (.dK [])=H1 at g1 k1 ⊢
 refine ⟨_,rfl,sa,rfl,⟨_,g1.seq ssa⟩,for_list (K:=K) (a:=sa) (xs:=us) (fun k σ G=>∃ v2:Option V,σ=[some (.ref sa),some (.ref fa),v2]∧Same H G∧FlAt K H G fa S k) ⟨none,rfl,g1,[],k1,Nat.le_refl _,fun j s hj=>by omega⟩ (fun k σ G _ z=>by obtain ⟨_,_,s1,_⟩:=z; exact s1.seq ssa) ?_ ?_⟩
 ·rintro k y σ G hy ⟨v2,rfl,s1,hF⟩
  obtain ⟨d1,e1,r1⟩:=rus.getR hy
  rw [List.getElem?_map] at e1
  obtain ⟨s,e2,rfl⟩:=Option.map_eq_some_iff.mp e1
  obtain ⟨ta,ws,rfl,st,_,rw1⟩:=r1.tupO
  have hw0:ws[0]? = some (V.str (tx s.n)):=by
   obtain ⟨x,h1,h2⟩:=rw1.get (i:=0) (d:=.str (tx s.n)) rfl
   rw [h1,h2.strO]
  obtain ⟨x2,hw2,rn⟩:=rw1.get (i:=2) (d:=.lst s.ns) rfl
  have hk4:=(List.getElem?_eq_some_iff.mp e2).1
  have h4:=sx0.len
  have hs:=List.mem_of_getElem? e2
  refine ⟨_,rfl,_,rfl,_,_,_,_,rfl,rfl,s1.tup st,atI_nat hw2,H,fa,x2,S,s.ns,k,s.c,24,rfl,by decide,by omega,s1,sx0,hF,rn,sx0.ord k s e2,fun p G5 vs L s5 fp kp rL lL oL tL=>?_⟩
  have eL:L=FL S s:=tL (FL_len sx0 hs)
  obtain ⟨kvs,hkv0,hkl,hkv⟩:=hF
  have hk5:=s5 _ _ hkv0
  refine ⟨_,rfl,_,rfl,_,_,_,_,rfl,rfl,(s1.trans s5).tup st,atI_nat hw0,fa,_,rfl,.inl ⟨kvs,.inr (tx s.n),hk5,rfl,small2000 (by omega),rfl⟩,?_⟩
  refine ⟨_,rfl,(s1.trans s5).put hfa,putK kvs (.inr (tx s.n)) (.ref p),upd_same,Nat.le_trans putK_le (by omega),fun j t hj ej=>?_⟩
  by_cases hjk:j=k
  ·rw [hjk,e2] at ej
   cases ej
   exact ⟨p,vs,by rw [valV_put,if_pos rfl],by rw [upd_ne (Ne.symm (ne_of_none hkv0 fp))]; exact kp,eL ▸ rL⟩
  ·obtain ⟨b,ws,a1,a2,a3⟩:=hkv j t (by omega) ej
   refine ⟨b,ws,?_,?_,a3⟩
   ·rw [valV_put,if_neg]
    ·exact a1
    ·intro z
     have z:t.n=s.n:=tx_inj (Sum.inr.inj z)
     exact hjk ((List.getElem?_inj (by rw [List.length_map]; exact (List.getElem?_eq_some_iff.mp ej).1) sx0.nd).mp (by rw [List.getElem?_map,List.getElem?_map,ej,e2]; show some t.n=some s.n; rw [z]))
   ·rw [upd_ne (ne_of a2 hkv0 (by intro z; cases z))]
    exact s5 _ _ a2
 ·rintro σ G ⟨v2,rfl,s1,hF⟩
  rw [ul] at hF
  exact ⟨_,rfl,q fa G s1 hF⟩

theorem sc_l_many:FnScope ["nodes","many","node","argument"] ["nodes"] (defScope s_l_many):=⟨rfl,rfl,rfl,by decide +kernel,rfl,by decide +kernel,by decide +kernel⟩
def sp_mn (K:PySem.W.Frag) (n:Nat) : Sp:=fun vs H Q _=>∃ (xv:V) (xs:List DD) (M:List (Wd0 × Nat)) (c d:Nat),vs=[xv]∧d < n∧Rep K H (.lst xs) xv∧(∀ x ∈ xs,Nd M c d x)∧(∀ m ∈ M,m.2≤10)∧∀ H',Same H H'→Q (.int (callsL xs:Int)) H'
theorem ok_l_many_n (T:Txt P w K mg a) : ∀ n:Nat,FnOk P w K mg base CX0 (n+4) a.f_l_many a.fd_l_many ["nodes"] (sp_mn K n)
 | 0=>⟨fun vs H Q E h=>(by obtain ⟨xv,xs,M,c,d,_,h1,_⟩:=h; omega),fun A outer s H args us vs Q E _ _ _ _ h=>(by obtain ⟨xv,xs,M,c,d,_,h1,_⟩:=h; omega)⟩
 | n+1=>by
  have g_l_many:=ok_l_many_n T n
  have d_l_many:=T.d_l_many

  refine T.d_l_many.fn.ok sc_l_many (fun vs H Q E h=>?_) (fun cdv A outer s H vs Q E hr h=>?_)
  ·obtain ⟨xv,xs,M,c,d,rfl,_⟩:=h
   rfl
  obtain ⟨xv,xs,M,c,d,rfl,hd,rx,ndx,m10,q⟩:=h
  have hu:=Nat.lt_of_succ_lt (hu_of hr)
  refine ⟨_,(pss_cons (ps_set (i:=1) sc_l_many.nd rfl (Or.inl rfl) pe_int)
   (pss_cons (ps_for PassesOwn.never rfl (pi_list (pv 0)) (pg_name (i:=2) sc_l_many.nd rfl (Or.inl rfl)) (pss_one (ps_if (pt_cmpR op_eq (pe_ix ix_tup (pv 2) pe_int (fun _ _=>rfl)) pe_str (nomark _)) (pss_cons (ps_set (i:=1) sc_l_many.nd rfl (Or.inl rfl) (pe_op op_add (pv 1) pe_int))
   (pss_one (ps_for PassesOwn.never rfl (pi_list (pe_ix ix_tup (pv 2) pe_int (fun _ _=>rfl))) (pg_name (i:=3) sc_l_many.nd rfl (Or.inl rfl)) (pss_one (ps_set (i:=1) sc_l_many.nd rfl (Or.inl rfl) (pe_op op_add (pv 1) (pe_callD d_l_many g_l_many hr rfl (pa_cons (pv 3) pa_nil)))))))) pss_nil)))
   (pss_one (ps_ret (pv 1))))),?_⟩
  obtain ⟨xa,vs0,rfl,sx,_,rxs⟩:=rx.lstO
  have xl:=rxs.len
  refine ⟨_,rfl,xa,rfl,⟨_,sx⟩,for_list (K:=K) (a:=xa) (xs:=vs0) (fun k σ G=>∃ v2 v3:Option V,σ=[some (.ref xa),some (.int (callsL (xs.take k) : Int)),v2,v3]∧Same H G) ⟨none,none,by rw [List.take_zero,calls_nil]; rfl,Same.refl _⟩ (fun k σ G _ z=>by obtain ⟨_,_,_,s1⟩:=z; exact s1.seq sx) ?_ ?_⟩
  ·rintro k y σ G hy ⟨v2,v3,rfl,s1⟩
   obtain ⟨x0,e0,r0⟩:=rxs.getR hy
   have nd0:=ndx x0 (List.mem_of_getElem? e0)
   have es:=calls_snoc e0
   obtain ⟨e,rfl⟩:=nd0.pos
   rcases nd0.out with ⟨w',rfl⟩ | ⟨pk,hp1,hp2,rfl⟩ | ⟨nm',as,rfl,hM,has⟩
   ·obtain ⟨ta,zs,rfl,st,_,rz⟩:=id r0.tupO
    obtain ⟨z0,z1,rfl,y0,y1⟩:=Reps.two rz
    rw [y0.strO,y1.strO] at st
    refine ⟨_,rfl,_,_,_,_,rfl,rfl,s1.tup st,rfl,rfl,_,rfl,?_⟩
    rw [decide_eq_false strNe4]
    refine iteF ?_
    rw [calls_wd,Nat.add_zero] at es
    exact ⟨_,_,by rw [es]; rfl,s1⟩
   ·obtain ⟨ta,zs,rfl,st,_,rz⟩:=id r0.tupO
    obtain ⟨z0,z1,rfl,y0,y1⟩:=Reps.two rz
    rw [y0.strO,y1.intO] at st
    refine ⟨_,rfl,_,_,_,_,rfl,rfl,s1.tup st,rfl,rfl,_,rfl,?_⟩
    rw [decide_eq_false strNe5]
    refine iteF ?_
    rw [calls_pl,Nat.add_zero] at es
    exact ⟨_,_,by rw [es]; rfl,s1⟩
   ·obtain ⟨ta,zs,rfl,st,_,rz⟩:=id r0.tupO
    obtain ⟨z0,z1,z2,rfl,y0,y1,y2⟩:=Reps.three rz
    rw [y0.strO,y1.strO] at st
    obtain ⟨la,ys,rfl,sl,_,rl⟩:=y2.lstO
    have yl:=rl.len
    rw [List.length_map] at yl
    refine ⟨_,rfl,_,_,_,_,rfl,rfl,s1.tup st,rfl,rfl,_,rfl,?_⟩
    rw [decide_eq_true rfl]
    refine iteT ?_
    refine ⟨_,rfl,_,_,rfl,rfl,?_⟩
    dsimp only [gName]
    refine ⟨_,rfl,_,_,_,_,rfl,rfl,s1.tup st,rfl,la,rfl,⟨_,s1.seq sl⟩,for_list (K:=K) (a:=la) (xs:=ys) (fun j σ G=>∃ v3:Option V,σ=[some (.ref xa),some (.int ((callsL (xs.take k) : Int)+1+(callsL ((as.take j).map DD.lst) : Int))),some (.ref ta),v3]∧Same H G) ⟨v3,by rw [List.take_zero,List.map_nil,calls_nil]; exact congrArg (fun z=>[some (V.ref xa),some (V.int z),some (V.ref ta),v3]) (by omega),s1⟩ (fun j σ G _ z=>by obtain ⟨_,_,s3⟩:=z; exact s3.seq sl) ?_ ?_⟩
    ·rintro j y σ G hy ⟨v3,rfl,s3⟩
     obtain ⟨dj,ejm,rj⟩:=rl.getR hy
     rw [List.getElem?_map] at ejm
     obtain ⟨aj,eaj,rfl⟩:=Option.map_eq_some_iff.mp ejm
     clear ejm
     have ham:=List.mem_of_getElem? eaj
     refine ⟨_,rfl,_,rfl,y,aj,M,c,e,rfl,by omega,rj.mono s3,(has aj ham).2,m10,fun G5 s5=>⟨_,_,rfl,rfl,?_⟩⟩
     refine ⟨some y,?_,s3.trans s5⟩
     rw [callsA_snoc eaj]
     exact congrArg (fun z=>[some (V.ref xa),some (V.int z),some (V.ref ta),some y]) (by omega)
    ·rintro σ G ⟨v3,rfl,s3⟩
     rw [yl,List.take_of_length_le (Nat.le_refl _)]
     refine ⟨some (V.ref ta),v3,?_,s3⟩
     rw [es,calls_cl]
     exact congrArg (fun z=>[some (V.ref xa),some (V.int z),some (V.ref ta),v3]) (by omega)
  ·rintro σ G ⟨v2,v3,rfl,s1⟩
   rw [xl,List.take_of_length_le (Nat.le_refl _)]
   exact ⟨_,rfl,q G s1⟩
theorem ok_l_many (T:Txt P w K mg a) : FnOk P w K mg base CX0 45 a.f_l_many a.fd_l_many ["nodes"] (sp_mn K (45 - 4)):=ok_l_many_n T (45 - 4)
def sp_l_end (K:PySem.W.Frag) : Sp:=fun vs H Q _=>∃ (H0:Hp) (pf:Addr) (g h:Gf) (r:List Gf) (M:List (Wd0 × Nat)) (c k:Nat),vs=[.ref pf]∧FrS K H0 H pf (g :: h :: r)∧GfOk M c k (g :: h :: r)∧r.length≤10∧MOk M∧k≤90 ∧
  ∀ H' gs',FrS K H0 H' pf gs'→gs'≠[]→GfOk M c k gs'→gs'.length≤r.length+2→toGo gs' < toGo (g :: h :: r)→tcl gs'≤tcl (g :: h :: r)→Q .non H'
theorem sc_l_end_argument:FnScope ["frames","name","done","nodes","many"] ["frames"] (defScope s_l_end_argument):=⟨rfl,rfl,rfl,by decide +kernel,rfl,by decide +kernel,by decide +kernel⟩
theorem ok_l_end_argument (T:Txt P w K mg a) : FnOk P w K mg base CX0 1 a.f_l_end_argument a.fd_l_end_argument ["frames"] (sp_l_end K):=by
 have z_len:=T.z_len
 refine T.d_l_end_argument.fn.ok sc_l_end_argument (fun vs H Q E h=>?_) (fun cdv A outer s H vs Q E hr h=>?_)
 ·obtain ⟨H0,pf,g,h,r,M,c,k,rfl,_⟩:=h
  rfl
 obtain ⟨H0,pf,g,h,r,M,c,k,rfl,S,ok,rl,mok,k90,q⟩:=h
 have hu:=Nat.lt_of_succ_lt (hu_of hr)
 refine ⟨_,(pss_cons (ps_asg (pe_bm0 PySem.F.plainAttrs_list PySem.F.slot_list_pop PySem.F.type_list_pop mt_pop (pv 0)) (pg_tup rfl (pgs_cons (pg_name (i:=1) sc_l_end_argument.nd rfl (Or.inl rfl)) (pgs_cons (pg_name (i:=2) sc_l_end_argument.nd rfl (Or.inl rfl)) (pgs_cons (pg_name (i:=3) sc_l_end_argument.nd rfl (Or.inl rfl)) (pgs_cons (pg_name (i:=4) sc_l_end_argument.nd rfl (Or.inl rfl)) pgs_nil))))))
   (pss_cons (ps_if (PW.pt (pw_and (pt_cmpR (op_eqNil hu) (pv 3) (pe_lst pa_nil) (nomark _)) (pw_and1 (pt_cmpR op_eq (pv 4) pe_int (nomark _))))) (pss_one (ps_set (i:=3) sc_l_end_argument.nd rfl (Or.inl rfl) (pe_lst (pa_cons (pe_tup (pa_cons pe_str (pa_cons pe_str pa_nil))) pa_nil)))) pss_nil)
   (pss_cons (ps_set (i:=2) sc_l_end_argument.nd rfl (Or.inl rfl) (pe_op op_cat (pv 2) (pe_lst (pa_cons (pv 3) pa_nil))))
   (pss_one (ps_if (pt_cmpR op_lt (pe_callB call_len_seq rfl z_len PySem.boot_len (pa_cons (pv 2) pa_nil)) (pv 4) (nomark _)) (pss_one (ps_expr (pe_bm PySem.F.plainAttrs_list PySem.F.slot_list_append PySem.F.type_list_append mt_append (pv 0) (pa_cons (pe_tup (pa_cons (pv 1) (pa_cons (pv 2) (pa_cons (pe_lst pa_nil) (pa_cons (pv 4) pa_nil))))) pa_nil)))) (pss_one (ps_expr (pe_bm PySem.F.plainAttrs_list PySem.F.slot_list_append PySem.F.type_list_append mt_append (pe_ix ix_tup (pe_ix ix_list (pv 0) (pe_un un_neg pe_int) (fun _ _=>rfl)) pe_int (fun _ _=>rfl)) (pa_cons (pe_tup (pa_cons pe_str (pa_cons (pv 1) (pa_cons (pv 2) pa_nil)))) pa_nil))))))))),?_⟩
 have etop:((g :: h :: r).map fun g=>V.ref g.t).reverse=((h :: r).map fun g=>V.ref g.t).reverse++[V.ref g.t]:=by rw [List.map_cons,List.reverse_cons]
 have stop:=S.top
 rw [etop] at stop
 obtain ⟨o1,o2,o3,o4,o5,o6,o7⟩:=ok
 obtain ⟨o3a,o3b,o3c⟩:=o3 (by simp)
 have mk:=mok.2 _ o3b
 have g2:toGo (g :: h :: r)=(g.m - g.ds.length)+toGo (h :: r):=rfl
 refine ⟨_,rfl,.inl ⟨rfl,_,SqL.of stop⟩,pf,_,V.ref g.t,rfl,rfl,stop,by simp,?_⟩
 rw [List.dropLast_concat]
 obtain ⟨S1,q1⟩:=S.pop
 generalize upd H pf (.lst ((h :: r).map fun g=>V.ref g.t).reverse)=G1 at S1 q1 ⊢
 have tg:=(erG_of q1.tup).2
 have dg:=q1.dl
 refine ⟨g.t,_,rfl,SqT.of tg,rfl,_,_,rfl,_,_,rfl,_,_,rfl,_,_,rfl,rfl,?_⟩
 dsimp only [gName]
 refine cut_seq (fun σ' G'=>∃ (nn:Addr) (a':List DD),σ' = [some (.ref pf),some (.str (tx g.n)),some (.ref g.D),some (.ref nn),some (.int (g.m:Int))]∧Same G1 G'∧Rep K (erG H0 G' (opF pf (h :: r))) (.lst a') (.ref nn)∧a'.length≤90∧(∀ y ∈ a',Nd M c (12 - (h :: r).length) y)∧callsL a'≤callsL g.xs) ?_ (fun key=>?_)
 ·rintro σ' G2 ⟨nn,a',rfl,s2,rn,al,an,ac⟩
  have S2:=S1.ext s2
  have u2:=S1.up s2
  have dg2:=u2 _ _ dg
  have dr2:=q1.dr.mono u2
  have dl:=dr2.len
  rw [List.length_map] at dl
  refine ⟨_,rfl,_,rfl,le1,fun p1 hp1=>?_⟩
  have g3:=same_new hp1 (.lst [V.ref nn])
  refine ⟨_,_,_,_,rfl,rfl,g3 _ _ (erG_of dg2).2,upd_same,small (by simp; omega),fun p2 hp2=>?_⟩
  have s3:=g3.trans (same_new hp2 (.lst (g.Dv++[V.ref nn])))
  have k3:upd (upd G2 p1 (.lst [V.ref nn])) p2 (.lst (g.Dv++[V.ref nn])) p2=some (.lst (g.Dv++[V.ref nn])):=upd_same
  have fp2:=g3.free hp2
  generalize upd (upd G2 p1 (.lst [V.ref nn])) p2 (.lst (g.Dv++[V.ref nn]))=G3 at s3 k3 ⊢
  have S3:=S2.ext s3
  have u3:=S2.up s3
  have r3:Reps K (erG H0 G3 (opF pf (h :: r))) ((g.ds++[a']).map DD.lst) (g.Dv++[V.ref nn]):=by
   rw [List.map_append]
   exact (dr2.mono u3).snoc (rn.mono u3)
  have k3e:=S2.get fp2 k3
  dsimp only [gName]
  refine ⟨_,rfl,_,_,rfl,.inl (SqL.of k3),_,rfl,_,_,rfl,rfl,_,rfl,?_⟩
  refine ite2 (fun c0=>?_) (fun c0=>?_)
  ·have c0:=of_decide_eq_true c0
   rw [List.length_append,List.length_singleton] at c0
   refine ⟨_,rfl,.inl ⟨rfl,_,SqL.of S3.top⟩,_,rfl,_,rfl,small (by simp),fun N hN=>?_⟩
   have g4:=same_new hN (.lst [])
   have k4:upd G3 N (.lst []) N=some (.lst []):=upd_same
   generalize upd G3 N (.lst [])=G4 at g4 k4 ⊢
   refine ⟨_,rfl,le4,fun t ht=>?_⟩
   have g5:=same_new ht (.tup [V.str (tx g.n),V.ref p2,V.ref N,V.int (g.m:Int)])
   have k5:upd G4 t (.tup [V.str (tx g.n),V.ref p2,V.ref N,V.int (g.m:Int)]) t=some (.tup [V.str (tx g.n),V.ref p2,V.ref N,V.int (g.m:Int)]):=upd_same
   have tN:t≠N:=Ne.symm (ne_of_none k4 ht)
   generalize upd G4 t (.tup [V.str (tx g.n),V.ref p2,V.ref N,V.int (g.m:Int)])=G5 at g5 k5 ⊢
   have s5:=g4.trans g5
   refine ⟨pf,_,_,rfl,rfl,s5 _ _ S3.top,small1000 (by simp; omega),?_⟩
   have nPN:N≠pf:=Ne.symm (ne_of_none S3.top hN)
   have nPt:t≠pf:=Ne.symm (ne_of_none (g4 _ _ S3.top) ht)
   have fpf:=S.fresh pf List.mem_cons_self
   refine q _ (⟨t,p2,N,g.n,g.m,g.Dv++[V.ref nn],g.ds++[a'],[],[]⟩ :: h :: r) (S3.open (fun b o hb=>by rw [upd_ne (ne_of_none hb fpf)]; exact s5 _ _ (S3.same b o hb)) (fun b o nb hb=>by rw [upd_ne nb]; exact s5 _ _ hb) k3e r3 hN (g4.free ht) (S3.same.free hN) tN (by rw [upd_ne nPt]; exact k5) (by rw [upd_ne nPN]; exact g5 _ _ k4) upd_same) (by simp) ⟨by simp only [List.length_nil]; omega,fun x hx=>(by cases hx),fun _=>⟨?_,o3b,fun b hb=>?_⟩,o4,o5,o6,o7⟩ (by simp) ?_ ?_
   ·simp only [List.length_append,List.length_singleton]
    omega
   ·rcases List.mem_append.mp hb with hb | hb
    ·exact o3c b hb
    ·rw [List.mem_singleton.mp hb]
     exact ⟨al,an⟩
   ·show (g.m - (g.ds++[a']).length)+toGo (h :: r) < _
    rw [g2,List.length_append,List.length_singleton]
    omega
   ·show callsL []+callsL ((g.ds++[a']).map DD.lst)+1+tcl (h :: r)≤callsL g.xs+callsL (g.ds.map DD.lst)+1+tcl (h :: r)
    rw [List.map_append,calls_app]
    show callsL []+(_+callsL [DD.lst a'])+1+_≤_
    rw [calls_one,calls_lst,show callsL []=0 by rw [callsL]]
    omega
  ·have c0:¬ (((g.Dv++[V.ref nn]).length:Nat) : Int) < (g.m:Int):=fun z=>c0 (decide_eq_true z)
   rw [List.length_append,List.length_singleton] at c0
   have hm:g.ds.length+1=g.m:=by omega
   have hlast:((h :: r).map fun g=>V.ref g.t).reverse=(r.map fun g=>V.ref g.t).reverse++[V.ref h.t]:=by rw [List.map_cons,List.reverse_cons]
   have qh:=S3.fr h List.mem_cons_self
   have th:=(erG_of qh.tup).2
   have hvl:=qh.nr.len
   refine ⟨_,rfl,_,rfl,pf,_,_,V.ref h.t,rfl,rfl,SqL.of S3.top,by rw [hlast]; exact atI_last _ _,h.t,_,_,V.ref h.N,rfl,rfl,SqT.of th,rfl,.inl ⟨rfl,_,SqL.of qh.hN⟩,_,rfl,_,rfl,le3,fun p hp=>?_⟩
   have g4:=same_new hp (.tup [V.str (PySem.Str.ofString "call"),V.str (tx g.n),V.ref p2])
   have k4:upd G3 p (.tup [V.str (PySem.Str.ofString "call"),V.str (tx g.n),V.ref p2]) p=some (.tup [V.str (PySem.Str.ofString "call"),V.str (tx g.n),V.ref p2]):=upd_same
   have np:=hp
   generalize upd G3 p (.tup [V.str (PySem.Str.ofString "call"),V.str (tx g.n),V.ref p2])=G4 at g4 k4 ⊢
   have S4:=S3.ext g4
   have u4:=S3.up g4
   refine ⟨_,_,_,rfl,rfl,(S4.fr h List.mem_cons_self).hN,small1000 (by omega),?_⟩
   have lds:((g.ds++[a']).map DD.lst).length≤500000:=by
    rw [List.length_map,List.length_append,List.length_singleton]
    omega
   have rc:Rep K (erG H0 G4 (opF pf (h :: r))) (clD g.n (g.ds++[a'])) (.ref p):=rep_tup (SqT.of (S3.get np k4)) (by simp) (Reps.cons (rep_str _) (Reps.cons (rep_str _) (Reps.cons (rep_lst (SqL.of (u4 _ _ k3e)) lds (r3.mono u4)) Reps.nil)))
   refine q _ _ (S4.push rc) (by simp) ⟨?_,fun x hx=>?_,o6,GfOk.up (by omega) o7⟩ (by simp) ?_ ?_
   ·simp only [List.length_append,List.length_singleton]
    omega
   ·rcases List.mem_append.mp hx with hx | hx
    ·exact o5 x hx
    ·rw [List.mem_singleton.mp hx,show 12 - r.length=(12 - (h :: r).length)+1 by rw [List.length_cons]; omega]
     refine .inr (.inr ⟨g.n,g.ds++[a'],rfl,?_,fun b hb=>?_⟩)
     ·rw [List.length_append,List.length_singleton,hm]
      exact o3b
     ·rcases List.mem_append.mp hb with hb | hb
      ·exact ⟨by have:=(o3c b hb).1; omega,(o3c b hb).2⟩
      ·rw [List.mem_singleton.mp hb]
       exact ⟨by omega,an⟩
   ·have e1:toGo ({ h with vs:=h.vs++[V.ref p],xs:=h.xs++[clD g.n (g.ds++[a'])] } :: r)=toGo (h :: r):=by cases r <;> rfl
    rw [e1,g2]
    omega
   ·have e2:tcl ({ h with vs:=h.vs++[V.ref p],xs:=h.xs++[clD g.n (g.ds++[a'])] } :: r)+callsL h.xs=tcl (h :: r)+callsL (h.xs++[clD g.n (g.ds++[a'])]):=by
     cases r with
     | nil=>show callsL (h.xs++[clD g.n (g.ds++[a'])])+callsL (h.ds.map DD.lst)+callsL h.xs=callsL h.xs+callsL (h.ds.map DD.lst)+_; omega
     | cons k r=>show callsL (h.xs++[clD g.n (g.ds++[a'])])+callsL (h.ds.map DD.lst)+1+tcl (k :: r)+callsL h.xs=callsL h.xs+callsL (h.ds.map DD.lst)+1+tcl (k :: r)+_; omega
    rw [calls_app,calls_one,calls_cl,List.map_append,calls_app] at e2
    have e3:callsL ([a'].map DD.lst)=callsL a':=by show callsL [DD.lst a']=_; rw [calls_one,calls_lst]
    show _≤callsL g.xs+callsL (g.ds.map DD.lst)+1+tcl (h :: r)
    omega
 ·have ng:=erG_of q1.hN
  refine ⟨_,rfl,small (by simp),fun p6 hp6=>?_⟩
  have g6:=same_new hp6 (.lst [])
  have k6:upd G1 p6 (.lst []) p6=some (.lst []):=upd_same
  generalize upd G1 p6 (.lst [])=G6 at g6 k6 ⊢
  have u6:=S1.up g6
  have S6:=S1.ext g6
  have rN:Rep K (erG H0 G6 (opF pf (h :: r))) (.lst g.xs) (.ref g.N):=rep_lst (SqL.of (u6 _ _ q1.hN)) (by omega) (q1.nr.mono u6)
  refine ⟨_,_,_,rfl,rfl,SqL.of (g6 _ _ ng.2),SqL.of k6,_,rfl,?_⟩
  refine ite2 (fun c1=>?_) (fun c1=>?_)
  ·refine ⟨_,rfl,rfl,_,rfl,?_⟩
   refine ite2 (fun c2=>?_) (fun c2=>?_)
   ·refine ⟨le2,fun p7 hp7=>?_⟩
    have g7:=same_new hp7 (.tup [V.str (PySem.Str.ofString "word"),V.str (PySem.Str.ofString "o")])
    have k7:upd G6 p7 (.tup [V.str (PySem.Str.ofString "word"),V.str (PySem.Str.ofString "o")]) p7=some (.tup [V.str (PySem.Str.ofString "word"),V.str (PySem.Str.ofString "o")]):=upd_same
    have n7:=hp7
    generalize upd G6 p7 (.tup [V.str (PySem.Str.ofString "word"),V.str (PySem.Str.ofString "o")])=G7 at g7 k7 ⊢
    have S7:=S6.ext g7
    refine ⟨le1,fun p8 hp8=>?_⟩
    have n8:=hp8
    have g8:=same_new hp8 (.lst [V.ref p7])
    have u8:=S7.up g8
    refine key _ _ ⟨p8,[wdD [111]],rfl,(g6.trans g7).trans g8,rep_lst (SqL.of (S7.get n8 upd_same)) (by simp) (Reps.cons ?_ Reps.nil),by simp,fun y hy=>?_,by rw [calls_one,calls_wd]; exact Nat.zero_le _⟩
    ·unfold wdD
     rw [← cOw]
     exact rep_tup (SqT.of (u8 _ _ (S6.get n7 k7))) (by simp) (Reps.cons (rep_str _) (Reps.cons (rep_str _) Reps.nil))
    ·rw [List.mem_singleton.mp hy,List.length_cons,show 12 - (r.length+1)=(11 - r.length)+0 by omega]
     obtain ⟨e,he⟩ : ∃ e,11 - r.length+0=e+1:=⟨10 - r.length,by omega⟩
     rw [he]
     exact .inl ⟨_,rfl⟩
   ·exact key _ _ ⟨g.N,g.xs,rfl,g6,rN,by omega,o2,Nat.le_refl _⟩
  ·exact iteF (key _ _ ⟨g.N,g.xs,rfl,g6,rN,by omega,o2,Nat.le_refl _⟩)
def sp_l_word_by:Sp:=fun vs H Q _=>∃ c:Int,vs=[.int c]∧∀ w H',Same H H'→w.length≤4→Q (.str (tx w)) H'
theorem sc_l_word_by:FnScope ["cell","some"] ["cell"] (defScope s_l_word_by):=⟨rfl,rfl,rfl,by decide +kernel,rfl,by decide +kernel,by decide +kernel⟩
theorem ok_l_word_by (T:Txt P w K mg a) : FnOk P w K mg base CX0 2 a.f_l_word_by a.fd_l_word_by ["cell"] sp_l_word_by:=by
 have g_l_draw:=ok_l_draw (P:=P) (w:=w) (base:=base) T
 have d_l_draw:=T.d_l_draw
 have z_range:=T.z_range
 refine T.d_l_word_by.fn.ok sc_l_word_by (fun vs H Q E h=>?_) (fun cdv A outer s H vs Q E hr h=>?_)
 ·obtain ⟨c,rfl,_⟩:=h
  rfl
 obtain ⟨c,rfl,q⟩:=h
 have hu:=Nat.lt_of_succ_lt (hu_of hr)
 refine ⟨_,(pss_cons (ps_set (i:=1) sc_l_word_by.nd rfl (Or.inr rfl) pe_str)
   (pss_one (ps_ret (pe_bm PySem.F.plainAttrs_str PySem.F.slot_str_join PySem.F.type_str_join mt_join pe_str (pa_cons (pe_lc rfl (lcok (caps:=["cell","some"]) (js:=[0,1]) (cap:=⟨⟨rfl,.inl rfl,rfl,.inl rfl⟩,⟨⟨rfl,.inl rfl,rfl,.inl rfl⟩,trivial⟩⟩)) (pi_range1 rfl z_range (pa_cons (pe_op op_add pe_int (pe_callD d_l_draw g_l_draw (hr.mono (by decide)) rfl (pa_cons (pv 0) (pa_cons pe_int (pa_cons pe_int pa_nil))))) pa_nil)) (fun _ _ _ _=>pts_nil) (fun _ _ _ _=>(pe_ix ix_str (pv 2) (pe_callD d_l_draw g_l_draw (hr.mono (by decide)) rfl (pa_cons (pv 1) (pa_cons (pe_op op_add pe_int (pv 0)) (pa_cons pe_int pa_nil)))) (fun _ _=>rfl)))) pa_nil))))),?_⟩
 generalize hS:(PySem.Str.ofString "!\"#&'()*+,-./0123456789:;<=>?@ABCDEFGHIJKLMNOPQRSTUVWXYZ\\^_`abcdefghijklmnopqrstuvwxyz{}~")=S
 have hat:∀ k:Nat,k < 89→atI S.cps.toList (k:Int)=some (alW.getD k 0):=hS ▸ at_alW
 have hSl:S.length≤sizeLine:=hS ▸ small (by decide +kernel)
 obtain ⟨n9,e9,h9⟩:=draw_nat c 5 (show 0 < 4 by decide)
 have e9:draw c 5 4=(n9:Int):=e9
 refine ⟨rfl,_,rfl,c,5,4,rfl,⟨by decide,by decide⟩,by decide,?_⟩
 rw [e9]
 refine ⟨_,_,rfl,rfl,_,rfl,by omega,by omega,lc_range (fun i ys G=>G=H∧∃ bs:List Nat,bs.length=i∧ys=(bs.map fun d=>tx [d]).map V.str) ⟨rfl,[],rfl,rfl⟩ ?_ ?_ ?_⟩
 ·rintro i ys G hi ⟨_,bs,hl,rfl⟩
  rw [List.length_map,List.length_map,hl]
  exact small1000 (by omega)
 ·rintro i ys G hi ⟨eG,bs,hl,rfl⟩
  rw [eG]
  have hi2:i < 5:=by omega
  refine yes_go ?_
  obtain ⟨d,e,hd⟩:=draw_nat c (10+(0+(i:Int))) (show 0 < 89 by decide)
  have e:draw c (10+(0+(i:Int))) 89=(d:Int):=e
  refine ⟨_,rfl,_,rfl,_,rfl,_,_,rfl,rfl,c,_,89,rfl,⟨by omega,by omega⟩,by decide,_,_,alW.getD d 0,rfl,rfl,hSl,by rw [e]; exact hat d hd,rfl,bs++[alW.getD d 0],by simp [hl],by simp⟩
 rintro ys G ⟨eG,bs,hbl,rfl⟩ p hp
 rw [eG] at hp ⊢
 refine ⟨_,_,_,rfl,rfl,SqL.of upd_same,by decide,by simp only [sum_one,List.length_map]; omega,?_⟩
 rw [ej1]
 exact q _ _ (same_new hp _) (by omega)
theorem tcl_push {g:Gf} {r:List Gf} {vs:List V} (x:DD) : tcl ({ g with vs:=vs,xs:=g.xs++[x] } :: r)=tcl (g :: r)+x.calls:=by
 have e:callsL (g.xs++[x])=callsL g.xs+x.calls:=by rw [calls_app,calls_one]
 cases r with
 | nil=>show callsL (g.xs++[x])+callsL (g.ds.map DD.lst)=callsL g.xs+callsL (g.ds.map DD.lst)+_; omega
 | cons k r=>show callsL (g.xs++[x])+callsL (g.ds.map DD.lst)+1+tcl (k :: r)=callsL g.xs+callsL (g.ds.map DD.lst)+1+tcl (k :: r)+_; omega

def sp_l_nodes (K:PySem.W.Frag) : Sp:=fun vs H Q _=>∃ (ca ma:Addr) (ns:List Int) (M:List (Wd0 × Nat)) (c:Nat),vs=[.ref ca,.ref ma,.int (c:Int)]∧SqL K H ca (ns.map V.int)∧ns.length≤63∧MnAt K H ma M∧MOk M∧c≤9 ∧
  ∀ p H' xs,Same H H'→H p=none→(∃ vs,H' p=some (.lst vs)∧Reps K (erG H H' []) xs vs)→xs.length≤70→(∀ x ∈ xs,Nd M c 12 x)→callsL xs≤63→Q (.ref p) H'
theorem sc_l_nodes:FnScope ["cells","shorts","count","frames","cell","way","short"] ["cells","shorts","count"] (defScope s_l_nodes):=⟨rfl,rfl,rfl,by decide +kernel,rfl,by decide +kernel,by decide +kernel⟩
theorem ok_l_nodes (T:Txt P w K mg a) : FnOk P w K mg base CX0 3 a.f_l_nodes a.fd_l_nodes ["cells","shorts","count"] (sp_l_nodes K):=by
 have g_l_draw:=ok_l_draw (P:=P) (w:=w) (base:=base) T
 have d_l_draw:=T.d_l_draw
 have g_l_end_argument:=ok_l_end_argument (P:=P) (w:=w) (base:=base) T
 have d_l_end_argument:=T.d_l_end_argument
 have g_l_word_by:=ok_l_word_by (P:=P) (w:=w) (base:=base) T
 have d_l_word_by:=T.d_l_word_by
 have z_len:=T.z_len
 refine T.d_l_nodes.fn.ok sc_l_nodes (fun vs H Q E h=>?_) (fun cdv A outer s H vs Q E hr h=>?_)
 ·obtain ⟨ca,ma,ns,M,c,rfl,_⟩:=h
  rfl
 obtain ⟨ca,ma,ns,M,c,rfl,hC,h63,hM,mok,hc,q⟩:=h
 have hu:=Nat.lt_of_succ_lt (hu_of hr)
 refine ⟨_,(pss_cons (ps_set (i:=3) sc_l_nodes.nd rfl (Or.inl rfl) (pe_lst (pa_cons (pe_tup (pa_cons pe_str (pa_cons (pe_lst pa_nil) (pa_cons (pe_lst pa_nil) (pa_cons pe_int pa_nil))))) pa_nil)))
   (pss_cons (ps_for PassesOwn.never rfl (pi_list (pv 0)) (pg_name (i:=4) sc_l_nodes.nd rfl (Or.inl rfl)) (pss_cons (ps_set (i:=5) sc_l_nodes.nd rfl (Or.inl rfl) (pe_callD d_l_draw g_l_draw (hr.mono (by decide)) rfl (pa_cons (pv 4) (pa_cons pe_int (pa_cons pe_int pa_nil)))))
   (pss_one (ps_if (PW.pt (pw_and (pt_cmpR op_lt (pv 5) pe_int (nomark _)) (pw_and (pt_cmpR (op_neNil hu) (pv 1) (pe_lst pa_nil) (nomark _)) (pw_and1 (pt_cmpR op_lt (pe_callB call_len_seq rfl z_len PySem.boot_len (pa_cons (pv 3) pa_nil)) pe_int (nomark _)))))) (pss_cons (ps_set (i:=6) sc_l_nodes.nd rfl (Or.inl rfl) (pe_ix ix_list (pv 1) (pe_callD d_l_draw g_l_draw (hr.mono (by decide)) rfl (pa_cons (pv 4) (pa_cons pe_int (pa_cons (pe_callB call_len_seq rfl z_len PySem.boot_len (pa_cons (pv 1) pa_nil)) pa_nil)))) (fun _ _=>rfl)))
   (pss_one (ps_if (pt_cmpR op_eq (pe_ix ix_tup (pv 6) pe_int (fun _ _=>rfl)) pe_int (nomark _)) (pss_one (ps_expr (pe_bm PySem.F.plainAttrs_list PySem.F.slot_list_append PySem.F.type_list_append mt_append (pe_ix ix_tup (pe_ix ix_list (pv 3) (pe_un un_neg pe_int) (fun _ _=>rfl)) pe_int (fun _ _=>rfl)) (pa_cons (pe_tup (pa_cons pe_str (pa_cons (pe_ix ix_tup (pv 6) pe_int (fun _ _=>rfl)) (pa_cons (pe_lst pa_nil) pa_nil)))) pa_nil)))) (pss_one (ps_expr (pe_bm PySem.F.plainAttrs_list PySem.F.slot_list_append PySem.F.type_list_append mt_append (pv 3) (pa_cons (pe_tup (pa_cons (pe_ix ix_tup (pv 6) pe_int (fun _ _=>rfl)) (pa_cons (pe_lst pa_nil) (pa_cons (pe_lst pa_nil) (pa_cons (pe_ix ix_tup (pv 6) pe_int (fun _ _=>rfl)) pa_nil))))) pa_nil))))))) (pss_one (ps_if (PW.pt (pw_and (pt_cmpR op_eq (pv 5) pe_int (nomark _)) (pw_and1 (pt_cmpR op_gt (pe_callB call_len_seq rfl z_len PySem.boot_len (pa_cons (pv 3) pa_nil)) pe_int (nomark _))))) (pss_one (ps_expr (pe_callD d_l_end_argument g_l_end_argument (hr.mono (by decide)) rfl (pa_cons (pv 3) pa_nil)))) (pss_one (ps_if (PW.pt (pw_and (pt_cmpR op_lt (pv 5) pe_int (nomark _)) (pw_and1 (pt_cmpR op_gt (pv 2) pe_int (nomark _))))) (pss_one (ps_expr (pe_bm PySem.F.plainAttrs_list PySem.F.slot_list_append PySem.F.type_list_append mt_append (pe_ix ix_tup (pe_ix ix_list (pv 3) (pe_un un_neg pe_int) (fun _ _=>rfl)) pe_int (fun _ _=>rfl)) (pa_cons (pe_tup (pa_cons pe_str (pa_cons (pe_op op_add pe_int (pe_callD d_l_draw g_l_draw (hr.mono (by decide)) rfl (pa_cons (pv 4) (pa_cons pe_int (pa_cons (pv 2) pa_nil))))) pa_nil))) pa_nil)))) (pss_one (ps_expr (pe_bm PySem.F.plainAttrs_list PySem.F.slot_list_append PySem.F.type_list_append mt_append (pe_ix ix_tup (pe_ix ix_list (pv 3) (pe_un un_neg pe_int) (fun _ _=>rfl)) pe_int (fun _ _=>rfl)) (pa_cons (pe_tup (pa_cons pe_str (pa_cons (pe_callD d_l_word_by g_l_word_by (hr.mono (by decide)) rfl (pa_cons (pv 4) pa_nil)) pa_nil))) pa_nil))))))))))))
   (pss_cons (ps_while PassesOwn.never (pt_cmpR op_gt (pe_callB call_len_seq rfl z_len PySem.boot_len (pa_cons (pv 3) pa_nil)) pe_int (nomark _)) (pss_one (ps_expr (pe_callD d_l_end_argument g_l_end_argument (hr.mono (by decide)) rfl (pa_cons (pv 3) pa_nil)))))
   (pss_one (ps_ret (pe_ix ix_tup (pe_ix ix_list (pv 3) pe_int (fun _ _=>rfl)) pe_int (fun _ _=>rfl))))))),?_⟩
 obtain ⟨ms,sma,mlen,hms⟩:=hM
 refine ⟨small (by simp),fun D hD=>?_⟩
 have g2:=same_new hD (.lst [])
 have k2:upd H D (.lst []) D=some (.lst []):=upd_same
 generalize upd H D (.lst [])=G2 at g2 k2 ⊢
 refine ⟨small (by simp),fun N hN=>?_⟩
 have g3:=same_new hN (.lst [])
 have k3:upd G2 N (.lst []) N=some (.lst []):=upd_same
 generalize upd G2 N (.lst [])=G3 at g3 k3 ⊢
 refine ⟨le4,fun t ht=>?_⟩
 rw [cNil]
 have g4:=same_new ht (.tup [V.str (tx []),V.ref D,V.ref N,V.int 0])
 have k4:upd G3 t (.tup [V.str (tx []),V.ref D,V.ref N,V.int 0]) t=some (.tup [V.str (tx []),V.ref D,V.ref N,V.int 0]):=upd_same
 generalize upd G3 t (.tup [V.str (tx []),V.ref D,V.ref N,V.int 0])=G4 at g4 k4 ⊢
 refine ⟨le1,fun pf hpf=>?_⟩
 have g5:=same_new hpf (.lst [V.ref t])
 have k5:upd G4 pf (.lst [V.ref t]) pf=some (.lst [V.ref t]):=upd_same
 generalize upd G4 pf (.lst [V.ref t])=G5 at g5 k5 ⊢
 have t13:=g2.trans g3
 have t14:=t13.trans g4
 have t15:=t14.trans g5
 have n4:=g4 _ _ k3
 have d4:=(g3.trans g4) _ _ k2
 have S0:FrS K H G5 pf [⟨t,D,N,[],0,[],[],[],[]⟩]:=FrS.zero t15 (t14.free hpf) (g2.free hN) (t13.free ht) hD (Ne.symm (ne_of_none n4 hpf)) k5 (g5 _ _ n4) (g5 _ _ k4) (g5 _ _ d4) (ne_of_none d4 hpf) (ne_of_none k2 hN)
 refine ⟨_,rfl,ca,rfl,⟨_,t15.seq hC⟩,for_list (K:=K) (a:=ca) (xs:=ns.map V.int) (fun k σ G=>∃ (v4 v5 v6:Option V) (gs:List Gf),σ=[some (.ref ca),some (.ref ma),some (.int (c:Int)),some (.ref pf),v4,v5,v6]∧FrS K H G pf gs∧gs≠[]∧gs.length≤12∧GfOk M c (k+1) gs∧tcl gs≤k) ⟨none,none,none,_,rfl,S0,by simp,by simp,⟨by simp,fun x hx=>(by cases hx),fun z=>absurd rfl z,trivial⟩,(by show callsL []+callsL []≤0; rw [callsL]; exact Nat.le_refl _)⟩ (fun k σ G _ z=>by obtain ⟨_,_,_,_,_,S,_⟩:=z; exact S.same.seq hC) ?_ ?_⟩
 ·rintro k y σ G hy ⟨v4,v5,v6,gs,rfl,S,hg,gl,ok,tok⟩
  have hk63:k < 63:=by have:=(List.getElem?_eq_some_iff.mp hy).1; rw [List.length_map] at this; omega
  obtain ⟨z,rfl,_⟩:=get_int hy
  obtain ⟨g,r,rfl⟩ : ∃ g r,gs=g :: r:=by cases gs with | nil=>exact absurd rfl hg | cons g r=>exact ⟨g,r,rfl⟩
  have elen:((g :: r).map fun g=>V.ref g.t).reverse.length=r.length+1:=by simp
  have rl11:r.length≤11:=by simpa using gl
  have e12:12 - r.length=(11 - r.length)+1:=by omega
  have hlast:((g :: r).map fun g=>V.ref g.t).reverse=(r.map fun g=>V.ref g.t).reverse++[V.ref g.t]:=by rw [List.map_cons,List.reverse_cons]
  have ok':=ok
  obtain ⟨o1,o2,o3,o4⟩:=ok'
  have gvl:=fun (G:Hp) (S:FrS K H G pf (g :: r))=>(S.fr g List.mem_cons_self).nr.len
  refine ⟨_,rfl,z,1,9,rfl,⟨by decide,by decide⟩,by decide,?_⟩
  dsimp only [gName]
  refine ⟨_,rfl,_,_,rfl,rfl,_,rfl,?_⟩
  refine andH (fun G'=>FrS K H G' pf (g :: r)) S (fun G S=>?_) (fun key=>?_)
  rotate_left
  ·refine ⟨_,rfl,small (by simp),fun p5 hp5=>?_⟩
   have S5:=S.ext (same_new hp5 (.lst []))
   have k5':upd G p5 (.lst []) p5=some (.lst []):=upd_same
   generalize upd G p5 (.lst [])=G5 at S5 k5' ⊢
   refine ⟨_,_,ms,rfl,rfl,S5.same.seq sma,SqL.of k5',_,rfl,?_⟩
   by_cases em:ms=[]
   ·rw [em]
    exact iteF (iteF (key _ S5))
   rw [show ms.isEmpty=false by cases ms with | nil=>exact absurd rfl em | cons a b=>rfl]
   refine iteT ?_
   have mpos:0 < ms.length:=List.length_pos_iff.mpr em
   refine ⟨_,rfl,pf,_,rfl,.inl (SqL.of S5.top),_,_,rfl,rfl,_,rfl,?_⟩
   refine ite2 (fun c0=>?_) (fun _=>key _ S5)
   have c0:=of_decide_eq_true c0
   rw [elen] at c0
   obtain ⟨mi,emi,hmi⟩:=draw_nat z 2 mpos
   obtain ⟨av,en,em2,rest,ev,stm,eM⟩:=hms mi ms[mi] (List.getElem?_eq_getElem hmi)
   have mo:=mok.2 _ (List.mem_of_getElem? eM)
   refine ⟨_,rfl,_,rfl,_,rfl,_,_,rfl,.inl (S5.same.seq sma),z,2,(ms.length:Int),rfl,⟨by decide,by decide⟩,by omega,_,_,_,_,rfl,rfl,S5.same.seq sma,by rw [emi]; exact atI_nat (by rw [List.getElem?_eq_getElem hmi,ev]),?_⟩
   dsimp only [gName]
   have stm5:=S5.same.tup stm
   refine ⟨_,rfl,_,_,_,_,rfl,rfl,stm5,atI_nat (j:=1) rfl,rfl,_,rfl,?_⟩
   refine ite2 (fun c1=>?_) (fun c1=>?_)
   ·have c1:=V.int.inj (of_decide_eq_true c1)
    have hm0:em2=0:=by omega
    subst hm0
    have qg:=S5.fr g List.mem_cons_self
    have tg:=(erG_of qg.tup).2
    have gv:=gvl _ S5
    refine ⟨_,rfl,_,rfl,pf,_,_,V.ref g.t,rfl,rfl,SqL.of S5.top,by rw [hlast]; exact atI_last _ _,g.t,_,_,V.ref g.N,rfl,rfl,SqT.of tg,rfl,.inl ⟨rfl,_,SqL.of qg.hN⟩,_,rfl,_,_,_,_,rfl,rfl,stm5,atI_nat (j:=0) rfl,small (by simp),fun p6 hp6=>?_⟩
    have n6:=hp6
    have g6:=same_new hp6 (.lst [])
    have k6:upd G5 p6 (.lst []) p6=some (.lst []):=upd_same
    generalize upd G5 p6 (.lst [])=G1 at g6 k6 ⊢
    have S1:=S5.ext g6
    have k6e:=S5.get n6 k6
    refine ⟨le3,fun p hp=>?_⟩
    have g4:=same_new hp (.tup [V.str (PySem.Str.ofString "call"),V.str (tx en),V.ref p6])
    have k4:upd G1 p (.tup [V.str (PySem.Str.ofString "call"),V.str (tx en),V.ref p6]) p=some (.tup [V.str (PySem.Str.ofString "call"),V.str (tx en),V.ref p6]):=upd_same
    have np:=hp
    generalize upd G1 p (.tup [V.str (PySem.Str.ofString "call"),V.str (tx en),V.ref p6])=G4 at g4 k4 ⊢
    have S4:=S1.ext g4
    have u4:=S1.up g4
    refine ⟨_,_,_,rfl,rfl,(S4.fr g List.mem_cons_self).hN,small1000 (by omega),?_⟩
    refine ⟨_,_,_,_,rfl,S4.push (x:=clD en []) (rep_tup (SqT.of (S1.get np k4)) (by simp) (Reps.cons (rep_str _) (Reps.cons (rep_str _) (Reps.cons (rep_lst (SqL.of (u4 _ _ k6e)) (by simp) Reps.nil) Reps.nil)))),by simp,by simpa using gl,⟨by simp only [List.length_append,List.length_singleton]; omega,fun x hx=>?_,o3,GfOk.up (by omega) o4⟩,(by have:=tcl_push (g:=g) (r:=r) (vs:=g.vs++[V.ref p]) (clD en []); rw [calls_cl,show callsL ([].map DD.lst)=0 by show callsL []=0; rw [callsL]] at this; omega)⟩
    rcases List.mem_append.mp hx with hx | hx
    ·exact o2 x hx
    ·rw [List.mem_singleton.mp hx,e12]
     exact .inr (.inr ⟨en,[],rfl,List.mem_of_getElem? eM,fun a ha=>(by cases ha)⟩)
   ·have c1:¬ (em2:Int)=0:=fun z=>c1 (decide_eq_true (by rw [z]))
    refine ⟨_,rfl,.inl ⟨rfl,_,SqL.of S5.top⟩,_,rfl,_,_,_,_,rfl,rfl,stm5,atI_nat (j:=0) rfl,small (by simp),fun D' hD'=>?_⟩
    have nD:=hD'
    have g6:=same_new hD' (.lst [])
    have k6:upd G5 D' (.lst []) D' = some (.lst []):=upd_same
    generalize upd G5 D' (.lst [])=G6 at g6 k6 ⊢
    have S6:=S5.ext g6
    have k6e:=S5.get nD k6
    refine ⟨small (by simp),fun N' hN'=>?_⟩
    have g7:=same_new hN' (.lst [])
    have k7:upd G6 N' (.lst []) N' = some (.lst []):=upd_same
    generalize upd G6 N' (.lst [])=G7 at g7 k7 ⊢
    have s57:=S5.same.trans (g6.trans g7)
    refine ⟨_,rfl,_,_,_,_,rfl,rfl,s57.tup stm,atI_nat (j:=1) rfl,le4,fun t' ht'=>?_⟩
    have g8:=same_new ht' (.tup [V.str (tx en),V.ref D',V.ref N',V.int (em2:Int)])
    have k8:upd G7 t' (.tup [V.str (tx en),V.ref D',V.ref N',V.int (em2:Int)]) t' = some (.tup [V.str (tx en),V.ref D',V.ref N',V.int (em2:Int)]):=upd_same
    have tN:t'≠N':=Ne.symm (ne_of_none k7 ht')
    generalize upd G7 t' (.tup [V.str (tx en),V.ref D',V.ref N',V.int (em2:Int)])=G8 at g8 k8 ⊢
    have s68:=g7.trans g8
    refine ⟨pf,_,_,rfl,rfl,s68 _ _ S6.top,small1000 (by rw [elen]; omega),?_⟩
    have nPN:N'≠pf:=Ne.symm (ne_of_none S6.top hN')
    have nPt:t'≠pf:=Ne.symm (ne_of_none (g7 _ _ S6.top) ht')
    have fpf:=S.fresh pf List.mem_cons_self
    refine ⟨_,_,_,_,rfl,S6.open (ds:=[]) (Dv:=[]) (fun b o hb=>by rw [upd_ne (ne_of_none hb fpf)]; exact s68 _ _ (S6.same b o hb)) (fun b o nb hb=>by rw [upd_ne nb]; exact s68 _ _ hb) k6e Reps.nil hN' (g7.free ht') (S6.same.free hN') tN (by rw [upd_ne nPt]; exact k8) (by rw [upd_ne nPN]; exact g8 _ _ k7) upd_same,by simp,by simp; omega,⟨by simp,fun x hx=>(by cases hx),fun _=>⟨?_,List.mem_of_getElem? eM,fun a ha=>(by cases ha)⟩,ok⟩,(by show callsL []+callsL []+1+tcl (g :: r)≤k+1; rw [show callsL []=0 by rw [callsL]]; omega)⟩
    show 0 < em2
    omega
  refine ⟨_,rfl,rfl,_,rfl,?_⟩
  refine andH (fun G'=>FrS K H G' pf (g :: r)) S (fun G S=>?_) (fun key=>?_)
  rotate_left
  ·refine ⟨_,rfl,pf,_,rfl,.inl (SqL.of S.top),_,_,rfl,rfl,_,rfl,?_⟩
   refine ite2 (fun c0=>?_) (fun _=>key _ S)
   have c0:=of_decide_eq_true c0
   rw [elen] at c0
   cases r with
   | nil=>simp at c0
   | cons h r =>
    refine ⟨_,rfl,H,pf,g,h,r,M,c,k+1,rfl,S,ok,by simp at rl11; omega,mok,by omega,fun G' gs' S' n' ok' l' _ tl'=>?_⟩
    exact ⟨_,_,_,gs',rfl,S',n',by simp at rl11; omega,GfOk.up (by omega) ok',by omega⟩
  refine ⟨_,rfl,_,_,rfl,rfl,_,rfl,?_⟩
  refine andH (fun G'=>FrS K H G' pf (g :: r)) S (fun G S=>?_) (fun key=>?_)
  rotate_left
  ·refine ⟨_,rfl,_,_,rfl,rfl,_,rfl,?_⟩
   refine ite2 (fun c0=>?_) (fun _=>key _ S)
   have c0:(0:Int) < (c:Int):=of_decide_eq_true c0
   obtain ⟨pk,epk,hpk⟩:=draw_nat z 3 (show 0 < c by omega)
   have qg:=S.fr g List.mem_cons_self
   have tg:=(erG_of qg.tup).2
   have gv:=gvl _ S
   have e1:1+draw z 3 (c:Int)=((1+pk:Nat) : Int):=by rw [epk]; omega
   refine ⟨_,rfl,_,rfl,pf,_,_,V.ref g.t,rfl,rfl,SqL.of S.top,by rw [hlast]; exact atI_last _ _,g.t,_,_,V.ref g.N,rfl,rfl,SqT.of tg,rfl,.inl ⟨rfl,_,SqL.of qg.hN⟩,_,rfl,_,rfl,z,3,(c:Int),rfl,⟨by decide,by decide⟩,by omega,_,_,rfl,rfl,le2,fun p hp=>?_⟩
   have g4:=same_new hp (.tup [V.str (PySem.Str.ofString "place"),V.int (1+draw z 3 (c:Int))])
   have k4:upd G p (.tup [V.str (PySem.Str.ofString "place"),V.int (1+draw z 3 (c:Int))]) p=some (.tup [V.str (PySem.Str.ofString "place"),V.int (1+draw z 3 (c:Int))]):=upd_same
   have np:=hp
   generalize upd G p (.tup [V.str (PySem.Str.ofString "place"),V.int (1+draw z 3 (c:Int))])=G4 at g4 k4 ⊢
   have S4:=S.ext g4
   have u4:=S.up g4
   refine ⟨_,_,_,rfl,rfl,(S4.fr g List.mem_cons_self).hN,small1000 (by omega),?_⟩
   refine ⟨_,_,_,_,rfl,S4.push (x:=plD (1+pk)) (rep_tup (SqT.of (S.get np k4)) (by simp) (by rw [← e1]; exact Reps.cons (rep_str _) (Reps.cons (rep_int _) Reps.nil))),by simp,by simpa using gl,⟨by simp only [List.length_append,List.length_singleton]; omega,fun x hx=>?_,o3,GfOk.up (by omega) o4⟩,(by have:=tcl_push (g:=g) (r:=r) (vs:=g.vs++[V.ref p]) (plD (1+pk)); rw [calls_pl] at this; omega)⟩
   rcases List.mem_append.mp hx with hx | hx
   ·exact o2 x hx
   ·rw [List.mem_singleton.mp hx,e12]
    exact .inr (.inl ⟨1+pk,by omega,by omega,rfl⟩)
  have qg:=S.fr g List.mem_cons_self
  have tg:=(erG_of qg.tup).2
  have gv:=gvl _ S
  refine ⟨_,rfl,_,rfl,pf,_,_,V.ref g.t,rfl,rfl,SqL.of S.top,by rw [hlast]; exact atI_last _ _,g.t,_,_,V.ref g.N,rfl,rfl,SqT.of tg,rfl,.inl ⟨rfl,_,SqL.of qg.hN⟩,_,rfl,z,rfl,fun w G1 s1 w4=>⟨le2,fun p hp=>?_⟩⟩
  have S1:=S.ext s1
  have g4:=same_new hp (.tup [V.str (PySem.Str.ofString "word"),V.str (tx w)])
  have k4:upd G1 p (.tup [V.str (PySem.Str.ofString "word"),V.str (tx w)]) p=some (.tup [V.str (PySem.Str.ofString "word"),V.str (tx w)]):=upd_same
  have np:=hp
  generalize upd G1 p (.tup [V.str (PySem.Str.ofString "word"),V.str (tx w)])=G4 at g4 k4 ⊢
  have S4:=S1.ext g4
  have u4:=S1.up g4
  refine ⟨_,_,_,rfl,rfl,(S4.fr g List.mem_cons_self).hN,small1000 (by omega),?_⟩
  refine ⟨_,_,_,_,rfl,S4.push (x:=wdD w) (rep_tup (SqT.of (S1.get np k4)) (by simp) (Reps.cons (rep_str _) (Reps.cons (rep_str _) Reps.nil))),by simp,by simpa using gl,⟨by simp only [List.length_append,List.length_singleton]; omega,fun x hx=>?_,o3,GfOk.up (by omega) o4⟩,(by have:=tcl_push (g:=g) (r:=r) (vs:=g.vs++[V.ref p]) (wdD w); rw [calls_wd] at this; omega)⟩
  rcases List.mem_append.mp hx with hx | hx
  ·exact o2 x hx
  ·rw [List.mem_singleton.mp hx,e12]
   exact .inl ⟨w,rfl⟩
 ·rintro σ G ⟨v4,v5,v6,gs,rfl,S,hg,gl,ok,tok⟩
  rw [List.length_map] at ok tok
  refine ⟨fun n σ G=>∃ (v4 v5 v6:Option V) (gs:List Gf),σ=[some (.ref ca),some (.ref ma),some (.int (c:Int)),some (.ref pf),v4,v5,v6]∧FrS K H G pf gs∧gs≠[]∧gs.length≤12∧GfOk M c (ns.length+1) gs∧toGo gs=n∧tcl gs≤ns.length,⟨toGo gs,v4,v5,v6,gs,rfl,S,hg,gl,ok,rfl,tok⟩,?_⟩
  rintro n σ G ⟨v4,v5,v6,gs,rfl,S,hg,gl,ok,hn,tok⟩
  have elen:(gs.map fun g=>V.ref g.t).reverse.length=gs.length:=by simp
  refine ⟨_,rfl,pf,_,rfl,.inl (SqL.of S.top),_,_,rfl,rfl,_,rfl,?_⟩
  refine ite2 (fun c0=>?_) (fun c0=>?_)
  ·have c0:=of_decide_eq_true c0
   rw [elen] at c0
   refine ⟨fun σ' G'=>∃ m,m < n∧∃ (v4 v5 v6:Option V) (gs:List Gf),σ' = [some (.ref ca),some (.ref ma),some (.int (c:Int)),some (.ref pf),v4,v5,v6]∧FrS K H G' pf gs∧gs≠[]∧gs.length≤12∧GfOk M c (ns.length+1) gs∧toGo gs=m∧tcl gs≤ns.length,fun _ _ h=>h,?_⟩
   match gs,S,gl,ok,hn,c0,tok with
   | [g],_,_,_,_,c0,_=>simp at c0
   | g :: h :: r,S,gl,ok,hn,c0,tok =>
    refine ⟨_,rfl,H,pf,g,h,r,M,c,ns.length+1,rfl,S,ok,by simp at gl; omega,mok,by omega,fun G' gs' S' n' ok' l' tl tl'=>?_⟩
    exact ⟨toGo gs',by omega,v4,v5,v6,gs',rfl,S',n',by simp at gl; omega,ok',rfl,by omega⟩
  ·obtain ⟨g,rfl⟩ : ∃ g,gs=[g]:=by
    have h2:¬ 1 < gs.length:=fun z=>c0 (decide_eq_true (by rw [elen]; omega))
    match gs,hg,h2 with
    | [g],_,_=>exact ⟨g,rfl⟩
    | _ :: _ :: _,_,h2=>exact absurd (by simp) h2
   have qg:=S.fr g List.mem_cons_self
   have tg:=(erG_of qg.tup).2
   obtain ⟨o1,o2,_,_⟩:=ok
   refine ⟨_,rfl,pf,_,_,V.ref g.t,rfl,rfl,SqL.of S.top,rfl,g.t,_,_,V.ref g.N,rfl,rfl,SqT.of tg,rfl,?_⟩
   exact q g.N G g.xs S.same (S.fresh g.N (by unfold opF; simp)) ⟨_,qg.hN,qg.nr.mono erG_nil⟩ (by omega) o2 (by have:callsL g.xs+callsL (g.ds.map DD.lst)≤ns.length:=tok; omega)

theorem sc_words_out:FnScope ["named","nodes","arguments","words","node","given"] ["named","nodes","arguments"] (defScope s_words_out):=⟨rfl,rfl,rfl,by decide +kernel,rfl,by decide +kernel,by decide +kernel⟩
def sp_wo (K:PySem.W.Frag) (n:Nat) : Sp:=fun vs H Q _=>∃ (na:Addr) (xv:V) (ga:Addr) (S:List Sh) (xs:List DD) (A:List (List Str)) (i c d:Nat),vs=[.ref na,xv,.ref ga]∧d+24 * i < n∧d+24 * i≤255∧NmAt K H na S∧ShX S∧Rep K H (.lst xs) xv∧(∀ x ∈ xs,Nd (menuS (S.take i)) c d x)∧A.length=c∧ArgAt H ga A∧(exL id S 256 A xs).length≤400 ∧
  ∀ p H',Same H H'→H p=none→H' p=some (.lst ((exL id S 256 A xs).map V.str))→Q (.ref p) H'
theorem ok_words_out_n (T:Txt P w K mg a) : ∀ n:Nat,FnOk P w K mg base CX0 (n+4) a.f_words_out a.fd_words_out ["named","nodes","arguments"] (sp_wo K n)
 | 0=>⟨fun vs H Q E h=>(by obtain ⟨na,xv,ga,S,xs,A,i,c,d,_,h1,_⟩:=h; omega),fun A outer s H args us vs Q E _ _ _ _ h=>(by obtain ⟨na,xv,ga,S,xs,A,i,c,d,_,h1,_⟩:=h; omega)⟩
 | n+1=>by
  have g_words_out:=ok_words_out_n T n
  have d_words_out:=T.d_words_out

  refine T.d_words_out.fn.ok sc_words_out (fun vs H Q E h=>?_) (fun cdv A outer s H vs Q E hr h=>?_)
  ·obtain ⟨na,xv,ga,S,xs,A,i,c,d,rfl,_⟩:=h
   rfl
  obtain ⟨na,xv,ga,S,xs,A,i,c,d,rfl,hd,hd63,hN,sx0,rx,ndx,hA,hG,tot,q⟩:=h
  have hu:=Nat.lt_of_succ_lt (hu_of hr)
  refine ⟨_,(pss_cons (ps_set (i:=3) sc_words_out.nd rfl (Or.inl rfl) (pe_lst pa_nil))
   (pss_cons (ps_for PassesOwn.never rfl (pi_list (pv 1)) (pg_name (i:=4) sc_words_out.nd rfl (Or.inl rfl)) (pss_one (ps_if (pt_cmpR op_eq (pe_ix ix_tup (pv 4) pe_int (fun _ _=>rfl)) pe_str (nomark _)) (pss_one (ps_expr (pe_bm PySem.F.plainAttrs_list PySem.F.slot_list_append PySem.F.type_list_append mt_append (pv 3) (pa_cons (pe_ix ix_tup (pv 4) pe_int (fun _ _=>rfl)) pa_nil)))) (pss_one (ps_if (pt_cmpR op_eq (pe_ix ix_tup (pv 4) pe_int (fun _ _=>rfl)) pe_str (nomark _)) (pss_one (ps_expr (pe_bm PySem.F.plainAttrs_list PySem.F.slot_list_extend PySem.F.type_list_extend mt_extend (pv 3) (pa_cons (pe_ix ix_list (pv 2) (pe_op op_sub (pe_ix ix_tup (pv 4) pe_int (fun _ _=>rfl)) pe_int) (fun _ _=>rfl)) pa_nil)))) (pss_cons (ps_lc (k:=5) rfl (lcok (caps:=["named","arguments"]) (js:=[0,2]) (cap:=⟨⟨rfl,.inl rfl,rfl,.inl rfl⟩,⟨⟨rfl,.inl rfl,rfl,.inl rfl⟩,trivial⟩⟩)) (pi_list (pe_ix ix_tup (pv 4) pe_int (fun _ _=>rfl))) (fun _ _ _ _=>pts_nil) (fun _ _ _ _=>(pe_callD d_words_out g_words_out hr rfl (pa_cons (pv 1) (pa_cons (pv 0) (pa_cons (pv 2) pa_nil))))) sc_words_out.nd rfl rfl)
   (pss_one (ps_expr (pe_bm PySem.F.plainAttrs_list PySem.F.slot_list_extend PySem.F.type_list_extend mt_extend (pv 3) (pa_cons (pe_callD d_words_out g_words_out hr rfl (pa_cons (pv 0) (pa_cons (pe_ix ix_tup (pe_dget (hu_of hr) (pv 0) (pe_ix ix_tup (pv 4) pe_int (fun _ _=>rfl)) (fun _ _=>rfl)) pe_int (fun _ _=>rfl)) (pa_cons (pv 5) pa_nil)))) pa_nil))))))))))
   (pss_one (ps_ret (pv 3))))),?_⟩
  obtain ⟨xa,vs0,rfl,sx,_,rxs⟩:=rx.lstO
  have xl:=rxs.len
  have kN:=hN
  obtain ⟨kvs,hkv0,hv⟩:=kN
  have kG:=hG
  obtain ⟨bs,hga,bl,hbs⟩:=kG
  have al:∀ k,(exL id S 256 A (xs.take k)).length≤400:=fun k=>Nat.le_trans (exL_take xs k) tot
  refine ⟨small (by simp),fun pw hpw=>?_⟩
  have g1:=same_new hpw (.lst [])
  have k1:upd H pw (.lst []) pw=some (.lst []):=upd_same
  generalize upd H pw (.lst [])=H1 at g1 k1 ⊢
  refine ⟨_,rfl,xa,rfl,⟨_,g1.seq sx⟩,for_list (K:=K) (a:=xa) (xs:=vs0) (fun k σ G=>∃ (v4 v5:Option V),σ=[some (.ref na),some (.ref xa),some (.ref ga),some (.ref pw),v4,v5]∧Same H G∧G pw=some (.lst ((exL id S 256 A (xs.take k)).map V.str))) ⟨none,none,rfl,g1,k1⟩ (fun k σ G _ z=>by obtain ⟨_,_,_,s1,_⟩:=z; exact s1.seq sx) ?_ ?_⟩
  ·rintro k y σ G hy ⟨v4,v5,rfl,s1,kw⟩
   obtain ⟨x0,e0,r0⟩:=rxs.getR hy
   have nd0:=ndx x0 (List.mem_of_getElem? e0)
   have es:=exL_snoc (wd:=id) (S:=S) (n:=256) (A:=A) e0
   have lk0:=al k
   have lk1:=al (k+1)
   rw [es,List.length_append] at lk1
   obtain ⟨e,rfl⟩:=nd0.pos
   rcases nd0.out with ⟨w',rfl⟩ | ⟨pk,hp1,hp2,rfl⟩ | ⟨nm',as,rfl,hM,has⟩
   ·obtain ⟨ta,zs,rfl,st,_,rz⟩:=r0.tupO
    obtain ⟨z0,z1,rfl,y0,y1⟩:=Reps.two rz
    rw [y0.strO,y1.strO] at st
    have st1:=s1.tup st
    refine ⟨_,rfl,_,_,_,_,rfl,rfl,st1,rfl,rfl,_,rfl,?_⟩
    rw [decide_eq_true rfl]
    refine iteT ?_
    refine ⟨_,rfl,.inl ⟨rfl,_,SqL.of kw⟩,_,rfl,_,_,_,_,rfl,rfl,st1,rfl,_,_,_,rfl,rfl,kw,small1000 (by rw [List.length_map]; omega),?_⟩
    refine ⟨_,_,rfl,s1.put hpw,?_⟩
    rw [upd_same,es,List.map_append]
    rfl
   ·obtain ⟨ta,zs,rfl,st,_,rz⟩:=r0.tupO
    obtain ⟨z0,z1,rfl,y0,y1⟩:=Reps.two rz
    rw [y0.strO,y1.intO] at st
    have st1:=s1.tup st
    refine ⟨_,rfl,_,_,_,_,rfl,rfl,st1,rfl,rfl,_,rfl,?_⟩
    rw [decide_eq_false strNe1]
    refine iteF ?_
    refine ⟨_,rfl,_,_,_,_,rfl,rfl,st1,rfl,rfl,_,rfl,?_⟩
    rw [decide_eq_true rfl]
    refine iteT ?_
    have hb:bs[pk - 1]? = some bs[pk - 1]:=List.getElem?_eq_getElem (by omega)
    have hb2:=s1 _ _ (hbs (pk - 1) _ hb)
    rw [ex_pl] at es lk1
    refine ⟨_,rfl,.inl ⟨rfl,_,SqL.of kw⟩,_,rfl,_,rfl,_,_,_,_,rfl,rfl,st1,rfl,_,_,rfl,rfl,_,_,_,_,rfl,rfl,SqL.of (s1 _ _ hga),by rw [show (pk:Int) - 1=((pk - 1:Nat) : Int) by omega]; exact atI_nat (by rw [List.getElem?_map,hb]; rfl),_,_,_,_,rfl,rfl,kw,hb2,small (by rw [List.length_map,List.length_map]; omega),?_⟩
    refine ⟨_,_,rfl,s1.put hpw,?_⟩
    rw [upd_same,es,List.map_append]
   ·obtain ⟨ta,zs,rfl,st,_,rz⟩:=r0.tupO
    obtain ⟨z0,z1,z2,rfl,y0,y1,y2⟩:=Reps.three rz
    rw [y0.strO,y1.strO] at st
    obtain ⟨la,ys,rfl,sl,l1000,rl⟩:=y2.lstO
    rw [List.length_map] at l1000
    have yl:=rl.len
    rw [List.length_map] at yl
    have st1:=s1.tup st
    refine ⟨_,rfl,_,_,_,_,rfl,rfl,st1,rfl,rfl,_,rfl,?_⟩
    rw [decide_eq_false strNe2]
    refine iteF ?_
    refine ⟨_,rfl,_,_,_,_,rfl,rfl,st1,rfl,rfl,_,rfl,?_⟩
    rw [decide_eq_false strNe3]
    refine iteF ?_
    obtain ⟨j,s,hj,ej,hs,en,ec,hF⟩:=call_of sx0.nd hM
    have h4:=sx0.len
    have hj4:=(List.getElem?_eq_some_iff.mp ej).1
    have hacl:=X_cl (wd:=id) (A:=A) sx0 hF ej (fun a ha=>(has a ha).2) (by omega)
    have e5:∀ y ∈ s.ns,En S 256 s.c y:=fun y hy=>(en64 sx0 (sx0.ord j s ej y hy) (by omega)).up (by decide)
    obtain ⟨AA,hAA⟩ : ∃ AA,AA=as.map (exL id S 256 A):=⟨_,rfl⟩
    rw [← hAA] at hacl
    have AAl:AA.length=s.c:=by rw [hAA,List.length_map,ec]
    rw [hacl] at es lk1
    have atot:∀ a ∈ as,(exL id S 256 A a).length≤400:=fun a ha=>by
     have:=arg_le (wd:=id) (n:=256) (g:=exL id S 256 A a) sx0 hs AAl e5 (by rw [hAA]; exact List.mem_map.mpr ⟨a,ha,rfl⟩)
     omega
    refine ⟨_,rfl,_,_,_,_,rfl,rfl,st1,rfl,la,rfl,⟨_,s1.seq sl⟩,lc_list (K:=K) (a:=la) (xs:=ys) (fun m zs G'=>Same G G'∧∃ cs:List Addr,zs=cs.map V.ref∧cs.length=m∧∀ (m':Nat) b,cs[m']? = some b→G' b=some (.lst ((AA.getD m' []).map V.str))) ⟨Same.refl _,[],rfl,rfl,fun m' b eb=>by simp at eb⟩ (fun m zs G' _ z=>(s1.trans z.1).seq sl) ?_ ?_ ?_⟩
    ·rintro m zs G' hm ⟨_,cs,rfl,cl,_⟩
     rw [List.length_map,cl]
     exact small1000 (by omega)
    ·rintro m y zs G' hy ⟨s2,cs,rfl,cl,hcs⟩
     obtain ⟨dj,ejm,rj⟩:=rl.getR hy
     rw [List.getElem?_map] at ejm
     obtain ⟨aj,eaj,rfl⟩:=Option.map_eq_some_iff.mp ejm
     clear ejm
     have s12:=s1.trans s2
     have eAA:AA.getD m []=exL id S 256 A aj:=by rw [hAA,List.getD_eq_getElem?_getD,List.getElem?_map,eaj]; rfl
     refine yes_go ?_
     refine ⟨_,rfl,_,rfl,_,rfl,na,y,ga,S,aj,A,i,c,e,rfl,by omega,by omega,hN.mono s12,sx0,rj.mono s12,(has aj (List.mem_of_getElem? eaj)).2,hA,hG.mono s12,atot aj (List.mem_of_getElem? eaj),fun p G5 s5 fp kp=>⟨s2.trans s5,cs++[p],by simp,by simp [cl],fun m' b eb=>?_⟩⟩
     by_cases hm':m' < cs.length
     ·rw [List.getElem?_append_left hm'] at eb
      exact s5 _ _ (hcs m' b eb)
     ·rw [List.getElem?_append_right (by omega)] at eb
      have h0:m' - cs.length=0:=by
       have:=(List.getElem?_eq_some_iff.mp eb).1
       simp at this
       omega
      rw [h0] at eb
      have eb:p=b:=by simpa using eb
      rw [← eb,show m' = m by omega,eAA]
      exact kp
    rintro zs G' ⟨s2,cs,rfl,cl,hcs⟩ pg hpg
    rw [yl] at cl
    have g3:=same_new hpg (.lst (cs.map V.ref))
    have k3:upd G' pg (.lst (cs.map V.ref)) pg=some (.lst (cs.map V.ref)):=upd_same
    generalize upd G' pg (.lst (cs.map V.ref))=G3 at g3 k3 ⊢
    have s13:=s1.trans (s2.trans g3)
    have ag:ArgAt G3 pg AA:=⟨cs,k3,by rw [cl,AAl,ec],fun m' b eb=>g3 _ _ (hcs m' b eb)⟩
    obtain ⟨v,hv1,hv2⟩:=(hv (tx nm')).2 s hF
    obtain ⟨tv,us,rfl,stv,_,ru⟩:=hv2.tupO
    obtain ⟨x2,hu2,rn⟩:=ru.get (i:=2) (d:=.lst s.ns) rfl
    have kw3:=(s2.trans g3) _ _ kw
    dsimp only [gName]
    refine ⟨_,rfl,.inl ⟨rfl,_,SqL.of kw3⟩,_,rfl,_,rfl,_,rfl,_,_,_,_,rfl,rfl,s13.tup st,rfl,na,_,rfl,.inl ⟨kvs,.inr (tx nm'),.inl (s13 _ _ hkv0),rfl,hv1.symm⟩,_,_,_,_,rfl,rfl,s13.tup stv,atI_nat hu2,_,rfl,na,x2,pg,S,s.ns,AA,j,s.c,24,rfl,by omega,by omega,hN.mono s13,sx0,rn.mono s13,sx0.ord j s ej,AAl,ag,by omega,fun p G5 s5 fp kp=>?_⟩
    have kw5:=s5 _ _ kw3
    refine ⟨_,_,_,_,rfl,rfl,kw5,kp,small (by rw [List.length_map,List.length_map]; omega),?_⟩
    refine ⟨_,_,rfl,(s13.trans s5).put hpw,?_⟩
    rw [upd_same,es,List.map_append]
  ·rintro σ G ⟨v4,v5,rfl,s1,kw⟩
   rw [xl,List.take_of_length_le (Nat.le_refl _)] at kw
   exact ⟨_,rfl,q pw G s1 hpw kw⟩
theorem ok_words_out (T:Txt P w K mg a) : FnOk P w K mg base CX0 150 a.f_words_out a.fd_words_out ["named","nodes","arguments"] (sp_wo K (150 - 4)):=ok_words_out_n T (150 - 4)
def sp_put_out (K:PySem.W.Frag) (CN CB CT:Addr) : Sp:=fun vs H Q E=>∃ (sv xv:V) (d:Nat) (S:List Sh) (xs:List DD) (M:List (Wd0 × Nat)),vs=[sv,xv]∧d≤40∧Rep K H (.lst (S.map shD)) sv∧ShW S∧MOk M∧Rep K H (.lst xs) xv∧(∀ x ∈ xs,Nd M 0 d x)∧(rfN S d xs=1→∀ H',Same H H'→E (.ref CN) none H')∧(rfN S d xs=2→∀ H',Same H H'→E (.ref CB) none H')∧(rfN S d xs=3→∀ H',Same H H'→E (.ref CT) none H') ∧
  (rfN S d xs=0→∀ p H',Same H H'→H p=none→H' p=some (.lst ((exL id S 256 [] xs).map V.str))→Q (.ref p) H')
theorem sc_put_out:FnScope ["shorts","nodes","named","size"] ["shorts","nodes"] (defScope s_put_out):=⟨rfl,rfl,rfl,by decide +kernel,rfl,by decide +kernel,by decide +kernel⟩
theorem ok_put_out (T:Txt P w K mg a) : FnOk P w K mg base (CXe P w) 151 a.f_put_out a.fd_put_out ["shorts","nodes"] (sp_put_out K a.c_NoShort a.c_BadCall a.c_TooLong):=by
 have g_by_name:=ok_by_name (P:=P) (w:=w) (base:=base) T
 have d_by_name:=T.d_by_name
 have g_size_among:=ok_size_among (P:=P) (w:=w) (base:=base) T
 have d_size_among:=T.d_size_among
 have g_words_out:=ok_words_out (P:=P) (w:=w) (base:=base) T
 have d_words_out:=T.d_words_out
 have x_TooLong:=T.x_TooLong
 have m_MOST_CALLS:=T.m_MOST_CALLS
 have m_MOST_WORDS:=T.m_MOST_WORDS
 obtain ⟨t_MOST_CALLS,m_MOST_CALLS⟩:=m_MOST_CALLS
 obtain ⟨t_MOST_WORDS,m_MOST_WORDS⟩:=m_MOST_WORDS
 refine T.d_put_out.fn.okE sc_put_out (fun vs H Q E h=>?_) (fun cdv A outer s H vs Q E hr h=>?_)
 ·obtain ⟨sv,xv,d,S,xs,M,rfl,_⟩:=h
  rfl
 obtain ⟨sv,xv,d,S,xs,M,rfl,hd,rS,sok,mok,rx,ndx,q1,q2,q3,q⟩:=h
 have hu:=Nat.lt_of_succ_lt (hu_of hr)
 refine ⟨_,(pss_cons (ps_set (i:=2) sc_put_out.nd rfl (Or.inl rfl) (pe_callD d_by_name g_by_name (hr.mono (by decide)) rfl (pa_cons (pv 0) pa_nil)))
   (pss_cons (ps_set (i:=3) sc_put_out.nd rfl (Or.inl rfl) (pe_callX pass_cx d_size_among g_size_among (hr.mono (by decide)) rfl (pa_cons (pv 2) (pa_cons (pv 1) (pa_cons pe_int pa_nil)))))
   (pss_cons (ps_if (PW.pt (pw_or (pt_cmpR op_gt (pe_ix ix_list (pe_ix ix_tup (pv 3) pe_int (fun _ _=>rfl)) pe_int (fun _ _=>rfl)) (pe_glob (v:=.int 400) rfl m_MOST_WORDS ⟨_,rfl⟩) (nomark _)) (pw_or1 (pt_cmpR op_gt (pe_ix ix_tup (pv 3) pe_int (fun _ _=>rfl)) (pe_glob (v:=.int 400) rfl m_MOST_CALLS ⟨_,rfl⟩) (nomark _))))) (pss_one (ps_raise rfl wish_cx x_TooLong rfl (pa_cons (pe_fstr (pj_cons pp_str (pj_cons (pp_int (pe_glob (v:=.int 400) rfl m_MOST_WORDS ⟨_,rfl⟩)) (pj_cons pp_str (pj_cons (pp_int (pe_glob (v:=.int 400) rfl m_MOST_CALLS ⟨_,rfl⟩)) (pj_cons pp_str pj_nil)))))) pa_nil))) pss_nil)
   (pss_one (ps_ret (pe_callD d_words_out g_words_out (hr.mono (by decide)) rfl (pa_cons (pv 2) (pa_cons (pv 1) (pa_cons (pe_lst pa_nil) pa_nil))))))))),?_⟩
 refine ⟨_,rfl,sv,S,rfl,rS,sok.nd,by have:=sok.len; omega,fun pn H1 s1 hN=>?_⟩
 refine ⟨_,rfl,_,rfl,pn,xv,0,d,S,xs,M,rfl,by omega,by decide,hN,sok,mok,rx.mono s1,ndx,fun hw H' s'=>q1 (by unfold rfN; rw [hw]; rfl) _ (s1.trans s'),fun hw H' s'=>q2 (by unfold rfN; rw [hw]; rfl) _ (s1.trans s'),fun hw p r H2 s2 fr kp kr=>?_⟩
 have s12:=s1.trans s2
 have big:(400 < (xs.map (szR S 0 d)).sum∨400 < calL S d xs)→rfN S d xs=3:=fun h=>by unfold rfN; rw [if_pos hw,if_pos h]
 have no:¬ (400 < (xs.map (szR S 0 d)).sum∨400 < calL S d xs)→rfN S d xs=0:=fun h=>by unfold rfN; rw [if_pos hw,if_neg h]
 refine ⟨_,rfl,_,_,_,_,rfl,rfl,SqT.of kp,rfl,_,_,_,_,rfl,rfl,SqL.of kr,rwL_at _ (Nat.zero_le _),_,_,rfl,rfl,_,rfl,?_⟩
 refine ite2 (fun c1=>iteT ?_) (fun c1=>?_)
 ·have c1:(400:Int) < (xs.map (szR S 0 d)).sum:=of_decide_eq_true c1
  exact ⟨⟨trivial,trivial,trivial,trivial,trivial,trivial⟩,fun z=>⟨le1,q3 (big (.inl c1)) _ s12⟩⟩
 have c1:¬ (400:Int) < (xs.map (szR S 0 d)).sum:=fun z=>c1 (decide_eq_true z)
 refine ⟨_,rfl,_,_,_,_,rfl,rfl,SqT.of kp,rfl,_,_,rfl,rfl,_,rfl,?_⟩
 refine ite2 (fun c2=>?_) (fun c2=>?_)
 ·have c2:(400:Int) < calL S d xs:=of_decide_eq_true c2
  exact ⟨⟨trivial,trivial,trivial,trivial,trivial,trivial⟩,fun z=>⟨le1,q3 (big (.inr c2)) _ s12⟩⟩
 have c2:¬ (400:Int) < calL S d xs:=fun z=>c2 (decide_eq_true z)
 refine ⟨_,rfl,_,rfl,small (by simp),fun p3 hp3=>?_⟩
 have g3:=same_new hp3 (.lst [])
 have k3:upd H2 p3 (.lst []) p3=some (.lst []):=upd_same
 generalize upd H2 p3 (.lst [])=H3 at g3 k3 ⊢
 have s13:=s12.trans g3
 have nd2:∀ x ∈ xs,Nd (menuS (S.take S.length)) 0 d x:=fun x hx=>by
  rw [List.take_of_length_le (Nat.le_refl _)]
  exact nd_of_wr (ndx x hx) (fstN_mem hw _ (List.mem_map.mpr ⟨x,hx,rfl⟩))
 have h4:=sok.len
 have lt:(exL id S 256 [] xs).length≤400:=by
  have:=exL_len (wd:=id) (n:=256) (A:=[]) sok.x (fun x hx=>(en64 sok.x (nd2 x hx) (by omega)).up (by decide)) nd2
  rw [wt_nil] at this
  omega
 exact ⟨pn,xv,p3,S,xs,[],S.length,0,d,rfl,by omega,by omega,hN.mono (s2.trans g3),sok.x,rx.mono s13,nd2,rfl,⟨[],k3,rfl,fun i b e=>by simp at e⟩,lt,fun p H4 s4 fp kp4=>q (no (fun z=>z.elim c1 c2)) p H4 (s13.trans s4) (s13.free fp) kp4⟩
theorem rfS_split {S:List Sh} {d:Nat} {xs:List DD} (hw:wrL S d xs=0) : (rfN S d xs=3∧(400 < (xs.map (szR S 0 d)).sum∨400 < calL S d xs))∨(rfN S d xs=0∧¬ (400 < (xs.map (szR S 0 d)).sum∨400 < calL S d xs)):=by
 unfold rfN
 rw [if_pos hw]
 by_cases hb:400 < (xs.map (szR S 0 d)).sum∨400 < calL S d xs
 ·rw [if_pos hb]; exact .inl ⟨rfl,hb⟩
 ·rw [if_neg hb]; exact .inr ⟨rfl,hb⟩

def sp_put (K:PySem.W.Frag) : Sp:=fun vs H Q _=>∃ (tv xv:V) (U:List Sh) (xs:List DD),vs=[tv,xv]∧Rep K H (.lst (U.map shD)) tv∧ShW U∧Rep K H (.lst xs) xv∧(∀ x ∈ xs,Nd (menuS U) 0 12 x) ∧
  ((400 < (xs.map (szR U 0 12)).sum∨400 < calL U 12 xs)→∀ H',Same H H'→Q .non H')∧(¬ (400 < (xs.map (szR U 0 12)).sum∨400 < calL U 12 xs)→∀ p H',Same H H'→H' p=some (.lst ((exL id U 256 [] xs).map V.str))→Q (.ref p) H')
theorem sc_l_put:FnScope ["told","nodes","found"] ["told","nodes"] (defScope s_l_put):=⟨rfl,rfl,rfl,by decide +kernel,rfl,by decide +kernel,by decide +kernel⟩
theorem ok_l_put (T:Txt P w K mg a) : FnOk P w K mg base CX0 152 a.f_l_put a.fd_l_put ["told","nodes"] (sp_put K):=by
 have g_l_copy:=ok_l_copy (P:=P) (w:=w) (base:=base) T
 have d_l_copy:=T.d_l_copy
 have g_put_out:=ok_put_out (P:=P) (w:=w) (base:=base) T
 have d_put_out:=T.d_put_out
 have x_TooLong:=T.x_TooLong
 refine T.d_l_put.fn.ok sc_l_put (fun vs H Q E h=>?_) (fun cdv A outer s H vs Q E hr h=>?_)
 ·obtain ⟨tv,xv,U,xs,rfl,_⟩:=h
  rfl
 obtain ⟨tv,xv,U,xs,rfl,rU,sw,rx,ndx,q1,q2⟩:=h
 have hu:=Nat.lt_of_succ_lt (hu_of hr)
 refine ⟨_,(pss_cons (ps_set (i:=2) sc_l_put.nd rfl (Or.inl rfl) pe_non)
   (pss_cons (ps_try_set (i:=2) sc_l_put.nd rfl (Or.inl rfl) d_put_out g_put_out (hr.mono (by decide)) rfl (fun _=>(pa_cons (pe_callD d_l_copy g_l_copy (hr.mono (by decide)) rfl (pa_cons (pv 0) pa_nil)) (pa_cons (pe_callD d_l_copy g_l_copy (hr.mono (by decide)) rfl (pa_cons (pv 1) pa_nil)) pa_nil))) rfl x_TooLong ⟨rfl,rfl⟩ (fun _=>(pss_one (ps_set (i:=2) sc_l_put.nd rfl (Or.inl rfl) pe_non))))
   (pss_one (ps_ret (pv 2))))),?_⟩
 have dU:=sh_deep sw
 have dX:=nd_deep ndx (by decide)
 have hw:wrL U 12 xs=0:=fstN_zero fun y hy=>by
  obtain ⟨x,hx,rfl⟩:=List.mem_map.mp hy
  exact wr_ok sw.nd (ndx x hx)
 refine ⟨_,rfl,_,_,rfl,by omega,rU,fun v1 G1 t1 r1=>⟨_,rfl,_,_,rfl,by omega,rx.mono t1,fun v2 G2 t2 r2=>?_⟩⟩
 have s12:=t1.trans t2
 rcases rfS_split hw with ⟨hR,hb⟩ | ⟨hR,hb⟩
 ·refine ⟨v1,v2,12,U,xs,menuS U,rfl,by decide,r1.mono t2,sw,mok_of sw,r2,ndx,fun e=>absurd (hR.symm.trans e) (by decide),fun e=>absurd (hR.symm.trans e) (by decide),fun _ G3 t3=>⟨_,rfl,T.t_TooLong_TooLong,?_⟩,fun e=>absurd (hR.symm.trans e) (by decide)⟩
  exact ⟨_,rfl,q1 hb _ (s12.trans t3)⟩
 ·refine ⟨v1,v2,12,U,xs,menuS U,rfl,by decide,r1.mono t2,sw,mok_of sw,r2,ndx,fun e=>absurd (hR.symm.trans e) (by decide),fun e=>absurd (hR.symm.trans e) (by decide),fun e=>absurd (hR.symm.trans e) (by decide),fun _ pf G3 t3 fpf kpf=>?_⟩
  exact ⟨_,rfl,q2 hb pf _ (s12.trans t3) kpf⟩
def sp_l_names:Sp:=fun vs H Q _=>∃ (c:Int) (m:Nat),vs=[.int c,.int (m:Int)]∧1≤m∧m≤12∧∀ p H' ns,H p=none→Same H H'→Names ns m→H' p=some (.lst ((ns.map tx).map V.str))→Q (.ref p) H'
theorem sc_l_names:FnScope ["cell","many","some","base","names","signs","size","at","j","name","k","here"] ["cell","many"] (defScope s_l_names):=⟨rfl,rfl,rfl,by decide +kernel,rfl,by decide +kernel,by decide +kernel⟩
theorem ok_l_names (T:Txt P w K mg a) : FnOk P w K mg base CX0 2 a.f_l_names a.fd_l_names ["cell","many"] sp_l_names:=by
 have g_l_draw:=ok_l_draw (P:=P) (w:=w) (base:=base) T
 have d_l_draw:=T.d_l_draw
 have z_int:=T.z_int
 have z_range:=T.z_range
 refine T.d_l_names.fn.ok sc_l_names (fun vs H Q E h=>?_) (fun cdv A outer s H vs Q E hr h=>?_)
 ·obtain ⟨c,m,rfl,_⟩:=h
  rfl
 obtain ⟨c,m,rfl,hm1,hm2,q⟩:=h
 have hu:=Nat.lt_of_succ_lt (hu_of hr)
 refine ⟨_,(pss_cons (ps_set (i:=2) sc_l_names.nd rfl (Or.inr rfl) pe_str)
   (pss_cons (ps_lc (k:=3) rfl (lcok (caps:=["cell"]) (js:=[0]) (cap:=⟨⟨rfl,.inl rfl,rfl,.inl rfl⟩,trivial⟩)) (pi_range1 rfl z_range (pa_cons pe_int pa_nil)) (fun _ _ _ _=>pts_nil) (fun _ _ _ _=>(pe_callD d_l_draw g_l_draw (hr.mono (by decide)) rfl (pa_cons (pv 1) (pa_cons (pe_op op_add pe_int (pv 0)) (pa_cons (pe_op op_add pe_int (pe_op op_mul pe_int (pe_callTy call_int1 rfl z_int PyProof.Rows.boot_int (pa_cons (pe_cmpR op_gt (pv 0) pe_int (nomark _)) pa_nil)))) pa_nil))))) sc_l_names.nd rfl rfl)
   (pss_cons (ps_set (i:=4) sc_l_names.nd rfl (Or.inl rfl) (pe_lst pa_nil))
   (pss_cons (ps_if (pt_cmpR op_eq (pe_callD d_l_draw g_l_draw (hr.mono (by decide)) rfl (pa_cons (pv 0) (pa_cons pe_int (pa_cons pe_int pa_nil)))) pe_int (nomark _)) (pss_cons (ps_set (i:=5) sc_l_names.nd rfl (Or.inr rfl) (pe_bm PySem.F.plainAttrs_str PySem.F.slot_str_join PySem.F.type_str_join mt_join pe_str (pa_cons (pe_lc rfl (lcok (caps:=["some"]) (js:=[2]) (cap:=⟨⟨rfl,.inl rfl,rfl,.inl rfl⟩,trivial⟩)) (pi_list (pv 3)) (fun _ _ _ _=>pts_nil) (fun _ _ _ _=>(pe_ix ix_str (pv 1) (pv 0) (fun _ _=>rfl)))) pa_nil)))
   (pss_one (ps_ret (pe_lc rfl (lcok (caps:=["signs"]) (js:=[5]) (cap:=⟨⟨rfl,.inl rfl,rfl,.inl rfl⟩,trivial⟩)) (pi_range1 rfl z_range (pa_cons (pv 1) pa_nil)) (fun _ _ _ _=>pts_nil) (fun _ _ _ _=>(pe_slice sl_str (pv 1) po_none (po_some (pe_op op_add (pv 0) pe_int)))))))) pss_nil)
   (pss_cons (ps_set (i:=6) sc_l_names.nd rfl (Or.inl rfl) (pe_op op_add pe_int (pe_callD d_l_draw g_l_draw (hr.mono (by decide)) rfl (pa_cons (pv 0) (pa_cons pe_int (pa_cons pe_int pa_nil))))))
   (pss_cons (ps_set (i:=7) sc_l_names.nd rfl (Or.inl rfl) (pe_callD d_l_draw g_l_draw (hr.mono (by decide)) rfl (pa_cons (pv 0) (pa_cons pe_int (pa_cons (pv 6) pa_nil)))))
   (pss_cons (ps_for PassesOwn.never rfl (pi_range1 rfl z_range (pa_cons (pv 1) pa_nil)) (pg_name (i:=8) sc_l_names.nd rfl (Or.inl rfl)) (pss_cons (ps_set (i:=9) sc_l_names.nd rfl (Or.inl rfl) pe_str)
   (pss_cons (ps_for PassesOwn.never rfl (pi_range1 rfl z_range (pa_cons (pv 6) pa_nil)) (pg_name (i:=10) sc_l_names.nd rfl (Or.inl rfl)) (pss_cons (ps_set (i:=11) sc_l_names.nd rfl (Or.inl rfl) (pe_op op_add (pe_ix ix_list (pv 3) (pv 10) (fun _ _=>rfl)) (pe_op op_mul (pv 8) (pe_callTy call_int1 rfl z_int PyProof.Rows.boot_int (pa_cons (pe_cmpR op_eq (pv 10) (pv 7) (nomark _)) pa_nil)))))
   (pss_one (ps_set (i:=9) sc_l_names.nd rfl (Or.inl rfl) (pe_op op_add_str (pv 9) (pe_ix ix_str (pv 2) (pe_op op_mod (pv 11) (pe_op op_add pe_int (pe_op op_mul pe_int (pe_callTy call_int1 rfl z_int PyProof.Rows.boot_int (pa_cons (pe_cmpR op_gt (pv 10) pe_int (nomark _)) pa_nil))))) (fun _ _=>rfl)))))))
   (pss_one (ps_expr (pe_bm PySem.F.plainAttrs_list PySem.F.slot_list_append PySem.F.type_list_append mt_append (pv 4) (pa_cons (pv 9) pa_nil)))))))
   (pss_one (ps_ret (pv 4)))))))))),?_⟩
 generalize hS:(PySem.Str.ofString "abcdefghijklmnopqrstuvwxyz0123456789")=S
 have hat:∀ k:Nat,k < 36→atI S.cps.toList (k:Int)=some (al k):=hS ▸ at_both
 have hSl:S.length≤sizeLine:=hS ▸ small (by decide +kernel)
 refine ⟨_,rfl,by decide,by decide,lc_range (fun i ys H2=>H2=H∧∃ bs:List Nat,bs.length=i∧(∀ k b,bs[k]? = some b→b < (if 0 < k then 36 else 26))∧ys=bs.map fun (b:Nat)=>V.int (b:Int)) ⟨rfl,[],rfl,fun k b h=>by simp at h,rfl⟩ ?_ ?_ ?_⟩
 ·rintro i ys H2 hi ⟨rfl,bs,hl,_,rfl⟩
  rw [List.length_map,hl]
  exact Nat.lt_of_lt_of_le (show i < 1000 by simp at hi; omega) (small (by decide))
 ·rintro i ys H2 hi ⟨rfl,bs,hl,hb,rfl⟩
  have hi2:i < 12:=by simpa using hi
  refine yes_go ?_
  refine ⟨_,rfl,_,rfl,_,_,rfl,rfl,_,rfl,_,_,rfl,rfl,.inr ⟨_,rfl,_,_,rfl,rfl,.inl ⟨by decide,by decide⟩,_,_,rfl,rfl,?_⟩⟩
  generalize hm:(26:Int)+10 * (if decide ((0:Int) < 0+(i:Int))=true then 1 else 0)=M
  have hM:M=((if 0 < i then 36 else 26:Nat) : Int):=by
   rw [← hm]
   by_cases h0:0 < i
   ·rw [if_pos (decide_eq_true (by omega)),if_pos h0]; rfl
   ·rw [if_neg (fun z=>h0 (by have:=of_decide_eq_true z; omega)),if_neg h0]; rfl
  obtain ⟨d,e,hd⟩:=draw_nat c (60+(0+(i:Int))) (show 0 < (if 0 < i then 36 else 26:Nat) by split <;> omega)
  refine ⟨c,60+(0+(i:Int)),M,congrArg (fun z=>[V.int c,V.int (60+(0+(i:Int))),V.int z]) hm,⟨by omega,by omega⟩,by rw [hM]; split <;> omega,rfl,bs++[d],by simp [hl],fun k b h=>?_,?_⟩
  ·by_cases hk:k < bs.length
   ·rw [List.getElem?_append_left hk] at h
    exact hb k b h
   ·rw [List.getElem?_append_right (by omega)] at h
    have hk2:k - bs.length=0:=by
     have:=(List.getElem?_eq_some_iff.mp h).1
     simp at this
     omega
    rw [hk2] at h
    have:d=b:=by simpa using h
    have hki:k=i:=by omega
    rw [← this,hki]
    exact hd
  ·rw [hM,e,List.map_append]
   rfl
 rintro ys H2 ⟨rfl,bs,hbl,hb,rfl⟩ pb hpb
 have hbl:bs.length=12:=by simpa using hbl
 have g1:=same_new hpb (.lst (bs.map fun (b:Nat)=>V.int (b:Int)))
 have hpb1:upd H2 pb (.lst (bs.map fun (b:Nat)=>V.int (b:Int))) pb=some (.lst (bs.map fun (b:Nat)=>V.int (b:Int))):=upd_same
 refine ⟨small (by simp),fun pn hpn=>?_⟩
 have g2:=g1.trans (same_new hpn (.lst []))
 have hpb2:=same_new hpn (.lst []) pb _ hpb1
 have hpn2:upd (upd H2 pb (.lst (bs.map fun (b:Nat)=>V.int (b:Int)))) pn (.lst []) pn=some (.lst []):=upd_same
 have hpn0:H2 pn=none:=g1.free hpn
 generalize upd (upd H2 pb (.lst (bs.map fun (b:Nat)=>V.int (b:Int)))) pn (.lst [])=H3 at g2 hpb2 hpn2 ⊢
 have hb36:∀ b ∈ bs,b < 36:=fun b hm=>by
  obtain ⟨k,hk,e⟩:=List.getElem_of_mem hm
  have:=hb k b (by rw [List.getElem?_eq_getElem hk,e])
  split at this <;> omega
 refine ⟨_,rfl,c,58,2,rfl,⟨by decide,by decide⟩,by decide,rfl,_,rfl,?_⟩
 refine ite2 (fun _=>?_) (fun _=>?_)
 ·-- beginnings of one another
  refine ⟨rfl,_,rfl,pb,rfl,⟨_,SqL.of hpb2⟩,lc_list (K:=K) (a:=pb) (xs:=bs.map fun (b:Nat)=>V.int (b:Int)) (fun i ys H4=>H4=H3∧ys=((bs.take i).map al).map fun d=>V.str (tx [d])) ⟨rfl,rfl⟩ ?_ ?_ ?_ ?_⟩
  ·rintro i ys H4 _ ⟨rfl,_⟩
   exact SqL.of hpb2
  ·rintro i ys H4 hi ⟨rfl,rfl⟩
   rw [List.length_map,List.length_map,List.length_take]
   exact Nat.lt_of_le_of_lt (show _≤12 by omega) (small1000 (by omega))
  ·rintro i x ys H4 hx ⟨rfl,rfl⟩
   obtain ⟨b,hb',rfl⟩:=get_map hx
   refine yes_go ?_
   refine ⟨_,rfl,_,rfl,_,_,al b,rfl,rfl,hSl,hat b (hb36 b (List.mem_of_getElem? hb')),rfl,?_⟩
   rw [List.take_add_one,hb']
   simp
  rintro ys H4 ⟨rfl,rfl⟩ pj hpj
  rw [List.length_map,List.take_of_length_le (Nat.le_refl _)]
  have g3:=g2.trans (same_new hpj (.lst ((bs.map al).map fun d=>V.str (tx [d]))))
  refine ⟨_,pj,(bs.map al).map (fun d=>tx [d]),rfl,rfl,SqL.of (by rw [upd_same,List.map_map (f:=fun d=>tx [d])]; rfl),by decide,by rw [sum_one,List.length_map,List.length_map,List.length_map]; omega,?_⟩
  have ej:Txt.join (PySem.Str.ofString "") ((bs.map al).map fun d=>tx [d])=tx (bs.map al):=by
   have:=join_tx [] ((bs.map al).map fun d=>[d])
   rw [List.map_map,join_one] at this
   rw [ce]
   exact this
  rw [ej]
  generalize upd H4 pj (.lst ((bs.map al).map fun d=>V.str (tx [d])))=H5 at g3 ⊢
  refine ⟨_,rfl,_,rfl,by omega,by omega,lc_range (fun i ys H6=>H6=H5∧ys=(((List.range i).map fun j=>(bs.map al).take (j+1)).map tx).map V.str) ⟨rfl,rfl⟩ ?_ ?_ ?_⟩
  ·rintro i ys H6 hi ⟨rfl,rfl⟩
   rw [List.length_map,List.length_map,List.length_map,List.length_range]
   exact Nat.lt_of_lt_of_le (show i < 1000 by simp at hi; omega) (small (by decide))
  ·rintro i ys H6 hi ⟨rfl,rfl⟩
   refine yes_go ?_
   refine ⟨_,rfl,_,rfl,_,_,rfl,rfl,_,rfl,_,rfl,small (by rw [tx_len,List.length_map]; omega),rfl,?_⟩
   rw [show (0:Int)+(i:Int)+1=((i+1:Nat) : Int) by omega,slice_tx,cut_to,List.range_succ,List.map_append,List.map_append,List.map_append]
   rfl
  ·rintro ys H6 ⟨rfl,rfl⟩ p hp
   have em:(m:Int).toNat=m:=by omega
   rw [em]
   refine q p _ ((List.range m).map fun j=>(bs.map al).take (j+1)) (g3.free hp) (g3.trans (same_new hp _)) ⟨by simp,fun i hi=>?_,fun i j hi hj e=>?_⟩ upd_same
   ·rw [nm_map hi,← List.map_take]
    refine Ix.name ⟨?_,by rw [List.length_take]; omega,fun b hb'=>?_,fun b hb'=>hb36 b (List.mem_of_mem_take hb')⟩
    ·intro e
     have:=congrArg List.length e
     rw [List.length_take,hbl,List.length_nil] at this
     omega
    ·rw [List.head?_take] at hb'
     simp at hb'
     have:=hb 0 b (by rw [← List.head?_eq_getElem?]; exact hb')
     simpa using this
   ·rw [nm_map hi,nm_map hj] at e
    have:=congrArg List.length e
    rw [List.length_take,List.length_take,List.length_map,hbl] at this
    omega
 ·-- unlike at one place
  obtain ⟨s0,es,hs0⟩:=draw_nat c 59 (show 0 < 12 by decide)
  refine ⟨_,rfl,c,59,12,rfl,⟨by decide,by decide⟩,by decide,_,_,rfl,rfl,?_⟩
  obtain ⟨size,hsz⟩ : ∃ size:Nat,size=1+s0:=⟨_,rfl⟩
  have esz:(1:Int)+draw c 59 12=(size:Int):=by rw [show draw c 59 12=(s0:Int) from es]; omega
  obtain ⟨at',ea,ha'⟩:=draw_nat c 57 (show 0 < size by omega)
  refine ⟨_,rfl,_,rfl,c,57,(size:Int),congrArg (fun z=>[V.int c,V.int 57,V.int z]) esz,⟨by decide,by decide⟩,by omega,?_⟩
  rw [ea]
  refine ⟨_,rfl,_,rfl,by omega,by omega,for_range (fun j σ H4=>∃ v1 v2 v3 v4:Option V,σ=[some (.int c),some (.int (m:Int)),some (.str S),some (.ref pb),some (.ref pn),none,some (.int (size:Int)),some (.int (at':Int)),v1,v2,v3,v4]∧H4=upd H3 pn (.lst ((((List.range j).map fun i=>(xsB bs size at' i).map al).map tx).map V.str))) ?_ ?_ ?_⟩
  ·refine ⟨none,none,none,none,?_,?_⟩
   ·show [some (V.int c),some (V.int (m:Int)),some (V.str S),some (V.ref pb),some (V.ref pn),none,some (V.int (1+draw c 59 12)),some (V.int (at':Int)),none,none,none,none]=_
    rw [esz]
   ·funext b
    unfold upd
    split
    ·rename_i h; rw [h]; exact hpn2
    ·rfl
  ·rintro j σ H4 hj ⟨v1,v2,v3,v4,rfl,rfl⟩
   have hj2:j < m:=by omega
   have hpb4:upd H3 pn (.lst ((((List.range j).map fun i=>(xsB bs size at' i).map al).map tx).map V.str)) pb=some (.lst (bs.map fun (b:Nat)=>V.int (b:Int))):=by
    rw [upd_ne (ne_of hpb2 hpn2 (by
     intro z
     have z2:=congrArg List.length (HO.lst.inj z)
     rw [List.length_map,hbl] at z2
     simp at z2))]
    exact hpb2
   refine ⟨_,rfl,_,rfl,by omega,by omega,for_range (fun k σ H5=>∃ v3 v4:Option V,σ=[some (.int c),some (.int (m:Int)),some (.str S),some (.ref pb),some (.ref pn),none,some (.int (size:Int)),some (.int (at':Int)),some (.int (0+(j:Int))),some (.str (tx (((xsB bs size at' j).take k).map al))),v3,v4]∧H5=upd H3 pn (.lst ((((List.range j).map fun i=>(xsB bs size at' i).map al).map tx).map V.str))) ?_ ?_ ?_⟩
   ·exact ⟨v3,v4,by rw [ce]; rfl,rfl⟩
   ·rintro k σ H5 hk ⟨v3,v4,rfl,rfl⟩
    have hk2:k < size:=by omega
    have hk3:k < bs.length:=by omega
    have hbk:bs[k]? = some (bs.getD k 0):=by rw [List.getD_eq_getElem?_getD,List.getElem?_eq_getElem hk3]; rfl
    have hx:=xsB_get bs size at' j k hk2
    refine ⟨_,rfl,_,rfl,_,_,_,V.int ((bs.getD k 0:Nat) : Int),rfl,rfl,SqL.of hpb4,?_,_,rfl,_,rfl,_,rfl,rfl,.inr ⟨_,rfl,_,_,rfl,rfl,.inl ⟨by omega,by omega⟩,_,_,rfl,rfl,?_⟩⟩
    ·rw [Int.zero_add]
     refine atI_nat ?_
     rw [List.getElem?_map,hbk]
     rfl
    refine ⟨_,rfl,_,rfl,_,rfl,_,rfl,_,_,rfl,rfl,.inr ⟨_,rfl,_,_,rfl,rfl,.inl ⟨by decide,by decide⟩,_,_,rfl,rfl,_,_,rfl,rfl,?_,?_⟩⟩
    ·show (0:Int) < 26+10 * (if decide ((0:Int) < 0+(k:Int))=true then 1 else 0)
     split <;> omega
    generalize hh:((bs.getD k 0:Nat) : Int)+(0+(j:Int)) * (if decide (V.int (0+(k:Int))=V.int (at':Int))=true then 1 else 0)=hv
    generalize hm:(26:Int)+10 * (if decide ((0:Int) < 0+(k:Int))=true then 1 else 0)=M
    have hM:M=((if 0 < k then 36 else 26:Nat) : Int):=by
     rw [← hm]
     by_cases h0:0 < k
     ·rw [if_pos (decide_eq_true (by omega)),if_pos h0]; rfl
     ·rw [if_neg (fun z=>h0 (by have:=of_decide_eq_true z; omega)),if_neg h0]; rfl
    have hV:hv=((bs.getD k 0+(if k=at' then j else 0) : Nat) : Int):=by
     rw [← hh]
     by_cases h0:k=at'
     ·rw [if_pos (decide_eq_true (by rw [h0,Int.zero_add])),if_pos h0]; omega
     ·rw [if_neg (fun z=>h0 (by have:=V.int.inj (of_decide_eq_true z); omega)),if_neg h0]; omega
    have hR:hv % M=(((bs.getD k 0+(if k=at' then j else 0)) % (if 0 < k then 36 else 26) : Nat) : Int):=by
     rw [hV,hM]
     exact (Int.natCast_emod _ _).symm
    generalize hx9:(bs.getD k 0+(if k=at' then j else 0)) % (if 0 < k then 36 else 26)=x9 at hR hx
    have h36:x9 < 36:=by
     rw [← hx9]
     exact md _ _
    refine ⟨_,_,al x9,rfl,rfl,hSl,?_,_,_,rfl,rfl,?_,?_⟩
    ·show atI S.cps.toList (hv % M)=_
     rw [hR]
     exact hat x9 h36
    ·rw [tx_len,List.length_map,List.length_take]
     show _+1≤sizeLine
     exact small (by omega)
    ·have e9:(tx (((xsB bs size at' j).take k).map al)++(⟨#[al x9]⟩ : Str))=tx (((xsB bs size at' j).take (k+1)).map al):=by
      rw [show (⟨#[al x9]⟩ : Str)=tx [al x9] from rfl,tx_app,List.take_add_one,hx]
      simp
     rw [e9]
     exact ⟨_,_,rfl,rfl⟩
   ·rintro σ H5 ⟨v3,v4,rfl,rfl⟩
    have em:(size:Int).toNat=size:=by omega
    have hl:(xsB bs size at' j).length=size:=by unfold xsB; simp
    rw [em,List.take_of_length_le (by omega)]
    refine ⟨_,rfl,.inl ⟨rfl,_,SqL.of upd_same⟩,_,rfl,_,_,_,rfl,rfl,upd_same,?_,?_⟩
    ·rw [List.length_map,List.length_map,List.length_map,List.length_range]
     exact small1000 (by omega)
    ·refine ⟨_,_,_,_,rfl,?_⟩
     rw [upd_upd,List.range_succ]
     simp
  ·rintro σ H4 ⟨v1,v2,v3,v4,rfl,rfl⟩
   have em:(m:Int).toNat=m:=by omega
   rw [em]
   refine ⟨_,rfl,q pn _ ((List.range m).map fun i=>(xsB bs size at' i).map al) hpn0 (fun b o hb'=>?_) ⟨by simp,fun i hi=>?_,fun i j hi hj e=>?_⟩ upd_same⟩
   ·rw [upd_ne (ne_of_none hb' hpn0)]
    exact g2 b o hb'
   ·rw [nm_map hi]
    exact (xsB_ix (by omega) (by omega)).name
   ·rw [nm_map hi,nm_map hj] at e
    exact xsB_inj ha' (by omega) (by omega) e
theorem plc {S:List Sh} {c d:Nat} (hd:0 < d) {x:DD} (h:x=wdD [111]∨∃ k,1≤k∧k≤c∧x=plD k) : (∀ M,Nd M c d x)∧wrD S d x=0∧∀ j,szR S j d x≤1:=by
 obtain ⟨e,rfl⟩ : ∃ e,d=e+1:=⟨d - 1,by omega⟩
 rcases h with rfl | ⟨k,h1,h2,rfl⟩
 ·exact ⟨fun M=>.inl ⟨_,rfl⟩,wr_wd,fun j=>by rw [sz_wd]; split <;> omega⟩
 ·exact ⟨fun M=>.inr (.inl ⟨k,h1,h2,rfl⟩),wr_pl,fun j=>by rw [sz_pl]; split <;> omega⟩
def PlL (K:PySem.W.Frag) (H:Hp) (c:Nat) (ys:List V) (xs:List DD) : Prop:=Reps K H xs ys∧∀ x ∈ xs,∃ k,1≤k∧k≤c∧x=plD k
theorem calls_pls {c:Nat} : ∀ {l:List DD},(∀ x ∈ l,∃ k,1≤k∧k≤c∧x=plD k)→callsL l=0
 | [],_=>calls_nil
 | x :: r,h=>by
  obtain ⟨k,_,_,rfl⟩:=h x List.mem_cons_self
  rw [calls_cons,calls_pl,calls_pls fun y hy=>h y (List.mem_cons_of_mem _ hy)]

def sp_l_short (K:PySem.W.Frag) : Sp:=fun vs H Q _=>∃ (B:Hp) (sa:Addr) (S:List Sh) (n:Wd0) (c:Nat) (xs:List DD) (na:Addr),vs=[.ref sa,.str (tx n),.int (c:Int),.ref na]∧c≤9∧Rep K H (.lst (S.map shD)) (.ref sa)∧ShOk S∧Same B H∧(∃ vs,H na=some (.lst vs)∧Reps K (erG B H []) xs vs)∧xs.length≤70∧(∀ x ∈ xs,Nd (S.map fun s=>(s.n,s.c)) c 12 x)∧callsL xs≤63 ∧
  ∀ v H' s,Same H H'→Rep K (erG B H' []) (shD s) v→s.n=n→s.c=c→s.r.length=c+1→(∀ y ∈ s.r,0≤y∧y≤400)→s.r=rowL S c 12 s.ns→(∀ k,1≤k→k≤c→1≤s.r.getD k 0)→s.r.sum≤400→(0≤s.k∧s.k≤60)→callsL s.ns≤63→s.ns.length≤200→(∀ x ∈ s.ns,Nd (S.map fun s=>(s.n,s.c)) c 12 x)→Q v H'
theorem sc_l_short:FnScope ["shorts","name","count","nodes","row","calls"] ["shorts","name","count","nodes"] (defScope s_l_short):=⟨rfl,rfl,rfl,by decide +kernel,rfl,by decide +kernel,by decide +kernel⟩
theorem ok_l_short (T:Txt P w K mg a) : FnOk P w K mg base CX0 46 a.f_l_short a.fd_l_short ["shorts","name","count","nodes"] (sp_l_short K):=by
 have g_l_size:=ok_l_size (P:=P) (w:=w) (base:=base) T
 have d_l_size:=T.d_l_size
 have z_range:=T.z_range
 have z_sum:=T.z_sum
 refine T.d_l_short.fn.ok sc_l_short (fun vs H Q E h=>?_) (fun cdv A outer s H vs Q E hr h=>?_)
 ·obtain ⟨B,sa,S,n,c,xs,na,rfl,_⟩:=h
  rfl
 obtain ⟨B,sa,S,n,c,xs,na,rfl,hc,rS,sok,sB,⟨vsx,hna,rxs⟩,xl70,ndx,clx,q⟩:=h
 have hu:=Nat.lt_of_succ_lt (hu_of hr)
 refine ⟨_,(pss_cons (ps_asg (pe_callD d_l_size g_l_size (hr.mono (by decide)) rfl (pa_cons (pv 0) (pa_cons (pv 3) (pa_cons (pv 2) pa_nil)))) (pg_tup rfl (pgs_cons (pg_name (i:=4) sc_l_short.nd rfl (Or.inr rfl)) (pgs_cons (pg_name (i:=5) sc_l_short.nd rfl (Or.inl rfl)) pgs_nil))))
   (pss_cons (ps_set (i:=3) sc_l_short.nd rfl (Or.inl rfl) (pe_op op_cat (pv 3) (pe_lc rfl (lcok (caps:=["row"]) (js:=[4]) (cap:=⟨⟨rfl,.inl rfl,rfl,.inl rfl⟩,trivial⟩)) (pi_range2 rfl z_range (pa_cons pe_int (pa_cons (pe_op op_add (pv 2) pe_int) pa_nil))) (fun _ _ _ _=>(pts_one (pt_cmpR op_eq (pe_ix (r:=rIxL K) ix_list (pv 1) (pv 0) (fun _ _=>rfl)) pe_int (nomark _)))) (fun _ _ _ _=>(pe_tup (pa_cons pe_str (pa_cons (pv 0) pa_nil)))))))
   (pss_cons (ps_asg (pe_callD d_l_size g_l_size (hr.mono (by decide)) rfl (pa_cons (pv 0) (pa_cons (pv 3) (pa_cons (pv 2) pa_nil)))) (pg_tup rfl (pgs_cons (pg_name (i:=4) sc_l_short.nd rfl (Or.inr rfl)) (pgs_cons (pg_name (i:=5) sc_l_short.nd rfl (Or.inl rfl)) pgs_nil))))
   (pss_cons (ps_if (PW.pt (pw_or (pt_cmpR op_gt (pe_callB (call_sum rfl) rfl z_sum PyProof.Rows.boot_sum (pa_cons (pv 4) pa_nil)) pe_int (nomark _)) (pw_or1 (pt_cmpR op_gt (pv 5) pe_int (nomark _))))) (pss_cons (ps_set (i:=3) sc_l_short.nd rfl (Or.inl rfl) (pe_op op_cat (pe_lst (pa_cons (pe_tup (pa_cons pe_str (pa_cons pe_str pa_nil))) pa_nil)) (pe_lc rfl (lcok (caps:=[]) (js:=[]) (cap:=trivial)) (pi_range2 rfl z_range (pa_cons pe_int (pa_cons (pe_op op_add (pv 2) pe_int) pa_nil))) (fun _ _ _ _=>pts_nil) (fun _ _ _ _=>(pe_tup (pa_cons pe_str (pa_cons (pv 0) pa_nil)))))))
   (pss_one (ps_asg (pe_callD d_l_size g_l_size (hr.mono (by decide)) rfl (pa_cons (pv 0) (pa_cons (pv 3) (pa_cons (pv 2) pa_nil)))) (pg_tup rfl (pgs_cons (pg_name (i:=4) sc_l_short.nd rfl (Or.inr rfl)) (pgs_cons (pg_name (i:=5) sc_l_short.nd rfl (Or.inl rfl)) pgs_nil)))))) pss_nil)
   (pss_one (ps_ret (pe_tup (pa_cons (pv 1) (pa_cons (pv 2) (pa_cons (pv 3) (pa_cons (pv 4) (pa_cons (pv 5) pa_nil)))))))))))),?_⟩
 have rx:Rep K H (.lst xs) (.ref na):=rep_lst (SqL.of hna) (by omega) (rxs.mono erG_in)
 have nn:∀ s ∈ S,∀ y ∈ s.r,0≤y:=fun s hs y hy=>(sok.r4 s hs y hy).1
 have c10:∀ m ∈ S.map (fun s=>(s.n,s.c)),m.2≤10:=fun m hm=>by
  obtain ⟨s,hs,rfl⟩:=List.mem_map.mp hm
  have:=sok.c9 s hs
  show s.c≤10
  omega
 have wz:∀ {l:List DD},(∀ x ∈ l,Nd (S.map fun s=>(s.n,s.c)) c 12 x)→wrL S 12 l=0:=fun h=>fstN_zero fun y hy=>by
  obtain ⟨x,hx,rfl⟩:=List.mem_map.mp hy
  exact wr_ok sok.nd (h x hx)
 refine ⟨_,rfl,_,rfl,_,rfl,_,_,c,12,S,xs,_,rfl,by decide,hc,rS,sok.w,rx,ndx,c10,wz ndx,fun p1 r1 H1 s1 fr1 kp1 kr1=>?_⟩
 refine ⟨p1,_,rfl,SqT.of kp1,rfl,_,_,rfl,_,_,rfl,rfl,?_⟩
 dsimp only [gName]
 refine ⟨_,rfl,_,rfl,_,_,rfl,rfl,_,_,rfl,⟨by omega,by omega,by omega,by omega⟩,lc_range (fun i ys G'=>Same H1 G'∧∃ xs',ys.length≤i∧PlL K (erG B G' []) c ys xs'∧∀ k,1≤k→k≤i→(xs.map (szR S k 12)).sum=0→plD k ∈ xs') ⟨Same.refl _,[],Nat.le_refl _,⟨Reps.nil,fun x hx=>(by cases hx)⟩,fun k h1 h2=>by omega⟩ ?_ ?_ ?_⟩
 ·rintro i ys G' hi ⟨_,_,hl,_⟩
  exact small1000 (by omega)
 ·rintro i ys G' hi ⟨s2,xs',hl,⟨r2,p2⟩,pz1⟩
  have hi2:i+1≤c:=by omega
  refine ⟨_,rfl,_,rfl,_,_,_,_,rfl,rfl,SqL.of (s2 _ _ kr1),by rw [show (1+(i:Int))=((i+1:Nat) : Int) by omega]; exact rwL_at _ hi2,rfl,_,rfl,?_⟩
  refine ite2 (fun _=>?_) (fun cz=>⟨s2,xs',by omega,⟨r2,p2⟩,fun k h1 h2 h3=>?_⟩)
  rotate_left
  ·by_cases e:k=i+1
   ·subst e
    exact absurd (decide_eq_true (congrArg V.int h3)) cz
   ·exact pz1 k h1 (by omega) h3
  refine ⟨_,rfl,le2,fun p hp=>?_⟩
  exact ⟨s2.trans (same_new hp _),xs'++[plD (i+1)],by simp; omega,⟨(r2.mono (erG_up (same_new hp _))).snoc (rep_tup (SqT.of (erG_get (((sB.trans s1).trans s2).free hp) (by simp) upd_same)) (by simp) (Reps.cons (rep_str _) (Reps.cons (by rw [show ((i+1:Nat) : Int)=1+(i:Int) by omega]; exact rep_int _) Reps.nil))),fun x hx=>by
   rcases List.mem_append.mp hx with hx | hx
   ·exact p2 x hx
   ·exact ⟨i+1,by omega,hi2,List.mem_singleton.mp hx⟩⟩,fun k h1 h2 h3=>by
   by_cases e:k=i+1
   ·rw [e]; exact List.mem_append.mpr (.inr List.mem_cons_self)
   ·exact List.mem_append.mpr (.inl (pz1 k h1 (by omega) h3))⟩
 rintro ys G' ⟨s2,xs',hl,⟨r2,p2⟩,pz1⟩ pl hpl
 replace hl:ys.length≤c:=by omega
 have yl:=r2.len
 have g3:=same_new hpl (.lst ys)
 have k3:upd G' pl (.lst ys) pl=some (.lst ys):=upd_same
 have r3:=r2.mono (erG_up (H0:=B) (os:=[]) g3)
 generalize upd G' pl (.lst ys)=G3 at g3 k3 r3 ⊢
 have s13:=(s1.trans s2).trans g3
 have vl:=rxs.len
 refine ⟨_,_,_,_,rfl,rfl,s13 _ _ hna,k3,small (by omega),fun p3 hp3=>?_⟩
 have g4:=same_new hp3 (.lst (vsx++ys))
 have s14:=s13.trans g4
 have rx4E:Rep K (erG B (upd G3 p3 (.lst (vsx++ys))) []) (.lst (xs++xs')) (.ref p3):=rep_lst (SqL.of (erG_get ((sB.trans s13).free hp3) (by simp) upd_same)) (by rw [List.length_append]; omega) ((rxs.mono (erG_up s14)).app (r3.mono (erG_up g4)))
 generalize upd G3 p3 (.lst (vsx++ys))=G4 at g4 s14 rx4E ⊢
 have rx4:=rx4E.mono erG_in
 have nd4:∀ x ∈ xs++xs',Nd (S.map fun s=>(s.n,s.c)) c 12 x:=fun x hx=>by
  rcases List.mem_append.mp hx with hx | hx
  ·exact ndx x hx
  ·exact (plc (S:=S) (by decide) (.inr (p2 x hx))).1 _
 dsimp only [gName]
 refine ⟨_,rfl,_,rfl,_,rfl,_,_,c,12,S,_,_,rfl,by decide,hc,rS.mono s14,sok.w,rx4,nd4,c10,wz nd4,fun p5 r5 G5 s5 fr5 kp5 kr5=>?_⟩
 refine ⟨p5,_,rfl,SqT.of kp5,rfl,_,_,rfl,_,_,rfl,rfl,?_⟩
 dsimp only [gName]
 have s15:=s14.trans s5
 refine cut_seq (fun σ' G'=>∃ (na' r':Addr) (X:List DD) (R:List Int) (k:Int),σ' = [some (.ref sa),some (.str (tx n)),some (.int (c:Int)),some (.ref na'),some (.ref r'),some (.int k)]∧Same H G'∧B r' = none∧Rep K (erG B G' []) (.lst X) (.ref na')∧X.length≤200∧(∀ x ∈ X,Nd (S.map fun s=>(s.n,s.c)) c 12 x)∧G' r' = some (.lst (R.map V.int))∧R.length=c+1∧(∀ y ∈ R,0≤y∧y≤400)∧R=rowL S c 12 X∧(∀ k,1≤k→k≤c→1≤R.getD k 0)∧R.sum≤400∧(0≤k∧k≤60)∧callsL X≤63) ?_ (fun key=>?_)
 ·rintro σ' G6 ⟨na',r',X,R,k,rfl,s6,fr',rX,Xl,Xn,kR,Rl,Rb,Re,Rp,Rs,Rk,Rc⟩
  refine ⟨_,rfl,_,rfl,_,rfl,_,rfl,_,rfl,small (by simp),fun p hp=>?_⟩
  have g7:=same_new hp (.tup [V.str (tx n),V.int (c:Int),V.ref na',V.ref r',V.int k])
  exact q (.ref p) _ ⟨n,c,X,R,k⟩ (s6.trans g7) (rep_tup (SqT.of (erG_get ((sB.trans s6).free hp) (by simp) upd_same)) (by simp) (Reps.cons (rep_str _) (Reps.cons (rep_int _) (Reps.cons (rX.mono (erG_up g7)) (Reps.cons (rep_lst (SqL.of (erG_get fr' (by simp) (g7 _ _ kR))) (by show (R.map DD.int).length≤500000; rw [List.length_map]; omega) (reps_ints R)) (Reps.cons (rep_int _) Reps.nil)))))) rfl rfl Rl Rb Re Rp Rs Rk Rc Xl Xn
 ·have Rn:=row_nn nn nd4
  have go1:(rowL S c 12 (xs++xs')).sum≤400→calL S 12 (xs++xs')≤60→∃ (na' r':Addr) (X:List DD) (R:List Int) (k:Int),[some (V.ref sa),some (.str (tx n)),some (.int (c:Int)),some (.ref p3),some (.ref r5),some (.int (calL S 12 (xs++xs')))]=[some (.ref sa),some (.str (tx n)),some (.int (c:Int)),some (.ref na'),some (.ref r'),some (.int k)]∧Same H G5∧B r' = none∧Rep K (erG B G5 []) (.lst X) (.ref na')∧X.length≤200∧(∀ x ∈ X,Nd (S.map fun s=>(s.n,s.c)) c 12 x)∧G5 r' = some (.lst (R.map V.int))∧R.length=c+1∧(∀ y ∈ R,0≤y∧y≤400)∧R=rowL S c 12 X∧(∀ k,1≤k→k≤c→1≤R.getD k 0)∧R.sum≤400∧(0≤k∧k≤60)∧callsL X≤63:=fun h4 h6 =>
   ⟨p3,r5,_,_,_,rfl,s15,(sB.trans s14).free fr5,rx4E.mono (erG_up s5),by rw [List.length_append]; omega,nd4,kr5,rwL_len _ _,fun y hy=>⟨Rn y hy,by have:=le_sum Rn y hy; omega⟩,rfl,fun k h1 h2=>by
    unfold rowL
    rw [rw_getD h2,List.map_append,List.sum_append]
    have q1:=sumZ_nn (f:=szR S k 12) (l:=xs) fun x hm=>szR_nn nn k (ndx x hm)
    have nd':∀ x ∈ xs',Nd (S.map fun s=>(s.n,s.c)) c (11+1) x:=fun x hx=>(plc (S:=S) (by decide) (.inr (p2 x hx))).1 _
    have q2:=sumZ_nn (f:=szR S k 12) (l:=xs') fun x hm=>szR_nn nn k (nd' x hm)
    by_cases e:(xs.map (szR S k 12)).sum=0
    ·have:1≤(xs'.map (szR S k 12)).sum:=pl_one (d:=11) nn nd' (pz1 k h1 (by omega) e)
     omega
    ·omega,h4,⟨(calL_le sok.k6 nd4).1,h6⟩,by rw [calls_app,calls_pls p2]; exact clx⟩
  refine ⟨_,rfl,r5,_,rfl,SqL.of kr5,_,_,rfl,rfl,_,rfl,?_⟩
  refine orH ?_ (fun fb c1=>?_)
  rotate_left
  ·refine ⟨_,rfl,_,_,rfl,rfl,_,rfl,?_⟩
   refine ite2 (fun _=>fb) (fun c2=>key _ _ (go1 ?_ ?_))
   ·have c1:¬ (400:Int) < (rowL S c 12 (xs++xs')).sum:=fun z=>c1 (decide_eq_true z)
    omega
   ·have c2:¬ (60:Int) < calL S 12 (xs++xs'):=fun z=>c2 (decide_eq_true z)
    omega
  refine ⟨le2,fun pw hpw=>?_⟩
  have h1:=same_new hpw (.tup [V.str (PySem.Str.ofString "word"),V.str (PySem.Str.ofString "o")])
  have j1:upd G5 pw (.tup [V.str (PySem.Str.ofString "word"),V.str (PySem.Str.ofString "o")]) pw=some (.tup [V.str (PySem.Str.ofString "word"),V.str (PySem.Str.ofString "o")]):=upd_same
  generalize upd G5 pw (.tup [V.str (PySem.Str.ofString "word"),V.str (PySem.Str.ofString "o")])=F1 at h1 j1 ⊢
  refine ⟨le1,fun pv hpv=>?_⟩
  have h2:=same_new hpv (.lst [V.ref pw])
  have j2:upd F1 pv (.lst [V.ref pw]) pv=some (.lst [V.ref pw]):=upd_same
  generalize upd F1 pv (.lst [V.ref pw])=F2 at h2 j2 ⊢
  refine ⟨_,rfl,_,_,rfl,rfl,_,_,rfl,⟨by omega,by omega,by omega,by omega⟩,lc_range (fun i ys G'=>Same F2 G'∧∃ xs',ys.length≤i∧PlL K (erG B G' []) c ys xs'∧∀ k,1≤k→k≤i→plD k ∈ xs') ⟨Same.refl _,[],Nat.le_refl _,⟨Reps.nil,fun x hx=>(by cases hx)⟩,fun k h1 h2=>by omega⟩ ?_ ?_ ?_⟩
  ·rintro i ys G' hi ⟨_,_,hl,_⟩
   exact small1000 (by omega)
  ·rintro i ys G' hi ⟨s2,xs',hl,⟨r2,p2⟩,pz1⟩
   refine yes_go ?_
   refine ⟨_,rfl,le2,fun p hp=>?_⟩
   exact ⟨s2.trans (same_new hp _),xs'++[plD (i+1)],by simp; omega,⟨(r2.mono (erG_up (same_new hp _))).snoc (rep_tup (SqT.of (erG_get ((((sB.trans s15).trans (h1.trans h2)).trans s2).free hp) (by simp) upd_same)) (by simp) (Reps.cons (rep_str _) (Reps.cons (by rw [show ((i+1:Nat) : Int)=1+(i:Int) by omega]; exact rep_int _) Reps.nil))),fun x hx=>by
    rcases List.mem_append.mp hx with hx | hx
    ·exact p2 x hx
    ·exact ⟨i+1,by omega,by omega,List.mem_singleton.mp hx⟩⟩,fun k h1 h2=>by
    by_cases e:k=i+1
    ·rw [e]; exact List.mem_append.mpr (.inr List.mem_cons_self)
    ·exact List.mem_append.mpr (.inl (pz1 k h1 (by omega)))⟩
  rintro ys G' ⟨s2,xq,hl,⟨r2,p2⟩,pz2⟩ pl hpl
  replace hl:ys.length≤c:=by omega
  have yl:=r2.len
  have g3:=same_new hpl (.lst ys)
  have k3:upd G' pl (.lst ys) pl=some (.lst ys):=upd_same
  have r3:=r2.mono (erG_up (H0:=B) (os:=[]) g3)
  generalize upd G' pl (.lst ys)=F3 at g3 k3 r3 ⊢
  have h23:=s2.trans g3
  refine ⟨_,_,_,_,rfl,rfl,h23 _ _ j2,k3,small (by simp; omega),fun pn hpn=>?_⟩
  have g4:=same_new hpn (.lst ([V.ref pw]++ys))
  have h24:=h23.trans g4
  have s16:=(s15.trans h1).trans (h2.trans h24)
  have fpw:=(sB.trans s15).free hpw
  have rw4:Rep K (erG B (upd F3 pn (.lst ([V.ref pw]++ys))) []) (wdD [111]) (.ref pw):=by
   unfold wdD
   rw [← cOw]
   exact rep_tup (SqT.of (erG_get fpw (by simp) ((h2.trans h24) _ _ j1))) (by simp) (Reps.cons (rep_str _) (Reps.cons (rep_str _) Reps.nil))
  have rx6E:Rep K (erG B (upd F3 pn (.lst ([V.ref pw]++ys))) []) (.lst (wdD [111] :: xq)) (.ref pn):=rep_lst (SqL.of (erG_get (((sB.trans s15).trans ((h1.trans h2).trans h23)).free hpn) (by simp) upd_same)) (by simp; omega) (Reps.cons rw4 (r3.mono (erG_up g4)))
  generalize upd F3 pn (.lst ([V.ref pw]++ys))=F4 at s16 rx6E ⊢
  have rx6:=rx6E.mono erG_in
  have hpl6:∀ x ∈ wdD [111] :: xq,x=wdD [111]∨∃ k,1≤k∧k≤c∧x=plD k:=fun x hx=>by
   rcases List.mem_cons.mp hx with rfl | hx
   ·exact .inl rfl
   ·exact .inr (p2 x hx)
  have nd6:∀ x ∈ wdD [111] :: xq,Nd (S.map fun s=>(s.n,s.c)) c 12 x:=fun x hx=>(plc (S:=S) (by decide) (hpl6 x hx)).1 _
  dsimp only [gName]
  refine ⟨_,rfl,_,rfl,_,rfl,_,_,c,12,S,_,_,rfl,by decide,hc,rS.mono s16,sok.w,rx6,nd6,c10,wz nd6,fun p7 r7 F5 s7 fr7 kp7 kr7=>?_⟩
  refine ⟨p7,_,rfl,SqT.of kp7,rfl,_,_,rfl,_,_,rfl,rfl,?_⟩
  have sm:∀ y ∈ rowL S c 12 (wdD [111] :: xq),y≤12:=fun y hy=>by
   unfold rowL rwL at hy
   obtain ⟨j,_,rfl⟩:=List.mem_map.mp hy
   have:=sum_le1 (f:=szR S j 12) (l:=wdD [111] :: xq) fun x hx=>(plc (S:=S) (by decide) (hpl6 x hx)).2.2 j
   rw [List.length_cons] at this
   omega
  have nd6':∀ x ∈ wdD [111] :: xq,Nd (S.map fun s=>(s.n,s.c)) c (11+1) x:=nd6
  have cz:calL S 12 (wdD [111] :: xq)=0:=cal_zero fun x hx=>by
   rcases hpl6 x hx with rfl | ⟨k,_,_,rfl⟩
   ·rfl
   ·rfl
  refine key _ _ ⟨pn,r7,_,_,_,rfl,s16.trans s7,(sB.trans s16).free fr7,rx6E.mono (erG_up s7),by simp; omega,nd6,kr7,rwL_len _ _,fun y hy=>⟨row_nn nn nd6 y hy,by have:=sm y hy; omega⟩,rfl,fun k h1 h2=>?_,?_,by rw [cz]; decide,by rw [calls_cons,calls_wd,calls_pls p2]; decide⟩
  ·unfold rowL
   rw [rw_getD h2]
   exact pl_one (d:=11) nn nd6' (List.mem_cons_of_mem _ (pz2 k h1 (by omega)))
  ·have:=sum_small sm
   have hl9:(rowL S c 12 (wdD [111] :: xq)).length=c+1:=rwL_len _ _
   omega
 
theorem pick8 (n:Nat) (h:n < 8) : ∃ c:Nat,c≤9∧atI [V.int 0,V.int 0,V.int 1,V.int 1,V.int 2,V.int 3,V.int 5,V.int 9] (n:Int)=some (V.int (c:Int)):=by
 match n,h with
 | 0,_=>exact ⟨0,by decide,rfl⟩
 | 1,_=>exact ⟨0,by decide,rfl⟩
 | 2,_=>exact ⟨1,by decide,rfl⟩
 | 3,_=>exact ⟨1,by decide,rfl⟩
 | 4,_=>exact ⟨2,by decide,rfl⟩
 | 5,_=>exact ⟨3,by decide,rfl⟩
 | 6,_=>exact ⟨5,by decide,rfl⟩
 | 7,_=>exact ⟨9,by decide,rfl⟩
theorem cut_len {α:Type} (ns:List α) (lo hi:Option Int) : (cutL ns lo hi).length≤ns.length:=by
 unfold cutL
 rw [List.length_take,List.length_drop]
 omega

def sp_l_shorts (K:PySem.W.Frag) : Sp:=fun vs H Q _=>∃ (sa:Addr) (ns:List Int) (m per:Nat),vs=[.ref sa,.int (m:Int),.int (per:Int)]∧SqL K H sa (ns.map V.int)∧ns.length≤63∧1≤m∧m≤4∧per≤63 ∧
  ∀ p H' S,Same H H'→H p=none→(∃ vs,H' p=some (.lst vs)∧Reps K H' (S.map shD) vs)→ShOk S→S.length=m→Q (.ref p) H'
theorem sc_l_shorts:FnScope ["script","many","per","first","names","shorts","j","cells","count"] ["script","many","per"] (defScope s_l_shorts):=⟨rfl,rfl,rfl,by decide +kernel,rfl,by decide +kernel,by decide +kernel⟩
theorem ok_l_shorts (T:Txt P w K mg a) : FnOk P w K mg base CX0 47 a.f_l_shorts a.fd_l_shorts ["script","many","per"] (sp_l_shorts K):=by
 have g_l_cell_at:=ok_l_cell_at (P:=P) (w:=w) (base:=base) T
 have d_l_cell_at:=T.d_l_cell_at
 have g_l_draw:=ok_l_draw (P:=P) (w:=w) (base:=base) T
 have d_l_draw:=T.d_l_draw
 have g_l_names:=ok_l_names (P:=P) (w:=w) (base:=base) T
 have d_l_names:=T.d_l_names
 have g_l_nodes:=ok_l_nodes (P:=P) (w:=w) (base:=base) T
 have d_l_nodes:=T.d_l_nodes
 have g_l_short:=ok_l_short (P:=P) (w:=w) (base:=base) T
 have d_l_short:=T.d_l_short
 have z_range:=T.z_range
 refine T.d_l_shorts.fn.ok sc_l_shorts (fun vs H Q E h=>?_) (fun cdv A outer s H vs Q E hr h=>?_)
 ·obtain ⟨sa,ns,m,per,rfl,_⟩:=h
  rfl
 obtain ⟨sa,ns,m,per,rfl,hS,h63,hm1,hm4,hper,q⟩:=h
 have hu:=Nat.lt_of_succ_lt (hu_of hr)
 refine ⟨_,(pss_cons (ps_set (i:=3) sc_l_shorts.nd rfl (Or.inl rfl) (pe_callD d_l_cell_at g_l_cell_at (hr.mono (by decide)) rfl (pa_cons (pv 0) (pa_cons pe_int pa_nil))))
   (pss_cons (ps_set (i:=4) sc_l_shorts.nd rfl (Or.inl rfl) (pe_callD d_l_names g_l_names (hr.mono (by decide)) rfl (pa_cons (pv 3) (pa_cons (pv 1) pa_nil))))
   (pss_cons (ps_set (i:=5) sc_l_shorts.nd rfl (Or.inl rfl) (pe_lst pa_nil))
   (pss_cons (ps_for PassesOwn.never rfl (pi_range1 rfl z_range (pa_cons (pv 1) pa_nil)) (pg_name (i:=6) sc_l_shorts.nd rfl (Or.inl rfl)) (pss_cons (ps_set (i:=7) sc_l_shorts.nd rfl (Or.inl rfl) (pe_slice sl_list (pv 0) (po_some (pe_op op_add pe_int (pe_op op_mul (pv 6) (pv 2)))) (po_some (pe_op op_add pe_int (pe_op op_mul (pe_op op_add (pv 6) pe_int) (pv 2))))))
   (pss_cons (@ps_pick _ 8 _ _ _ _ _ _ _ _ _ sc_l_shorts.nd rfl (Or.inl rfl) (CL.int (CL.int (CL.int (CL.int (CL.int (CL.int (CL.int (CL.int CL.nil)))))))) (pe_callD d_l_draw g_l_draw (hr.mono (by decide)) rfl (pa_cons (pv 3) (pa_cons (pe_op op_add pe_int (pv 6)) (pa_cons pe_int pa_nil)))) (fun _ _=>rfl) (by first | exact .inl rfl | exact .inr rfl))
   (pss_cons (ps_if (pt_cmpR op_eq (pe_callD d_l_draw g_l_draw (hr.mono (by decide)) rfl (pa_cons (pv 3) (pa_cons (pe_op op_add pe_int (pv 6)) (pa_cons pe_int pa_nil)))) pe_int (nomark _)) (pss_one (ps_set (i:=7) sc_l_shorts.nd rfl (Or.inl rfl) (pe_lst pa_nil))) pss_nil)
   (pss_one (ps_expr (pe_bm PySem.F.plainAttrs_list PySem.F.slot_list_append PySem.F.type_list_append mt_append (pv 5) (pa_cons (pe_callD d_l_short g_l_short (hr.mono (by decide)) rfl (pa_cons (pv 5) (pa_cons (pe_ix ix_list (pv 4) (pv 6) (fun _ _=>rfl)) (pa_cons (pv 8) (pa_cons (pe_callD d_l_nodes g_l_nodes (hr.mono (by decide)) rfl (pa_cons (pv 7) (pa_cons (pv 5) (pa_cons (pv 8) pa_nil)))) pa_nil))))) pa_nil))))))))
   (pss_one (ps_ret (pv 5))))))),?_⟩
 refine ⟨_,rfl,sa,ns,0,rfl,hS,?_⟩
 generalize ns.getD 0 0=c0
 refine ⟨_,rfl,_,rfl,c0,m,rfl,hm1,by omega,fun pn H1 nms hpn s1 NM kn=>?_⟩
 dsimp only [gName]
 refine ⟨small (by simp),fun pS hpS=>?_⟩
 have g2:=same_new hpS (.lst [])
 have k2:upd H1 pS (.lst []) pS=some (.lst []):=upd_same
 generalize upd H1 pS (.lst [])=H2 at g2 k2 ⊢
 have s2:=s1.trans g2
 have kn2:=g2 _ _ kn
 have fS:=s1.free hpS
 have nSn:pn≠pS:=ne_of_none kn hpS
 refine ⟨_,rfl,_,rfl,by omega,by omega,for_range (fun j σ G=>∃ (v6 v7 v8:Option V) (vs:List V) (S:List Sh),σ=[some (.ref sa),some (.int (m:Int)),some (.int (per:Int)),some (.int c0),some (.ref pn),some (.ref pS),v6,v7,v8]∧Same H G∧G pn=some (.lst ((nms.map tx).map V.str))∧G pS=some (.lst vs)∧Reps K (erG H G [pS]) (S.map shD) vs∧ShOk S∧S.length=j∧S.map Sh.n=nms.take j) ⟨none,none,none,[],[],rfl,s2,kn2,k2,Reps.nil,⟨List.nodup_nil,by simp,(fun s h=>by cases h),(fun s h=>by cases h),(fun s h=>by cases h),(fun s h=>by cases h),(fun s h=>by cases h),⟨⟨List.nodup_nil,by simp,(fun i s h=>by simp at h),(fun s h=>by cases h),(fun s h=>by cases h),(fun s h=>by cases h),(fun s h=>by cases h)⟩,(fun i s h=>by simp at h)⟩,(fun s h=>by cases h),(fun s h=>by cases h)⟩,rfl,rfl⟩ ?_ ?_⟩
 ·rintro j σ G hj ⟨v6,v7,v8,vs,S,rfl,sG,knG,kS,rS,sok,sl,sn⟩
  have hj4:j < m:=by omega
  have nl:=NM.len
  have hjn:j < nms.length:=by omega
  have ejn:nms[j]? = some nms[j]:=List.getElem?_eq_getElem hjn
  have isn:=NM.name j hj4
  have enm:nm nms j=nms[j]:=by unfold nm; rw [List.getD_eq_getElem?_getD,ejn]; rfl
  rw [enm] at isn
  have nlen:=name_len isn
  generalize nms[j]=nj at ejn isn nlen
  refine ⟨_,rfl,_,rfl,_,rfl,_,_,rfl,rfl,.inl ⟨by omega,by omega⟩,_,_,rfl,rfl,_,rfl,_,rfl,_,_,rfl,rfl,_,rfl,_,_,rfl,rfl,.inl ⟨by omega,by omega⟩,_,_,rfl,rfl,_,rfl,_,_,rfl,sG.seq hS,fun p2 hp2=>?_⟩
  rw [cutV_map]
  obtain ⟨cs,ecs,csl⟩ : ∃ cs,cs=cutL ns (some (1+(0+(j:Int)) * (per:Int))) (some (1+((0+(j:Int))+1) * (per:Int)))∧cs.length≤63:=⟨_,rfl,by have:=cut_len ns (some (1+(0+(j:Int)) * (per:Int))) (some (1+((0+(j:Int))+1) * (per:Int))); omega⟩
  rw [← ecs]
  have g3:=same_new hp2 (.lst (cs.map V.int))
  have k3:upd G p2 (.lst (cs.map V.int)) p2=some (.lst (cs.map V.int)):=upd_same
  generalize upd G p2 (.lst (cs.map V.int))=G3 at g3 k3 ⊢
  clear ecs
  dsimp only [gName]
  refine ⟨small (by simp),fun p3 hp3=>?_⟩
  have g4:=same_new hp3 (.lst [V.int 0,V.int 0,V.int 1,V.int 1,V.int 2,V.int 3,V.int 5,V.int 9])
  have k4:upd G3 p3 (.lst [V.int 0,V.int 0,V.int 1,V.int 1,V.int 2,V.int 3,V.int 5,V.int 9]) p3=some (.lst [V.int 0,V.int 0,V.int 1,V.int 1,V.int 2,V.int 3,V.int 5,V.int 9]):=upd_same
  generalize upd G3 p3 (.lst [V.int 0,V.int 0,V.int 1,V.int 1,V.int 2,V.int 3,V.int 5,V.int 9])=G4 at g4 k4 ⊢
  obtain ⟨n8,e8,h8⟩:=draw_nat c0 (30+(0+(j:Int))) (show 0 < 8 by decide)
  have e8:draw c0 (30+(0+(j:Int))) 8=(n8:Int):=e8
  obtain ⟨cc,c9,ecc⟩:=pick8 n8 h8
  refine ⟨_,rfl,_,rfl,_,_,rfl,rfl,c0,_,8,rfl,⟨by omega,by omega⟩,by decide,_,_,_,_,rfl,rfl,SqL.of k4,by rw [e8]; exact ecc,?_⟩
  dsimp only [gName]
  have g34:=g3.trans g4
  refine cut_seq (fun σ' G'=>∃ (ca:Addr) (cs:List Int),σ' = [some (.ref sa),some (.int (m:Int)),some (.int (per:Int)),some (.int c0),some (.ref pn),some (.ref pS),some (.int (0+(j:Int))),some (.ref ca),some (.int (cc:Int))]∧Same G G'∧G' ca=some (.lst (cs.map V.int))∧cs.length≤63) ?_ (fun key=>?_)
  ·rintro σ' G5 ⟨ca,cs,rfl,s5,kca,csl⟩
   have kS5:=s5 _ _ kS
   have rS5:=rS.mono (erG_up (H0:=H) (os:=[pS]) s5)
   have sl4:=sok.len
   have rF:∀ {G':Hp},Same G5 G'→Rep K G' (.lst (S.map shD)) (.ref pS):=fun s=>rep_lst (SqL.of (s _ _ kS5)) (by rw [List.length_map]; omega) ((rS5.mono erG_in).mono s)
   refine ⟨_,rfl,.inl ⟨rfl,_,SqL.of kS5⟩,_,rfl,_,rfl,_,rfl,_,_,_,_,rfl,rfl,SqL.of (s5 _ _ knG),at0 (by rw [List.getElem?_map,List.getElem?_map,ejn]; rfl),_,rfl,_,rfl,_,rfl,_,rfl,ca,pS,cs,_,cc,rfl,SqL.of kca,csl,menu_of (rF (Same.refl _)),mok_of sok.w,c9,fun p6 G6 xs s6 fp6 hvs xl ndx clx=>?_⟩
   refine ⟨G5,pS,S,nj,cc,xs,p6,rfl,c9,rF s6,sok,s6,hvs,xl,ndx,clx,fun v G7 sh s7 rv e1 e2 e3 e4 e4a e4b e4c e4d e4e e5 e6=>?_⟩
   have s57:=s6.trans s7
   have kS7:=s57 _ _ kS5
   have vl:=rS5.len
   rw [List.length_map] at vl
   refine ⟨pS,_,_,rfl,rfl,kS7,small1000 (by omega),?_⟩
   have sH5:=sG.trans s5
   have nPn:pn≠pS:=nSn
   refine ⟨_,_,_,vs++[v],S++[sh],rfl,(sH5.trans s57).put fS,by rw [upd_ne nPn]; exact (s5.trans s57) _ _ knG,upd_same,?_,?_,by rw [List.length_append,sl]; rfl,?_⟩
   ·rw [List.map_append]
    refine (rS5.mono (erG_step (fun b o nb _ hb=>by rw [upd_ne (by simpa using nb)]; exact s57 _ _ hb) fun b hb=>.inl hb)).snoc (rv.mono fun b o hb=>?_)
    obtain ⟨⟨_,b0⟩,b1⟩:=erG_of hb
    have nb:b≠pS:=Ne.symm (ne_of_none kS5 b0)
    exact erG_get (sH5.free b0) (by simpa using nb) (by rw [upd_ne nb]; exact b1)
   ·have em:(S++[sh]).map Sh.n=nms.take (j+1):=by rw [List.map_append,sn,List.take_add_one,ejn]; show _++[sh.n]=_; rw [e1]; rfl
    have mem:∀ {P:Sh→Prop},(∀ s ∈ S,P s)→P sh→∀ s ∈ S++[sh],P s:=fun h1 h2 s hs=>by
     rcases List.mem_append.mp hs with hs | hs
     ·exact h1 s hs
     ·rw [List.mem_singleton.mp hs]; exact h2
    exact ⟨by rw [em]; exact (names_nd NM).sublist (List.take_sublist _ _),by rw [List.length_append,List.length_singleton]; omega,mem sok.row (by rw [e3,e2]),mem sok.c9 (by rw [e2]; exact c9),mem sok.nam (by rw [e1]; exact ⟨nlen.1,nlen.2.2⟩),mem sok.r4 e4,mem sok.nod ⟨e5,_,by rw [e2]; exact e6⟩,sok.o.snoc (by rw [em]; exact (names_nd NM).sublist (List.take_sublist _ _)) (by omega) (by rw [e2]; exact e6) (by rw [e2]; exact e4a) (by rw [e2]; exact e4b) (fun y hy=>(e4 y hy).1) e4c,mem sok.k6 e4d,mem sok.cls e4e⟩
   ·rw [List.map_append,sn,List.take_add_one,ejn]
    show _++[sh.n]=_
    rw [e1]
    rfl
  ·refine ⟨_,rfl,_,rfl,_,_,rfl,rfl,c0,_,5,rfl,⟨by omega,by omega⟩,by decide,rfl,_,rfl,?_⟩
   refine ite2 (fun _=>?_) (fun _=>key _ _ ⟨p2,cs,rfl,g34,g4 _ _ k3,csl⟩)
   refine ⟨small (by simp),fun p5 hp5=>?_⟩
   exact key _ _ ⟨p5,[],rfl,g34.trans (same_new hp5 _),upd_same,by simp⟩
 ·rintro σ G ⟨v6,v7,v8,vs,S,rfl,sG,knG,kS,rS,sok,sl,sn⟩
  exact ⟨_,rfl,q pS G S sG fS ⟨vs,kS,rS.mono erG_in⟩ sok (by omega)⟩

theorem sc_l_sound:FnScope ["shorts","nodes","count","node","fit","argument"] ["shorts","nodes","count"] (defScope s_l_sound):=⟨rfl,rfl,rfl,by decide +kernel,rfl,by decide +kernel,by decide +kernel⟩
def sp_snd (K:PySem.W.Frag) (n:Nat) : Sp:=fun vs H Q _=>∃ (sv xv:V) (S:List Sh) (xs:List DD) (c d:Nat),vs=[sv,xv,.int (c:Int)]∧d < n∧Rep K H (.lst (S.map shD)) sv∧(S.map Sh.n).Nodup∧S.length≤100∧Rep K H (.lst xs) xv∧(∀ x ∈ xs,Nd (menuS S) c d x)∧∀ H',Same H H'→Q (.bl true) H'
theorem ok_l_sound_n (T:Txt P w K mg a) : ∀ n:Nat,FnOk P w K mg base CX0 (n+4) a.f_l_sound a.fd_l_sound ["shorts","nodes","count"] (sp_snd K n)
 | 0=>⟨fun vs H Q E h=>(by obtain ⟨sv,xv,S,xs,c,d,_,h1,_⟩:=h; omega),fun A outer s H args us vs Q E _ _ _ _ h=>(by obtain ⟨sv,xv,S,xs,c,d,_,h1,_⟩:=h; omega)⟩
 | n+1=>by
  have g_l_sound:=ok_l_sound_n T n
  have d_l_sound:=T.d_l_sound
  have z_bool:=T.z_bool
  have z_int:=T.z_int
  have z_isinstance:=T.z_isinstance
  have z_len:=T.z_len
  have z_list:=T.z_list
  have z_str:=T.z_str
  have z_tuple:=T.z_tuple

  refine T.d_l_sound.fn.ok sc_l_sound (fun vs H Q E h=>?_) (fun cdv A outer s H vs Q E hr h=>?_)
  ·obtain ⟨sv,xv,S,xs,c,d,rfl,_⟩:=h
   rfl
  obtain ⟨sv,xv,S,xs,c,d,rfl,hd,rS,ndS,sl100,rx,ndx,q⟩:=h
  have hu:=Nat.lt_of_succ_lt (hu_of hr)
  refine ⟨_,(pss_cons (ps_if (pt_not (pt_val (pe_callB call_isi rfl z_isinstance PyProof.Rows.boot_isinstance (pa_cons (pv 1) (pa_cons (pe_bltn (v:=.ty "list") rfl z_list PyProof.Rows.boot_list rfl) pa_nil))) (fun _=>rfl))) (pss_one (ps_ret pe_bl)) pss_nil)
   (pss_cons (ps_for PassesOwn.never rfl (pi_list (pv 1)) (pg_name (i:=3) sc_l_sound.nd rfl (Or.inr rfl)) (pss_cons (ps_if (PW.pt (pw_or (pt_not (pt_val (pe_callB call_isi rfl z_isinstance PyProof.Rows.boot_isinstance (pa_cons (pv 3) (pa_cons (pe_bltn (v:=.ty "tuple") rfl z_tuple PyProof.Rows.boot_tuple rfl) pa_nil))) (fun _=>rfl))) (pw_or1 (pt_cmpR op_lt (pe_callB call_len_seq rfl z_len PySem.boot_len (pa_cons (pv 3) pa_nil)) pe_int (nomark _))))) (pss_one (ps_ret pe_bl)) pss_nil)
   (pss_one (ps_if (pt_cmpR op_eq (pe_ix ix_tup (pv 3) pe_int (fun _ _=>rfl)) pe_str (nomark _)) (pss_cons (ps_lc (k:=4) rfl (lcok (caps:=["node"]) (js:=[3]) (cap:=⟨⟨rfl,.inl rfl,rfl,.inl rfl⟩,trivial⟩)) (pi_list (pv 0)) (fun _ _ _ _=>(pts_one (pt_cmpR op_eq (pe_ix (r:=rIxT K) ix_tup (pv 0) pe_int (fun _ _=>rfl)) (pe_ix (r:=rIxT K) ix_tup (pv 1) pe_int (fun _ _=>rfl)) (nomark _)))) (fun _ _ _ _=>(pv 0)) sc_l_sound.nd rfl rfl)
   (pss_cons (ps_if (PW.pt (pw_or (pt_cmpR op_ne (pe_callB call_len_seq rfl z_len PySem.boot_len (pa_cons (pv 3) pa_nil)) pe_int (nomark _)) (pw_or (pt_cmpR (op_eqNil hu) (pv 4) (pe_lst pa_nil) (nomark _)) (pw_or (pt_not (pt_val (pe_callB call_isi rfl z_isinstance PyProof.Rows.boot_isinstance (pa_cons (pe_ix ix_tup (pv 3) pe_int (fun _ _=>rfl)) (pa_cons (pe_bltn (v:=.ty "list") rfl z_list PyProof.Rows.boot_list rfl) pa_nil))) (fun _=>rfl))) (pw_or1 (pt_cmpR op_ne (pe_callB call_len_seq rfl z_len PySem.boot_len (pa_cons (pe_ix ix_tup (pv 3) pe_int (fun _ _=>rfl)) pa_nil)) (pe_ix ix_tup (pe_ix ix_list (pv 4) pe_int (fun _ _=>rfl)) pe_int (fun _ _=>rfl)) (nomark _))))))) (pss_one (ps_ret pe_bl)) pss_nil)
   (pss_one (ps_for PassesOwn.never rfl (pi_list (pe_ix ix_tup (pv 3) pe_int (fun _ _=>rfl))) (pg_name (i:=5) sc_l_sound.nd rfl (Or.inl rfl)) (pss_one (ps_if (pt_not (pt_val (pe_callD d_l_sound g_l_sound hr rfl (pa_cons (pv 0) (pa_cons (pv 5) (pa_cons (pv 2) pa_nil)))) (fun _=>rfl))) (pss_one (ps_ret pe_bl)) pss_nil)))))) (pss_one (ps_if (pt_cmpR op_eq (pe_ix ix_tup (pv 3) pe_int (fun _ _=>rfl)) pe_str (nomark _)) (pss_cons (ps_if (PW.pt (pw_or (pt_cmpR op_ne (pe_callB call_len_seq rfl z_len PySem.boot_len (pa_cons (pv 3) pa_nil)) pe_int (nomark _)) (pw_or (pt_val (pe_callB call_isi rfl z_isinstance PyProof.Rows.boot_isinstance (pa_cons (pe_ix ix_tup (pv 3) pe_int (fun _ _=>rfl)) (pa_cons (pe_bltn (v:=.ty "bool") rfl z_bool PyProof.Rows.boot_bool rfl) pa_nil))) (fun _=>rfl)) (pw_or1 (pt_not (pt_val (pe_callB call_isi rfl z_isinstance PyProof.Rows.boot_isinstance (pa_cons (pe_ix ix_tup (pv 3) pe_int (fun _ _=>rfl)) (pa_cons (pe_bltn (v:=.ty "int") rfl z_int PyProof.Rows.boot_int rfl) pa_nil))) (fun _=>rfl))))))) (pss_one (ps_ret pe_bl)) pss_nil)
   (pss_one (ps_if (pt_not (pt_chain op_le op_le pe_int (pe_ix ix_tup (pv 3) pe_int (fun _ _=>rfl)) (pv 2))) (pss_one (ps_ret pe_bl)) pss_nil))) (pss_one (ps_if (PW.pt (pw_or (pt_cmpR op_ne (pe_ix ix_tup (pv 3) pe_int (fun _ _=>rfl)) pe_str (nomark _)) (pw_or (pt_cmpR op_ne (pe_callB call_len_seq rfl z_len PySem.boot_len (pa_cons (pv 3) pa_nil)) pe_int (nomark _)) (pw_or1 (pt_not (pt_val (pe_callB call_isi rfl z_isinstance PyProof.Rows.boot_isinstance (pa_cons (pe_ix ix_tup (pv 3) pe_int (fun _ _=>rfl)) (pa_cons (pe_bltn (v:=.ty "str") rfl z_str PyProof.Rows.boot_str rfl) pa_nil))) (fun _=>rfl))))))) (pss_one (ps_ret pe_bl)) pss_nil))))))))
   (pss_one (ps_ret pe_bl)))),?_⟩
  obtain ⟨sa,us,rfl,ssa,_,rus⟩:=rS.lstO
  have ul:=rus.len
  rw [List.length_map] at ul
  have rx':=rx
  obtain ⟨xa,vs0,rfl,sx,_,rxs⟩:=rx'.lstO
  have xl:=rxs.len
  refine ⟨_,rfl,_,"list",true,rfl,by decide,rx.isi "list",_,rfl,?_⟩
  refine iteF ?_
  refine ⟨_,rfl,xa,rfl,⟨_,sx⟩,for_list (K:=K) (a:=xa) (xs:=vs0) (fun k σ G=>∃ (v3 v4 v5:Option V),σ=[some (.ref sa),some (.ref xa),some (.int (c:Int)),v3,v4,v5]∧Same H G) ⟨none,none,none,rfl,Same.refl _⟩ (fun k σ G _ z=>by obtain ⟨_,_,_,_,s1⟩:=z; exact s1.seq sx) ?_ ?_⟩
  ·rintro k y σ G hy ⟨v3,v4,v5,rfl,sg⟩
   obtain ⟨x0,e0,r0⟩:=rxs.getR hy
   have nd0:=ndx x0 (List.mem_of_getElem? e0)
   obtain ⟨e,rfl⟩:=nd0.pos
   rcases nd0.out with ⟨w',rfl⟩ | ⟨pk,hp1,hp2,rfl⟩ | ⟨nm',as,rfl,hM,has⟩
   ·obtain ⟨ta,zs,rfl,st,_,rz⟩:=id r0.tupO
    obtain ⟨z0,z1,rfl,y0,y1⟩:=Reps.two rz
    rw [y0.strO,y1.strO] at st
    have st1:=sg.tup st
    refine ⟨_,rfl,_,"tuple",true,rfl,by decide,(r0.mono sg).isi "tuple",_,rfl,?_⟩
    refine iteF ?_
    refine ⟨_,rfl,_,_,rfl,.inr st1,_,_,rfl,rfl,_,rfl,?_⟩
    refine ite2 (fun z=>absurd (of_decide_eq_true z) (by simp)) (fun _=>?_)
    refine ⟨_,rfl,_,_,_,_,rfl,rfl,st1,rfl,rfl,_,rfl,?_⟩
    rw [decide_eq_false strNe4]
    refine iteF ?_
    refine ⟨_,rfl,_,_,_,_,rfl,rfl,st1,rfl,rfl,_,rfl,?_⟩
    rw [decide_eq_false strNe6]
    refine iteF ?_
    refine ⟨_,rfl,_,_,_,_,rfl,rfl,st1,rfl,rfl,_,rfl,?_⟩
    rw [decide_eq_true rfl]
    refine iteF ?_
    refine ⟨_,rfl,_,_,rfl,.inr st1,rfl,_,rfl,?_⟩
    refine iteF ?_
    refine ⟨_,rfl,_,_,_,_,rfl,rfl,st1,rfl,_,"str",true,rfl,by decide,(rep_str (tx w')).isi "str",_,rfl,?_⟩
    refine iteF ?_
    exact ⟨_,_,_,rfl,sg⟩
   ·obtain ⟨ta,zs,rfl,st,_,rz⟩:=id r0.tupO
    obtain ⟨z0,z1,rfl,y0,y1⟩:=Reps.two rz
    rw [y0.strO,y1.intO] at st
    have st1:=sg.tup st
    refine ⟨_,rfl,_,"tuple",true,rfl,by decide,(r0.mono sg).isi "tuple",_,rfl,?_⟩
    refine iteF ?_
    refine ⟨_,rfl,_,_,rfl,.inr st1,_,_,rfl,rfl,_,rfl,?_⟩
    refine ite2 (fun z=>absurd (of_decide_eq_true z) (by simp)) (fun _=>?_)
    refine ⟨_,rfl,_,_,_,_,rfl,rfl,st1,rfl,rfl,_,rfl,?_⟩
    rw [decide_eq_false strNe5]
    refine iteF ?_
    refine ⟨_,rfl,_,_,_,_,rfl,rfl,st1,rfl,rfl,_,rfl,?_⟩
    rw [decide_eq_true rfl]
    refine iteT ?_
    refine ⟨_,rfl,_,_,rfl,.inr st1,rfl,_,rfl,?_⟩
    refine iteF ?_
    refine ⟨_,rfl,_,_,_,_,rfl,rfl,st1,rfl,_,"bool",false,rfl,by decide,(rep_int (K:=K) (H:=G) (pk:Int)).isi "bool",_,rfl,?_⟩
    refine iteF ?_
    refine ⟨_,rfl,_,_,_,_,rfl,rfl,st1,rfl,_,"int",true,rfl,by decide,(rep_int (K:=K) (H:=G) (pk:Int)).isi "int",_,rfl,?_⟩
    refine iteF ?_
    refine ⟨_,rfl,_,_,_,_,rfl,rfl,st1,rfl,_,_,rfl,rfl,_,rfl,?_⟩
    rw [decide_eq_true (show (1:Int)≤(pk:Int) by omega)]
    refine iteT ?_
    refine ⟨_,rfl,_,_,rfl,rfl,_,rfl,?_⟩
    rw [decide_eq_true (show (pk:Int)≤(c:Int) by omega)]
    refine iteF ?_
    exact ⟨_,_,_,rfl,sg⟩
   ·obtain ⟨ta,zs,rfl,st,_,rz⟩:=id r0.tupO
    obtain ⟨z0,z1,z2,rfl,y0,y1,y2⟩:=Reps.three rz
    rw [y0.strO,y1.strO] at st
    obtain ⟨la,ys,rfl,sl,_,rl⟩:=y2.lstO
    have yl:=rl.len
    rw [List.length_map] at yl
    have st1:=sg.tup st
    have stg:=st1
    refine ⟨_,rfl,_,"tuple",true,rfl,by decide,(r0.mono sg).isi "tuple",_,rfl,?_⟩
    refine iteF ?_
    refine ⟨_,rfl,_,_,rfl,.inr st1,_,_,rfl,rfl,_,rfl,?_⟩
    refine ite2 (fun z=>absurd (of_decide_eq_true z) (by simp)) (fun _=>?_)
    refine ⟨_,rfl,_,_,_,_,rfl,rfl,st1,rfl,rfl,_,rfl,?_⟩
    rw [decide_eq_true rfl]
    refine iteT ?_
    obtain ⟨j,s,hj,ej,hs,en,ec,hF⟩:=call_of (i:=S.length) ndS (by rw [List.take_of_length_le (Nat.le_refl _)]; exact hM)
    refine ⟨_,rfl,sa,rfl,⟨_,sg.seq ssa⟩,lc_list (K:=K) (a:=sa) (xs:=us) (fun i ys G'=>G' = G∧FitAt K H (S.take i) (tx nm') ys) ⟨rfl,by rw [List.take_zero]; exact ⟨Nat.le_refl _,fun _=>rfl,fun s z=>by cases z⟩⟩ (fun i ys G' _ z=>by rw [z.1]; exact sg.seq ssa) ?_ ?_ ?_⟩
    ·rintro i ys G' hi ⟨_,f1,_⟩
     rw [List.length_take] at f1
     exact small1000 (by omega)
    ·rintro i y ys G' hy ⟨eG,fit⟩
     rw [eG]
     obtain ⟨d1,e1,r1⟩:=rus.getR hy
     rw [List.getElem?_map] at e1
     obtain ⟨t,e2,rfl⟩:=Option.map_eq_some_iff.mp e1
     obtain ⟨tb,ws,rfl,st1,_,rw1⟩:=id r1.tupO
     have hw0:ws[0]? = some (V.str (tx t.n)):=by
      obtain ⟨x,h1,h2⟩:=rw1.get (i:=0) (d:=.str (tx t.n)) rfl
      rw [h1,h2.strO]
     refine ⟨_,rfl,_,_,_,_,rfl,rfl,sg.tup st1,atI_nat hw0,_,rfl,_,_,_,_,rfl,rfl,stg,rfl,rfl,_,rfl,?_⟩
     by_cases en:tx t.n=tx nm'
     ·rw [decide_eq_true (by rw [en])]
      refine iteT ?_
      exact ⟨_,rfl,rfl,fit.yes e2 en r1⟩
     ·rw [decide_eq_false (fun z=>en (V.str.inj z))]
      refine iteF ?_
      exact ⟨rfl,fit.no e2 en⟩
    rintro ys_ G' ⟨eG,fit⟩ pf hpf
    rw [eG] at hpf ⊢
    clear eG G'
    rw [ul,List.take_of_length_le (Nat.le_refl _)] at fit
    dsimp only [gName]
    have gf:=same_new hpf (.lst ys_)
    have sgf:=sg.trans gf
    have kf:upd G pf (.lst ys_) pf=some (.lst ys_):=upd_same
    generalize upd G pf (.lst ys_)=G1 at gf sgf kf ⊢
    obtain ⟨v,r,rfl,rv⟩:=fit.2.2 s hF
    refine ⟨_,rfl,_,_,rfl,.inr (sgf.tup st),rfl,_,rfl,?_⟩
    refine iteF ?_
    refine ⟨_,rfl,small (by simp),fun p1 hp1=>?_⟩
    have g1:=same_new hp1 (.lst [])
    have s2:=sgf.trans g1
    have kf2:=g1 _ _ kf
    have k1:upd G1 p1 (.lst []) p1=some (.lst []):=upd_same
    generalize upd G1 p1 (.lst [])=G2 at g1 s2 kf2 k1 ⊢
    refine ⟨_,_,v :: r,rfl,rfl,SqL.of kf2,SqL.of k1,_,rfl,?_⟩
    refine iteF ?_
    refine ⟨_,rfl,_,_,_,_,rfl,rfl,s2.tup st,rfl,_,"list",true,rfl,by decide,(y2.mono s2).isi "list",_,rfl,?_⟩
    refine iteF ?_
    obtain ⟨tv,us2,rfl,stv,_,ru2⟩:=rv.tupO
    have hu1:us2[1]? = some (V.int (s.c:Int)):=by
     obtain ⟨x,h1,h2⟩:=ru2.get (i:=1) (d:=.int (s.c:Int)) rfl
     rw [h1,h2.intO]
    refine ⟨_,rfl,_,_,_,_,rfl,rfl,s2.tup st,rfl,_,_,rfl,.inl (s2.seq sl),_,rfl,_,_,_,_,rfl,rfl,SqL.of kf2,atI_nat (j:=0) rfl,_,_,_,_,rfl,rfl,s2.tup stv,atI_nat hu1,rfl,_,rfl,?_⟩
    rw [decide_eq_true (by rw [yl,ec])]
    refine iteF ?_
    refine ⟨_,rfl,_,_,_,_,rfl,rfl,s2.tup st,rfl,la,rfl,⟨_,s2.seq sl⟩,for_list (K:=K) (a:=la) (xs:=ys) (fun j σ G=>∃ (v5:Option V),σ=[some (.ref sa),some (.ref xa),some (.int (c:Int)),some (.ref ta),some (.ref pf),v5]∧Same H G) ⟨v5,rfl,s2⟩ (fun j σ G _ z=>by obtain ⟨_,_,s3⟩:=z; exact s3.seq sl) ?_ ?_⟩
    ·rintro j y σ G hy ⟨v5,rfl,s3⟩
     obtain ⟨dj,ejm,rj⟩:=rl.getR hy
     rw [List.getElem?_map] at ejm
     obtain ⟨aj,eaj,rfl⟩:=Option.map_eq_some_iff.mp ejm
     clear ejm
     have ham:=List.mem_of_getElem? eaj
     refine ⟨_,rfl,_,rfl,_,rfl,.ref sa,y,S,aj,c,e,rfl,by omega,rS.mono s3,ndS,sl100,rj.mono s3,(has aj ham).2,fun G5 s5=>⟨_,rfl,?_⟩⟩
     refine iteF ?_
     exact ⟨_,rfl,s3.trans s5⟩
    ·rintro σ G ⟨v5,rfl,s3⟩
     exact ⟨_,_,_,rfl,s3⟩
  ·rintro σ G ⟨v3,v4,v5,rfl,sg⟩
   exact q G sg
theorem ok_l_sound (T:Txt P w K mg a) : FnOk P w K mg base CX0 45 a.f_l_sound a.fd_l_sound ["shorts","nodes","count"] (sp_snd K (45 - 4)):=ok_l_sound_n T (45 - 4)

theorem sc_calls_in:FnScope ["nodes","calls","node"] ["nodes"] (defScope s_calls_in):=⟨rfl,rfl,rfl,by decide +kernel,rfl,by decide +kernel,by decide +kernel⟩
def sp_ci (K:PySem.W.Frag) (n:Nat) : Sp:=fun vs H Q _=>∃ (xv:V) (xs:List DD) (M:List (Wd0 × Nat)) (c d:Nat),vs=[xv]∧d < n∧Rep K H (.lst xs) xv∧(∀ x ∈ xs,Nd M c d x)∧(∀ m ∈ M,m.2≤10)∧∀ H',Same H H'→Q (.int (callsL xs:Int)) H'
theorem ok_calls_in_n (T:Txt P w K mg a) : ∀ n:Nat,FnOk P w K mg base CX0 (n+4) a.f_calls_in a.fd_calls_in ["nodes"] (sp_ci K n)
 | 0=>⟨fun vs H Q E h=>(by obtain ⟨xv,xs,M,c,d,_,h1,_⟩:=h; omega),fun A outer s H args us vs Q E _ _ _ _ h=>(by obtain ⟨xv,xs,M,c,d,_,h1,_⟩:=h; omega)⟩
 | n+1=>by
  have g_calls_in:=ok_calls_in_n T n
  have d_calls_in:=T.d_calls_in
  have z_sum:=T.z_sum

  refine T.d_calls_in.fn.ok sc_calls_in (fun vs H Q E h=>?_) (fun cdv A outer s H vs Q E hr h=>?_)
  ·obtain ⟨xv,xs,M,c,d,rfl,_⟩:=h
   rfl
  obtain ⟨xv,xs,M,c,d,rfl,hd,rx,ndx,m10,q⟩:=h
  have hu:=Nat.lt_of_succ_lt (hu_of hr)
  refine ⟨_,(pss_cons (ps_set (i:=1) sc_calls_in.nd rfl (Or.inl rfl) pe_int)
   (pss_cons (ps_for PassesOwn.never rfl (pi_list (pv 0)) (pg_name (i:=2) sc_calls_in.nd rfl (Or.inl rfl)) (pss_one (ps_if (pt_cmpR op_eq (pe_ix ix_tup (pv 2) pe_int (fun _ _=>rfl)) pe_str (nomark _)) (pss_one (ps_set (i:=1) sc_calls_in.nd rfl (Or.inl rfl) (pe_op op_add (pe_op op_add (pv 1) pe_int) (pe_callB (call_sum rfl) rfl z_sum PyProof.Rows.boot_sum (pa_cons (pe_lc rfl (lcok (caps:=[]) (js:=[]) (cap:=trivial)) (pi_list (pe_ix ix_tup (pv 2) pe_int (fun _ _=>rfl))) (fun _ _ _ _=>pts_nil) (fun _ _ _ _=>(pe_callD d_calls_in g_calls_in hr rfl (pa_cons (pv 0) pa_nil)))) pa_nil))))) pss_nil)))
   (pss_one (ps_ret (pv 1))))),?_⟩
  obtain ⟨xa,vs0,rfl,sx,_,rxs⟩:=rx.lstO
  have xl:=rxs.len
  refine ⟨_,rfl,xa,rfl,⟨_,sx⟩,for_list (K:=K) (a:=xa) (xs:=vs0) (fun k σ G=>∃ v2:Option V,σ=[some (.ref xa),some (.int (callsL (xs.take k) : Int)),v2]∧Same H G) ⟨none,by rw [List.take_zero,calls_nil]; rfl,Same.refl _⟩ (fun k σ G _ z=>by obtain ⟨_,_,s1⟩:=z; exact s1.seq sx) ?_ ?_⟩
  ·rintro k y σ G hy ⟨v2,rfl,s1⟩
   obtain ⟨x0,e0,r0⟩:=rxs.getR hy
   have nd0:=ndx x0 (List.mem_of_getElem? e0)
   have es:=calls_snoc e0
   obtain ⟨e,rfl⟩:=nd0.pos
   rcases nd0.out with ⟨w',rfl⟩ | ⟨pk,hp1,hp2,rfl⟩ | ⟨nm',as,rfl,hM,has⟩
   ·obtain ⟨ta,zs,rfl,st,_,rz⟩:=id r0.tupO
    obtain ⟨z0,z1,rfl,y0,y1⟩:=Reps.two rz
    rw [y0.strO,y1.strO] at st
    refine ⟨_,rfl,_,_,_,_,rfl,rfl,s1.tup st,rfl,rfl,_,rfl,?_⟩
    rw [decide_eq_false strNe4]
    refine iteF ?_
    rw [calls_wd,Nat.add_zero] at es
    exact ⟨_,by rw [es]; rfl,s1⟩
   ·obtain ⟨ta,zs,rfl,st,_,rz⟩:=id r0.tupO
    obtain ⟨z0,z1,rfl,y0,y1⟩:=Reps.two rz
    rw [y0.strO,y1.intO] at st
    refine ⟨_,rfl,_,_,_,_,rfl,rfl,s1.tup st,rfl,rfl,_,rfl,?_⟩
    rw [decide_eq_false strNe5]
    refine iteF ?_
    rw [calls_pl,Nat.add_zero] at es
    exact ⟨_,by rw [es]; rfl,s1⟩
   ·obtain ⟨ta,zs,rfl,st,_,rz⟩:=id r0.tupO
    obtain ⟨z0,z1,z2,rfl,y0,y1,y2⟩:=Reps.three rz
    rw [y0.strO,y1.strO] at st
    obtain ⟨la,ys,rfl,sl,_,rl⟩:=y2.lstO
    have yl:=rl.len
    rw [List.length_map] at yl
    have a10:as.length≤10:=m10 _ hM
    refine ⟨_,rfl,_,_,_,_,rfl,rfl,s1.tup st,rfl,rfl,_,rfl,?_⟩
    rw [decide_eq_true rfl]
    refine iteT ?_
    refine ⟨_,rfl,_,_,rfl,rfl,_,rfl,_,_,_,_,rfl,rfl,s1.tup st,rfl,la,rfl,⟨_,s1.seq sl⟩,lc_list (K:=K) (a:=la) (xs:=ys) (fun j zs G'=>Same G G'∧zs=((as.take j).map fun a=>(callsL a:Int)).map V.int) ⟨Same.refl _,rfl⟩ (fun j zs G' _ z=>(s1.trans z.1).seq sl) ?_ ?_ ?_⟩
    ·rintro j zs G' hj ⟨_,rfl⟩
     rw [List.length_map,List.length_map,List.length_take]
     exact small1000 (by omega)
    ·rintro j y zs G' hy ⟨s2,rfl⟩
     obtain ⟨dj,ejm,rj⟩:=rl.getR hy
     rw [List.getElem?_map] at ejm
     obtain ⟨aj,eaj,rfl⟩:=Option.map_eq_some_iff.mp ejm
     clear ejm
     have ham:=List.mem_of_getElem? eaj
     refine yes_go ?_
     refine ⟨_,rfl,y,aj,M,c,e,rfl,by omega,rj.mono (s1.trans s2),(has aj ham).2,m10,fun G5 s5=>⟨s2.trans s5,?_⟩⟩
     rw [List.take_add_one,eaj,List.map_append,List.map_append]
     rfl
    rintro zs G' ⟨s2,rfl⟩ p hp
    rw [yl,List.take_of_length_le (Nat.le_refl _)]
    have g3:=same_new hp (.lst ((as.map fun a=>(callsL a:Int)).map V.int))
    refine ⟨p,_,rfl,SqL.of upd_same,_,_,rfl,rfl,?_⟩
    refine ⟨some (V.ref ta),?_,(s1.trans s2).trans g3⟩
    rw [es,calls_cl,callsA_sum]
    exact congrArg (fun z=>[some (V.ref xa),some (V.int z),some (V.ref ta)]) (by omega)
  ·rintro σ G ⟨v2,rfl,s1⟩
   rw [xl,List.take_of_length_le (Nat.le_refl _)]
   exact ⟨_,rfl,q G s1⟩
theorem ok_calls_in (T:Txt P w K mg a) : FnOk P w K mg base CX0 45 a.f_calls_in a.fd_calls_in ["nodes"] (sp_ci K (45 - 4)):=ok_calls_in_n T (45 - 4)

theorem sc_arguments_stepped:FnScope ["named","arguments","at","told","argument"] ["named","arguments","at"] (defScope s_arguments_stepped):=⟨rfl,rfl,rfl,by decide +kernel,rfl,by decide +kernel,by decide +kernel⟩
def sp_st (K:PySem.W.Frag) (n:Nat) : Sp:=fun vs H Q _=>∃ (B:Hp) (na:Addr) (xv:V) (t:Int) (S:List Sh) (xs:List DD) (c d D:Nat),vs=[.ref na,xv,.int t]∧d < n∧Same B H∧NmAt K B na S∧Sh0 S∧(∀ m ∈ menuS S,m.2≤10)∧Rep K B (.lst xs) xv∧(∀ x ∈ xs,Nd (menuS S) c d x)∧d≤21∧lvL xs+callsL xs≤30000∧(∀ z ∈ stL S d t xs,Nd (menuS S) c D z)∧D≤100∧(stL S d t xs).length≤400000 ∧
  ∀ p H' vs,Same H H'→H p=none→H' p=some (.lst vs)→Reps K (mxE B H H' []) (stL S d t xs) vs→Q (.ref p) H'
def sp_as (K:PySem.W.Frag) (n:Nat) : Sp:=fun vs H Q _=>∃ (B:Hp) (na la:Addr) (t:Int) (S:List Sh) (as:List (List DD)) (c d D:Nat),vs=[.ref na,.ref la,.int t]∧d < n∧Same B H∧NmAt K B na S∧Sh0 S∧(∀ m ∈ menuS S,m.2≤10)∧Rep K B (.lst (as.map DD.lst)) (.ref la)∧(∀ a ∈ as,∀ x ∈ a,Nd (menuS S) c d x)∧d≤21∧lvL (as.map DD.lst)+callsL (as.map DD.lst)≤30000∧as.length≤10∧(∀ b ∈ stA' (stD S d) t as,b.length≤300200∧∀ z ∈ b,Nd (menuS S) c D z)∧D≤100 ∧
  ∀ p H' vs,Same H H'→H p=none→H' p=some (.lst vs)→Reps K (mxE B H H' []) ((stA' (stD S d) t as).map DD.lst) vs→Q (.ref p) H'
theorem ok_arguments_stepped_n (T:Txt P w K mg a) (n:Nat) (g_stepped:FnOk P w K mg base CX0 (2 * n+62) a.f_stepped a.fd_stepped ["named","nodes","at"] (sp_st K n)) : FnOk P w K mg base CX0 (2 * n+63) a.f_arguments_stepped a.fd_arguments_stepped ["named","arguments","at"] (sp_as K n):=by
  have d_stepped:=T.d_stepped
  have g_calls_in:=ok_calls_in (P:=P) (w:=w) (base:=base) T
  have d_calls_in:=T.d_calls_in

  refine T.d_arguments_stepped.fn.ok sc_arguments_stepped (fun vs H Q E h=>?_) (fun cdv A outer s H vs Q E hr h=>?_)
  ·obtain ⟨B,na,la,t,S,as,c,d,D,rfl,_⟩:=h
   rfl
  obtain ⟨B,na,la,t,S,as,c,d,D,rfl,hd,sB,hN,sx0,m10,rA,ndA,d21,lvA,a10,hz,hD,q⟩:=h
  have hu:=Nat.lt_of_succ_lt (hu_of hr)
  refine ⟨_,(pss_cons (ps_set (i:=3) sc_arguments_stepped.nd rfl (Or.inl rfl) (pe_lst pa_nil))
   (pss_cons (ps_for PassesOwn.never rfl (pi_list (pv 1)) (pg_name (i:=4) sc_arguments_stepped.nd rfl (Or.inl rfl)) (pss_cons (ps_expr (pe_bm PySem.F.plainAttrs_list PySem.F.slot_list_append PySem.F.type_list_append mt_append (pv 3) (pa_cons (pe_callD d_stepped g_stepped (hr.mono (by omega)) rfl (pa_cons (pv 0) (pa_cons (pv 4) (pa_cons (pv 2) pa_nil)))) pa_nil)))
   (pss_one (ps_set (i:=2) sc_arguments_stepped.nd rfl (Or.inl rfl) (pe_op op_sub (pv 2) (pe_callD d_calls_in g_calls_in (hr.mono (by omega)) rfl (pa_cons (pv 4) pa_nil)))))))
   (pss_one (ps_ret (pv 3))))),?_⟩
  obtain ⟨la',ys,ela,slB,_,rl⟩:=rA.lstO
  cases ela
  have yl:=rl.len
  rw [List.length_map] at yl
  have sl:=sB.seq slB
  refine ⟨small (by simp),fun pt hpt=>?_⟩
  have g1:=same_new hpt (.lst [])
  have k1:upd H pt (.lst []) pt=some (.lst []):=upd_same
  generalize upd H pt (.lst [])=H1 at g1 k1 ⊢
  refine ⟨_,rfl,la,rfl,⟨_,g1.seq sl⟩,for_list (K:=K) (a:=la) (xs:=ys) (fun k σ G=>∃ (v4:Option V) (vs:List V),σ=[some (.ref na),some (.ref la),some (.int (t - (callsL ((as.take k).map DD.lst) : Int))),some (.ref pt),v4]∧Same H G∧G pt=some (.lst vs)∧Reps K (mxE B H G [pt]) ((stA' (stD S d) t (as.take k)).map DD.lst) vs) ⟨none,[],by rw [List.take_zero,List.map_nil,calls_nil]; exact congrArg (fun z=>[some (V.ref na),some (V.ref la),some (V.int z),some (V.ref pt),none]) (by omega),g1,k1,Reps.nil⟩ (fun k σ G _ z=>by obtain ⟨_,_,_,s1,_⟩:=z; exact s1.seq sl) ?_ ?_⟩
  ·rintro k y σ G hy ⟨v4,vs,rfl,s1,kt,rT⟩
   obtain ⟨dj,ejm,rj⟩:=rl.getR hy
   rw [List.getElem?_map] at ejm
   obtain ⟨aj,eaj,rfl⟩:=Option.map_eq_some_iff.mp ejm
   clear ejm
   have ham:=List.mem_of_getElem? eaj
   have es:=stA_snoc (S:=S) (d:=d) (t:=t) eaj
   have vl:=rT.len
   rw [List.length_map,stA_len,List.length_take] at vl
   have sBG:=sB.trans s1
   have ke:∀ {zs:List V} {G':Hp},Same G G'→∀ b o,b≠pt→G b=some o→(upd G' pt (.lst zs)) b=some o:=fun u b o nb hb=>by rw [upd_ne nb]; exact u _ _ hb
   have stp:∀ {G2:Hp},(∀ b o,b≠pt→G b=some o→G2 b=some o)→Same (mxE B H G [pt]) (mxE B H G2 [pt]):=fun h=>mxE_step sB fun b o nb hb=>h b o (by simpa using nb) hb
   have hzj:=hz (stL S d (t - (callsL ((as.take k).map DD.lst) : Int)) aj) (stA_take as t (k+1) _ (by rw [es]; exact List.mem_append.mpr (.inr List.mem_cons_self)))
   have lvj:lvL aj+callsL aj≤30000:=by
    have q2:=lv_mem (List.mem_map.mpr ⟨aj,ham,rfl⟩ : DD.lst aj ∈ as.map DD.lst)
    rw [lv_lst,calls_lst] at q2
    omega
   refine ⟨_,rfl,.inl ⟨rfl,_,SqL.of kt⟩,_,rfl,_,rfl,_,rfl,B,na,y,_,S,aj,c,d,D,rfl,hd,sBG,hN,sx0,m10,rj,ndA aj ham,d21,lvj,hzj.2,hD,by have:=hzj.1; omega,fun p G5 vs5 s5 fp kp r5=>?_⟩
   refine ⟨_,_,_,rfl,rfl,s5 _ _ kt,small1000 (by omega),?_⟩
   have np:p≠pt:=Ne.symm (ne_of_none kt fp)
   have s6:Same H (upd G5 pt (.lst (vs++[V.ref p]))):=(s1.trans s5).put hpt
   have k6:upd G5 pt (.lst (vs++[V.ref p])) pt=some (.lst (vs++[V.ref p])):=upd_same
   have r6:Reps K (mxE B H (upd G5 pt (.lst (vs++[V.ref p]))) [pt]) ((stA' (stD S d) t (as.take (k+1))).map DD.lst) (vs++[V.ref p]):=by
    rw [es,List.map_append]
    exact (rT.mono (stp (ke s5))).snoc (rep_lst (SqL.of (mxE_new (s1.free fp) (by simpa using np) (by rw [upd_ne np]; exact kp))) (by have:=hzj.1; omega) (r5.mono (mxE_in sB s1 hpt kt fun b o nb hb=>by rw [upd_ne nb]; exact hb)))
   generalize upd G5 pt (.lst (vs++[V.ref p]))=G6 at s6 k6 r6 ⊢
   refine ⟨_,rfl,_,rfl,y,aj,menuS S,c,d,rfl,by omega,rj.mono (sB.trans s6),ndA aj ham,m10,fun G7 s7=>⟨_,_,rfl,rfl,?_⟩⟩
   refine ⟨some y,vs++[V.ref p],?_,s6.trans s7,s7 _ _ k6,r6.mono (mxE_step sB fun b o _ hb=>s7 _ _ hb)⟩
   rw [callsA_snoc eaj]
   exact congrArg (fun z=>[some (V.ref na),some (V.ref la),some (V.int z),some (V.ref pt),some y]) (by omega)
  ·rintro σ G ⟨v4,vs,rfl,s1,kt,rT⟩
   rw [yl,List.take_of_length_le (Nat.le_refl _)] at rT
   exact ⟨_,rfl,q pt G vs s1 hpt kt (rT.mono (mxE_nil sB))⟩

theorem sc_filled:FnScope ["nodes","arguments","told","node"] ["nodes","arguments"] (defScope s_filled):=⟨rfl,rfl,rfl,by decide +kernel,rfl,by decide +kernel,by decide +kernel⟩
def sp_fil (K:PySem.W.Frag) (n:Nat) : Sp:=fun vs H Q _=>∃ (B:Hp) (xv:V) (ga:Addr) (xs:List DD) (A:List (List DD)) (M M2:List (Wd0 × Nat)) (c c2 d e D:Nat),vs=[xv,.ref ga]∧d < n∧Same B H∧Rep K B (.lst xs) xv∧(∀ x ∈ xs,Nd M c d x)∧A.length=c∧Rep K B (.lst (A.map DD.lst)) (.ref ga)∧(∀ a ∈ A,lvL a+callsL a≤30000∧∀ x ∈ a,Nd M2 c2 e x)∧e≤20∧(∀ m ∈ M2,m.2≤10)∧(∀ m ∈ M,m.2≤10)∧(∀ z ∈ fiL A d xs,Nd M2 c2 D z)∧D≤100∧(fiL A d xs).length≤400000 ∧
  ∀ p H' vs,Same H H'→H p=none→H' p=some (.lst vs)→Reps K (mxE B H H' []) (fiL A d xs) vs→Q (.ref p) H'
theorem ok_filled_n (T:Txt P w K mg a) : ∀ n:Nat,FnOk P w K mg base CX0 (n+46) a.f_filled a.fd_filled ["nodes","arguments"] (sp_fil K n)
 | 0=>⟨fun vs H Q E h=>(by obtain ⟨B,xv,ga,xs,A,M,M2,c,c2,d,e,D,_,h1,_⟩:=h; omega),fun A outer s H args us vs Q E _ _ _ _ h=>(by obtain ⟨B,xv,ga,xs,A,M,M2,c,c2,d,e,D,_,h1,_⟩:=h; omega)⟩
 | n+1=>by
  have g_filled:=ok_filled_n T n
  have d_filled:=T.d_filled
  have g_copied:=ok_copied (P:=P) (w:=w) (base:=base) T
  have d_copied:=T.d_copied

  refine T.d_filled.fn.ok sc_filled (fun vs H Q E h=>?_) (fun cdv A outer s H vs Q E hr h=>?_)
  ·obtain ⟨B,xv,ga,xs,A,M,M2,c,c2,d,e,D,rfl,_⟩:=h
   rfl
  obtain ⟨B,xv,ga,xs,A,M,M2,c,c2,d,e,D,rfl,hd,sB,rx,ndx,hAl,rA,hA,he20,m10,m10b,hz,hD,hlen,q⟩:=h
  have hu:=Nat.lt_of_succ_lt (hu_of hr)
  refine ⟨_,(pss_cons (ps_set (i:=2) sc_filled.nd rfl (Or.inl rfl) (pe_lst pa_nil))
   (pss_cons (ps_for PassesOwn.never rfl (pi_list (pv 0)) (pg_name (i:=3) sc_filled.nd rfl (Or.inl rfl)) (pss_one (ps_if (pt_cmpR op_eq (pe_ix ix_tup (pv 3) pe_int (fun _ _=>rfl)) pe_str (nomark _)) (pss_one (ps_expr (pe_bm PySem.F.plainAttrs_list PySem.F.slot_list_extend PySem.F.type_list_extend mt_extend (pv 2) (pa_cons (pe_callD d_copied g_copied (hr.mono (by omega)) rfl (pa_cons (pe_ix ix_list (pv 1) (pe_op op_sub (pe_ix ix_tup (pv 3) pe_int (fun _ _=>rfl)) pe_int) (fun _ _=>rfl)) pa_nil)) pa_nil)))) (pss_one (ps_if (pt_cmpR op_eq (pe_ix ix_tup (pv 3) pe_int (fun _ _=>rfl)) pe_str (nomark _)) (pss_one (ps_expr (pe_bm PySem.F.plainAttrs_list PySem.F.slot_list_append PySem.F.type_list_append mt_append (pv 2) (pa_cons (pe_tup (pa_cons pe_str (pa_cons (pe_ix ix_tup (pv 3) pe_int (fun _ _=>rfl)) (pa_cons (pe_lc rfl (lcok (caps:=["arguments"]) (js:=[1]) (cap:=⟨⟨rfl,.inl rfl,rfl,.inl rfl⟩,trivial⟩)) (pi_list (pe_ix ix_tup (pv 3) pe_int (fun _ _=>rfl))) (fun _ _ _ _=>pts_nil) (fun _ _ _ _=>(pe_callD d_filled g_filled hr rfl (pa_cons (pv 0) (pa_cons (pv 1) pa_nil))))) pa_nil)))) pa_nil)))) (pss_one (ps_expr (pe_bm PySem.F.plainAttrs_list PySem.F.slot_list_append PySem.F.type_list_append mt_append (pv 2) (pa_cons (pv 3) pa_nil)))))))))
   (pss_one (ps_ret (pv 2))))),?_⟩
  obtain ⟨xa,vs0,rfl,sxB,_,rxs⟩:=rx.lstO
  obtain ⟨ga',gs,ega,sgB,_,rg⟩:=rA.lstO
  cases ega
  have xl:=rxs.len
  have sx:=sB.seq sxB
  have sg:=sB.seq sgB
  refine ⟨small (by simp),fun pt hpt=>?_⟩
  have g1:=same_new hpt (.lst [])
  have k1:upd H pt (.lst []) pt=some (.lst []):=upd_same
  generalize upd H pt (.lst [])=H1 at g1 k1 ⊢
  have bpt:∀ b ∈ [pt],B b=none:=fun b hb=>by
   rw [List.mem_singleton.mp hb]
   exact sB.free hpt
  refine ⟨_,rfl,xa,rfl,⟨_,g1.seq sx⟩,for_list (K:=K) (a:=xa) (xs:=vs0) (fun k σ G=>∃ (v3:Option V) (vs:List V),σ=[some (.ref xa),some (.ref ga),some (.ref pt),v3]∧Same H G∧G pt=some (.lst vs)∧Reps K (mxE B H G [pt]) (fiL A d (xs.take k)) vs) ⟨none,[],rfl,g1,k1,Reps.nil⟩ (fun k σ G _ z=>by obtain ⟨_,_,_,s1,_⟩:=z; exact s1.seq sx) ?_ ?_⟩
  ·rintro k y σ G hy ⟨v3,vs,rfl,s1,kt,rT⟩
   obtain ⟨x0,e0,r0⟩:=rxs.getR hy
   have hm0:=List.mem_of_getElem? e0
   have nd0:=ndx x0 hm0
   have es:=fiL_snoc (A:=A) (d:=d) e0
   have vl:=rT.len
   have lk0:=fiL_take (A:=A) (d:=d) xs k
   have lk1:=fiL_take (A:=A) (d:=d) xs (k+1)
   rw [es,List.length_append] at lk1
   have sBG:=sB.trans s1
   have hz0:=fun z (h:z ∈ fiD A d x0)=>hz z (fiL_of hm0 h)
   obtain ⟨e',rfl⟩:=nd0.pos
   have ke:∀ {zs:List V} {G':Hp},Same G G'→∀ b o,b≠pt→G b=some o→(upd G' pt (.lst zs)) b=some o:=fun u b o nb hb=>by rw [upd_ne nb]; exact u _ _ hb
   have stp:∀ {G2:Hp},(∀ b o,b≠pt→G b=some o→G2 b=some o)→Same (mxE B H G [pt]) (mxE B H G2 [pt]):=fun h=>mxE_step sB fun b o nb hb=>h b o (by simpa using nb) hb
   rcases nd0.out with ⟨w',rfl⟩ | ⟨pk,hp1,hp2,rfl⟩ | ⟨nm',as,rfl,hM,has⟩
   ·obtain ⟨ta,zs,rfl,st,_,rz⟩:=id r0.tupO
    obtain ⟨z0,z1,rfl,y0,y1⟩:=Reps.two rz
    rw [y0.strO,y1.strO] at st
    refine ⟨_,rfl,_,_,_,_,rfl,rfl,sBG.tup st,rfl,rfl,_,rfl,?_⟩
    rw [decide_eq_false strNe6]
    refine iteF ?_
    refine ⟨_,rfl,_,_,_,_,rfl,rfl,sBG.tup st,rfl,rfl,_,rfl,?_⟩
    rw [decide_eq_false strNe4]
    refine iteF ?_
    refine ⟨_,rfl,.inl ⟨rfl,_,SqL.of kt⟩,_,rfl,_,_,_,rfl,rfl,kt,small1000 (by omega),?_⟩
    refine ⟨_,vs++[V.ref ta],rfl,s1.put hpt,upd_same,?_⟩
    rw [es,fi_wd]
    exact (rT.mono (stp (ke (Same.refl _)))).snoc (r0.mono (mxE_base sB bpt))
   ·obtain ⟨ta,zs,rfl,st,_,rz⟩:=id r0.tupO
    obtain ⟨z0,z1,rfl,y0,y1⟩:=Reps.two rz
    rw [y0.strO,y1.intO] at st
    have st1:=sBG.tup st
    refine ⟨_,rfl,_,_,_,_,rfl,rfl,st1,rfl,rfl,_,rfl,?_⟩
    rw [decide_eq_true rfl]
    refine iteT ?_
    have hpa:pk - 1 < A.length:=by omega
    have epa:A[pk - 1]? = some A[pk - 1]:=List.getElem?_eq_getElem hpa
    obtain ⟨gv,egv,rgv⟩:=rg.get (i:=pk - 1) (d:=.lst A[pk - 1]) (by rw [List.getElem?_map,epa]; rfl)
    have hAp:=hA _ (List.mem_of_getElem? epa)
    have eg:A.getD (pk - 1) []=A[pk - 1]:=by rw [List.getD_eq_getElem?_getD,epa]; rfl
    rw [fi_pl,eg] at es lk1
    refine ⟨_,rfl,.inl ⟨rfl,_,SqL.of kt⟩,_,rfl,_,rfl,_,_,_,_,rfl,rfl,st1,rfl,_,_,rfl,rfl,_,_,_,_,rfl,rfl,s1.seq sg,by rw [show (pk:Int) - 1=((pk - 1:Nat) : Int) by omega]; exact atI_nat egv,B,gv,A[pk - 1],M2,c2,e,rfl,by omega,by omega,sBG,rgv,hAp.2,m10,hAp.1,fun p G5 vs5 l5 s5 fp kp c5 n5=>?_⟩
    have c5l:=c5.len
    refine ⟨_,_,_,_,rfl,rfl,s5 _ _ kt,kp,small (by omega),?_⟩
    refine ⟨_,vs++vs5,rfl,(s1.trans s5).put hpt,upd_same,?_⟩
    rw [es]
    exact (rT.mono (stp (ke s5))).app (c5.rep.mono (mxE_in sB s1 hpt kt fun b o nb hb=>by rw [upd_ne nb]; exact hb))
   ·obtain ⟨ta,zs,rfl,st,_,rz⟩:=id r0.tupO
    obtain ⟨z0,z1,z2,rfl,y0,y1,y2⟩:=Reps.three rz
    rw [y0.strO,y1.strO] at st
    obtain ⟨la,ys,rfl,sl,_,rl⟩:=y2.lstO
    have yl:=rl.len
    rw [List.length_map] at yl
    have a10:as.length≤10:=m10b _ hM
    have st1:=sBG.tup st
    have sl1:=sBG.seq sl
    refine ⟨_,rfl,_,_,_,_,rfl,rfl,st1,rfl,rfl,_,rfl,?_⟩
    rw [decide_eq_false strNe3]
    refine iteF ?_
    refine ⟨_,rfl,_,_,_,_,rfl,rfl,st1,rfl,rfl,_,rfl,?_⟩
    rw [decide_eq_true rfl]
    refine iteT ?_
    rw [fi_cl] at es lk1
    have hcl:=cl_nd (hz0 (clD nm' (as.map (fiL A e'))) (by rw [fi_cl]; exact List.mem_cons_self))
    refine ⟨_,rfl,.inl ⟨rfl,_,SqL.of kt⟩,_,rfl,_,_,_,_,rfl,rfl,st1,rfl,_,rfl,_,_,_,_,rfl,rfl,st1,rfl,la,rfl,⟨_,sl1⟩,lc_list (K:=K) (a:=la) (xs:=ys) (fun j zs G'=>Same G G'∧Reps K (mxE B G G' []) (((as.take j).map (fiL A e')).map DD.lst) zs) ⟨Same.refl _,Reps.nil⟩ (fun j zs G' _ z=>z.1.seq sl1) ?_ ?_ ?_⟩
    ·rintro j zs G' hj ⟨_,r2⟩
     rw [r2.len,List.length_map,List.length_map,List.length_take]
     exact small1000 (by omega)
    ·rintro j y zs G' hy ⟨s2,r2⟩
     obtain ⟨dj,ejm,rj⟩:=rl.getR hy
     rw [List.getElem?_map] at ejm
     obtain ⟨aj,eaj,rfl⟩:=Option.map_eq_some_iff.mp ejm
     clear ejm
     have ham:=List.mem_of_getElem? eaj
     have hclj:=hcl (fiL A e' aj) (List.mem_map.mpr ⟨aj,ham,rfl⟩)
     refine yes_go ?_
     refine ⟨_,rfl,_,rfl,B,y,ga,aj,A,M,M2,c,c2,e',e,D - 1,rfl,by omega,sBG.trans s2,rj,(has aj ham).2,hAl,rA,hA,he20,m10,m10b,hclj.2,by omega,by have:=hclj.1; omega,fun p G5 vs5 s5 fp kp r5=>⟨s2.trans s5,?_⟩⟩
     rw [List.take_add_one,eaj,List.map_append,List.map_append]
     have u1:Same (mxE B G G' []) (mxE B G G5 []):=mxE_step sBG fun b o _ hb=>s5 _ _ hb
     have u2:Same (mxE B G' G5 []) (mxE B G G5 []):=fun b o hb=>by
      obtain ⟨_,h2 | h2⟩:=mxE_of hb
      ·exact mxE_new (s2.free h2.1) (by simp) h2.2
      ·exact mxE_old sBG (by simp) h2
     exact (r2.mono u1).snoc (rep_lst (SqL.of (mxE_new (s2.free fp) (by simp) kp)) (by have:=hclj.1; omega) (r5.mono u2))
    rintro zs G' ⟨s2,r2⟩ pb hpb
    rw [yl,List.take_of_length_le (Nat.le_refl _)] at r2
    have g3:=same_new hpb (.lst zs)
    have k3:upd G' pb (.lst zs) pb=some (.lst zs):=upd_same
    have fb:=s2.free hpb
    generalize upd G' pb (.lst zs)=G3 at g3 k3 ⊢
    refine ⟨le3,fun p hp=>?_⟩
    have g4:=same_new hp (.tup [V.str (PySem.Str.ofString "call"),V.str (tx nm'),V.ref pb])
    have k4:upd G3 p (.tup [V.str (PySem.Str.ofString "call"),V.str (tx nm'),V.ref pb]) p=some (.tup [V.str (PySem.Str.ofString "call"),V.str (tx nm'),V.ref pb]):=upd_same
    have fp:=(s2.trans g3).free hp
    have k34:=g4 _ _ k3
    generalize upd G3 p (.tup [V.str (PySem.Str.ofString "call"),V.str (tx nm'),V.ref pb])=G4 at g4 k4 k34 ⊢
    have s34:=g3.trans g4
    have s24:=s2.trans s34
    refine ⟨_,_,_,rfl,rfl,s24 _ _ kt,small1000 (by omega),?_⟩
    have npb:pb≠pt:=Ne.symm (ne_of_none kt fb)
    have np:p≠pt:=Ne.symm (ne_of_none kt fp)
    have kin:Same (mxE B G G' []) (mxE B H (upd G4 pt (.lst (vs++[V.ref p]))) [pt]):=mxE_in sB s1 hpt kt fun b o nb hb=>by rw [upd_ne nb]; exact s34 _ _ hb
    refine ⟨_,vs++[V.ref p],rfl,(s1.trans s24).put hpt,upd_same,?_⟩
    rw [es]
    exact (rT.mono (stp (ke s24))).snoc (rep_tup (SqT.of (mxE_new (s1.free fp) (by simpa using np) (by rw [upd_ne np]; exact k4))) (by simp) (Reps.cons (rep_str _) (Reps.cons (rep_str _) (Reps.cons (rep_lst (SqL.of (mxE_new (s1.free fb) (by simpa using npb) (by rw [upd_ne npb]; exact k34))) (by rw [List.length_map,List.length_map]; omega) (r2.mono kin)) Reps.nil))))
  ·rintro σ G ⟨v3,vs,rfl,s1,kt,rT⟩
   rw [xl,List.take_of_length_le (Nat.le_refl _)] at rT
   exact ⟨_,rfl,q pt G vs s1 hpt kt (rT.mono (mxE_nil sB))⟩
theorem ok_filled (T:Txt P w K mg a) : FnOk P w K mg base CX0 60 a.f_filled a.fd_filled ["nodes","arguments"] (sp_fil K (60 - 46)):=ok_filled_n T (60 - 46)

theorem sc_stepped:FnScope ["named","nodes","at","told","node"] ["named","nodes","at"] (defScope s_stepped):=⟨rfl,rfl,rfl,by decide +kernel,rfl,by decide +kernel,by decide +kernel⟩
theorem ok_stepped_n (T:Txt P w K mg a) : ∀ n:Nat,FnOk P w K mg base CX0 (2 * n+62) a.f_stepped a.fd_stepped ["named","nodes","at"] (sp_st K n)
 | 0=>⟨fun vs H Q E h=>(by obtain ⟨B,na,xv,t,S,xs,c,d,D,_,h1,_⟩:=h; omega),fun A outer s H args us vs Q E _ _ _ _ h=>(by obtain ⟨B,na,xv,t,S,xs,c,d,D,_,h1,_⟩:=h; omega)⟩
 | n+1=>by
  have g_arguments_stepped:=ok_arguments_stepped_n T n (ok_stepped_n T n)
  have d_arguments_stepped:=T.d_arguments_stepped
  have g_filled:=ok_filled (P:=P) (w:=w) (base:=base) T
  have d_filled:=T.d_filled
  have g_calls_in:=ok_calls_in (P:=P) (w:=w) (base:=base) T
  have d_calls_in:=T.d_calls_in
  refine T.d_stepped.fn.ok sc_stepped (fun vs H Q E h=>?_) (fun cdv A outer s H vs Q E hr h=>?_)
  ·obtain ⟨B,na,xv,t,S,xs,c,d,D,rfl,_⟩:=h
   rfl
  obtain ⟨B,na,xv,t,S,xs,c,d,D,rfl,hd,sB,hN,sx0,m10,rx,ndx,d21,lvx,hz,hD,hlen,q⟩:=h
  have hu:=Nat.lt_of_succ_lt (hu_of hr)
  refine ⟨_,(pss_cons (ps_set (i:=3) sc_stepped.nd rfl (Or.inl rfl) (pe_lst pa_nil))
   (pss_cons (ps_for PassesOwn.never rfl (pi_list (pv 1)) (pg_name (i:=4) sc_stepped.nd rfl (Or.inl rfl)) (pss_cons (ps_if (pt_cmpR op_ne (pe_ix ix_tup (pv 4) pe_int (fun _ _=>rfl)) pe_str (nomark _)) (pss_one (ps_expr (pe_bm PySem.F.plainAttrs_list PySem.F.slot_list_append PySem.F.type_list_append mt_append (pv 3) (pa_cons (pv 4) pa_nil)))) (pss_one (ps_if (pt_cmpR op_eq (pv 2) pe_int (nomark _)) (pss_one (ps_expr (pe_bm PySem.F.plainAttrs_list PySem.F.slot_list_extend PySem.F.type_list_extend mt_extend (pv 3) (pa_cons (pe_callD d_filled g_filled (hr.mono (by omega)) rfl (pa_cons (pe_ix ix_tup (pe_dget (hu_of hr) (pv 0) (pe_ix ix_tup (pv 4) pe_int (fun _ _=>rfl)) (fun _ _=>rfl)) pe_int (fun _ _=>rfl)) (pa_cons (pe_ix ix_tup (pv 4) pe_int (fun _ _=>rfl)) pa_nil))) pa_nil)))) (pss_one (ps_expr (pe_bm PySem.F.plainAttrs_list PySem.F.slot_list_append PySem.F.type_list_append mt_append (pv 3) (pa_cons (pe_tup (pa_cons pe_str (pa_cons (pe_ix ix_tup (pv 4) pe_int (fun _ _=>rfl)) (pa_cons (pe_callD d_arguments_stepped g_arguments_stepped (hr.mono (by omega)) rfl (pa_cons (pv 0) (pa_cons (pe_ix ix_tup (pv 4) pe_int (fun _ _=>rfl)) (pa_cons (pe_op op_sub (pv 2) pe_int) pa_nil)))) pa_nil)))) pa_nil)))))))
   (pss_one (ps_set (i:=2) sc_stepped.nd rfl (Or.inl rfl) (pe_op op_sub (pv 2) (pe_callD d_calls_in g_calls_in (hr.mono (by omega)) rfl (pa_cons (pe_lst (pa_cons (pv 4) pa_nil)) pa_nil)))))))
   (pss_one (ps_ret (pv 3))))),?_⟩
  obtain ⟨xa,vs0,rfl,sxB,_,rxs⟩:=rx.lstO
  have kN:=hN
  obtain ⟨kvs,hkB,hv⟩:=kN
  have xl:=rxs.len
  have sx:=sB.seq sxB
  refine ⟨small (by simp),fun pt hpt=>?_⟩
  have g1:=same_new hpt (.lst [])
  have k1:upd H pt (.lst []) pt=some (.lst []):=upd_same
  generalize upd H pt (.lst [])=H1 at g1 k1 ⊢
  have bpt:∀ b ∈ [pt],B b=none:=fun b hb=>by
   rw [List.mem_singleton.mp hb]
   exact sB.free hpt
  refine ⟨_,rfl,xa,rfl,⟨_,g1.seq sx⟩,for_list (K:=K) (a:=xa) (xs:=vs0) (fun k σ G=>∃ (v4:Option V) (vs:List V),σ=[some (.ref na),some (.ref xa),some (.int (t - (callsL (xs.take k) : Int))),some (.ref pt),v4]∧Same H G∧G pt=some (.lst vs)∧Reps K (mxE B H G [pt]) (stL S d t (xs.take k)) vs) ⟨none,[],by rw [List.take_zero,calls_nil]; exact congrArg (fun z=>[some (V.ref na),some (V.ref xa),some (V.int z),some (V.ref pt),none]) (by omega),g1,k1,Reps.nil⟩ (fun k σ G _ z=>by obtain ⟨_,_,_,s1,_⟩:=z; exact s1.seq sx) ?_ ?_⟩
  ·rintro k y σ G hy ⟨v4,vs,rfl,s1,kt,rT⟩
   obtain ⟨x0,e0,r0⟩:=rxs.getR hy
   have hm0:=List.mem_of_getElem? e0
   have nd0:=ndx x0 hm0
   have es:=stL_snoc (S:=S) (d:=d) (t:=t) e0
   have vl:=rT.len
   have lk0:=(stL_take (S:=S) (d:=d) xs t k).1
   have lk1:=stL_take (S:=S) (d:=d) xs t (k+1)
   rw [es,List.length_append] at lk1
   have hz0:∀ z ∈ stD S d (t - (callsL (xs.take k) : Int)) x0,Nd (menuS S) c D z:=fun z h=>hz z (lk1.2 z (List.mem_append.mpr (.inr h)))
   replace lk1:=lk1.1
   have sBG:=sB.trans s1
   have lv0:=lv_mem hm0
   have ke:∀ {zs:List V} {G':Hp},Same G G'→∀ b o,b≠pt→G b=some o→(upd G' pt (.lst zs)) b=some o:=fun u b o nb hb=>by rw [upd_ne nb]; exact u _ _ hb
   have stp:∀ {G2:Hp},(∀ b o,b≠pt→G b=some o→G2 b=some o)→Same (mxE B H G [pt]) (mxE B H G2 [pt]):=fun h=>mxE_step sB fun b o nb hb=>h b o (by simpa using nb) hb
   refine cut_seq (fun σ' G'=>∃ (vs:List V),σ' = [some (.ref na),some (.ref xa),some (.int (t - (callsL (xs.take k) : Int))),some (.ref pt),some y]∧Same H G'∧G' pt=some (.lst vs)∧Reps K (mxE B H G' [pt]) (stL S d t (xs.take (k+1))) vs) ?_ (fun key=>?_)
   ·rintro σ' G6 ⟨vs',rfl,s6,k6,r6⟩
    refine ⟨_,rfl,_,rfl,le1,fun p2 hp2=>?_⟩
    have g7:=same_new hp2 (.lst [y])
    have k7:upd G6 p2 (.lst [y]) p2=some (.lst [y]):=upd_same
    generalize upd G6 p2 (.lst [y])=G7 at g7 k7 ⊢
    refine ⟨.ref p2,[x0],menuS S,c,d,rfl,by omega,rep_lst (SqL.of k7) (by simp) (Reps.cons (r0.mono ((sB.trans s6).trans g7)) Reps.nil),fun x hx=>(by rw [List.mem_singleton.mp hx]; exact nd0),m10,fun G8 s8=>⟨_,_,rfl,rfl,?_⟩⟩
    have s78:=g7.trans s8
    refine ⟨some y,vs',?_,s6.trans s78,s78 _ _ k6,r6.mono (mxE_step sB fun b o _ hb=>s78 _ _ hb)⟩
    rw [calls_snoc e0,calls_one]
    exact congrArg (fun z=>[some (V.ref na),some (V.ref xa),some (V.int z),some (V.ref pt),some y]) (by omega)
   obtain ⟨e,rfl⟩:=nd0.pos
   rcases nd0.out with ⟨w',rfl⟩ | ⟨pk,hp1,hp2,rfl⟩ | ⟨nm',as,rfl,hM,has⟩
   ·obtain ⟨ta,zs,rfl,st,_,rz⟩:=id r0.tupO
    obtain ⟨z0,z1,rfl,y0,y1⟩:=Reps.two rz
    rw [y0.strO,y1.strO] at st
    refine ⟨_,rfl,_,_,_,_,rfl,rfl,sBG.tup st,rfl,rfl,_,rfl,?_⟩
    rw [decide_eq_false strNe4]
    refine iteT ?_
    refine ⟨_,rfl,.inl ⟨rfl,_,SqL.of kt⟩,_,rfl,_,_,_,rfl,rfl,kt,small1000 (by omega),?_⟩
    refine key _ _ ⟨vs++[V.ref ta],rfl,s1.put hpt,upd_same,?_⟩
    rw [es,st_wd]
    exact (rT.mono (stp (ke (Same.refl _)))).snoc (r0.mono (mxE_base sB bpt))
   ·obtain ⟨ta,zs,rfl,st,_,rz⟩:=id r0.tupO
    obtain ⟨z0,z1,rfl,y0,y1⟩:=Reps.two rz
    rw [y0.strO,y1.intO] at st
    refine ⟨_,rfl,_,_,_,_,rfl,rfl,sBG.tup st,rfl,rfl,_,rfl,?_⟩
    rw [decide_eq_false strNe5]
    refine iteT ?_
    refine ⟨_,rfl,.inl ⟨rfl,_,SqL.of kt⟩,_,rfl,_,_,_,rfl,rfl,kt,small1000 (by omega),?_⟩
    refine key _ _ ⟨vs++[V.ref ta],rfl,s1.put hpt,upd_same,?_⟩
    rw [es,st_pl]
    exact (rT.mono (stp (ke (Same.refl _)))).snoc (r0.mono (mxE_base sB bpt))
   ·obtain ⟨ta,zs,rfl,st,_,rz⟩:=id r0.tupO
    obtain ⟨z0,z1,z2,rfl,y0,y1,y2⟩:=Reps.three rz
    rw [y0.strO,y1.strO] at st
    obtain ⟨la,ys,rfl,sl,_,rl⟩:=y2.lstO
    have yl:=rl.len
    rw [List.length_map] at yl
    have a10:as.length≤10:=m10 _ hM
    have st1:=sBG.tup st
    rw [lv_cl,calls_cl] at lv0
    refine ⟨_,rfl,_,_,_,_,rfl,rfl,st1,rfl,rfl,_,rfl,?_⟩
    rw [decide_eq_true rfl]
    refine iteF ?_
    obtain ⟨j,s,hj,ej,hs,en,ec,hF⟩:=call_of (i:=S.length) sx0.x.nd (by rw [List.take_of_length_le (Nat.le_refl _)]; exact hM)
    refine ⟨_,rfl,rfl,_,rfl,?_⟩
    by_cases ht:t - (callsL (xs.take k) : Int)=0
    ·rw [decide_eq_true (by rw [ht])]
     refine iteT ?_
     rw [ht,st_cl0 hF] at es lk1 hz0
     obtain ⟨v,hv1,hv2⟩:=(hv (tx nm')).2 s hF
     obtain ⟨tv,us,rfl,stv,_,ru⟩:=hv2.tupO
     obtain ⟨x2,hu2,rn⟩:=ru.get (i:=2) (d:=.lst s.ns) rfl
     refine ⟨_,rfl,.inl ⟨rfl,_,SqL.of kt⟩,_,rfl,_,rfl,_,_,_,_,rfl,rfl,st1,rfl,na,_,rfl,.inl ⟨kvs,.inr (tx nm'),.inl (sBG _ _ hkB),rfl,hv1.symm⟩,_,_,_,_,rfl,rfl,sBG.tup stv,atI_nat hu2,_,rfl,_,_,_,_,rfl,rfl,st1,rfl,B,x2,la,s.ns,as,menuS S,menuS S,s.c,c,12,e,D,rfl,by decide,sBG,rn,fun x hx=>(sx0.ord0 j s ej x hx).up menuS_take (Nat.le_refl _) (Nat.le_refl _),ec.symm,y2,fun a ha=>⟨?_,(has a ha).2⟩,by omega,m10,m10,hz0,hD,by omega,fun p G5 vs5 s5 fp kp r5=>?_⟩
     ·have q2:=lv_mem (List.mem_map.mpr ⟨a,ha,rfl⟩ : DD.lst a ∈ as.map DD.lst)
      rw [lv_lst,calls_lst] at q2
      omega
     have l5:=r5.len
     refine ⟨_,_,_,_,rfl,rfl,s5 _ _ kt,kp,small (by omega),?_⟩
     refine key _ _ ⟨vs++vs5,rfl,(s1.trans s5).put hpt,upd_same,?_⟩
     rw [es]
     exact (rT.mono (stp (ke s5))).app (r5.mono (mxE_in sB s1 hpt kt fun b o nb hb=>by rw [upd_ne nb]; exact hb))
    ·rw [decide_eq_false (fun z=>ht (V.int.inj z))]
     refine iteF ?_
     rw [st_cl1 ht] at es lk1 hz0
     have hcl:=cl_nd (hz0 _ List.mem_cons_self)
     refine ⟨_,rfl,.inl ⟨rfl,_,SqL.of kt⟩,_,rfl,_,_,_,_,rfl,rfl,st1,rfl,_,rfl,_,rfl,_,_,_,_,rfl,rfl,st1,rfl,_,rfl,_,_,rfl,rfl,B,na,la,_,S,as,c,e,D - 1,rfl,by omega,sBG,hN,sx0,m10,y2,fun a ha=>(has a ha).2,by omega,by omega,a10,fun b hb=>⟨by have:=(hcl b hb).1; omega,(hcl b hb).2⟩,by omega,fun pb G5 vs5 s5 fb kb r5=>⟨le3,fun p hp=>?_⟩⟩
     have g4:=same_new hp (.tup [V.str (PySem.Str.ofString "call"),V.str (tx nm'),V.ref pb])
     have k4:upd G5 p (.tup [V.str (PySem.Str.ofString "call"),V.str (tx nm'),V.ref pb]) p=some (.tup [V.str (PySem.Str.ofString "call"),V.str (tx nm'),V.ref pb]):=upd_same
     have fp:=s5.free hp
     have kb4:=g4 _ _ kb
     generalize upd G5 p (.tup [V.str (PySem.Str.ofString "call"),V.str (tx nm'),V.ref pb])=G4 at g4 k4 kb4 ⊢
     have s54:=s5.trans g4
     have npb:pb≠pt:=Ne.symm (ne_of_none kt fb)
     have np:p≠pt:=Ne.symm (ne_of_none kt fp)
     have kin:Same (mxE B G G5 []) (mxE B H (upd G4 pt (.lst (vs++[V.ref p]))) [pt]):=mxE_in sB s1 hpt kt fun b o nb hb=>by rw [upd_ne nb]; exact g4 _ _ hb
     refine ⟨_,_,_,rfl,rfl,s54 _ _ kt,small1000 (by omega),?_⟩
     refine key _ _ ⟨vs++[V.ref p],rfl,(s1.trans s54).put hpt,upd_same,?_⟩
     rw [es]
     exact (rT.mono (stp (ke s54))).snoc (rep_tup (SqT.of (mxE_new (s1.free fp) (by simpa using np) (by rw [upd_ne np]; exact k4))) (by simp) (Reps.cons (rep_str _) (Reps.cons (rep_str _) (Reps.cons (rep_lst (SqL.of (mxE_new (s1.free fb) (by simpa using npb) (by rw [upd_ne npb]; exact kb4))) (by rw [List.length_map,stA_len]; omega) (r5.mono kin)) Reps.nil))))
  ·rintro σ G ⟨v4,vs,rfl,s1,kt,rT⟩
   rw [xl,List.take_of_length_le (Nat.le_refl _)] at rT
   exact ⟨_,rfl,q pt G vs s1 hpt kt (rT.mono (mxE_nil sB))⟩
theorem ok_stepped (T:Txt P w K mg a) : FnOk P w K mg base CX0 106 a.f_stepped a.fd_stepped ["named","nodes","at"] (sp_st K 22):=ok_stepped_n T 22
def sp_one (K:PySem.W.Frag) : Sp:=fun vs H Q _=>∃ (sv xv:V) (t:Int) (S:List Sh) (xs:List DD) (c d D:Nat),vs=[sv,xv,.int t]∧Rep K H (.lst (S.map shD)) sv∧Sh0 S∧(∀ m ∈ menuS S,m.2≤10)∧Rep K H (.lst xs) xv∧(∀ x ∈ xs,Nd (menuS S) c d x)∧d≤21∧lvL xs+callsL xs≤30000∧(∀ z ∈ stL S d t xs,Nd (menuS S) c D z)∧D≤100∧(stL S d t xs).length≤400000∧∀ p H' vs,Same H H'→H' p=some (.lst vs)→Reps K H' (stL S d t xs) vs→Q (.ref p) H'
theorem sc_one_step:FnScope ["shorts","nodes","at"] ["shorts","nodes","at"] (defScope s_one_step):=⟨rfl,rfl,rfl,by decide +kernel,rfl,by decide +kernel,by decide +kernel⟩
theorem ok_one_step (T:Txt P w K mg a) : FnOk P w K mg base CX0 107 a.f_one_step a.fd_one_step ["shorts","nodes","at"] (sp_one K):=by
 have g_by_name:=ok_by_name (P:=P) (w:=w) (base:=base) T
 have d_by_name:=T.d_by_name
 have g_stepped:=ok_stepped (P:=P) (w:=w) (base:=base) T
 have d_stepped:=T.d_stepped
 refine T.d_one_step.fn.ok sc_one_step (fun vs H Q E h=>?_) (fun cdv A outer s H vs Q E hr h=>?_)
 ·obtain ⟨sv,xv,t,S,xs,c,d,D,rfl,_⟩:=h
  rfl
 obtain ⟨sv,xv,t,S,xs,c,d,D,rfl,rS,sx0,m10,rx,ndx,d21,lvx,hz,hD,hlen,q⟩:=h
 have hu:=Nat.lt_of_succ_lt (hu_of hr)
 refine ⟨_,(pss_one (ps_ret (pe_callD d_stepped g_stepped (hr.mono (by decide)) rfl (pa_cons (pe_callD d_by_name g_by_name (hr.mono (by decide)) rfl (pa_cons (pv 0) pa_nil)) (pa_cons (pv 1) (pa_cons (pv 2) pa_nil)))))),?_⟩
 refine ⟨_,rfl,sv,S,rfl,rS,sx0.x.nd,by have:=sx0.x.len; omega,fun pn H1 s1 hN=>?_⟩
 exact ⟨_,rfl,_,rfl,H1,pn,xv,t,S,xs,c,d,D,rfl,by omega,Same.refl _,hN,sx0,m10,rx.mono s1,ndx,d21,lvx,hz,hD,hlen,fun p H2 vs s2 fp kp r2=>q p H2 vs (s1.trans s2) kp (r2.mono (mxE_out (Same.refl _) s2))⟩
theorem ws_deep (l:List Str) : (DD.lst (l.map DD.str)).deep < 5:=by
 have:deeps (l.map DD.str)≤0:=deeps_le fun x hx=>by
  obtain ⟨i,_,rfl⟩:=List.mem_map.mp hx
  exact Nat.le_refl _
 simp [DD.deep]
 omega

theorem sc_law:FnScope ["script","first","many","per","shorts","nodes","bearing","at","step","body","good","told","words","either","row","calls","found"] ["script"] (defScope s_law):=⟨rfl,rfl,rfl,by decide +kernel,rfl,by decide +kernel,by decide +kernel⟩
theorem ok_law (T:Txt P w K mg a) : FnOk P w K mg base CX0 153 a.f_law a.fd_law ["script"] (sp_law K):=by
 have g_l_alike:=ok_l_alike (P:=P) (w:=w) (base:=base) T
 have d_l_alike:=T.d_l_alike
 have g_l_anew:=ok_l_anew (P:=P) (w:=w) (base:=base) T
 have d_l_anew:=T.d_l_anew
 have g_l_cell_at:=ok_l_cell_at (P:=P) (w:=w) (base:=base) T
 have d_l_cell_at:=T.d_l_cell_at
 have g_l_copy:=ok_l_copy (P:=P) (w:=w) (base:=base) T
 have d_l_copy:=T.d_l_copy
 have g_l_draw:=ok_l_draw (P:=P) (w:=w) (base:=base) T
 have d_l_draw:=T.d_l_draw
 have g_l_flat:=ok_l_flat (P:=P) (w:=w) (base:=base) T
 have d_l_flat:=T.d_l_flat
 have g_l_flats:=ok_l_flats (P:=P) (w:=w) (base:=base) T
 have d_l_flats:=T.d_l_flats
 have g_l_many:=ok_l_many (P:=P) (w:=w) (base:=base) T
 have d_l_many:=T.d_l_many
 have g_l_nodes:=ok_l_nodes (P:=P) (w:=w) (base:=base) T
 have d_l_nodes:=T.d_l_nodes
 have g_l_put:=ok_l_put (P:=P) (w:=w) (base:=base) T
 have d_l_put:=T.d_l_put
 have g_l_shorts:=ok_l_shorts (P:=P) (w:=w) (base:=base) T
 have d_l_shorts:=T.d_l_shorts
 have g_l_size:=ok_l_size (P:=P) (w:=w) (base:=base) T
 have d_l_size:=T.d_l_size
 have g_l_sound:=ok_l_sound (P:=P) (w:=w) (base:=base) T
 have d_l_sound:=T.d_l_sound
 have g_one_step:=ok_one_step (P:=P) (w:=w) (base:=base) T
 have d_one_step:=T.d_one_step
 have z_len:=T.z_len
 have z_range:=T.z_range
 refine T.d_law.fn.ok sc_law (fun vs H Q E h=>?_) (fun cdv A outer s H vs Q E hr h=>?_)
 ·obtain ⟨a,ns,rfl,_⟩:=h
  rfl
 obtain ⟨sa,ns,rfl,hS,h63,q⟩:=h
 have hu:=Nat.lt_of_succ_lt (hu_of hr)
 refine ⟨_,(pss_cons (ps_set (i:=1) sc_law.nd rfl (Or.inl rfl) (pe_callD d_l_cell_at g_l_cell_at (hr.mono (by decide)) rfl (pa_cons (pv 0) (pa_cons pe_int pa_nil))))
   (pss_cons (ps_set (i:=2) sc_law.nd rfl (Or.inl rfl) (pe_op op_add pe_int (pe_callD d_l_draw g_l_draw (hr.mono (by decide)) rfl (pa_cons (pv 1) (pa_cons pe_int (pa_cons pe_int pa_nil))))))
   (pss_cons (ps_set (i:=3) sc_law.nd rfl (Or.inl rfl) (pe_op op_fdiv (pe_callB call_len_seq rfl z_len PySem.boot_len (pa_cons (pv 0) pa_nil)) (pe_op op_add (pv 2) pe_int)))
   (pss_cons (ps_set (i:=4) sc_law.nd rfl (Or.inr rfl) (pe_callD d_l_shorts g_l_shorts (hr.mono (by decide)) rfl (pa_cons (pv 0) (pa_cons (pv 2) (pa_cons (pv 3) pa_nil)))))
   (pss_cons (ps_set (i:=5) sc_law.nd rfl (Or.inl rfl) (pe_callD d_l_nodes g_l_nodes (hr.mono (by decide)) rfl (pa_cons (pe_slice sl_list (pv 0) (po_some (pe_op op_add pe_int (pe_op op_mul (pv 2) (pv 3)))) po_none) (pa_cons (pv 4) (pa_cons pe_int pa_nil)))))
   (pss_cons (ps_lc (k:=6) rfl (lcok (caps:=["shorts"]) (js:=[4]) (cap:=⟨⟨rfl,.inl rfl,rfl,.inl rfl⟩,trivial⟩)) (pi_range1 rfl z_range (pa_cons (pv 2) pa_nil)) (fun _ _ _ _=>(pts_one (pt_cmpR op_gt (pe_callD d_l_many g_l_many (hr.mono (by decide)) rfl (pa_cons (pe_ix (r:=rIxT K) ix_tup (pe_ix (r:=rIxL K) ix_list (pv 1) (pv 0) (fun _ _=>rfl)) pe_int (fun _ _=>rfl)) pa_nil)) pe_int (nomark _)))) (fun _ _ _ _=>(pv 0)) sc_law.nd rfl rfl)
   (pss_cons (ps_if (pt_cmpR (op_eqNil hu) (pv 6) (pe_lst pa_nil) (nomark _)) (pss_one (ps_ret pe_bl)) pss_nil)
   (pss_cons (ps_set (i:=7) sc_law.nd rfl (Or.inl rfl) (pe_ix ix_list (pv 6) (pe_callD d_l_draw g_l_draw (hr.mono (by decide)) rfl (pa_cons (pv 1) (pa_cons pe_int (pa_cons (pe_callB call_len_seq rfl z_len PySem.boot_len (pa_cons (pv 6) pa_nil)) pa_nil)))) (fun _ _=>rfl)))
   (pss_cons (ps_set (i:=8) sc_law.nd rfl (Or.inl rfl) (pe_callD d_l_draw g_l_draw (hr.mono (by decide)) rfl (pa_cons (pv 1) (pa_cons pe_int (pa_cons (pe_callD d_l_many g_l_many (hr.mono (by decide)) rfl (pa_cons (pe_ix ix_tup (pe_ix ix_list (pv 4) (pv 7) (fun _ _=>rfl)) pe_int (fun _ _=>rfl)) pa_nil)) pa_nil)))))
   (pss_cons (ps_set (i:=9) sc_law.nd rfl (Or.inl rfl) (pe_callD d_one_step g_one_step (hr.mono (by decide)) rfl (pa_cons (pe_callD d_l_copy g_l_copy (hr.mono (by decide)) rfl (pa_cons (pe_slice sl_list (pv 4) po_none (po_some (pv 7))) pa_nil)) (pa_cons (pe_callD d_l_copy g_l_copy (hr.mono (by decide)) rfl (pa_cons (pe_ix ix_tup (pe_ix ix_list (pv 4) (pv 7) (fun _ _=>rfl)) pe_int (fun _ _=>rfl)) pa_nil)) (pa_cons (pv 8) pa_nil)))))
   (pss_cons (ps_if (pt_not (pt_val (pe_callD d_l_sound g_l_sound (hr.mono (by decide)) rfl (pa_cons (pe_slice sl_list (pv 4) po_none (po_some (pv 7))) (pa_cons (pv 9) (pa_cons (pe_ix ix_tup (pe_ix ix_list (pv 4) (pv 7) (fun _ _=>rfl)) pe_int (fun _ _=>rfl)) pa_nil)))) (fun _=>rfl))) (pss_one (ps_ret pe_bl)) pss_nil)
   (pss_cons (ps_asg (pe_callD d_l_anew g_l_anew (hr.mono (by decide)) rfl (pa_cons (pv 4) (pa_cons (pv 7) (pa_cons (pv 9) pa_nil)))) (pg_tup rfl (pgs_cons (pg_name (i:=10) sc_law.nd rfl (Or.inl rfl)) (pgs_cons (pg_name (i:=11) sc_law.nd rfl (Or.inl rfl)) pgs_nil))))
   (pss_cons (ps_if (PW.pt (pw_or (pt_not (pt_val (pv 10) (fun _=>rfl))) (pw_or1 (pt_cmpR (op_eqNil hu) (pv 11) (pe_lst pa_nil) (nomark _))))) (pss_one (ps_ret (pv 10))) pss_nil)
   (pss_cons (ps_lc (k:=12) rfl (lcok (caps:=[]) (js:=[]) (cap:=trivial)) (pi_list (pe_callD d_l_flat g_l_flat (hr.mono (by decide)) rfl (pa_cons (pe_callD d_l_flats g_l_flats (hr.mono (by decide)) rfl (pa_cons (pv 4) pa_nil)) (pa_cons (pv 5) pa_nil)))) (fun _ _ _ _=>pts_nil) (fun _ _ _ _=>(pe_ix (r:=rIxT K) ix_tup (pv 0) pe_int (fun _ _=>rfl))) sc_law.nd rfl rfl)
   (pss_cons (ps_for PassesOwn.never rfl (pi_list (pe_lst (pa_cons (pv 4) (pa_cons (pv 11) pa_nil)))) (pg_name (i:=13) sc_law.nd rfl (Or.inl rfl)) (pss_cons (ps_asg (pe_callD d_l_size g_l_size (hr.mono (by decide)) rfl (pa_cons (pv 13) (pa_cons (pv 5) (pa_cons pe_int pa_nil)))) (pg_tup rfl (pgs_cons (pg_name (i:=14) sc_law.nd rfl (Or.inl rfl)) (pgs_cons (pg_name (i:=15) sc_law.nd rfl (Or.inl rfl)) pgs_nil))))
   (pss_cons (ps_set (i:=16) sc_law.nd rfl (Or.inl rfl) (pe_callD d_l_put g_l_put (hr.mono (by decide)) rfl (pa_cons (pv 13) (pa_cons (pv 5) pa_nil))))
   (pss_one (ps_if (PW.pt (pw_or (pt_cmpR op_gt (pe_ix ix_list (pv 14) pe_int (fun _ _=>rfl)) pe_int (nomark _)) (pw_or1 (pt_cmpR op_gt (pv 15) pe_int (nomark _))))) (pss_one (ps_if (pt_cmpR op_notN (pv 16) pe_non (nomark _)) (pss_one (ps_ret pe_bl)) pss_nil)) (pss_one (ps_if (pt_not (pt_val (pe_callD d_l_alike g_l_alike (hr.mono (by decide)) rfl (pa_cons (pv 16) (pa_cons (pv 12) pa_nil))) (fun _=>rfl))) (pss_one (ps_ret pe_bl)) pss_nil)))))))
   (pss_one (ps_ret pe_bl))))))))))))))))),?_⟩
 refine ⟨_,rfl,sa,ns,0,rfl,hS,?_⟩
 generalize ns.getD 0 0=c0
 obtain ⟨m4,e4,h4⟩:=draw_nat c0 48 (show 0 < 3 by decide)
 have e4:draw c0 48 3=(m4:Int):=e4
 refine ⟨_,rfl,c0,48,3,rfl,⟨by decide,by decide⟩,by decide,_,_,rfl,rfl,?_⟩
 dsimp only [gName]
 have em:2+draw c0 48 3=((2+m4:Nat) : Int):=by rw [e4]; omega
 rw [em]
 obtain ⟨m,hm⟩ : ∃ m,m=2+m4:=⟨_,rfl⟩
 rw [← hm]
 refine ⟨_,rfl,_,_,rfl,.inl hS,_,rfl,_,_,rfl,rfl,_,_,rfl,rfl,⟨by omega,by omega⟩,?_⟩
 dsimp only [gName]
 rw [List.length_map]
 obtain ⟨per,eper,hper⟩ : ∃ per:Nat,(ns.length:Int) / ((m:Int)+1)=(per:Int)∧per≤63:=⟨ns.length / (m+1),by rw [Int.natCast_ediv]; rfl,Nat.le_trans (Nat.div_le_self _ _) h63⟩
 rw [eper]
 refine ⟨_,rfl,_,rfl,_,rfl,sa,ns,m,per,rfl,hS,h63,by omega,by omega,hper,fun pS H1 S s1 fpS ⟨vsS,kS,rvS⟩ sok sl=>?_⟩
 dsimp only [gName]
 have sl4:=sok.len
 have m10:=m10_of sok.w
 have vSl:=rvS.len
 rw [List.length_map] at vSl
 have rS:∀ {G:Hp},Same H1 G→Rep K G (.lst (S.map shD)) (.ref pS):=fun s=>rep_lst (SqL.of (s _ _ kS)) (by rw [List.length_map]; omega) (rvS.mono s)
 refine ⟨_,rfl,_,rfl,_,rfl,_,_,rfl,rfl,.inl ⟨by omega,by omega⟩,_,_,rfl,rfl,_,rfl,_,_,rfl,s1.seq hS,fun p2 hp2=>?_⟩
 rw [cutV_map]
 obtain ⟨cs,ecs,csl⟩ : ∃ cs,cs=cutL ns (some (1+(m:Int) * (per:Int))) none∧cs.length≤63:=⟨_,rfl,by have:=cut_len ns (some (1+(m:Int) * (per:Int))) none; omega⟩
 rw [← ecs]
 clear ecs
 have g2:=same_new hp2 (.lst (cs.map V.int))
 have k2:upd H1 p2 (.lst (cs.map V.int)) p2=some (.lst (cs.map V.int)):=upd_same
 generalize upd H1 p2 (.lst (cs.map V.int))=H3 at g2 k2 ⊢
 have mokS:=mok_of sok.w
 refine ⟨_,rfl,p2,pS,cs,_,0,rfl,SqL.of k2,csl,menu_of (rS g2),mokS,by decide,fun pn H5 xs s5 fpn ⟨vn,kn,rn⟩ xl ndx xc=>?_⟩
 dsimp only [gName]
 have rn5:Rep K H5 (.lst xs) (.ref pn):=rep_lst (SqL.of kn) (by omega) (rn.mono erG_in)
 have s15:=g2.trans s5
 refine ⟨_,rfl,_,rfl,by omega,by omega,lc_range (fun i ys G=>Same H5 G∧∃ bs:List Nat,bs.length≤i∧ys=bs.map (fun b:Nat=>V.int (b:Int))∧∀ b ∈ bs,∃ s,S[b]? = some s∧0 < callsL s.ns) ⟨Same.refl _,[],by simp,rfl,fun b hb=>(by cases hb)⟩ ?_ ?_ ?_⟩
 ·rintro i ys G hi ⟨_,bs,hl,rfl,_⟩
  rw [List.length_map]
  exact small1000 (by omega)
 ·rintro i ys G hi ⟨sG,bs,hl,rfl,hbs⟩
  have hi':i < S.length:=by omega
  have es:=List.getElem?_eq_getElem hi'
  generalize S[i]'hi' = s at es
  obtain ⟨v,ev,rv⟩:=rvS.get (i:=i) (d:=shD s) (by rw [List.getElem?_map,es]; rfl)
  obtain ⟨ea,nv,rv',rfl,st,rnv,rrv⟩:=sh_out rv
  have sH:=s15.trans sG
  have hms:=List.mem_of_getElem? es
  refine ⟨_,rfl,_,rfl,_,_,_,_,rfl,rfl,SqL.of (sH _ _ kS),by rw [Int.zero_add]; exact atI_nat ev,_,_,_,_,rfl,rfl,sH.tup st,atI_nat (j:=2) rfl,nv,s.ns,menuS (S.take i),s.c,12,rfl,by decide,rnv.mono sH,sok.o.ord0 i s es,m10_of (sw_take sok.w i),fun G1 t1=>⟨_,_,rfl,rfl,_,rfl,?_⟩⟩
  refine ite2 (fun c1=>?_) (fun c1=>⟨sG.trans t1,bs,by omega,rfl,hbs⟩)
  have c1:(0:Int) < (callsL s.ns:Int):=of_decide_eq_true c1
  refine ⟨_,rfl,sG.trans t1,bs++[i],by simp; omega,by simp,fun b hb=>?_⟩
  rcases List.mem_append.mp hb with hb | hb
  ·exact hbs b hb
  ·rw [List.mem_singleton.mp hb]; exact ⟨s,es,by omega⟩
 rintro ys G ⟨sG,bs,hl,rfl,hbs⟩ pq hpq
 have gq:=same_new hpq (.lst (bs.map fun b:Nat=>V.int (b:Int)))
 have kq:upd G pq (.lst (bs.map fun b:Nat=>V.int (b:Int))) pq=some (.lst (bs.map fun b:Nat=>V.int (b:Int))):=upd_same
 generalize upd G pq (.lst (bs.map fun b:Nat=>V.int (b:Int)))=G1 at gq kq ⊢
 dsimp only [gName]
 have s1a:=s15.trans (sG.trans gq)
 have s5a:=sG.trans gq
 refine ⟨_,rfl,small (by simp),fun p3 hp3=>?_⟩
 have g3:=same_new hp3 (.lst [])
 have k3:upd G1 p3 (.lst []) p3=some (.lst []):=upd_same
 have kq3:=g3 _ _ kq
 generalize upd G1 p3 (.lst [])=G2 at g3 k3 kq3 ⊢
 refine ⟨_,_,_,rfl,rfl,SqL.of kq3,SqL.of k3,_,rfl,?_⟩
 refine ite2 (fun c1=>q _) (fun c1=>?_)
 have hne:0 < bs.length:=by
  rcases List.eq_nil_or_concat bs with e | ⟨_,_,e⟩
  ·rw [e] at c1; exact absurd rfl c1
  ·rw [e]; simp
 clear c1
 obtain ⟨j,ej,hj⟩:=draw_nat c0 55 hne
 have eb:=List.getElem?_eq_getElem hj
 generalize bs[j]'hj=k0 at eb
 obtain ⟨s0,h0,hpos⟩:=hbs k0 (List.mem_of_getElem? eb)
 refine ⟨_,rfl,_,rfl,_,rfl,_,_,rfl,.inl (SqL.of kq3),c0,55,_,rfl,⟨by decide,by decide⟩,by rw [List.length_map]; omega,_,_,_,_,rfl,rfl,SqL.of kq3,by rw [List.length_map,ej]; exact atI_nat (by rw [List.getElem?_map,eb]; rfl),?_⟩
 dsimp only [gName]
 clear ej
 have s12:=s1a.trans g3
 have s52:=s5a.trans g3
 obtain ⟨v0,ev,rv⟩:=rvS.get (i:=k0) (d:=shD s0) (by rw [List.getElem?_map,h0]; rfl)
 obtain ⟨ea,nv0,rv0,rfl,st0,rn0,rr0⟩:=sh_out rv
 have hm0:=List.mem_of_getElem? h0
 have k0l:=(List.getElem?_eq_some_iff.mp h0).1
 have nd0:=sok.o.ord0 k0 s0 h0
 have sw0:=sw_take sok.w k0
 have m0:=m10_of sw0
 have h63':=sok.cls s0 hm0
 have c9:=sok.c9 s0 hm0
 obtain ⟨r1,r2⟩:=row_self sok.o h0
 have lv0:=lvL_row (sok.x.take k0) (c:=s0.c) (d:=12) (xs:=s0.ns) fun x hx=>(nd0 x hx).ns
 have sum0:=sok.x.sum s0 hm0
 rw [r1] at lv0
 have d0:=nd_deep nd0 (by decide)
 have dS0:=sh_deep sw0
 refine ⟨_,rfl,_,rfl,_,rfl,_,_,_,_,rfl,rfl,SqL.of (s12 _ _ kS),atI_nat ev,_,_,_,_,rfl,rfl,s12.tup st0,atI_nat (j:=2) rfl,nv0,s0.ns,menuS (S.take k0),s0.c,12,rfl,by decide,rn0.mono s12,nd0,m0,fun G3 t3=>?_⟩
 refine ⟨c0,56,_,rfl,⟨by decide,by decide⟩,by omega,?_⟩
 generalize draw c0 56 (callsL s0.ns:Int)=tt
 dsimp only [gName]
 have s13:=s12.trans t3
 obtain ⟨b1,b2,b3,b4⟩:=step_body (sok.o.take k0) (fun s hs=>sok.cls s (mem_tk hs)) (c:=s0.c) (xs:=s0.ns) (fun x hx=>(nd0 x hx).ns) (by rw [r1]; exact sum0) h63' tt
 refine ⟨_,rfl,_,rfl,_,rfl,_,_,rfl,SqL.of (s13 _ _ kS),fun p6 hp6=>?_⟩
 rw [cutV_to (by omega)]
 have g6:=same_new hp6 (.lst (vsS.take k0))
 have k6:upd G3 p6 (.lst (vsS.take k0)) p6=some (.lst (vsS.take k0)):=upd_same
 generalize upd G3 p6 (.lst (vsS.take k0))=G6 at g6 k6 ⊢
 have s16:=s13.trans g6
 have rp6:Rep K G6 (.lst ((S.take k0).map shD)) (.ref p6):=rep_lst (SqL.of k6) (by rw [List.length_map,List.length_take]; omega) (by rw [List.map_take]; exact (rvS.mono s16).take k0)
 refine ⟨_,_,rfl,by omega,rp6,fun v1 G7 t7 r7=>⟨_,rfl,_,rfl,_,_,_,_,rfl,rfl,SqL.of ((s16.trans t7) _ _ kS),atI_nat ev,_,_,_,_,rfl,rfl,(s16.trans t7).tup st0,atI_nat (j:=2) rfl,_,_,rfl,by omega,rn0.mono (s16.trans t7),fun v2 G8 t8 r8=>?_⟩⟩
 have s18:=(s16.trans t7).trans t8
 refine ⟨_,rfl,v1,v2,tt,S.take k0,s0.ns,s0.c,12,24,rfl,r7.mono t8,sok.o.take k0,m0,r8,nd0,by decide,by omega,b1,by decide,by omega,fun pb G9 vb t9 kpb rb=>?_⟩
 dsimp only [gName]
 have rpb:Rep K G9 (.lst (stL (S.take k0) 12 tt s0.ns)) (.ref pb):=rep_lst (SqL.of kpb) (by omega) rb
 have s19:=s18.trans t9
 refine ⟨_,rfl,_,rfl,_,rfl,_,_,rfl,SqL.of (s19 _ _ kS),fun p10 hp10=>?_⟩
 rw [cutV_to (by omega)]
 have g10:=same_new hp10 (.lst (vsS.take k0))
 have k10:upd G9 p10 (.lst (vsS.take k0)) p10=some (.lst (vsS.take k0)):=upd_same
 generalize upd G9 p10 (.lst (vsS.take k0))=G10 at g10 k10 ⊢
 have s110:=s19.trans g10
 have rp10:Rep K G10 (.lst ((S.take k0).map shD)) (.ref p10):=rep_lst (SqL.of k10) (by rw [List.length_map,List.length_take]; omega) (by rw [List.map_take]; exact (rvS.mono s110).take k0)
 refine ⟨_,rfl,_,rfl,_,rfl,_,_,_,_,rfl,rfl,SqL.of (s110 _ _ kS),atI_nat ev,_,_,_,_,rfl,rfl,s110.tup st0,atI_nat (j:=1) rfl,.ref p10,.ref pb,S.take k0,_,s0.c,24,rfl,by decide,rp10,sw0.nd,by have:=sw0.len; omega,rpb.mono g10,b1,fun G11 t11=>⟨_,rfl,?_⟩⟩
 refine iteF ?_
 have s111:=s110.trans t11
 have t511:Same H5 G11:=s52.trans (t3.trans (g6.trans (t7.trans (t8.trans (t9.trans (g10.trans t11))))))
 refine ⟨_,rfl,_,rfl,_,rfl,pS,pb,k0,S,tt,s0,rfl,rS s111,sok,h0,(rpb.mono g10).mono t11,fun p pe G12 t12 kp kpe=>?_,fun p pt U G12 t12 kp rU sw an uln=>?_⟩
 ·refine ⟨p,_,rfl,SqT.of kp,rfl,_,_,rfl,_,_,rfl,rfl,?_⟩
  dsimp only [gName]
  refine ⟨_,rfl,_,rfl,?_⟩
  refine iteF ?_
  refine ⟨_,rfl,small (by simp),fun p13 hp13=>?_⟩
  have g13:=same_new hp13 (.lst [])
  refine ⟨_,_,_,rfl,rfl,SqL.of (g13 _ _ kpe),SqL.of upd_same,_,rfl,?_⟩
  refine iteT ?_
  exact ⟨_,rfl,q _⟩
 refine ⟨p,_,rfl,SqT.of kp,rfl,_,_,rfl,_,_,rfl,rfl,?_⟩
 dsimp only [gName]
 refine ⟨_,rfl,_,rfl,?_⟩
 refine iteF ?_
 refine ⟨_,rfl,small (by simp),fun p13 hp13=>?_⟩
 have g13:=same_new hp13 (.lst [])
 have k13:upd G12 p13 (.lst []) p13=some (.lst []):=upd_same
 generalize upd G12 p13 (.lst [])=G13 at g13 k13 ⊢
 obtain ⟨pt',vU,e,kU,_,rvU⟩:=id rU.lstO
 cases e
 have vUl:=rvU.len
 rw [List.length_map] at vUl
 refine ⟨_,_,_,rfl,rfl,g13.seq kU,SqL.of k13,_,rfl,?_⟩
 have hvU:vU.isEmpty=false:=by
  cases vU with
  | nil=>simp at vUl; omega
  | cons _ _=>rfl
 rw [hvU]
 refine iteF ?_
 have s113:=(s111.trans t12).trans g13
 have rx13:Rep K G13 (.lst xs) (.ref pn):=rn5.mono (t511.trans (t12.trans g13))
 have nd2:∀ x ∈ xs,Nd (menuS (S.take S.length)) 0 12 x:=fun x hx=>by
  rw [List.take_of_length_le (Nat.le_refl _)]
  exact ndx x hx
 have en2:∀ x ∈ xs,En S 256 0 x:=fun x hx=>(en_ns sok.x (ndx x hx).ns).up (by decide)
 refine ⟨_,rfl,_,S,rfl,rS s113,sok.x,fun fa G14 t14 hfl=>?_⟩
 refine ⟨_,rfl,G13,fa,_,S,xs,S.length,0,12,rfl,by decide,by omega,t14,sok.x,hfl,rx13,nd2,fun pl G15 vl L t15 fpl kpl rL lL oL tL=>?_⟩
 have vll:=rL.len
 rw [List.length_map] at vll
 refine ⟨pl,rfl,⟨_,SqL.of kpl⟩,lc_list (K:=K) (a:=pl) (xs:=vl) (fun i ys G'=>G' = G15∧ys=((L.take i).map lfS).map V.str) ⟨rfl,rfl⟩ (fun i ys G' _ z=>by rw [z.1]; exact SqL.of kpl) ?_ ?_ ?_⟩
 ·rintro i ys G' hi ⟨_,rfl⟩
  rw [List.length_map,List.length_map,List.length_take]
  exact small1000 (by omega)
 ·rintro i y ys G' hy ⟨eG,rfl⟩
  rw [eG]
  obtain ⟨dd,e1,r1⟩:=rL.getR hy
  rw [List.getElem?_map] at e1
  obtain ⟨lf,e2,rfl⟩:=Option.map_eq_some_iff.mp e1
  refine yes_go ?_
  cases lf with
  | inr k =>
   have:1≤k∧k≤0:=oL _ (List.mem_of_getElem? e2)
   omega
  | inl x =>
   obtain ⟨tb,ws,rfl,st2,_,rw2⟩:=id (Rep.tupO (l:=[.str (PySem.Str.ofString "word"),.str x]) r1)
   obtain ⟨u0,u1,rfl,w0,w1⟩:=Reps.two rw2
   rw [w1.strO] at st2
   refine ⟨_,rfl,_,_,_,_,rfl,rfl,(t14.trans t15).tup st2,rfl,rfl,?_⟩
   rw [List.take_add_one,e2,List.map_append,List.map_append]
   rfl
 rintro ys G' ⟨eG,rfl⟩ pw hpw
 rw [eG] at hpw ⊢
 clear eG G'
 rw [vll,List.take_of_length_le (Nat.le_refl _)]
 have gw:=same_new hpw (.lst ((L.map lfS).map V.str))
 have kw:upd G15 pw (.lst ((L.map lfS).map V.str)) pw=some (.lst ((L.map lfS).map V.str)):=upd_same
 generalize upd G15 pw (.lst ((L.map lfS).map V.str))=G16 at gw kw ⊢
 dsimp only [gName]
 refine ⟨_,rfl,_,rfl,le2,fun pE hpE=>?_⟩
 have gE:=same_new hpE (.lst [V.ref pS,V.ref pt])
 have kE:upd G16 pE (.lst [V.ref pS,V.ref pt]) pE=some (.lst [V.ref pS,V.ref pt]):=upd_same
 have kwE:=gE _ _ kw
 generalize upd G16 pE (.lst [V.ref pS,V.ref pt])=GE at gE kE kwE ⊢
 have t13E:=(t14.trans t15).trans (gw.trans gE)
 have rSE:=rS (s113.trans t13E)
 have rUE:=(rU.mono g13).mono t13E
 have rxE:=rx13.mono t13E
 have hmn:menuS U=menuS S:=by rw [an.menu,uln,List.take_of_length_le (Nat.le_refl _)]
 have eU:exL id U 256 [] xs=exL id S 256 [] xs:=exL_an sok.o sw.x an uln h0 rfl (by decide) (fun x hx=>(ndx x hx).ns) []
 refine ⟨pE,rfl,⟨_,SqL.of kE⟩,for_list (K:=K) (a:=pE) (xs:=[V.ref pS,V.ref pt]) (fun i σ G'=>∃ v13 v14 v15 v16:Option V,σ=[some (.ref sa),some (.int c0),some (.int (m:Int)),some (.int (per:Int)),some (.ref pS),some (.ref pn),some (.ref pq),some (.int (k0:Int)),some (.int tt),some (.ref pb),some (.bl true),some (.ref pt),some (.ref pw),v13,v14,v15,v16]∧Same GE G') ⟨none,none,none,none,rfl,Same.refl _⟩ (fun i σ G' _ z=>by obtain ⟨_,_,_,_,_,u⟩:=z; exact SqL.of (u _ _ kE)) ?_ ?_⟩
 ·rintro i y σ G' hy ⟨v13,v14,v15,v16,rfl,u1⟩
  obtain ⟨W,py,rfl,rW,wW,ndW,eW⟩ : ∃ (W:List Sh) (py:Addr),y = .ref py∧Rep K GE (.lst (W.map shD)) (.ref py)∧ShW W∧(∀ x ∈ xs,Nd (menuS W) 0 12 x)∧exL id W 256 [] xs=exL id S 256 [] xs:=by
   match i,hy with
   | 0,hy=>exact ⟨S,pS,(Option.some.inj hy).symm,rSE,sok.w,ndx,rfl⟩
   | 1,hy=>exact ⟨U,pt,(Option.some.inj hy).symm,rUE,sw,by rw [hmn]; exact ndx,eU⟩
  have hw:wrL W 12 xs=0:=fstN_zero fun y hy=>by
   obtain ⟨x,hx,rfl⟩:=List.mem_map.mp hy
   exact wr_ok wW.nd (ndW x hx)
  refine ⟨_,rfl,_,rfl,_,_,0,12,W,xs,menuS W,rfl,by decide,by decide,rW.mono u1,wW,rxE.mono u1,ndW,m10_of wW,hw,fun p1 r3 G2 u2 fr kp1 kr=>?_⟩
  refine ⟨p1,_,rfl,SqT.of kp1,rfl,_,_,rfl,_,_,rfl,rfl,?_⟩
  dsimp only [gName]
  have u12:=u1.trans u2
  refine ⟨_,rfl,_,rfl,_,_,W,xs,rfl,rW.mono u12,wW,rxE.mono u12,ndW,fun hb G3 u3=>?_,fun hb pf G3 u3 kpf=>?_⟩
  ·dsimp only [gName]
   have fin:∀ {G4:Hp},Same G3 G4→Same GE G4:=fun u=>(u12.trans u3).trans u
   refine ⟨_,rfl,_,_,_,_,rfl,rfl,SqL.of (u3 _ _ kr),rwL_at _ (Nat.zero_le _),_,_,rfl,rfl,_,rfl,?_⟩
   refine ite2 (fun c1=>iteT ?_) (fun c1=>?_)
   ·refine ⟨_,rfl,rfl,_,rfl,?_⟩
    refine iteF ?_
    exact ⟨_,_,_,_,rfl,fin (Same.refl _)⟩
   have c1:¬ (400:Int) < (xs.map (szR W 0 12)).sum:=fun z=>c1 (decide_eq_true z)
   refine ⟨_,rfl,_,_,rfl,rfl,_,rfl,?_⟩
   refine ite2 (fun c2=>?_) (fun c2=>absurd (decide_eq_true (hb.resolve_left c1)) c2)
   refine ⟨_,rfl,rfl,_,rfl,?_⟩
   refine iteF ?_
   exact ⟨_,_,_,_,rfl,fin (Same.refl _)⟩
  ·dsimp only [gName]
   have c1:¬ (400:Int) < (xs.map (szR W 0 12)).sum:=fun z=>hb (.inl z)
   have c2:¬ (400:Int) < calL W 12 xs:=fun z=>hb (.inr z)
   refine ⟨_,rfl,_,_,_,_,rfl,rfl,SqL.of (u3 _ _ kr),rwL_at _ (Nat.zero_le _),_,_,rfl,rfl,_,rfl,?_⟩
   refine ite2 (fun z=>absurd (of_decide_eq_true z) c1) (fun _=>?_)
   refine ⟨_,rfl,_,_,rfl,rfl,_,rfl,?_⟩
   refine ite2 (fun z=>absurd (of_decide_eq_true z) c2) (fun _=>?_)
   have lW:(exL id W 256 [] xs).length≤400:=by
    have:=exL_lenS (wd:=id) (n:=256) (A:=[]) wW.x (fun x hx=>(en_ns wW.x (ndW x hx).ns).up (by decide)) (fun x hx=>(ndW x hx).ns)
    rw [wt_nil] at this
    omega
   have lS:(exL id S 256 [] xs).length≤400:=by rw [← eW]; exact lW
   have lt:(exL Sum.inl S 256 (idA 0) xs).length≤400:=by
    have a1:=exL_lenS (wd:=Sum.inl) (n:=256) (A:=idA 0) sok.x en2 (fun x hx=>(ndx x hx).ns)
    have a2:=exL_lenS (wd:=id) (n:=256) (A:=[]) sok.x en2 (fun x hx=>(ndx x hx).ns)
    rw [show idA 0=[] from rfl,wt_nil] at a1
    rw [wt_nil] at a2
    rw [show idA 0=[] from rfl]
    omega
   have eL:=tL lt
   have ew:exL id S 256 [] xs=L.map lfS:=by
    rw [← sb_lf oL,eL,exL_sub en2]
    rfl
   rw [eW] at kpf
   rw [← ew] at kwE
   have rWd:∀ {G':Hp} {p:Addr},G' p=some (.lst ((exL id S 256 [] xs).map V.str))→Rep K G' (.lst ((exL id S 256 [] xs).map DD.str)) (.ref p):=fun h=>rep_lst (SqL.of h) (by rw [List.length_map]; omega) (reps_strs _)
   refine ⟨_,rfl,_,rfl,_,_,_,rfl,Nat.lt_of_lt_of_le (ws_deep _) (by decide),rWd kpf,rWd ((u12.trans u3) _ _ kwE),_,rfl,?_⟩
   refine iteF ?_
   exact ⟨_,_,_,_,rfl,u12.trans u3⟩
 ·rintro σ G' ⟨v13,v14,v15,v16,rfl,u1⟩
  exact q _
end
noncomputable abbrev fdA (n:Str) (s:Stmt) (d kV dc pm:Value) (an:Option Addr) (cd ct:Value) : FuncData:=PySem.W.fnOf n n (defArgs s) (defBody s) (defScope s) d kV dc pm an cd ct
abbrev Na (K:PySem.W.Frag) (n:Str) (f:Addr) : Prop:=PySem.W.nsIn K mainGlobals n=some (some (.ref f))
abbrev Lk (K:PySem.W.Frag) (f:Addr) (n:Str) (s:Stmt) (d oc:Value) (od:Option Addr) (sl:Array (Option Value)) (kV dc pm:Value) (an:Option Addr) (cd ct:Value) : Prop:=K.lookup f=some ⟨oc,od,.func (fdA n s d kV dc pm an cd ct),sl⟩
abbrev Cd (K:PySem.W.Frag) (c:Value) (n:Str) : Prop:=PySem.W.codeIn K c n=true
abbrev Kp (K:PySem.W.Frag) (f:Addr) : Prop:=PySem.W.keepIn K (.ref f)=true
abbrev Zn (K:PySem.W.Frag) (n:Str) : Prop:=PySem.W.nsIn K mainGlobals n=some none
theorem us1 {us:List Value} (h:us.length=1) : ∃ a0,us=[a0]:=by
 match us,h with
 | [a0],_=>exact ⟨a0,rfl⟩
theorem us2 {us:List Value} (h:us.length=2) : ∃ a0 a1,us=[a0,a1]:=by
 match us,h with
 | [a0,a1],_=>exact ⟨a0,a1,rfl⟩
theorem us3 {us:List Value} (h:us.length=3) : ∃ a0 a1 a2,us=[a0,a1,a2]:=by
 match us,h with
 | [a0,a1,a2],_=>exact ⟨a0,a1,a2,rfl⟩
theorem us4 {us:List Value} (h:us.length=4) : ∃ a0 a1 a2 a3,us=[a0,a1,a2,a3]:=by
 match us,h with
 | [a0,a1,a2,a3],_=>exact ⟨a0,a1,a2,a3,rfl⟩
theorem txt_mk {P:Program} {w:World} {K:PySem.W.Frag} {h:Heap} {mg:Str→Option Value} (X:K.In h) (G:h.Ns mainGlobals mg)
  {od0 an0 od1 an1 od2 an2 od3 an3 od4 an4 od5 an5 od6 an6 od7 an7 od8 an8 od9 an9 od10 an10 od11 an11 od12 an12 od13 an13 od14 an14 od15 an15 od16 an16 od17 an17 od18 an18 od19 an19 od20 an20 od21 an21 od22 an22 od23 an23 od24 an24 od25 an25 od26 an26 od27 an27 od28 an28 od29 an29 od30 an30 od31 an31 od32 an32:Option Addr} {sl0 sl1 sl2 sl3 sl4 sl5 sl6 sl7 sl8 sl9 sl10 sl11 sl12 sl13 sl14 sl15 sl16 sl17 sl18 sl19 sl20 sl21 sl22 sl23 sl24 sl25 sl26 sl27 sl28 sl29 sl30 sl31 sl32:Array (Option Value)} {oc0 kV0 dc0 pm0 cd0 ct0 oc1 kV1 dc1 pm1 cd1 ct1 oc2 kV2 dc2 pm2 cd2 ct2 oc3 kV3 dc3 pm3 cd3 ct3 oc4 kV4 dc4 pm4 cd4 ct4 oc5 kV5 dc5 pm5 cd5 ct5 oc6 kV6 dc6 pm6 cd6 ct6 oc7 kV7 dc7 pm7 cd7 ct7 oc8 kV8 dc8 pm8 cd8 ct8 oc9 kV9 dc9 pm9 cd9 ct9 oc10 kV10 dc10 pm10 cd10 ct10 oc11 kV11 dc11 pm11 cd11 ct11 oc12 kV12 dc12 pm12 cd12 ct12 oc13 kV13 dc13 pm13 cd13 ct13 oc14 kV14 dc14 pm14 cd14 ct14 oc15 kV15 dc15 pm15 cd15 ct15 oc16 kV16 dc16 pm16 cd16 ct16 oc17 kV17 dc17 pm17 cd17 ct17 oc18 kV18 dc18 pm18 cd18 ct18 oc19 kV19 dc19 pm19 cd19 ct19 oc20 kV20 dc20 pm20 cd20 ct20 oc21 kV21 dc21 pm21 cd21 ct21 oc22 kV22 dc22 pm22 cd22 ct22 oc23 kV23 dc23 pm23 cd23 ct23 oc24 kV24 dc24 pm24 cd24 ct24 oc25 kV25 dc25 pm25 cd25 ct25 oc26 kV26 dc26 pm26 cd26 ct26 oc27 kV27 dc27 pm27 cd27 ct27 oc28 kV28 dc28 pm28 cd28 ct28 oc29 kV29 dc29 pm29 cd29 ct29 oc30 kV30 dc30 pm30 cd30 ct30 oc31 kV31 dc31 pm31 cd31 ct31 oc32 kV32 dc32 pm32 cd32 ct32:Value} {f0 f1 f2 f3 f4 f5 f6 f7 f8 f9 f10 f11 f12 f13 f14 f15 f16 f17 f18 f19 f20 f21 f22 f23 f24 f25 f26 f27 f28 f29 f30 f31 f32:Addr}
  (a0:Na K "_law_alike" f0) (l0:Lk K f0 "_law_alike" s_l_alike .none oc0 od0 sl0 kV0 dc0 pm0 an0 cd0 ct0) (c0:Cd K cd0 "_law_alike") (k0:Kp K f0)
  (a1:Na K "_law_copy" f1) (l1:Lk K f1 "_law_copy" s_l_copy .none oc1 od1 sl1 kV1 dc1 pm1 an1 cd1 ct1) (c1:Cd K cd1 "_law_copy") (k1:Kp K f1)
  (a2:Na K "copied" f2) (l2:Lk K f2 "copied" s_copied .none oc2 od2 sl2 kV2 dc2 pm2 an2 cd2 ct2) (c2:Cd K cd2 "copied") (k2:Kp K f2)
  (a3:Na K "by_name" f3) (l3:Lk K f3 "by_name" s_by_name .none oc3 od3 sl3 kV3 dc3 pm3 an3 cd3 ct3) (c3:Cd K cd3 "by_name") (k3:Kp K f3)
  (a4:Na K "short_called" f4) (l4:Lk K f4 "short_called" s_short_called .none oc4 od4 sl4 kV4 dc4 pm4 an4 cd4 ct4) (c4:Cd K cd4 "short_called") (k4:Kp K f4)
  (a5:Na K "sum_of_rows" f5) (l5:Lk K f5 "sum_of_rows" s_sum_of_rows .none oc5 od5 sl5 kV5 dc5 pm5 an5 cd5 ct5) (c5:Cd K cd5 "sum_of_rows") (k5:Kp K f5)
  (a6:Na K "size_among" f6) (l6:Lk K f6 "size_among" s_size_among .none oc6 od6 sl6 kV6 dc6 pm6 an6 cd6 ct6) (c6:Cd K cd6 "size_among") (k6:Kp K f6)
  {T7:Addr} (a7:Na K "size_of" f7) (l7:Lk K f7 "size_of" s_size_of (.ref T7) oc7 od7 sl7 kV7 dc7 pm7 an7 cd7 ct7) (c7:Cd K cd7 "size_of") (k7:Kp K f7) {oe7:Value} {oo7:Option Addr} {os7:Array (Option Value)} {on7:Nat} (lt7:K.lookup T7=some ⟨oe7,oo7,.seq #[(.int 0 277)] on7,os7⟩)
  (a8:Na K "new_short" f8) (l8:Lk K f8 "new_short" s_new_short .none oc8 od8 sl8 kV8 dc8 pm8 an8 cd8 ct8) (c8:Cd K cd8 "new_short") (k8:Kp K f8)
  (a9:Na K "_law_made" f9) (l9:Lk K f9 "_law_made" s_l_made .none oc9 od9 sl9 kV9 dc9 pm9 an9 cd9 ct9) (c9:Cd K cd9 "_law_made") (k9:Kp K f9)
  (a10:Na K "_law_size" f10) (l10:Lk K f10 "_law_size" s_l_size .none oc10 od10 sl10 kV10 dc10 pm10 an10 cd10 ct10) (c10:Cd K cd10 "_law_size") (k10:Kp K f10)
  (a11:Na K "_law_anew" f11) (l11:Lk K f11 "_law_anew" s_l_anew .none oc11 od11 sl11 kV11 dc11 pm11 an11 cd11 ct11) (c11:Cd K cd11 "_law_anew") (k11:Kp K f11)
  (a12:Na K "_law_cell_at" f12) (l12:Lk K f12 "_law_cell_at" s_l_cell_at .none oc12 od12 sl12 kV12 dc12 pm12 an12 cd12 ct12) (c12:Cd K cd12 "_law_cell_at") (k12:Kp K f12)
  (a13:Na K "_law_draw" f13) (l13:Lk K f13 "_law_draw" s_l_draw .none oc13 od13 sl13 kV13 dc13 pm13 an13 cd13 ct13) (c13:Cd K cd13 "_law_draw") (k13:Kp K f13)
  (a14:Na K "_law_flat" f14) (l14:Lk K f14 "_law_flat" s_l_flat .none oc14 od14 sl14 kV14 dc14 pm14 an14 cd14 ct14) (c14:Cd K cd14 "_law_flat") (k14:Kp K f14)
  (a15:Na K "_law_flats" f15) (l15:Lk K f15 "_law_flats" s_l_flats .none oc15 od15 sl15 kV15 dc15 pm15 an15 cd15 ct15) (c15:Cd K cd15 "_law_flats") (k15:Kp K f15)
  (a16:Na K "_law_many" f16) (l16:Lk K f16 "_law_many" s_l_many .none oc16 od16 sl16 kV16 dc16 pm16 an16 cd16 ct16) (c16:Cd K cd16 "_law_many") (k16:Kp K f16)
  (a17:Na K "_law_end_argument" f17) (l17:Lk K f17 "_law_end_argument" s_l_end_argument .none oc17 od17 sl17 kV17 dc17 pm17 an17 cd17 ct17) (c17:Cd K cd17 "_law_end_argument") (k17:Kp K f17)
  (a18:Na K "_law_word_by" f18) (l18:Lk K f18 "_law_word_by" s_l_word_by .none oc18 od18 sl18 kV18 dc18 pm18 an18 cd18 ct18) (c18:Cd K cd18 "_law_word_by") (k18:Kp K f18)
  (a19:Na K "_law_nodes" f19) (l19:Lk K f19 "_law_nodes" s_l_nodes .none oc19 od19 sl19 kV19 dc19 pm19 an19 cd19 ct19) (c19:Cd K cd19 "_law_nodes") (k19:Kp K f19)
  (a20:Na K "words_out" f20) (l20:Lk K f20 "words_out" s_words_out .none oc20 od20 sl20 kV20 dc20 pm20 an20 cd20 ct20) (c20:Cd K cd20 "words_out") (k20:Kp K f20)
  (a21:Na K "put_out" f21) (l21:Lk K f21 "put_out" s_put_out .none oc21 od21 sl21 kV21 dc21 pm21 an21 cd21 ct21) (c21:Cd K cd21 "put_out") (k21:Kp K f21)
  (a22:Na K "_law_put" f22) (l22:Lk K f22 "_law_put" s_l_put .none oc22 od22 sl22 kV22 dc22 pm22 an22 cd22 ct22) (c22:Cd K cd22 "_law_put") (k22:Kp K f22)
  (a23:Na K "_law_names" f23) (l23:Lk K f23 "_law_names" s_l_names .none oc23 od23 sl23 kV23 dc23 pm23 an23 cd23 ct23) (c23:Cd K cd23 "_law_names") (k23:Kp K f23)
  (a24:Na K "_law_short" f24) (l24:Lk K f24 "_law_short" s_l_short .none oc24 od24 sl24 kV24 dc24 pm24 an24 cd24 ct24) (c24:Cd K cd24 "_law_short") (k24:Kp K f24)
  (a25:Na K "_law_shorts" f25) (l25:Lk K f25 "_law_shorts" s_l_shorts .none oc25 od25 sl25 kV25 dc25 pm25 an25 cd25 ct25) (c25:Cd K cd25 "_law_shorts") (k25:Kp K f25)
  (a26:Na K "_law_sound" f26) (l26:Lk K f26 "_law_sound" s_l_sound .none oc26 od26 sl26 kV26 dc26 pm26 an26 cd26 ct26) (c26:Cd K cd26 "_law_sound") (k26:Kp K f26)
  (a27:Na K "calls_in" f27) (l27:Lk K f27 "calls_in" s_calls_in .none oc27 od27 sl27 kV27 dc27 pm27 an27 cd27 ct27) (c27:Cd K cd27 "calls_in") (k27:Kp K f27)
  (a28:Na K "arguments_stepped" f28) (l28:Lk K f28 "arguments_stepped" s_arguments_stepped .none oc28 od28 sl28 kV28 dc28 pm28 an28 cd28 ct28) (c28:Cd K cd28 "arguments_stepped") (k28:Kp K f28)
  (a29:Na K "filled" f29) (l29:Lk K f29 "filled" s_filled .none oc29 od29 sl29 kV29 dc29 pm29 an29 cd29 ct29) (c29:Cd K cd29 "filled") (k29:Kp K f29)
  (a30:Na K "stepped" f30) (l30:Lk K f30 "stepped" s_stepped .none oc30 od30 sl30 kV30 dc30 pm30 an30 cd30 ct30) (c30:Cd K cd30 "stepped") (k30:Kp K f30)
  (a31:Na K "one_step" f31) (l31:Lk K f31 "one_step" s_one_step .none oc31 od31 sl31 kV31 dc31 pm31 an31 cd31 ct31) (c31:Cd K cd31 "one_step") (k31:Kp K f31)
  (a32:Na K "law" f32) (l32:Lk K f32 "law" s_law .none oc32 od32 sl32 kV32 dc32 pm32 an32 cd32 ct32) (c32:Cd K cd32 "law") (k32:Kp K f32)
  (z_bool:Zn K "bool")
  (z_dict:Zn K "dict")
  (z_enumerate:Zn K "enumerate")
  (z_int:Zn K "int")
  (z_isinstance:Zn K "isinstance")
  (z_len:Zn K "len")
  (z_list:Zn K "list")
  (z_range:Zn K "range")
  (z_str:Zn K "str")
  (z_sum:Zn K "sum")
  (z_tuple:Zn K "tuple")
  (z_zip:Zn K "zip")
  {c_BadCall:Addr} (m_BadCall:PySem.W.nsIn K mainGlobals "BadCall" = some (some (.ref c_BadCall))) (e_BadCall:PySem.W.excIn K c_BadCall veTail "ValueError.__new__" = true)
  {c_NoShort:Addr} (m_NoShort:PySem.W.nsIn K mainGlobals "NoShort" = some (some (.ref c_NoShort))) (e_NoShort:PySem.W.excIn K c_NoShort veTail "ValueError.__new__" = true)
  {c_TooLong:Addr} (m_TooLong:PySem.W.nsIn K mainGlobals "TooLong" = some (some (.ref c_TooLong))) (e_TooLong:PySem.W.excIn K c_TooLong veTail "ValueError.__new__" = true)
  (t_TooLong_TooLong:Takes K c_TooLong c_TooLong)
  {t_MOST_CALLS:Tok} (m_MOST_CALLS:PySem.W.nsIn K mainGlobals "MOST_CALLS" = some (some (.int 400 t_MOST_CALLS)))
  {t_MOST_CALLS_OF_SHORT:Tok} (m_MOST_CALLS_OF_SHORT:PySem.W.nsIn K mainGlobals "MOST_CALLS_OF_SHORT" = some (some (.int 60 t_MOST_CALLS_OF_SHORT)))
  {t_MOST_WORDS:Tok} (m_MOST_WORDS:PySem.W.nsIn K mainGlobals "MOST_WORDS" = some (some (.int 400 t_MOST_WORDS))) :
  ∃ a:Adr,Txt P w K mg a:=by
 refine ⟨{ f_l_alike:=f0,fd_l_alike:=fdA "_law_alike" s_l_alike .none kV0 dc0 pm0 an0 cd0 ct0,f_l_copy:=f1,fd_l_copy:=fdA "_law_copy" s_l_copy .none kV1 dc1 pm1 an1 cd1 ct1,f_copied:=f2,fd_copied:=fdA "copied" s_copied .none kV2 dc2 pm2 an2 cd2 ct2,f_by_name:=f3,fd_by_name:=fdA "by_name" s_by_name .none kV3 dc3 pm3 an3 cd3 ct3,f_short_called:=f4,fd_short_called:=fdA "short_called" s_short_called .none kV4 dc4 pm4 an4 cd4 ct4,f_sum_of_rows:=f5,fd_sum_of_rows:=fdA "sum_of_rows" s_sum_of_rows .none kV5 dc5 pm5 an5 cd5 ct5,f_size_among:=f6,fd_size_among:=fdA "size_among" s_size_among .none kV6 dc6 pm6 an6 cd6 ct6,f_size_of:=f7,fd_size_of:=fdA "size_of" s_size_of (.ref T7) kV7 dc7 pm7 an7 cd7 ct7,f_new_short:=f8,fd_new_short:=fdA "new_short" s_new_short .none kV8 dc8 pm8 an8 cd8 ct8,f_l_made:=f9,fd_l_made:=fdA "_law_made" s_l_made .none kV9 dc9 pm9 an9 cd9 ct9,f_l_size:=f10,fd_l_size:=fdA "_law_size" s_l_size .none kV10 dc10 pm10 an10 cd10 ct10,f_l_anew:=f11,fd_l_anew:=fdA "_law_anew" s_l_anew .none kV11 dc11 pm11 an11 cd11 ct11,f_l_cell_at:=f12,fd_l_cell_at:=fdA "_law_cell_at" s_l_cell_at .none kV12 dc12 pm12 an12 cd12 ct12,f_l_draw:=f13,fd_l_draw:=fdA "_law_draw" s_l_draw .none kV13 dc13 pm13 an13 cd13 ct13,f_l_flat:=f14,fd_l_flat:=fdA "_law_flat" s_l_flat .none kV14 dc14 pm14 an14 cd14 ct14,f_l_flats:=f15,fd_l_flats:=fdA "_law_flats" s_l_flats .none kV15 dc15 pm15 an15 cd15 ct15,f_l_many:=f16,fd_l_many:=fdA "_law_many" s_l_many .none kV16 dc16 pm16 an16 cd16 ct16,f_l_end_argument:=f17,fd_l_end_argument:=fdA "_law_end_argument" s_l_end_argument .none kV17 dc17 pm17 an17 cd17 ct17,f_l_word_by:=f18,fd_l_word_by:=fdA "_law_word_by" s_l_word_by .none kV18 dc18 pm18 an18 cd18 ct18,f_l_nodes:=f19,fd_l_nodes:=fdA "_law_nodes" s_l_nodes .none kV19 dc19 pm19 an19 cd19 ct19,f_words_out:=f20,fd_words_out:=fdA "words_out" s_words_out .none kV20 dc20 pm20 an20 cd20 ct20,f_put_out:=f21,fd_put_out:=fdA "put_out" s_put_out .none kV21 dc21 pm21 an21 cd21 ct21,f_l_put:=f22,fd_l_put:=fdA "_law_put" s_l_put .none kV22 dc22 pm22 an22 cd22 ct22,f_l_names:=f23,fd_l_names:=fdA "_law_names" s_l_names .none kV23 dc23 pm23 an23 cd23 ct23,f_l_short:=f24,fd_l_short:=fdA "_law_short" s_l_short .none kV24 dc24 pm24 an24 cd24 ct24,f_l_shorts:=f25,fd_l_shorts:=fdA "_law_shorts" s_l_shorts .none kV25 dc25 pm25 an25 cd25 ct25,f_l_sound:=f26,fd_l_sound:=fdA "_law_sound" s_l_sound .none kV26 dc26 pm26 an26 cd26 ct26,f_calls_in:=f27,fd_calls_in:=fdA "calls_in" s_calls_in .none kV27 dc27 pm27 an27 cd27 ct27,f_arguments_stepped:=f28,fd_arguments_stepped:=fdA "arguments_stepped" s_arguments_stepped .none kV28 dc28 pm28 an28 cd28 ct28,f_filled:=f29,fd_filled:=fdA "filled" s_filled .none kV29 dc29 pm29 an29 cd29 ct29,f_stepped:=f30,fd_stepped:=fdA "stepped" s_stepped .none kV30 dc30 pm30 an30 cd30 ct30,f_one_step:=f31,fd_one_step:=fdA "one_step" s_one_step .none kV31 dc31 pm31 an31 cd31 ct31,f_law:=f32,fd_law:=fdA "law" s_law .none kV32 dc32 pm32 an32 cd32 ct32,c_BadCall:=c_BadCall,c_NoShort:=c_NoShort,c_TooLong:=c_TooLong },{
  d_l_alike:=defok_mk X G a0 l0 c0 k0 fun _ _ _ _ _ _ us hl=>by obtain ⟨_,⟨_,rfl⟩⟩:=us2 hl; rfl,
  d_l_copy:=defok_mk X G a1 l1 c1 k1 fun _ _ _ _ _ _ us hl=>by obtain ⟨_,rfl⟩:=us1 hl; rfl,
  d_copied:=defok_mk X G a2 l2 c2 k2 fun _ _ _ _ _ _ us hl=>by obtain ⟨_,rfl⟩:=us1 hl; rfl,
  d_by_name:=defok_mk X G a3 l3 c3 k3 fun _ _ _ _ _ _ us hl=>by obtain ⟨_,rfl⟩:=us1 hl; rfl,
  d_short_called:=defok_mk X G a4 l4 c4 k4 fun _ _ _ _ _ _ us hl=>by obtain ⟨_,⟨_,rfl⟩⟩:=us2 hl; rfl,
  d_sum_of_rows:=defok_mk X G a5 l5 c5 k5 fun _ _ _ _ _ _ us hl=>by obtain ⟨_,⟨_,⟨_,rfl⟩⟩⟩:=us3 hl; rfl,
  d_size_among:=defok_mk X G a6 l6 c6 k6 fun _ _ _ _ _ _ us hl=>by obtain ⟨_,⟨_,⟨_,rfl⟩⟩⟩:=us3 hl; rfl,
  d_size_of:=defokV_mk X G a7 l7 c7 k7 lt7 (fun _ _ _ _ _ _ us hl=>by obtain ⟨_,⟨_,⟨_,rfl⟩⟩⟩:=us3 hl; exact ⟨_,rfl,rfl⟩) (fun _ _ _ _ _ _ us hl=>by obtain ⟨_,⟨_,rfl⟩⟩:=us2 (Nat.succ.inj hl); exact ⟨_,rfl,rfl⟩),
  d_new_short:=defok_mk X G a8 l8 c8 k8 fun _ _ _ _ _ _ us hl=>by obtain ⟨_,⟨_,⟨_,⟨_,rfl⟩⟩⟩⟩:=us4 hl; rfl,
  d_l_made:=defok_mk X G a9 l9 c9 k9 fun _ _ _ _ _ _ us hl=>by obtain ⟨_,⟨_,rfl⟩⟩:=us2 hl; rfl,
  d_l_size:=defok_mk X G a10 l10 c10 k10 fun _ _ _ _ _ _ us hl=>by obtain ⟨_,⟨_,⟨_,rfl⟩⟩⟩:=us3 hl; rfl,
  d_l_anew:=defok_mk X G a11 l11 c11 k11 fun _ _ _ _ _ _ us hl=>by obtain ⟨_,⟨_,⟨_,rfl⟩⟩⟩:=us3 hl; rfl,
  d_l_cell_at:=defok_mk X G a12 l12 c12 k12 fun _ _ _ _ _ _ us hl=>by obtain ⟨_,⟨_,rfl⟩⟩:=us2 hl; rfl,
  d_l_draw:=defok_mk X G a13 l13 c13 k13 fun _ _ _ _ _ _ us hl=>by obtain ⟨_,⟨_,⟨_,rfl⟩⟩⟩:=us3 hl; rfl,
  d_l_flat:=defok_mk X G a14 l14 c14 k14 fun _ _ _ _ _ _ us hl=>by obtain ⟨_,⟨_,rfl⟩⟩:=us2 hl; rfl,
  d_l_flats:=defok_mk X G a15 l15 c15 k15 fun _ _ _ _ _ _ us hl=>by obtain ⟨_,rfl⟩:=us1 hl; rfl,
  d_l_many:=defok_mk X G a16 l16 c16 k16 fun _ _ _ _ _ _ us hl=>by obtain ⟨_,rfl⟩:=us1 hl; rfl,
  d_l_end_argument:=defok_mk X G a17 l17 c17 k17 fun _ _ _ _ _ _ us hl=>by obtain ⟨_,rfl⟩:=us1 hl; rfl,
  d_l_word_by:=defok_mk X G a18 l18 c18 k18 fun _ _ _ _ _ _ us hl=>by obtain ⟨_,rfl⟩:=us1 hl; rfl,
  d_l_nodes:=defok_mk X G a19 l19 c19 k19 fun _ _ _ _ _ _ us hl=>by obtain ⟨_,⟨_,⟨_,rfl⟩⟩⟩:=us3 hl; rfl,
  d_words_out:=defok_mk X G a20 l20 c20 k20 fun _ _ _ _ _ _ us hl=>by obtain ⟨_,⟨_,⟨_,rfl⟩⟩⟩:=us3 hl; rfl,
  d_put_out:=defok_mk X G a21 l21 c21 k21 fun _ _ _ _ _ _ us hl=>by obtain ⟨_,⟨_,rfl⟩⟩:=us2 hl; rfl,
  d_l_put:=defok_mk X G a22 l22 c22 k22 fun _ _ _ _ _ _ us hl=>by obtain ⟨_,⟨_,rfl⟩⟩:=us2 hl; rfl,
  d_l_names:=defok_mk X G a23 l23 c23 k23 fun _ _ _ _ _ _ us hl=>by obtain ⟨_,⟨_,rfl⟩⟩:=us2 hl; rfl,
  d_l_short:=defok_mk X G a24 l24 c24 k24 fun _ _ _ _ _ _ us hl=>by obtain ⟨_,⟨_,⟨_,⟨_,rfl⟩⟩⟩⟩:=us4 hl; rfl,
  d_l_shorts:=defok_mk X G a25 l25 c25 k25 fun _ _ _ _ _ _ us hl=>by obtain ⟨_,⟨_,⟨_,rfl⟩⟩⟩:=us3 hl; rfl,
  d_l_sound:=defok_mk X G a26 l26 c26 k26 fun _ _ _ _ _ _ us hl=>by obtain ⟨_,⟨_,⟨_,rfl⟩⟩⟩:=us3 hl; rfl,
  d_calls_in:=defok_mk X G a27 l27 c27 k27 fun _ _ _ _ _ _ us hl=>by obtain ⟨_,rfl⟩:=us1 hl; rfl,
  d_arguments_stepped:=defok_mk X G a28 l28 c28 k28 fun _ _ _ _ _ _ us hl=>by obtain ⟨_,⟨_,⟨_,rfl⟩⟩⟩:=us3 hl; rfl,
  d_filled:=defok_mk X G a29 l29 c29 k29 fun _ _ _ _ _ _ us hl=>by obtain ⟨_,⟨_,rfl⟩⟩:=us2 hl; rfl,
  d_stepped:=defok_mk X G a30 l30 c30 k30 fun _ _ _ _ _ _ us hl=>by obtain ⟨_,⟨_,⟨_,rfl⟩⟩⟩:=us3 hl; rfl,
  d_one_step:=defok_mk X G a31 l31 c31 k31 fun _ _ _ _ _ _ us hl=>by obtain ⟨_,⟨_,⟨_,rfl⟩⟩⟩:=us3 hl; rfl,
  d_law:=defok_mk X G a32 l32 c32 k32 fun _ _ _ _ _ _ us hl=>by obtain ⟨_,rfl⟩:=us1 hl; rfl,
  z_bool:=PySem.W.mg_none_of X G z_bool,
  z_dict:=PySem.W.mg_none_of X G z_dict,
  z_enumerate:=PySem.W.mg_none_of X G z_enumerate,
  z_int:=PySem.W.mg_none_of X G z_int,
  z_isinstance:=PySem.W.mg_none_of X G z_isinstance,
  z_len:=PySem.W.mg_none_of X G z_len,
  z_list:=PySem.W.mg_none_of X G z_list,
  z_range:=PySem.W.mg_none_of X G z_range,
  z_str:=PySem.W.mg_none_of X G z_str,
  z_sum:=PySem.W.mg_none_of X G z_sum,
  z_tuple:=PySem.W.mg_none_of X G z_tuple,
  z_zip:=PySem.W.mg_none_of X G z_zip,
  x_BadCall:=⟨PySem.W.mg_of X G m_BadCall,e_BadCall⟩,
  x_NoShort:=⟨PySem.W.mg_of X G m_NoShort,e_NoShort⟩,
  x_TooLong:=⟨PySem.W.mg_of X G m_TooLong,e_TooLong⟩,
  t_TooLong_TooLong:=t_TooLong_TooLong,
  m_MOST_CALLS:=⟨t_MOST_CALLS,PySem.W.mg_of X G m_MOST_CALLS⟩,
  m_MOST_CALLS_OF_SHORT:=⟨t_MOST_CALLS_OF_SHORT,PySem.W.mg_of X G m_MOST_CALLS_OF_SHORT⟩,
  m_MOST_WORDS:=⟨t_MOST_WORDS,PySem.W.mg_of X G m_MOST_WORDS⟩ }⟩
theorem walk {l:PySem.W.OpenLaw} {q:Program} {loose:List Str} {XP:(Str→Option Value)→Heap→Prop} {YP:World→Heap→Prop} {d:DefRec} {K:Params→PySem.W.Frag} (hn:l.most=some 63) (hdf:d.params.defaults=[]) (hnm:d.name = "law")
  (hY:∀ (w:World) (h:Heap),YP w h→(K w.params).In h)
  (F:∀ (w:World) (mg:Str→Option Value) (h:Heap),(K w.params).In h→h.Ns mainGlobals mg→∃ a:Adr,Txt l.prog w (K w.params) mg a) :
  PySem.W.WalkO q loose XP YP l.row.toRowW d [] (fun f vs=>PySem.call f vs):=
 L2.walk_of (n:=63) (k:=153) (x := "script") (CX:=fun _=>CX0) (sp:=fun w=>sp_law (K w.params)) hn (by decide) hdf ⟨rfl,by decide,by decide⟩ hY (fun w mg fa h KX G hmg=>by
  obtain ⟨a,T⟩:=F w mg h KX G
  have e0:=hmg.symm.trans (hnm ▸ T.d_law.mg)
  cases e0
  refine ⟨a.fd_law,fun s u=>.of_eq (T.d_law.ba [u] rfl),fun base _ _=>ok_law T⟩) (fun _ _ a ns hl _ hS=>⟨a,ns,rfl,hS,hl,fun _=>rfl⟩) fun _ _ _ _ _ z=>z
end K19
open PySem PySem.W PyProof.Rows
set_option maxRecDepth 100000 in
set_option maxHeartbeats 0 in
theorem PySem.Challenge.cw_trueleaf_k19_whole_a_step_in_a_short_holds : PySem.Challenge.rw_trueleaf_k19_whole_a_step_in_a_short.Holds := by
 w_on; o_law
 refine holds_open (q:=K19.vw) (loose:=K19.ls) (Xt:=K19.xt) (XP:=XL K19.vw []) (Yf:=Hook.obs K19.hk) (Ya:=Hook.val K19.hk) (YP:=InK K19.kk) K19.left
  (Hook.of K19.hk) (Hook.keeps K19.hk) (fun s e=>xl_of s (Bool.and_eq_true_iff.mp e).1) XL.keeps (by rfl) (by rfl) (by rfl)
  (fun s e=>recFacts_of (Bool.and_eq_true_iff.mp e).2) (by rfl) (by assumption) (by decide +kernel) ⟨rfl,rfl,rfl,rfl,rfl,by decide +kernel⟩ ?hw ?hc
 (case hw=>w_witness2)
 k_fill
 refine K19.walk (l:=PySem.Challenge.rw_trueleaf_k19_whole_a_step_in_a_short) rfl rfl rfl (fun w h Y=>Y) ?F
 case F =>
  intro w mg h KX G
  refine' K19.txt_mk KX G ?a0 ?l0 ?c0 ?k0 ?a1 ?l1 ?c1 ?k1 ?a2 ?l2 ?c2 ?k2 ?a3 ?l3 ?c3 ?k3 ?a4 ?l4 ?c4 ?k4 ?a5 ?l5 ?c5 ?k5 ?a6 ?l6 ?c6 ?k6 ?a7 ?l7 ?c7 ?k7 ?lt7 ?a8 ?l8 ?c8 ?k8 ?a9 ?l9 ?c9 ?k9 ?a10 ?l10 ?c10 ?k10 ?a11 ?l11 ?c11 ?k11 ?a12 ?l12 ?c12 ?k12 ?a13 ?l13 ?c13 ?k13 ?a14 ?l14 ?c14 ?k14 ?a15 ?l15 ?c15 ?k15 ?a16 ?l16 ?c16 ?k16 ?a17 ?l17 ?c17 ?k17 ?a18 ?l18 ?c18 ?k18 ?a19 ?l19 ?c19 ?k19 ?a20 ?l20 ?c20 ?k20 ?a21 ?l21 ?c21 ?k21 ?a22 ?l22 ?c22 ?k22 ?a23 ?l23 ?c23 ?k23 ?a24 ?l24 ?c24 ?k24 ?a25 ?l25 ?c25 ?k25 ?a26 ?l26 ?c26 ?k26 ?a27 ?l27 ?c27 ?k27 ?a28 ?l28 ?c28 ?k28 ?a29 ?l29 ?c29 ?k29 ?a30 ?l30 ?c30 ?k30 ?a31 ?l31 ?c31 ?k31 ?a32 ?l32 ?c32 ?k32 ?z_bool ?z_dict ?z_enumerate ?z_int ?z_isinstance ?z_len ?z_list ?z_range ?z_str ?z_sum ?z_tuple ?z_zip ?m_BadCall ?e_BadCall ?m_NoShort ?e_NoShort ?m_TooLong ?e_TooLong ?t_TooLong_TooLong ?m_MOST_CALLS ?m_MOST_CALLS_OF_SHORT ?m_MOST_WORDS
  (case a0 | l0 | c0 | k0 | a1 | l1 | c1 | k1 | a2 | l2 | c2 | k2 | a3 | l3 | c3 | k3 | a4 | l4 | c4 | k4 | a5 | l5 | c5 | k5 | a6 | l6 | c6 | k6 | a7 | l7 | c7 | k7 | lt7 | a8 | l8 | c8 | k8 | a9 | l9 | c9 | k9 | a10 | l10 | c10 | k10 | a11 | l11 | c11 | k11 | a12 | l12 | c12 | k12 | a13 | l13 | c13 | k13 | a14 | l14 | c14 | k14 | a15 | l15 | c15 | k15 | a16 | l16 | c16 | k16 | a17 | l17 | c17 | k17 | a18 | l18 | c18 | k18 | a19 | l19 | c19 | k19 | a20 | l20 | c20 | k20 | a21 | l21 | c21 | k21 | a22 | l22 | c22 | k22 | a23 | l23 | c23 | k23 | a24 | l24 | c24 | k24 | a25 | l25 | c25 | k25 | a26 | l26 | c26 | k26 | a27 | l27 | c27 | k27 | a28 | l28 | c28 | k28 | a29 | l29 | c29 | k29 | a30 | l30 | c30 | k30 | a31 | l31 | c31 | k31 | a32 | l32 | c32 | k32 | z_bool | z_dict | z_enumerate | z_int | z_isinstance | z_len | z_list | z_range | z_str | z_sum | z_tuple | z_zip | m_BadCall=>(first | k_is | (delta K19.Na; k_is) | (delta K19.Lk K19.fdA; k_is) | (delta K19.Cd; k_is) | (delta K19.Kp; k_is) | (delta K19.Zn; k_is)))
  (case e_BadCall=>k_exc)
  (case m_NoShort=>(first | k_is | (delta K19.Na; k_is) | (delta K19.Lk K19.fdA; k_is) | (delta K19.Cd; k_is) | (delta K19.Kp; k_is) | (delta K19.Zn; k_is)))
  (case e_NoShort=>k_exc)
  (case m_TooLong=>(first | k_is | (delta K19.Na; k_is) | (delta K19.Lk K19.fdA; k_is) | (delta K19.Cd; k_is) | (delta K19.Kp; k_is) | (delta K19.Zn; k_is)))
  (case e_TooLong=>k_exc)
  (case t_TooLong_TooLong=>((show PySem.W.exmOne _ _ _=some true); kts_exm))
  (case m_MOST_CALLS | m_MOST_CALLS_OF_SHORT | m_MOST_WORDS=>(first | k_is | (delta K19.Na; k_is) | (delta K19.Lk K19.fdA; k_is) | (delta K19.Cd; k_is) | (delta K19.Kp; k_is) | (delta K19.Zn; k_is)))
