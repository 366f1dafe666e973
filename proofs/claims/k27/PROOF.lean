import PyProof.Rows.All
import Wide.All
import OpenK.AllK
import Wide.FinOn
import Lean
import PyProof.EqAt
import PyProof.EqKinds
import PyProof.TupleCall
import PyProof.NeKinds
import KE.LcSums
import PyProof.ExcBaseAll.ValueError
import KE.KTryMore
import KE.RegKTryMore
import PyProof.StrLawsRepr
import PyProof.ReprStr
import PyProof.EnumMake
import PyProof.EnumFor
import KE.KEqDict
import PyProof.Rows.Range3
import PyProof.SumWalkG
import PyProof.ZipIter
import KE.KDictOf
import PyProof.IsiH_list
import PyProof.RaisesAny
import PyProof.SumWalkG
import KE.KIsAll
import PyProof.ExcArgsOwn
import PyProof.ExcAttrAll.ValueError
import PyProof.RulesAs
import PyProof.NsDelKeeps
import PyProof.Rows.TupAdd
import PySem.Challenge.RW_trueleaf_k27_books_made_or_refused
set_option Elab.async false
set_option linter.all false
set_option maxRecDepth 100000
set_option maxHeartbeats 4000000
namespace L2
open PySem
def defArgs (s:Stmt) : Arguments:=match s with
 | .FunctionDef _ a _ _ _ _ _ _ _ _=>a
 | _=>{ posonlyargs:=[],args:=[],vararg:=none,kwonlyargs:=[],kw_defaults:=[],kwarg:=none,defaults:=[] }
def defBody (s:Stmt) : List Stmt:=match s with
 | .FunctionDef _ _ b _ _ _ _ _ _ _=>b
 | _=>[]
def defScope (s:Stmt) : Scope:=match s with
 | .FunctionDef _ _ _ _ _ _ sc _ _ _=>sc
 | _=>{ kind:=.function,names:=[],isGenerator:=false,isCoroutine:=false }

end L2
namespace K27
open PySem PySem.W L2 PyProof.Rows
noncomputable def top (i:Nat) : Stmt:=PySem.Challenge.pw_trueleaf_k27_books_made_or_refused.main.body.getD i (.Pass ⟨0,0,0,0⟩)
noncomputable abbrev os (s:String) : Str:=Str.ofString s
noncomputable abbrev kh (P:Params) (s:Str) : Int:=PyData.keyHash P s
noncomputable abbrev cO (n:String) (a b c:Nat) (l1 l2 l5:Int) (r0:Addr) (m:Int) (r1 r2 r3 r4:Addr) (x y:Int) (d:Nat) : Obj:=⟨.type "code",none,.fields #[.str (os n) a,.str (os n) b,.str (os "/claim/cut.py") c,.int l1 0,.int l2 0,.int 0 0,.int 0 0,.int l5 0,.ref r0,.bool true,.int m 0,.ref r1,.none,.ref r2,.ref r3,.ref r4,.int x 0,.int y 0,.str (os "/claim/cut.py") d],#[]⟩
noncomputable abbrev fO (n:String) (i:Nat) (d:Value) (m:String) (k:Nat) (r:Addr) : Obj:=⟨.type "function",none,.func (fnOf (os n) (os n) (defArgs (top i)) (defBody (top i)) (defScope (top i)) d .none .none (.str (os m) k) none (.ref r) .none),#[]⟩
noncomputable def kk:Params→Frag:=fun P=>(nat_lit 2,⟨(.none),none,.dict ([]).toArray 0,#[]⟩) ::
 (nat_lit 3,⟨(.type "dict"),none,.dict (List.toArray (⟨kh P (os "__name__"),(.str (os "__name__") 165),(.str (os "law_trueleaf_k27_books_made_or_refused") 302)⟩ :: ⟨kh P (os "__doc__"),(.str (os "__doc__") 166),(.none)⟩ :: ⟨kh P (os "__package__"),(.str (os "__package__") 167),(.none)⟩ :: ⟨kh P (os "__loader__"),(.str (os "__loader__") 168),(.builtin "__main__.__loader__#opaque")⟩ :: ⟨kh P (os "__spec__"),(.str (os "__spec__") 169),(.none)⟩ :: ⟨kh P (os "__annotations__"),(.str (os "__annotations__") 170),(.ref 6)⟩ :: ⟨kh P (os "__builtins__"),(.str (os "__builtins__") 171),(.ref 4)⟩ :: ⟨kh P (os "__file__"),(.str (os "__file__") 173),(.str (os "/claim/cut.py") 172)⟩ :: ⟨kh P (os "__cached__"),(.str (os "__cached__") 174),(.none)⟩ :: ⟨kh P (os "TrueleafError"),(.str (os "TrueleafError") 206),(.ref 24)⟩ :: ⟨kh P (os "TooLong"),(.str (os "TooLong") 222),(.ref 37)⟩ :: ⟨kh P (os "BadForm"),(.str (os "BadForm") 238),(.ref 49)⟩ :: ⟨kh P (os "BadWord"),(.str (os "BadWord") 254),(.ref 61)⟩ :: ⟨kh P (os "MOST_WORDS"),(.str (os "MOST_WORDS") 258),(.int 400 257)⟩ :: ⟨kh P (os "MOST_SAYINGS"),(.str (os "MOST_SAYINGS") 260),(.int 40 259)⟩ :: ⟨kh P (os "LONGEST_TEXT"),(.str (os "LONGEST_TEXT") 262),(.int 60 261)⟩ :: ⟨kh P (os "LAST_LEAD"),(.str (os "LAST_LEAD") 264),(.int 4 263)⟩ :: ⟨kh P (os "check_form"),(.str (os "check_form") 271),(.ref 70)⟩ :: ⟨kh P (os "book_of"),(.str (os "book_of") 277),(.ref 75)⟩ :: ⟨kh P (os "check_number"),(.str (os "check_number") 286),(.ref 82)⟩ :: ⟨kh P (os "check_word"),(.str (os "check_word") 292),(.ref 87)⟩ :: ⟨kh P (os "is_saying"),(.str (os "is_saying") 301),(.ref 94)⟩ :: ⟨kh P (os "_law_cell_at"),(.str (os "_law_cell_at") 311),(.ref 101)⟩ :: ⟨kh P (os "_law_whole"),(.str (os "_law_whole") 318),(.ref 108)⟩ :: ⟨kh P (os "_law_mixed"),(.str (os "_law_mixed") 325),(.ref 115)⟩ :: ⟨kh P (os "_law_signs"),(.str (os "_law_signs") 331),(.ref 120)⟩ :: ⟨kh P (os "_law_copied"),(.str (os "_law_copied") 337),(.ref 125)⟩ :: ⟨kh P (os "_law_saying"),(.str (os "_law_saying") 346),(.ref 132)⟩ :: ⟨kh P (os "_law_word"),(.str (os "_law_word") 352),(.ref 137)⟩ :: ⟨kh P (os "_law_odd_saying"),(.str (os "_law_odd_saying") 365),(.ref 144)⟩ :: ⟨kh P (os "_law_odd_word"),(.str (os "_law_odd_word") 381),(.ref 151)⟩ :: ⟨kh P (os "_law_words"),(.str (os "_law_words") 387),(.ref 156)⟩ :: ⟨kh P (os "_law_form"),(.str (os "_law_form") 401),(.ref 163)⟩ :: ⟨kh P (os "_law_is_form"),(.str (os "_law_is_form") 408),(.ref 170)⟩ :: ⟨kh P (os "_law_is_saying"),(.str (os "_law_is_saying") 416),(.ref 177)⟩ :: ⟨kh P (os "_law_is_word"),(.str (os "_law_is_word") 422),(.ref 182)⟩ :: ⟨kh P (os "_law_due"),(.str (os "_law_due") 431),(.ref 189)⟩ :: ⟨kh P (os "_law_refused"),(.str (os "_law_refused") 441),(.ref 196)⟩ :: ⟨kh P (os "_law_form_refused"),(.str (os "_law_form_refused") 449),(.ref 203)⟩ :: ⟨kh P (os "_law_saying_kinds"),(.str (os "_law_saying_kinds") 456),(.ref 210)⟩ :: ⟨kh P (os "_law_word_kinds"),(.str (os "_law_word_kinds") 462),(.ref 215)⟩ :: ⟨kh P (os "_law_is_book"),(.str (os "_law_is_book") 468),(.ref 220)⟩ :: ⟨kh P (os "_law_told_apart"),(.str (os "_law_told_apart") 479),(.ref 227)⟩ :: ⟨kh P (os "law"),(.str (os "law") 492),(.ref 234)⟩ :: [])) 44,#[]⟩) ::
 (nat_lit 15,⟨(.type "tuple"),none,(.seq #[.type "ValueError"]),#[]⟩) ::
 (nat_lit 22,⟨(.type "tuple"),none,(.seq #[]),#[]⟩) ::
 (nat_lit 23,⟨(.type "dict"),none,.dict (List.toArray (⟨kh P (os "__module__"),(.str (os "__module__") 196),(.str (os "trueleaf.errors") 187)⟩ :: ⟨kh P (os "__firstlineno__"),(.str (os "__firstlineno__") 200),(.int 2 199)⟩ :: ⟨kh P (os "__static_attributes__"),(.str (os "__static_attributes__") 201),(.ref 22)⟩ :: ⟨kh P (os "__weakref__"),(.str (os "__weakref__") 203),(.ref 25)⟩ :: ⟨kh P (os "__doc__"),(.str (os "__doc__") 204),(.none)⟩ :: [])) 3,#[]⟩) ::
 (nat_lit 24,⟨(.type "type"),none,(.cls (PySem.ClassData.mk (os "TrueleafError") [.type "ValueError"] [.ref 24,.type "ValueError",.type "Exception",.type "BaseException",.type "object"] 23 (os "TrueleafError") true [] [.ref 37,.ref 49,.ref 61] false none false)),#[Option.some (.ref 15),none,Option.some (.str (os "TrueleafError") 189),Option.some (.str (os "TrueleafError") 197),Option.some (.builtin "ValueError.__new__"),Option.some (.bool true)]⟩) ::
 (nat_lit 25,⟨(.type "getset_descriptor"),none,(.fields #[.str (os "__weakref__") 202,.ref 24,.builtin "ExceptionGroup.__weakref__",.none]),#[]⟩) ::
 (nat_lit 28,⟨(.type "tuple"),none,(.seq #[.ref 24]),#[]⟩) ::
 (nat_lit 35,⟨(.type "tuple"),none,(.seq #[]),#[]⟩) ::
 (nat_lit 36,⟨(.type "dict"),none,.dict (List.toArray (⟨kh P (os "__module__"),(.str (os "__module__") 214),(.str (os "trueleaf.errors") 187)⟩ :: ⟨kh P (os "__firstlineno__"),(.str (os "__firstlineno__") 218),(.int 4 217)⟩ :: ⟨kh P (os "__static_attributes__"),(.str (os "__static_attributes__") 219),(.ref 35)⟩ :: ⟨kh P (os "__doc__"),(.str (os "__doc__") 220),(.none)⟩ :: [])) 2,#[]⟩) ::
 (nat_lit 37,⟨(.type "type"),none,(.cls (PySem.ClassData.mk (os "TooLong") [.ref 24] [.ref 37,.ref 24,.type "ValueError",.type "Exception",.type "BaseException",.type "object"] 36 (os "TooLong") true [] [] false none false)),#[Option.some (.ref 28),none,Option.some (.str (os "TooLong") 207),Option.some (.str (os "TooLong") 215),Option.some (.builtin "ValueError.__new__"),Option.some (.bool true)]⟩) ::
 (nat_lit 40,⟨(.type "tuple"),none,(.seq #[.ref 24]),#[]⟩) ::
 (nat_lit 47,⟨(.type "tuple"),none,(.seq #[]),#[]⟩) ::
 (nat_lit 48,⟨(.type "dict"),none,.dict (List.toArray (⟨kh P (os "__module__"),(.str (os "__module__") 230),(.str (os "trueleaf.errors") 187)⟩ :: ⟨kh P (os "__firstlineno__"),(.str (os "__firstlineno__") 234),(.int 6 233)⟩ :: ⟨kh P (os "__static_attributes__"),(.str (os "__static_attributes__") 235),(.ref 47)⟩ :: ⟨kh P (os "__doc__"),(.str (os "__doc__") 236),(.none)⟩ :: [])) 2,#[]⟩) ::
 (nat_lit 49,⟨(.type "type"),none,(.cls (PySem.ClassData.mk (os "BadForm") [.ref 24] [.ref 49,.ref 24,.type "ValueError",.type "Exception",.type "BaseException",.type "object"] 48 (os "BadForm") true [] [] false none false)),#[Option.some (.ref 40),none,Option.some (.str (os "BadForm") 223),Option.some (.str (os "BadForm") 231),Option.some (.builtin "ValueError.__new__"),Option.some (.bool true)]⟩) ::
 (nat_lit 52,⟨(.type "tuple"),none,(.seq #[.ref 24]),#[]⟩) ::
 (nat_lit 59,⟨(.type "tuple"),none,(.seq #[]),#[]⟩) ::
 (nat_lit 60,⟨(.type "dict"),none,.dict (List.toArray (⟨kh P (os "__module__"),(.str (os "__module__") 246),(.str (os "trueleaf.errors") 187)⟩ :: ⟨kh P (os "__firstlineno__"),(.str (os "__firstlineno__") 250),(.int 8 249)⟩ :: ⟨kh P (os "__static_attributes__"),(.str (os "__static_attributes__") 251),(.ref 59)⟩ :: ⟨kh P (os "__doc__"),(.str (os "__doc__") 252),(.none)⟩ :: [])) 2,#[]⟩) ::
 (nat_lit 61,⟨(.type "type"),none,(.cls (PySem.ClassData.mk (os "BadWord") [.ref 24] [.ref 61,.ref 24,.type "ValueError",.type "Exception",.type "BaseException",.type "object"] 60 (os "BadWord") true [] [] false none false)),#[Option.some (.ref 52),none,Option.some (.str (os "BadWord") 239),Option.some (.str (os "BadWord") 247),Option.some (.builtin "ValueError.__new__"),Option.some (.bool true)]⟩) ::
 (nat_lit 69,cO "check_form" 265 266 267 15 1 3 64 181 65 66 67 68 269 15 270) ::
 (nat_lit 70,fO "check_form" 10 (.none) "trueleaf.books" 255 69) ::
 (nat_lit 74,⟨(.type "code"),none,(.fields #[.str (os "book_of") 272,.str (os "book_of") 273,.str (os "/claim/cut.py") 274,.int 20 0,.int 2 0,.int 0 0,.int 0 0,.int 3 0,.ref 71,.bool true,.int 181 0,.ref 72,.none,.none,.none,.ref 73,.int 275 0,.int 20 0,.str (os "/claim/cut.py") 276]),#[]⟩) ::
 (nat_lit 75,fO "book_of" 11 (.none) "trueleaf.books" 255 74) ::
 (nat_lit 81,cO "check_number" 278 279 280 27 3 3 76 181 77 78 79 80 284 27 285) ::
 (nat_lit 82,fO "check_number" 12 (.none) "trueleaf.books" 255 81) ::
 (nat_lit 86,⟨(.type "code"),none,(.fields #[.str (os "check_word") 287,.str (os "check_word") 288,.str (os "/claim/cut.py") 289,.int 30 0,.int 2 0,.int 0 0,.int 0 0,.int 3 0,.ref 83,.bool true,.int 181 0,.ref 84,.none,.none,.none,.ref 85,.int 290 0,.int 30 0,.str (os "/claim/cut.py") 291]),#[]⟩) ::
 (nat_lit 87,fO "check_word" 13 (.none) "trueleaf.books" 255 86) ::
 (nat_lit 93,cO "is_saying" 293 294 295 37 2 3 88 181 89 90 91 92 299 37 300) ::
 (nat_lit 94,fO "is_saying" 14 (.none) "trueleaf.books" 255 93) ::
 (nat_lit 100,cO "_law_cell_at" 304 305 306 43 2 3 95 181 96 97 98 99 309 43 310) ::
 (nat_lit 101,fO "_law_cell_at" 16 (.none) "law_trueleaf_k27_books_made_or_refused" 302 100) ::
 (nat_lit 107,cO "_law_whole" 312 313 314 47 1 3 102 181 103 104 105 106 316 47 317) ::
 (nat_lit 108,fO "_law_whole" 17 (.none) "law_trueleaf_k27_books_made_or_refused" 302 107) ::
 (nat_lit 114,cO "_law_mixed" 319 320 321 49 1 3 109 181 110 111 112 113 323 49 324) ::
 (nat_lit 115,fO "_law_mixed" 18 (.none) "law_trueleaf_k27_books_made_or_refused" 302 114) ::
 (nat_lit 119,⟨(.type "code"),none,(.fields #[.str (os "_law_signs") 326,.str (os "_law_signs") 327,.str (os "/claim/cut.py") 328,.int 51 0,.int 2 0,.int 0 0,.int 0 0,.int 3 0,.ref 116,.bool true,.int 181 0,.ref 117,.none,.none,.none,.ref 118,.int 329 0,.int 51 0,.str (os "/claim/cut.py") 330]),#[]⟩) ::
 (nat_lit 120,fO "_law_signs" 19 (.none) "law_trueleaf_k27_books_made_or_refused" 302 119) ::
 (nat_lit 124,⟨(.type "code"),none,(.fields #[.str (os "_law_copied") 332,.str (os "_law_copied") 333,.str (os "/claim/cut.py") 334,.int 56 0,.int 1 0,.int 0 0,.int 0 0,.int 3 0,.ref 121,.bool true,.int 181 0,.ref 122,.none,.none,.none,.ref 123,.int 335 0,.int 56 0,.str (os "/claim/cut.py") 336]),#[]⟩) ::
 (nat_lit 125,fO "_law_copied" 20 (.none) "law_trueleaf_k27_books_made_or_refused" 302 124) ::
 (nat_lit 131,cO "_law_saying" 338 339 340 58 2 3 126 181 127 128 129 130 344 58 345) ::
 (nat_lit 132,fO "_law_saying" 21 (.none) "law_trueleaf_k27_books_made_or_refused" 302 131) ::
 (nat_lit 136,⟨(.type "code"),none,(.fields #[.str (os "_law_word") 347,.str (os "_law_word") 348,.str (os "/claim/cut.py") 349,.int 65 0,.int 2 0,.int 0 0,.int 0 0,.int 3 0,.ref 133,.bool true,.int 181 0,.ref 134,.none,.none,.none,.ref 135,.int 350 0,.int 65 0,.str (os "/claim/cut.py") 351]),#[]⟩) ::
 (nat_lit 137,fO "_law_word" 22 (.none) "law_trueleaf_k27_books_made_or_refused" 302 136) ::
 (nat_lit 143,cO "_law_odd_saying" 353 354 355 69 3 3 138 181 139 140 141 142 363 69 364) ::
 (nat_lit 144,fO "_law_odd_saying" 23 (.none) "law_trueleaf_k27_books_made_or_refused" 302 143) ::
 (nat_lit 150,cO "_law_odd_word" 366 367 368 82 4 3 145 181 146 147 148 149 379 82 380) ::
 (nat_lit 151,fO "_law_odd_word" 24 (.none) "law_trueleaf_k27_books_made_or_refused" 302 150) ::
 (nat_lit 155,⟨(.type "code"),none,(.fields #[.str (os "_law_words") 382,.str (os "_law_words") 383,.str (os "/claim/cut.py") 384,.int 97 0,.int 2 0,.int 0 0,.int 0 0,.int 3 0,.ref 152,.bool true,.int 181 0,.ref 153,.none,.none,.none,.ref 154,.int 385 0,.int 97 0,.str (os "/claim/cut.py") 386]),#[]⟩) ::
 (nat_lit 156,fO "_law_words" 25 (.none) "law_trueleaf_k27_books_made_or_refused" 302 155) ::
 (nat_lit 162,cO "_law_form" 388 389 390 114 2 3 157 181 158 159 160 161 399 114 400) ::
 (nat_lit 163,fO "_law_form" 26 (.none) "law_trueleaf_k27_books_made_or_refused" 302 162) ::
 (nat_lit 169,cO "_law_is_form" 402 403 404 127 1 3 164 181 165 166 167 168 406 127 407) ::
 (nat_lit 170,fO "_law_is_form" 27 (.none) "law_trueleaf_k27_books_made_or_refused" 302 169) ::
 (nat_lit 176,cO "_law_is_saying" 409 410 411 131 2 3 171 181 172 173 174 175 414 131 415) ::
 (nat_lit 177,fO "_law_is_saying" 28 (.none) "law_trueleaf_k27_books_made_or_refused" 302 176) ::
 (nat_lit 181,⟨(.type "code"),none,(.fields #[.str (os "_law_is_word") 417,.str (os "_law_is_word") 418,.str (os "/claim/cut.py") 419,.int 135 0,.int 2 0,.int 0 0,.int 0 0,.int 3 0,.ref 178,.bool true,.int 181 0,.ref 179,.none,.none,.none,.ref 180,.int 420 0,.int 135 0,.str (os "/claim/cut.py") 421]),#[]⟩) ::
 (nat_lit 182,fO "_law_is_word" 29 (.none) "law_trueleaf_k27_books_made_or_refused" 302 181) ::
 (nat_lit 188,cO "_law_due" 423 424 425 139 2 3 183 181 184 185 186 187 429 139 430) ::
 (nat_lit 189,fO "_law_due" 30 (.none) "law_trueleaf_k27_books_made_or_refused" 302 188) ::
 (nat_lit 195,cO "_law_refused" 432 433 434 148 2 3 190 181 191 192 193 194 439 148 440) ::
 (nat_lit 196,fO "_law_refused" 31 (.none) "law_trueleaf_k27_books_made_or_refused" 302 195) ::
 (nat_lit 202,cO "_law_form_refused" 442 443 444 155 1 3 197 181 198 199 200 201 447 155 448) ::
 (nat_lit 203,fO "_law_form_refused" 32 (.none) "law_trueleaf_k27_books_made_or_refused" 302 202) ::
 (nat_lit 209,cO "_law_saying_kinds" 450 451 452 162 1 3 204 181 205 206 207 208 454 162 455) ::
 (nat_lit 210,fO "_law_saying_kinds" 33 (.none) "law_trueleaf_k27_books_made_or_refused" 302 209) ::
 (nat_lit 214,⟨(.type "code"),none,(.fields #[.str (os "_law_word_kinds") 457,.str (os "_law_word_kinds") 458,.str (os "/claim/cut.py") 459,.int 166 0,.int 1 0,.int 0 0,.int 0 0,.int 3 0,.ref 211,.bool true,.int 181 0,.ref 212,.none,.none,.none,.ref 213,.int 460 0,.int 166 0,.str (os "/claim/cut.py") 461]),#[]⟩) ::
 (nat_lit 215,fO "_law_word_kinds" 34 (.none) "law_trueleaf_k27_books_made_or_refused" 302 214) ::
 (nat_lit 219,⟨(.type "code"),none,(.fields #[.str (os "_law_is_book") 463,.str (os "_law_is_book") 464,.str (os "/claim/cut.py") 465,.int 172 0,.int 3 0,.int 0 0,.int 0 0,.int 3 0,.ref 216,.bool true,.int 181 0,.ref 217,.none,.none,.none,.ref 218,.int 466 0,.int 172 0,.str (os "/claim/cut.py") 467]),#[]⟩) ::
 (nat_lit 220,fO "_law_is_book" 35 (.none) "law_trueleaf_k27_books_made_or_refused" 302 219) ::
 (nat_lit 226,cO "_law_told_apart" 469 470 471 178 3 3 221 181 222 223 224 225 477 178 478) ::
 (nat_lit 227,fO "_law_told_apart" 36 (.none) "law_trueleaf_k27_books_made_or_refused" 302 226) ::
 (nat_lit 233,cO "law" 480 481 482 194 1 3 228 181 229 230 231 232 490 194 491) ::
 (nat_lit 234,fO "law" 37 (.none) "law_trueleaf_k27_books_made_or_refused" 302 233) :: []
noncomputable def vw:Program:={ PySem.Challenge.pw_trueleaf_k27_books_made_or_refused with main:={ PySem.Challenge.pw_trueleaf_k27_books_made_or_refused.main with body:=top 1 :: top 2 :: top 3 :: top 4 :: top 6 :: top 7 :: top 8 :: top 9 :: top 10 :: top 11 :: top 12 :: top 13 :: top 14 :: top 16 :: top 17 :: top 18 :: top 19 :: top 20 :: top 21 :: top 22 :: top 23 :: top 24 :: top 25 :: top 26 :: top 27 :: top 28 :: top 29 :: top 30 :: top 31 :: top 32 :: top 33 :: top 34 :: top 35 :: top 36 :: top 37 :: [] } }
noncomputable abbrev ls:List Str:=[]
noncomputable abbrev hk:Hook:=kHook kk (nat_lit 2 :: nat_lit 3 :: nat_lit 15 :: nat_lit 22 :: nat_lit 23 :: nat_lit 24 :: nat_lit 25 :: nat_lit 28 :: nat_lit 35 :: nat_lit 36 :: nat_lit 37 :: nat_lit 40 :: nat_lit 47 :: nat_lit 48 :: nat_lit 49 :: nat_lit 52 :: nat_lit 59 :: nat_lit 60 :: nat_lit 61 :: nat_lit 69 :: nat_lit 70 :: nat_lit 74 :: nat_lit 75 :: nat_lit 81 :: nat_lit 82 :: nat_lit 86 :: nat_lit 87 :: nat_lit 93 :: nat_lit 94 :: nat_lit 100 :: nat_lit 101 :: nat_lit 107 :: nat_lit 108 :: nat_lit 114 :: nat_lit 115 :: nat_lit 119 :: nat_lit 120 :: nat_lit 124 :: nat_lit 125 :: nat_lit 131 :: nat_lit 132 :: nat_lit 136 :: nat_lit 137 :: nat_lit 143 :: nat_lit 144 :: nat_lit 150 :: nat_lit 151 :: nat_lit 155 :: nat_lit 156 :: nat_lit 162 :: nat_lit 163 :: nat_lit 169 :: nat_lit 170 :: nat_lit 176 :: nat_lit 177 :: nat_lit 181 :: nat_lit 182 :: nat_lit 188 :: nat_lit 189 :: nat_lit 195 :: nat_lit 196 :: nat_lit 202 :: nat_lit 203 :: nat_lit 209 :: nat_lit 210 :: nat_lit 214 :: nat_lit 215 :: nat_lit 219 :: nat_lit 220 :: nat_lit 226 :: nat_lit 227 :: nat_lit 233 :: nat_lit 234 :: []) (fun _=>by kernel_rfl)
noncomputable abbrev rr:RowW:=OpenRow.toRowW (OpenLaw.row PySem.Challenge.rw_trueleaf_k27_books_made_or_refused)
noncomputable abbrev xt:Shared→Bool:=fun s=>xlAt vw [] s && recOk (RowW.records rr) s
set_option maxHeartbeats 0 in
theorem left:LeftO PySem.Challenge.pw_trueleaf_k27_books_made_or_refused vw ls xt (Hook.obs hk) (Hook.val hk) 3506:=by
 intro w
 kernel_rfl
end K27
set_option maxHeartbeats 4000000
namespace L2
open PySem PySem.Spec PyProof.Rows

abbrev Key:=Sum Int Str
def keyIs:Key→Value→Bool
 | .inl k,v=>Value.isInt k v
 | .inr x,v=>Value.isStrOf x v
def keyH (w:World) : Key→Int
 | .inl k=>hashInt k
 | .inr x=>hashStr w x
theorem keyIs_shape:∀ {k:Key} {v:Value},keyIs k v=true→(∃ i t,k=Sum.inl i∧v=Value.int i t)∨(∃ x t,k=Sum.inr x∧v=Value.str x t)
 | .inl i,v,h=>by
  obtain ⟨t,e⟩:=Value.isInt_shape (k:=i) (v:=v) h
  exact .inl ⟨i,t,rfl,e⟩
 | .inr x,v,h=>by
  obtain ⟨t,e⟩:=Value.isStrOf_shape (x:=x) (v:=v) h
  exact .inr ⟨x,t,rfl,e⟩
theorem key_ll (a b:Int) : decide ((Sum.inl a:Key)=Sum.inl b)=(a == b):=by
 by_cases e:a=b
 ·subst e; simp
 ·have h:¬ (Sum.inl a:Key)=Sum.inl b:=fun q=>e (Sum.inl.inj q)
  rw [decide_eq_false h]
  exact (beq_eq_false_iff_ne.mpr e).symm
theorem key_rr (a b:Str) : decide ((Sum.inr a:Key)=Sum.inr b)=decide (a=b):=by
 by_cases e:a=b
 ·subst e; simp
 ·have h:¬ (Sum.inr a:Key)=Sum.inr b:=fun q=>e (Sum.inr.inj q)
  rw [decide_eq_false h,decide_eq_false e]
theorem key_lr (a:Int) (b:Str) : decide ((Sum.inl a:Key)=Sum.inr b)=false:=decide_eq_false (fun q=>nomatch q)
theorem key_rl (a:Str) (b:Int) : decide ((Sum.inr a:Key)=Sum.inl b)=false:=decide_eq_false (fun q=>nomatch q)

def mixKind (prog:Program) (w:World) : PySem.KeyKind prog w Key where
 is:=keyIs
 hash:=keyH w
 inj:=fun v a b ha hb=>by
  rcases keyIs_shape ha with ⟨i,t,rfl,rfl⟩ | ⟨x,t,rfl,rfl⟩
  ·rcases keyIs_shape hb with ⟨j,u,rfl,e⟩ | ⟨y,u,rfl,e⟩
   ·injection e with e1 _; rw [e1]
   ·exact nomatch e
  ·rcases keyIs_shape hb with ⟨j,u,rfl,e⟩ | ⟨y,u,rfl,e⟩
   ·exact nomatch e
   ·injection e with e1 _; rw [e1]
 byValue:=fun k v h=>by
  rcases keyIs_shape h with ⟨i,t,rfl,rfl⟩ | ⟨x,t,rfl,rfl⟩ <;> rfl
 pyHash:=fun hv h=>by
  rcases keyIs_shape hv with ⟨i,t,rfl,rfl⟩ | ⟨x,t,rfl,rfl⟩
  ·exact wpAny_pyHash_int h
  ·exact wpAny_pyHash_str h
 eqBool:=fun hu hv h=>by
  rcases keyIs_shape hu with ⟨i,t,rfl,rfl⟩ | ⟨x,t,rfl,rfl⟩
  ·rcases keyIs_shape hv with ⟨j,u,rfl,rfl⟩ | ⟨y,u,rfl,rfl⟩
   ·rw [key_ll] at h; exact wpAny_eqBool_int h
   ·rw [key_lr] at h; exact SeqAt.EqAt.int_str i t y u _ _ _ _ h
  ·rcases keyIs_shape hv with ⟨j,u,rfl,rfl⟩ | ⟨y,u,rfl,rfl⟩
   ·rw [key_rl] at h; exact SeqAt.EqAt.str_int x t j u _ _ _ _ h
   ·rw [key_rr] at h; exact wpAny_eqBool_str h
 «strs»:=fun k x t v h=>by
  rcases keyIs_shape h with ⟨i,u,rfl,e⟩ | ⟨y,u,rfl,e⟩
  ·exact nomatch e
  ·injection e with e1 _
   subst e1
   cases v <;> rfl


inductive V where
 | non | bl (b:Bool) | int (i:Int) | str (x:Str) | byt (b:Array UInt8) | flt (b:UInt64) | ref (a:Addr) | ty (n:String)
 deriving DecidableEq

def RelV:V→Value→Prop
 | .non,u=>u=Value.none
 | .bl b,u=>u=Value.bool b
 | .int i,u=>∃ t,u=Value.int i t
 | .str x,u=>∃ t,u=Value.str x t
 | .byt b,u=>∃ t,u=Value.bytes b t
 | .flt b,u=>∃ t,u=Value.float b t
 | .ref a,u=>u=Value.ref a
 | .ty n,u=>u=Value.type n

abbrev Vals:List V→List Value→Prop:=Paired RelV
theorem Vals.length {xs:List V} {us:List Value} (r:Vals xs us) : xs.length=us.length:=Paired.length r
theorem Vals.get:∀ {xs:List V} {us:List Value} {i:Nat} {x:V},Vals xs us→xs[i]? = some x→∃ u,us[i]? = some u∧RelV x u
 | _,_,_,_,.nil,e=>by simp at e
 | _,_,0,_,.cons r _,e=>by simp at e; subst e; exact ⟨_,rfl,r⟩
 | _,_,i+1,x,.cons _ t,e=>by
  obtain ⟨u,h1,h2⟩:=Vals.get (i:=i) (x:=x) t (by simpa using e)
  exact ⟨u,by simpa using h1,h2⟩
theorem Vals.set {x:V} {u:Value} (r:RelV x u) : ∀ {xs:List V} {us:List Value} (i:Nat),Vals xs us→Vals (xs.set i x) (us.set i u)
 | _,_,_,.nil=>.nil
 | _,_,0,.cons _ t=>.cons r t
 | _,_,i+1,.cons q t=>.cons q (Vals.set r i t)
theorem Vals.append:∀ {xs ys:List V} {us ws:List Value},Vals xs us→Vals ys ws→Vals (xs++ys) (us++ws)
 | _,_,_,_,.nil,s=>s
 | _,_,_,_,.cons r t,s=>.cons r (Vals.append t s)
theorem Vals.take:∀ {xs:List V} {us:List Value} (n:Nat),Vals xs us→Vals (xs.take n) (us.take n)
 | _,_,0,_=>.nil
 | _,_,_+1,.nil=>.nil
 | _,_,n+1,.cons r t=>.cons r (Vals.take n t)
theorem Vals.drop:∀ {xs:List V} {us:List Value} (n:Nat),Vals xs us→Vals (xs.drop n) (us.drop n)
 | _,_,0,r=>r
 | _,_,_+1,.nil=>.nil
 | _,_,n+1,.cons _ t=>Vals.drop n t
def RelO:Option V→Option Value→Prop
 | some v,some u=>RelV v u
 | none,none=>True
 | _,_=>False
def KV {κ:Type} : List (κ × V)→List (κ × Value)→Prop:=Paired fun (p:κ × V) (q:κ × Value)=>p.1=q.1∧RelV p.2 q.2

def kV:Key→V
 | .inl i=>.int i
 | .inr x=>.str x

inductive HO where
  | lst (xs:List V)
  | tup (xs:List V)
  | dK (kvs:List (Key × V)) | dT (kvs:List (List Key × V))
  | set (S:Int→Bool) (n:Nat)
  | ins (C dx:Addr) (fs:List (Str × V))
  | own (x:Addr)
  | xd (fs:List (Str × V))
  | met (f x:Addr)
  | rng (lo hi:Int)
  | frz (o:Obj) (u:HO)
  | tbl (ps:Array Value)
  | ext (φ:Heap→Prop)

abbrev Hp:=Addr→Option HO
def upd (H:Hp) (a:Addr) (o:HO) : Hp:=fun b=>if b=a then some o else H b
theorem upd_same {H:Hp} {a:Addr} {o:HO} : upd H a o a=some o:=by unfold upd; rw [if_pos rfl]
theorem upd_ne {H:Hp} {a b:Addr} {o:HO} (h:b≠a) : upd H a o b=H b:=by unfold upd; rw [if_neg h]
theorem ne_of {H:Hp} {a b:Addr} {o u:HO} (h:H a=some o) (h':H b=some u) (d:o≠u) : a≠b:=by
 intro e; subst e; rw [h] at h'; exact d (Option.some.inj h')
theorem ne_of_none {H:Hp} {a b:Addr} {o:HO} (h:H a=some o) (h':H b=none) : a≠b:=by
 intro e; subst e; rw [h] at h'; cases h'

section
variable (P:Program) (w:World)
def ObjOk (H:Hp) (h:Heap) (a:Addr) : HO→Prop
 | .lst xs=>xs.length≤sizeLine∧∃ (its:List Value) (n:Nat),Vals xs its∧h.get? a=some { cls:=.type "list",data:=.seq its.toArray n }
 | .tup xs=>xs.length≤sizeLine∧∃ its:List Value,Vals xs its∧IsTup h a its.toArray
 | .dK kvs=>kvs.length≤sizeLine∧(a == sysModules)=false∧∃ vs,KV kvs vs∧h.DictOf (mixKind P w) a vs
 | .dT kvs=>kvs.length≤sizeLine∧(a == sysModules)=false∧∃ xs:List (List Key × Addr × Value),
   Paired (fun (p:List Key × V) (q:List Key × Addr × Value)=>p.1=q.1∧H q.2.1=some (.tup (p.1.map kV))∧RelV p.2 q.2.2) kvs xs ∧
   ∃ o es ep,h.get? a=some o∧o.ExactDict∧o.data = .dict es ep∧es.toList=xs.map (entryOfKey (tupleKind (mixKind P w)))∧(xs.map (·.1)).Nodup
 | .set S n=>h.SetOf (intKind P w) a S n
 | .ins C dx fs=>H dx=some (.own a)∧fs.length≤1000∧dx≠a∧h.get? a=some (PySem.W.instObj C dx) ∧
   ∃ mA,h.Ns1 dx mA∧(∀ f,RelO (fs.lookup f) (mA f))∧PySem.Within mA (fs.map (·.1))
 | .own _=>∃ o,h.get? a=some o
 | .xd fs=>∃ mA,h.Ns1 a mA∧∀ f,RelO (fs.lookup f) (mA f)
 | .rng lo hi=>∃ t u v,h.get? a=some { cls:=.type "range",data:=.fields #[.int lo t,.int hi u,.int 1 v] }
 | .frz o u=>h.get? a=some o∧ObjOk H h a u
 | .tbl ps=>h.get? a=some { cls:=.none,data:=.fields ps }
 | .met f x=>h.get? a=some (PySem.W.methodObj (.ref f) (.ref x))
 | .ext φ=>φ h∧(∃ o,h.get? a=some o)∧∀ h1 h2:Heap,φ h1→(∀ o,h1.get? a=some o→h2.get? a=some o)→φ h2
def HOk (H:Hp) (h:Heap) : Prop:=∀ a o,H a=some o→ObjOk P w H h a o
end

section
variable {P:Program} {w:World} {H H':Hp} {h h':Heap} {a:Addr} {o:HO}
theorem ObjOk.lt (x:ObjOk P w H h a o) : a < h.objs.size:=by
 cases o with
 | lst xs=>obtain ⟨_,_,_,_,e⟩:=x; exact Heap.lt_size e
 | tup xs=>obtain ⟨_,_,_,p⟩:=x; exact p.lt
 | dK kvs=>obtain ⟨_,_,_,_,o,_,_,e,_⟩:=x; exact Heap.lt_size e
 | dT kvs=>obtain ⟨_,_,_,_,o,_,_,e,_⟩:=x; exact Heap.lt_size e
 | set S n=>obtain ⟨o,_,_,_,e,_⟩:=x; exact Heap.lt_size e
 | ins C dx fs=>obtain ⟨_,_,_,e,_⟩:=x; exact Heap.lt_size e
 | own y=>obtain ⟨_,e⟩:=x; exact Heap.lt_size e
 | xd fs=>obtain ⟨_,⟨_,_,_,e,_⟩,_⟩:=x; exact Heap.lt_size e
 | rng lo hi=>obtain ⟨_,_,_,e⟩:=x; exact Heap.lt_size e
 | frz ob u=>obtain ⟨e,_⟩:=x; exact Heap.lt_size e
 | tbl ps=>exact Heap.lt_size (show h.get? a=some _ from x)
 | met f y=>exact Heap.lt_size (show h.get? a=some _ from x)
 | ext φ=>obtain ⟨_,⟨_,e⟩,_⟩:=x; exact Heap.lt_size e
theorem Paired.mapP {α β:Type} {F G:α→β→Prop} : ∀ {l₁:List α} {l₂:List β},Paired F l₁ l₂→(∀ a b,F a b→G a b)→Paired G l₁ l₂
 | _,_,.nil,_=>.nil
 | _,_,.cons r t,f=>.cons (f _ _ r) (Paired.mapP t f)
theorem ObjOk.stay (x:ObjOk P w H h a o) (k:∀ b u,(b=a∨H b=some (.own a))→h.get? b=some u→h'.get? b=some u)
  (ho:∀ b,H b=some (.own a)→H' b=some (.own a)) (ht:∀ b xs,H b=some (.tup xs)→H' b=some (.tup xs)) : ObjOk P w H' h' a o:=by
 induction o with
 | lst xs=>obtain ⟨z,its,n,r,e⟩:=x; exact ⟨z,its,n,r,k _ _ (.inl rfl) e⟩
 | tup xs=>obtain ⟨z,its,r,ob,e,c⟩:=x; exact ⟨z,its,r,ob,k _ _ (.inl rfl) e,c⟩
 | dK kvs=>obtain ⟨z,y,vs,r,ob,es,ep,e,c⟩:=x; exact ⟨z,y,vs,r,ob,es,ep,k _ _ (.inl rfl) e,c⟩
 | dT kvs =>
  obtain ⟨z,y,xs,r,ob,es,ep,e,c⟩:=x
  exact ⟨z,y,xs,Paired.mapP r fun p q z=>⟨z.1,ht _ _ z.2.1,z.2.2⟩,ob,es,ep,k _ _ (.inl rfl) e,c⟩
 | set S n=>obtain ⟨ob,es,ep,t,e,c⟩:=x; exact ⟨ob,es,ep,t,k _ _ (.inl rfl) e,c⟩
 | ins C dx fs =>
  obtain ⟨d,z,ne,e,mA,⟨od,es,ep,e2,c⟩,r⟩:=x
  exact ⟨ho _ d,z,ne,k _ _ (.inl rfl) e,mA,⟨od,es,ep,k _ _ (.inr d) e2,c⟩,r⟩
 | own y=>obtain ⟨ob,e⟩:=x; exact ⟨ob,k _ _ (.inl rfl) e⟩
 | xd fs=>obtain ⟨mA,⟨od,es,ep,e,c⟩,r⟩:=x; exact ⟨mA,⟨od,es,ep,k _ _ (.inl rfl) e,c⟩,r⟩
 | rng lo hi=>obtain ⟨t,u,v,e⟩:=x; exact ⟨t,u,v,k _ _ (.inl rfl) e⟩
 | frz ob u ih=>obtain ⟨e,q⟩:=x; exact ⟨k _ _ (.inl rfl) e,ih q⟩
 | tbl ps =>
  have e:h.get? a=some { cls:=.none,data:=.fields ps }:=x
  show h'.get? a=some { cls:=.none,data:=.fields ps }
  exact k a _ (.inl rfl) e
 | met f y =>
  have e:h.get? a=some (PySem.W.methodObj (.ref f) (.ref y)):=x
  show h'.get? a=some (PySem.W.methodObj (.ref f) (.ref y))
  exact k a _ (.inl rfl) e
 | ext φ=>obtain ⟨p,⟨o,e⟩,st⟩:=x; exact ⟨st _ _ p fun o q=>k _ _ (.inl rfl) q,⟨o,k _ _ (.inl rfl) e⟩,st⟩
theorem HOk.lt (x:HOk P w H h) (e:H a=some o) : a < h.objs.size:=(x a o e).lt
theorem HOk.fresh (x:HOk P w H h) (e:h.objs.size≤a) : H a=none:=by
 cases q:H a with
 | none=>rfl
 | some u=>exact absurd (Nat.lt_of_lt_of_le (x.lt q) e) (Nat.lt_irrefl _)
theorem HOk.kept (x:HOk P w H h) (k:∀ b u,h.get? b=some u→h'.get? b=some u) : HOk P w H h':=fun a o e =>
 (x a o e).stay (fun b u _ q=>k b u q) (fun _ q=>q) fun _ _ q=>q
theorem HOk.laid (x:HOk P w H h) (k:∀ b u,h.get? b=some u→h'.get? b=some u) (hp:h.objs.size≤a) (new:ObjOk P w (upd H a o) h' a o) : HOk P w (upd H a o) h':=fun b u e=>by
 have hn:=x.fresh hp
 by_cases hb:b=a
 ·subst hb; rw [upd_same] at e; cases e; exact new
 ·rw [upd_ne hb] at e
  exact (x b u e).stay (fun c v _ q=>k c v q) (fun c q=>by rw [upd_ne (ne_of_none q hn)]; exact q) fun c xs q=>by rw [upd_ne (ne_of_none q hn)]; exact q
end

def Rd (H:Hp) (a:Addr) (u:HO) : Prop:=H a=some u∨∃ o,H a=some (.frz o u)
theorem Rd.of {H:Hp} {a:Addr} {u:HO} (h:H a=some u) : Rd H a u:=.inl h
theorem Rd.ok {P:Program} {w:World} {H:Hp} {h:Heap} {a:Addr} {u:HO} (r:Rd H a u) (x:HOk P w H h) : ObjOk P w H h a u:=by
 rcases r with r | ⟨o,r⟩
 ·exact x a u r
 ·obtain ⟨_,q⟩:=x a _ r
  exact q
def Mut:Option HO→Prop
 | some (.lst _)=>True
 | some (.dK _)=>True
 | some (.dT _)=>True
 | some (.set _ _)=>True
 | some (.ins _ _ _)=>True
 | some (.ext _)=>True
 | _=>False
section
variable {P:Program} {w:World} {H:Hp} {h h':Heap} {x e:Addr} {o':HO}
theorem HOk.write (ok:HOk P w H h) (mu:Mut (H x)) (he:e=x∨H e=some (.own x)) (k:∀ b u,b≠e→h.get? b=some u→h'.get? b=some u) (heo:∃ u,h'.get? e=some u)
  (new:ObjOk P w (upd H x o') h' x o') : HOk P w (upd H x o') h':=fun b u q=>by
 have nown:∀ c y,H c=some (.own y)→c≠x:=fun c y r z=>by subst z; rw [r] at mu; exact mu
 have ntup:∀ c xs,H c=some (.tup xs)→c≠x:=fun c xs r z=>by subst z; rw [r] at mu; exact mu
 by_cases hb:b=x
 ·subst hb; rw [upd_same] at q; cases q; exact new
 ·rw [upd_ne hb] at q
  by_cases hbe:b=e
  ·have q':H b=some (.own x):=by
    rcases he with z | z
    ·exact absurd (hbe.trans z) hb
    ·rw [hbe]; exact z
   rw [q] at q'; cases q'
   obtain ⟨v,hv⟩:=heo
   exact ⟨v,by rw [hbe]; exact hv⟩
  ·refine (ok b u q).stay (fun c v hc r=>k c v ?_ r) (fun c r=>by rw [upd_ne (nown c b r)]; exact r) fun c xs r=>by rw [upd_ne (ntup c xs r)]; exact r
   rcases hc with rfl | hc
   ·exact hbe
   ·rintro rfl
    rcases he with z | z
    ·exact nown c b hc z
    ·rw [hc] at z; cases z; exact hb rfl
end

structure Un (fs ex:List Addr) (H H':Hp) (h h':Heap) : Prop where
 keep:∀ b o,h.get? b=some o→H b=none→b ∉ fs→b ∉ ex→h'.get? b=some o
 slot:∀ b o,h.get? b=some o→H b=none→b ∈ fs→b ∉ ex→∃ sl,h'.get? b=some { o with slots:=sl }
 free:∀ b o,h.get? b=some o→H b=none→b ∉ ex→H' b=none
 there:∀ b o,h.get? b=some o→b ∉ ex→∃ o',h'.get? b=some o'
 tups:∀ b xs,H b=some (.tup xs)→H' b=some (.tup xs)
 frzs:∀ b o u,H b=some (.frz o u)→H' b=some (.frz o u)
 tbls:∀ b ps,H b=some (.tbl ps)→∃ more,H' b=some (.tbl (ps++more))
section
variable {fs fs' ex ex':List Addr} {H H1 H2:Hp} {h h1 h2 h':Heap} {a x e:Addr} {o:HO}
theorem Un.any (u:Un fs ex H H1 h h1) {b:Addr} {ob:Obj} (q:h.get? b=some ob) (n:H b=none) (hx:b ∉ ex) : ∃ sl,h1.get? b=some { ob with slots:=sl }:=by
 by_cases hb:b ∈ fs
 ·exact u.slot b ob q n hb hx
 ·exact ⟨ob.slots,u.keep b ob q n hb hx⟩
theorem Un.trans (a:Un fs ex H H1 h h1) (b:Un fs ex H1 H2 h1 h2) : Un fs ex H H2 h h2 where
 keep:=fun c ob q n hc hx=>b.keep c ob (a.keep c ob q n hc hx) (a.free c ob q n hx) hc hx
 slot:=fun c ob q n hc hx=>by
  obtain ⟨sl,e1⟩:=a.slot c ob q n hc hx
  obtain ⟨sl',e2⟩:=b.slot c _ e1 (a.free c ob q n hx) hc hx
  exact ⟨sl',e2⟩
 free:=fun c ob q n hx=>by
  obtain ⟨o',e1⟩:=a.there c ob q hx
  exact b.free c o' e1 (a.free c ob q n hx) hx
 there:=fun c ob q hx=>by
  obtain ⟨o',e1⟩:=a.there c ob q hx
  exact b.there c o' e1 hx
 tups:=fun c xs q=>b.tups c xs (a.tups c xs q)
 frzs:=fun c ob xs q=>b.frzs c ob xs (a.frzs c ob xs q)
 tbls:=fun c ps q=>by
  obtain ⟨m1,e1⟩:=a.tbls c ps q
  obtain ⟨m2,e2⟩:=b.tbls c _ e1
  exact ⟨m1++m2,by rw [e2,Array.append_assoc]⟩
theorem Un.kept (k:∀ b u,h.get? b=some u→h'.get? b=some u) : Un fs ex H H h h':=
 ⟨fun b ob q _ _ _=>k b ob q,fun b ob q _ _ _=>⟨ob.slots,k b ob q⟩,fun _ _ _ n _=>n,fun b ob q _=>⟨ob,k b ob q⟩,fun _ _ q=>q,fun _ _ _ q=>q,fun _ ps q=>⟨#[],by rw [q]; simp⟩⟩
theorem Un.refl:Un fs ex H H h h:=Un.kept fun _ _ q=>q
theorem Un.laid (k:∀ b u,h.get? b=some u→h'.get? b=some u) (hp:h.objs.size≤a) (hn:H a=none) : Un fs ex H (upd H a o) h h' where
 keep:=fun b u q _ _ _=>k b u q
 slot:=fun b u q _ _ _=>⟨u.slots,k b u q⟩
 free:=fun b u q n _=>by rw [upd_ne (Nat.ne_of_lt (Nat.lt_of_lt_of_le (Heap.lt_size q) hp))]; exact n
 there:=fun b u q _=>⟨u,k b u q⟩
 tups:=fun b xs q=>by rw [upd_ne (ne_of_none q hn)]; exact q
 frzs:=fun b u xs q=>by rw [upd_ne (ne_of_none q hn)]; exact q
 tbls:=fun b ps q=>⟨#[],by rw [upd_ne (ne_of_none q hn),q]; simp⟩
theorem Un.write (mu:Mut (H x)) (he:e=x∨H e=some (.own x)) (k:∀ b u,b≠e→h.get? b=some u→h'.get? b=some u) (heo:∃ u,h'.get? e=some u) : Un fs ex H (upd H x o) h h':=by
 have hx:∀ b,H b=none→b≠x:=fun b n z=>by subst z; rw [n] at mu; exact mu
 have hb:∀ b,H b=none→b≠e:=fun b n z=>by
  subst z
  rcases he with r | r
  ·exact hx b n r
  ·rw [n] at r; cases r
 have hm:∀ b u,H b=some u→¬ Mut (some u)→b≠x:=fun b u q nm z=>by subst z; rw [q] at mu; exact nm mu
 refine ⟨fun b u q n _ _=>k b u (hb b n) q,fun b u q n _ _=>⟨u.slots,k b u (hb b n) q⟩,fun b u q n _=>by rw [upd_ne (hx b n)]; exact n,fun b u q _=>?_,
  fun b xs q=>by rw [upd_ne (hm b _ q fun z=>z)]; exact q,fun b u xs q=>by rw [upd_ne (hm b _ q fun z=>z)]; exact q,fun b ps q=>⟨#[],by rw [upd_ne (hm b _ q fun z=>z),q]; simp⟩⟩
 by_cases hbe:b=e
 ·subst hbe; exact heo
 ·exact ⟨u,k b u hbe q⟩
theorem Un.mono (u:Un fs ex H H1 h h1) (hs:∀ b ∈ fs,b ∈ fs') (hx:∀ b ∈ ex,b ∈ ex') : Un fs' ex' H H1 h h1:=
 ⟨fun b ob q n hb he=>u.keep b ob q n (fun z=>hb (hs b z)) fun z=>he (hx b z),fun _ _ q n _ he=>u.any q n fun z=>he (hx _ z),fun b ob q n he=>u.free b ob q n fun z=>he (hx b z),fun b ob q he=>u.there b ob q fun z=>he (hx b z),u.tups,u.frzs,u.tbls⟩
end

def trk (h:Heap) (H:Hp) : List Addr:=(List.range h.objs.size).filter fun a=>(H a).isSome
def hidT (h:Heap) (H:Hp) : Heap:=PySem.W.hideAll h (trk h H)
theorem hidT_size (h:Heap) (H:Hp) : (hidT h H).objs.size=h.objs.size:=PySem.W.hideAll_size _ _
theorem hidT_get {h:Heap} {H:Hp} {b:Addr} {o:Obj} (e:h.get? b=some o) (n:H b=none) : (hidT h H).get? b=some o:=
 PySem.W.hideAll_get _ e fun hm=>by
  have q:(H b).isSome=true:=(List.mem_filter.mp hm).2
  rw [n] at q; simp at q
theorem of_hidT {h:Heap} {H:Hp} {b:Addr} {o:Obj} (e:(hidT h H).get? b=some o) : h.get? b=some o∧H b=none:=by
 have e':h.get? b=some o:=PySem.W.of_hideAll (trk h H) e
 refine ⟨e',?_⟩
 cases q:H b with
 | none=>rfl
 | some x =>
  have hm:b ∈ trk h H:=List.mem_filter.mpr ⟨List.mem_range.mpr (Heap.lt_size e'),by simp [q]⟩
  have z:(hidT h H).get? b=none:=PySem.W.hideAll_none (trk h H) hm
  rw [z] at e; cases e

def allNews (g h:Heap) (L:Addr) : List (Addr × Obj):=(List.range h.objs.size).filterMap fun a=>if a=L∨(g.get? a).isSome=true then none else (h.get? a).map fun o=>(a,o)
def rest (g h:Heap) (L d:Addr) : List (Addr × Obj):=(allNews g h L).filter fun p=>decide (p.1≠d)

structure Mod (K:PySem.W.Frag) (mg:Str→Option Value) (base:Heap) : Prop where
 kin:K.In base
 glob:base.Ns mainGlobals mg
 blt:∃ mb,base.Ns builtinsNs mb∧∀ x:Str,x≠"__name__"→mb x=bootBuiltins x
 nolimit:base.NoLimit

structure Cx where
 prog:Program
 w:World
 K:PySem.W.Frag
 mg:Str→Option Value
 base:Heap
 A:Around
 N:List Str
 s₀:Shared
 H₀:Hp
 env:Env
 outer:List Env
 stack:List Env
 ex:List Addr
 fn:Str→Bool
 calm:Bool
 pn:List (Addr × Obj)
 xe:Value→Shared→Prop
def frs (l:List Env) : List Addr:=l.filterMap (·.frame)
abbrev Cx.fs (X:Cx) : List Addr:=frs X.outer

def Vis (sc:Scope) (x:Str) : Prop:=sc.names.lookup x=some .local∨sc.names.lookup x=some .cell∨sc.names.lookup x=some .free
def Loc (sc:Scope) (x:Str) : Prop:=sc.names.lookup x=some .local∨sc.names.lookup x=some .cell
def Look (env:Env) (h:Heap) (m:Str→Option Value) (x:Str) (u:Value) : Prop:=
 (env.kindOf x=some .local∧m x=some u)∨((env.kindOf x=some .cell∨env.kindOf x=some .free)∧∃ c,env.cells.lookup x=some c∧h.IsCell c (some u))

structure Cx.Ok (X:Cx) : Prop where
 mod:Mod X.K X.mg X.base
 kind:X.env.scope.kind = .function
 glob:X.env.globals=mainGlobals
 blt:X.env.builtins=builtinsNs
 above:X.s₀.heap.objs.size≤X.env.locals
 inj:∀ x y c,X.env.cells.lookup x=some c→X.env.cells.lookup y=some c→x=y
 has:∀ x,(X.env.kindOf x=some .cell∨X.env.kindOf x=some .free)→∃ c,X.env.cells.lookup x=some c
 cab:∀ x c,X.fn x=true→X.env.cells.lookup x=some c→X.s₀.heap.objs.size≤c
 hd:X.calm=true→X.A.handled=none
 frames:X.A.frames=some X.stack
 stk:X.stack=X.outer∨(X.stack=X.env :: X.outer∧X.env.frame=some X.env.locals)
 exf:∀ b ∈ X.ex,b≠X.env.locals∧∀ x c,X.env.cells.lookup x=some c→c≠b
 bs:∀ b o,X.base.get? b=some o→X.s₀.heap.get? b=some o∧X.H₀ b=none
 bsz:X.base.objs.size≤X.s₀.heap.objs.size
 noex:∀ b o,X.base.get? b=some o→b ∉ X.ex
 exfs:∀ b ∈ X.ex,b ∉ X.fs
 funs:X.s₀.heap.FunFrames X.base X.outer
 frf:∀ b ∈ X.fs,X.H₀ b=none

structure Inv (X:Cx) (pins:List (Addr × Obj)) (σ:List (Option V)) (H:Hp) (s:Shared) : Prop where
 ok:X.Ok
 os:s.os=X.s₀.os
 bare:AllBare s.gens
 base:Un X.fs X.ex X.H₀ H X.s₀.heap s.heap
 loc:∃ m,s.heap.Ns X.env.locals m∧∀ (i:Nat) (x:Str) (v:V),X.N[i]? = some x→σ[i]? = some (some v)→Vis X.env.scope x→∃ u,RelV v u∧Look X.env s.heap m x u
 cell:∀ x c,X.env.cells.lookup x=some c→∃ v,s.heap.IsCell c v
 free:H X.env.locals=none
 freeC:∀ x c,X.env.cells.lookup x=some c→H c=none
 pin:∀ p ∈ X.pn++pins,s.heap.get? p.1=some p.2∧H p.1=none∧p.1≠X.env.locals∧p.1 ∉ X.fs∧∀ v,p.2.data≠.cell v
 hok:HOk X.prog X.w H s.heap
 len:σ.length=X.N.length

section
variable {X:Cx} {pins:List (Addr × Obj)} {σ:List (Option V)} {H H':Hp} {s:Shared} {h':Heap}

theorem Cx.Ok.nofr (ok:X.Ok) {b:Addr} {o:Obj} (e:X.base.get? b=some o) : b ∉ X.fs:=fun hb=>by
 have:=(ok.funs.mem hb).1
 rw [e] at this; cases this
theorem Inv.bs (I:Inv X pins σ H s) : ∀ b o,X.base.get? b=some o→s.heap.get? b=some o∧H b=none:=fun b o e =>
 ⟨I.base.keep b o (I.ok.bs b o e).1 (I.ok.bs b o e).2 (I.ok.nofr e) (I.ok.noex b o e),I.base.free b o (I.ok.bs b o e).1 (I.ok.bs b o e).2 (I.ok.noex b o e)⟩
theorem Inv.bk (I:Inv X pins σ H s) : ∀ b o,X.base.get? b=some o→s.heap.get? b=some o:=fun b o e=>(I.bs b o e).1
theorem Inv.mod (I:Inv X pins σ H s) : Mod X.K X.mg X.base:=I.ok.mod
theorem Inv.kIn (I:Inv X pins σ H s) : X.K.In s.heap:=I.ok.mod.kin.keeps I.bk
theorem Inv.nolimit (I:Inv X pins σ H s) : s.heap.NoLimit:=I.ok.mod.nolimit.keeps I.bk
theorem Inv.fr (I:Inv X pins σ H s) : ∃ m,Fr X.base X.env.locals s.heap m:=
 let ⟨m,hn,_⟩:=I.loc
 ⟨m,hn,I.bk,Nat.le_trans I.ok.bsz I.ok.above⟩
theorem Inv.lt (I:Inv X pins σ H s) : X.env.locals < s.heap.objs.size:=let ⟨_,hn,_⟩:=I.loc; hn.lt
theorem Inv.sz (I:Inv X pins σ H s) : X.s₀.heap.objs.size≤s.heap.objs.size:=Nat.le_trans I.ok.above (Nat.le_of_lt I.lt)
theorem Inv.nofs (I:Inv X pins σ H s) {a:Addr} (h:s.heap.objs.size≤a) : a ∉ X.fs:=fun hb=>by
 obtain ⟨_,o,ho,_⟩:=I.ok.funs.mem hb
 exact absurd (Nat.lt_of_lt_of_le (Heap.lt_size ho) (Nat.le_trans I.sz h)) (Nat.lt_irrefl _)
theorem Inv.cne (I:Inv X pins σ H s) : ∀ x c,X.env.cells.lookup x=some c→c≠X.env.locals:=fun x c e z=>by
 obtain ⟨v,o,ho,hd⟩:=I.cell x c e
 obtain ⟨m,⟨o',es,ep,ho',hd',_⟩,_⟩:=I.loc
 rw [z,ho'] at ho; cases ho; rw [hd'] at hd; cases hd
theorem Inv.funs (I:Inv X pins σ H s) : s.heap.FunFrames X.base X.outer:=by
 have all:∀ (l:List Env),(∀ b ∈ frs l,b ∈ X.fs)→X.s₀.heap.FunFrames X.base l→s.heap.FunFrames X.base l:=by
  intro l
  induction l with
  | nil=>intro _ _; trivial
  | cons env r ih =>
   intro hs hl
   obtain ⟨hk,⟨L,o,hf,hn,ho,hd⟩,hr⟩:=hl
   have hL:L ∈ X.fs:=hs L (by unfold frs; rw [List.filterMap_cons,hf]; exact List.mem_cons_self)
   obtain ⟨sl,e⟩:=I.base.slot L o ho (I.ok.frf L hL) hL fun z=>I.ok.exfs L z hL
   exact ⟨hk,⟨L,_,hf,hn,e,hd⟩,ih (fun b hb=>hs b (by unfold frs; rw [List.filterMap_cons,hf]; exact List.mem_cons_of_mem _ hb)) hr⟩
 exact all X.outer (fun _ hb=>hb) I.ok.funs

theorem Inv.stack (I:Inv X pins σ H s) : s.heap.FunFrames X.base X.stack:=by
 rcases I.ok.stk with e | ⟨e,hf⟩
 ·rw [e]; exact I.funs
 ·rw [e]
  obtain ⟨m,hn,_⟩:=I.loc
  refine .cons (by rw [I.ok.kind]; decide) hf hn ?_ I.funs
  exact Heap.get?_none_of_le (Nat.le_trans I.ok.bsz I.ok.above)
theorem Inv.stkSub (I:Inv X pins σ H s) : ∀ b ∈ frs X.stack,b ∈ X.env.locals :: X.fs:=fun b hb=>by
 rcases I.ok.stk with e | ⟨e,hf⟩
 ·rw [e] at hb; exact List.mem_cons_of_mem _ hb
 ·rw [e] at hb
  unfold frs at hb
  rw [List.filterMap_cons,hf] at hb
  exact hb
theorem Inv.stkFree (I:Inv X pins σ H s) : ∀ b ∈ frs X.stack,H b=none:=fun b hb=>by
 rcases List.mem_cons.mp (I.stkSub b hb) with e | hb
 ·rw [e]; exact I.free
 ·obtain ⟨_,o,ho,_⟩:=I.ok.funs.mem hb
  exact I.base.free b o ho (I.ok.frf b hb) fun z=>I.ok.exfs b z hb

theorem Inv.step {g':Array GenState} {t':Nat} {d':Drawn} {ch:List Addr} (I:Inv X pins σ H s)
  (hch:∀ b ∈ ch,(b ∈ X.ex∨X.s₀.heap.objs.size≤b)∧b≠X.env.locals∧(∀ x c,X.env.cells.lookup x=some c→c≠b)∧∀ p ∈ X.pn++pins,p.1≠b)
  (keep:∀ b o,b≠X.env.locals→b ∉ X.fs→b ∉ ch→s.heap.get? b=some o→H b=none→h'.get? b=some o)
  (slot:∀ b o,b≠X.env.locals→b ∈ X.fs→b ∉ ch→s.heap.get? b=some o→H b=none→∃ sl,h'.get? b=some { o with slots:=sl }) (free:∀ b o,b ∉ ch→s.heap.get? b=some o→H b=none→H' b=none)
  (there:∀ b o,b ∉ ch→s.heap.get? b=some o→∃ o',h'.get? b=some o')
  (tups:∀ b xs,H b=some (.tup xs)→H' b=some (.tup xs)) (frzs:∀ b o u,H b=some (.frz o u)→H' b=some (.frz o u)) (tbls:∀ b ps,H b=some (.tbl ps)→∃ more,H' b=some (.tbl (ps++more)))
  (ns:∀ m,s.heap.Ns X.env.locals m→h'.Ns X.env.locals m) (hok:HOk X.prog X.w H' h') (hg:AllBare g') :
  Inv X pins σ H' { s with heap:=h',gens:=g',drawn:=d',toks:=t' }:=by
 have neL:∀ b o,X.s₀.heap.get? b=some o→b≠X.env.locals:=fun b o e=>Nat.ne_of_lt (Nat.lt_of_lt_of_le (Heap.lt_size e) I.ok.above)
 have neC:∀ b o,X.s₀.heap.get? b=some o→b ∉ X.ex→b ∉ ch:=fun b o e hx hb=>by
  rcases (hch b hb).1 with z | z
  ·exact hx z
  ·exact absurd (Nat.lt_of_lt_of_le (Heap.lt_size e) z) (Nat.lt_irrefl _)
 have cellK:∀ x c,X.env.cells.lookup x=some c→∀ v,s.heap.IsCell c v→h'.IsCell c v:=fun x c e v ⟨o,ho,hd⟩=>by
  have nch:c ∉ ch:=fun z=>(hch c z).2.2.1 x c e rfl
  by_cases hc:c ∈ X.fs
  ·obtain ⟨sl,q⟩:=slot c o (I.cne x c e) hc nch ho (I.freeC x c e)
   exact ⟨_,q,hd⟩
  ·exact ⟨o,keep c o (I.cne x c e) hc nch ho (I.freeC x c e),hd⟩
 refine ⟨I.ok,I.os,hg,⟨fun b o e n hb hx=>?_,fun b o e n hb hx=>?_,fun b o e n hx=>?_,fun b o e hx=>?_,fun b xs e=>tups b xs (I.base.tups b xs e),fun b o xs e=>frzs b o xs (I.base.frzs b o xs e),fun b ps e=>?_⟩,?_,fun x c e=>?_,?_,fun x c e=>?_,fun p hp=>?_,hok,I.len⟩
 ·exact keep b o (neL b o e) hb (neC b o e hx) (I.base.keep b o e n hb hx) (I.base.free b o e n hx)
 ·obtain ⟨sl,e1⟩:=I.base.slot b o e n hb hx
  obtain ⟨sl',e2⟩:=slot b _ (neL b o e) hb (neC b o e hx) e1 (I.base.free b o e n hx)
  exact ⟨sl',e2⟩
 ·obtain ⟨o',e1⟩:=I.base.there b o e hx
  exact free b o' (neC b o e hx) e1 (I.base.free b o e n hx)
 ·obtain ⟨o',e1⟩:=I.base.there b o e hx
  exact there b o' (neC b o e hx) e1
 ·obtain ⟨m1,e1⟩:=I.base.tbls b ps e
  obtain ⟨m2,e2⟩:=tbls b _ e1
  exact ⟨m1++m2,by rw [e2,Array.append_assoc]⟩
 ·obtain ⟨m,hn,hl⟩:=I.loc
  refine ⟨m,ns m hn,fun i x v e1 e2 e3=>?_⟩
  obtain ⟨u,r,l⟩:=hl i x v e1 e2 e3
  refine ⟨u,r,?_⟩
  rcases l with l | ⟨k,c,e,z⟩
  ·exact .inl l
  ·exact .inr ⟨k,c,e,cellK x c e _ z⟩
 ·obtain ⟨v,z⟩:=I.cell x c e
  exact ⟨v,cellK x c e v z⟩
 ·obtain ⟨m,⟨o,_,_,ho,_⟩,_⟩:=I.loc
  exact free _ o (fun z=>(hch _ z).2.1 rfl) ho I.free
 ·obtain ⟨v,o,ho,hd⟩:=I.cell x c e
  exact free c o (fun z=>(hch c z).2.2.1 x c e rfl) ho (I.freeC x c e)
 ·obtain ⟨e,n,ne,nf,d⟩:=I.pin p hp
  have nch:p.1 ∉ ch:=fun z=>(hch p.1 z).2.2.2 p hp rfl
  exact ⟨keep p.1 p.2 ne nf nch e n,free p.1 p.2 nch e n,ne,nf,d⟩
theorem Inv.un {t':Nat} (I:Inv X pins σ H s) (u:Un X.fs [] H H' s.heap h') (hok:HOk X.prog X.w H' h') : Inv X pins σ H' { s with heap:=h',toks:=t' }:=by
 obtain ⟨m,⟨o,es,ep,ho,r⟩,_⟩:=id I.loc
 obtain ⟨sl,hL⟩:=u.any ho I.free (by simp)
 exact I.step (g':=s.gens) (d':=s.drawn) (ch:=[]) (fun _ z=>nomatch z) (fun b o _ hb _ e n=>u.keep b o e n hb (by simp)) (fun b o _ hb _ e n=>u.slot b o e n hb (by simp)) (fun b o _ e n=>u.free b o e n (by simp)) (fun b o _ e=>u.there b o e (by simp)) u.tups u.frzs u.tbls (fun m' hm=>by
  obtain ⟨o',es',ep',ho',r'⟩:=hm
  rw [ho] at ho'; cases ho'
  exact ⟨_,es',ep',hL,r'⟩) hok I.bare
theorem Inv.call {g':Array GenState} {t':Nat} {d':Drawn} {ch:List Addr} (I:Inv X pins σ H s) (u:Un (frs X.stack) ch H H' s.heap h') (hok:HOk X.prog X.w H' h') (hg:AllBare g')
  (hch:∀ b ∈ ch,(b ∈ X.ex∨X.s₀.heap.objs.size≤b)∧b≠X.env.locals∧(∀ x c,X.env.cells.lookup x=some c→c≠b)∧∀ p ∈ X.pn++pins,p.1≠b) :
  Inv X pins σ H' { s with heap:=h',gens:=g',drawn:=d',toks:=t' }:=by
 obtain ⟨m,⟨o,es,ep,ho,r⟩,_⟩:=id I.loc
 obtain ⟨sl,hL⟩:=u.any ho I.free fun z=>(hch _ z).2.1 rfl
 exact I.step (ch:=ch) hch (fun b o hL hb hc e n=>u.keep b o e n (fun z=>(List.mem_cons.mp (I.stkSub b z)).elim hL hb) hc) (fun b o _ _ hc e n=>u.any e n hc) (fun b o hc e n=>u.free b o e n hc) (fun b o hc e=>u.there b o e hc) u.tups u.frzs u.tbls (fun m' hm=>by
  obtain ⟨o',es',ep',ho',r'⟩:=hm
  rw [ho] at ho'; cases ho'
  exact ⟨_,es',ep',hL,r'⟩) hok hg
theorem Inv.turned {t':Nat} {it:Addr} (I:Inv X pins σ H s) (k:∀ b o,b≠it→s.heap.get? b=some o→h'.get? b=some o) (hn:H it=none) (hL:it≠X.env.locals)
  (h1:it ∈ X.ex∨X.s₀.heap.objs.size≤it) (h2:∀ x c,X.env.cells.lookup x=some c→c≠it) (h3:∀ p ∈ X.pn++pins,p.1≠it) : Inv X pins σ H { s with heap:=h',toks:=t' }:=by
 have nit:∀ b u,H b=some u→b≠it:=fun b u e z=>by rw [z,hn] at e; cases e
 refine I.step (g':=s.gens) (d':=s.drawn) (ch:=[it]) (fun b hb=>?_) (fun b o _ _ hc e _=>k b o (fun z=>hc (by simp [z])) e) (fun b o _ _ hc e _=>⟨o.slots,k b o (fun z=>hc (by simp [z])) e⟩) (fun _ _ _ _ n=>n)
  (fun b o hc e=>⟨o,k b o (fun z=>hc (by simp [z])) e⟩) (fun _ _ e=>e) (fun _ _ _ e=>e) (fun b ps e=>⟨#[],by rw [e]; simp⟩) (fun m hm=>?_) (fun b u e=>?_) I.bare
 ·have e:b=it:=by simpa using hb
  subst e
  exact ⟨h1,hL,h2,h3⟩
 ·obtain ⟨o,es,ep,ho,r⟩:=hm
  exact ⟨o,es,ep,k _ o (Ne.symm hL) ho,r⟩
 ·refine (I.hok b u e).stay (fun c v hc q=>k c v ?_ q) (fun _ q=>q) fun _ _ q=>q
  rcases hc with z | z
  ·rw [z]; exact nit b u e
  ·exact nit c _ z
theorem Inv.tok (I:Inv X pins σ H s) (t:Nat) : Inv X pins σ H { s with toks:=t }:=I.un (h':=s.heap) (t':=t) Un.refl I.hok
theorem Inv.kept {t':Nat} (I:Inv X pins σ H s) (k:∀ b u,s.heap.get? b=some u→h'.get? b=some u) : Inv X pins σ H { s with heap:=h',toks:=t' }:=I.un (Un.kept k) (I.hok.kept k)
theorem Inv.laid {a:Addr} {o:HO} {t':Nat} (I:Inv X pins σ H s) (k:∀ b u,s.heap.get? b=some u→h'.get? b=some u) (hp:s.heap.objs.size≤a) (new:ObjOk X.prog X.w (upd H a o) h' a o) :
  Inv X pins σ (upd H a o) { s with heap:=h',toks:=t' }:=I.un (Un.laid k hp (I.hok.fresh hp)) (I.hok.laid k hp new)
theorem Inv.write {x e:Addr} {o:HO} {t':Nat} (I:Inv X pins σ H s) (mu:Mut (H x)) (he:e=x∨H e=some (.own x)) (k:∀ b u,b≠e→s.heap.get? b=some u→h'.get? b=some u) (heo:∃ u,h'.get? e=some u)
  (new:ObjOk X.prog X.w (upd H x o) h' x o) : Inv X pins σ (upd H x o) { s with heap:=h',toks:=t' }:=I.un (Un.write mu he k heo) (I.hok.write mu he k heo new)
theorem Inv.pins_of {pins':List (Addr × Obj)} (I:Inv X pins σ H s) (h:∀ p ∈ pins',s.heap.get? p.1=some p.2∧H p.1=none∧p.1≠X.env.locals∧p.1 ∉ X.fs∧∀ v,p.2.data≠.cell v) : Inv X pins' σ H s:=
 ⟨I.ok,I.os,I.bare,I.base,I.loc,I.cell,I.free,I.freeC,fun p hp=>(List.mem_append.mp hp).elim (fun z=>I.pin p (List.mem_append_left _ z)) (h p),I.hok,I.len⟩

theorem nodup_ix {N:List Str} (hN:N.Nodup) {i j:Nat} {x:Str} (a:N[i]? = some x) (b:N[j]? = some x) : i=j:=by
 obtain ⟨h1,e1⟩:=List.getElem?_eq_some_iff.mp a
 obtain ⟨h2,e2⟩:=List.getElem?_eq_some_iff.mp b
 exact (List.getElem_inj hN).mp (e1.trans e2.symm)

theorem store_ok2 {M:Model} {A:Around} {E:Value→Shared→Prop} {i:Nat} {x:Str} {v:V} {u:Value} {Q:Unit→Shared→Prop} (I:Inv X pins σ H s) (hN:X.N.Nodup) (hi:X.N[i]? = some x) (hx:Loc X.env.scope x) (r:RelV v u)
  (h:∀ s',Inv X pins (σ.set i (some v)) H s'→(∃ a,Heap.SameBut a s.heap s'.heap∧(a=X.env.locals∨X.env.cells.lookup x=some a))→Q () s') (hf:X.fn x=true∨X.env.scope.names.lookup x=some .local:=by first | exact .inl rfl | exact .inr rfl | assumption) : wpAny M A (storeName X.env x u) Q E s:=by
 obtain ⟨m,hn,hl⟩:=id I.loc
 have hcls:(X.env.scope.kind == .class || (X.env.scope.kind == .module && X.env.locals != X.env.globals))=false:=by rw [I.ok.kind]; rfl
 have hiσ:i < σ.length:=by rw [I.len]; exact (List.getElem?_eq_some_iff.mp hi).1
 have cne:=I.cne
 have tracked:∀ {a:Addr} {h':Heap},(∃ o,s.heap.get? a=some o∧H a=none)→Heap.SameBut a s.heap h'→HOk X.prog X.w H h':=fun {a h'} ha hs b ob e=>by
  obtain ⟨_,_,hfree⟩:=ha
  refine (I.hok b ob e).stay (fun c w' hc q=>(hs.2 c ?_).trans q) (fun _ q=>q) fun _ _ q=>q
  rintro rfl
  rcases hc with rfl | hc
  ·rw [hfree] at e; cases e
  ·rw [hfree] at hc; cases hc
 rcases hx with hk | hk
 ·refine wpAny_storeName_local hk hn (fun h' hn' hs=>?_) hcls
  obtain ⟨oL,_,_,hoL,_⟩:=id hn
  refine h _ ⟨I.ok,I.os,I.bare,⟨fun b o e n hb hx=>?_,fun b o e n hb hx=>?_,I.base.free,fun b o e hx=>?_,I.base.tups,I.base.frzs,I.base.tbls⟩,⟨_,hn',fun j y v' e1 e2 e3=>?_⟩,fun y c e=>?_,I.free,I.freeC,fun p hp=>?_,tracked ⟨oL,hoL,I.free⟩ hs,by simpa using I.len⟩ ⟨_,hs,.inl rfl⟩
  ·exact (hs.2 b (Nat.ne_of_lt (Nat.lt_of_lt_of_le (Heap.lt_size e) I.ok.above))).trans (I.base.keep b o e n hb hx)
  ·obtain ⟨sl,e1⟩:=I.base.slot b o e n hb hx
   exact ⟨sl,(hs.2 b (Nat.ne_of_lt (Nat.lt_of_lt_of_le (Heap.lt_size e) I.ok.above))).trans e1⟩
  ·obtain ⟨o',e1⟩:=I.base.there b o e hx
   exact ⟨o',(hs.2 b (Nat.ne_of_lt (Nat.lt_of_lt_of_le (Heap.lt_size e) I.ok.above))).trans e1⟩
  ·by_cases hj:j=i
   ·subst hj
    rw [hi] at e1; cases e1
    rw [List.getElem?_set_self hiσ] at e2
    cases e2
    exact ⟨u,r,.inl ⟨hk,by simp⟩⟩
   ·rw [List.getElem?_set_ne (Ne.symm hj)] at e2
    obtain ⟨u',r',q⟩:=hl j y v' e1 e2 e3
    refine ⟨u',r',?_⟩
    rcases q with ⟨k,e⟩ | ⟨k,c,e,z⟩
    ·refine .inl ⟨k,?_⟩
     have:y≠x:=fun e=>hj (nodup_ix hN e1 (e ▸ hi))
     simp [this,e]
    ·exact .inr ⟨k,c,e,z.sameBut hs (cne y c e)⟩
  ·obtain ⟨w',z⟩:=I.cell y c e
   exact ⟨w',z.sameBut hs (cne y c e)⟩
  ·obtain ⟨e,n,ne,nf,d⟩:=I.pin p hp
   exact ⟨(hs.2 p.1 ne).trans e,n,ne,nf,d⟩
 ·have hfn:X.fn x=true:=by
   rcases hf with z | z
   ·exact z
   ·rw [z] at hk; cases hk
  obtain ⟨c,hc⟩:=I.ok.has x (.inl hk)
  obtain ⟨w',z⟩:=I.cell x c hc
  refine wpAny_storeName_cell I.ok.kind hk hc z (fun h' hc' hs=>?_)
  obtain ⟨oc,hoc,hocd⟩:=id z
  refine h { s with heap:=h' } ⟨I.ok,I.os,I.bare,⟨fun b o e n hb hx=>?_,fun b o e n hb hx=>?_,I.base.free,fun b o e hx=>?_,I.base.tups,I.base.frzs,I.base.tbls⟩,⟨m,hn.sameBut hs (Ne.symm (cne x c hc)),fun j y v' e1 e2 e3=>?_⟩,fun y c' e=>?_,I.free,I.freeC,fun p hp=>?_,tracked ⟨oc,hoc,I.freeC x c hc⟩ hs,by simpa using I.len⟩ ⟨c,hs,.inr hc⟩
  ·exact (hs.2 b (Nat.ne_of_lt (Nat.lt_of_lt_of_le (Heap.lt_size e) (I.ok.cab x c hfn hc)))).trans (I.base.keep b o e n hb hx)
  ·obtain ⟨sl,e1⟩:=I.base.slot b o e n hb hx
   exact ⟨sl,(hs.2 b (Nat.ne_of_lt (Nat.lt_of_lt_of_le (Heap.lt_size e) (I.ok.cab x c hfn hc)))).trans e1⟩
  ·obtain ⟨o',e1⟩:=I.base.there b o e hx
   exact ⟨o',(hs.2 b (Nat.ne_of_lt (Nat.lt_of_lt_of_le (Heap.lt_size e) (I.ok.cab x c hfn hc)))).trans e1⟩
  ·by_cases hj:j=i
   ·subst hj
    rw [hi] at e1; cases e1
    rw [List.getElem?_set_self hiσ] at e2
    cases e2
    exact ⟨u,r,.inr ⟨.inl hk,c,hc,hc'⟩⟩
   ·rw [List.getElem?_set_ne (Ne.symm hj)] at e2
    obtain ⟨u',r',q⟩:=hl j y v' e1 e2 e3
    refine ⟨u',r',?_⟩
    rcases q with q | ⟨k,c',e,z'⟩
    ·exact .inl q
    ·refine .inr ⟨k,c',e,z'.sameBut hs ?_⟩
     rintro rfl
     exact hj (nodup_ix hN e1 (I.ok.inj _ _ _ e hc ▸ hi))
  ·by_cases hcc:c' = c
   ·subst hcc; exact ⟨_,hc'⟩
   ·obtain ⟨w2,z2⟩:=I.cell y c' e
    exact ⟨w2,z2.sameBut hs hcc⟩
  ·obtain ⟨e,n,ne,nf,d⟩:=I.pin p hp
   refine ⟨(hs.2 p.1 ?_).trans e,n,ne,nf,d⟩
   intro q
   rw [q,hoc] at e
   have q':oc=p.2:=Option.some.inj e
   exact d w' (by rw [← q']; exact hocd)
theorem store_ok {M:Model} {A:Around} {E:Value→Shared→Prop} {i:Nat} {x:Str} {v:V} {u:Value} {Q:Unit→Shared→Prop} (I:Inv X pins σ H s) (hN:X.N.Nodup) (hi:X.N[i]? = some x) (hx:Loc X.env.scope x) (r:RelV v u)
  (h:∀ s',Inv X pins (σ.set i (some v)) H s'→Q () s') (hf:X.fn x=true∨X.env.scope.names.lookup x=some .local:=by first | exact .inl rfl | exact .inr rfl | assumption) : wpAny M A (storeName X.env x u) Q E s:=
 store_ok2 I hN hi hx r (fun s' I' _=>h s' I') hf
theorem Inv.call' {s':Shared} {ch:List Addr} (I:Inv X pins σ H s) (ho:s'.os=s.os) (u:Un (frs X.stack) ch H H' s.heap s'.heap) (hok:HOk X.prog X.w H' s'.heap) (hg:AllBare s'.gens)
  (hch:∀ b ∈ ch,(b ∈ X.ex∨X.s₀.heap.objs.size≤b)∧b≠X.env.locals∧(∀ x c,X.env.cells.lookup x=some c→c≠b)∧∀ p ∈ X.pn++pins,p.1≠b) : Inv X pins σ H' s':=by
 obtain ⟨h',g',d',t',o'⟩:=s'
 have e:o' = s.os:=ho
 subst e
 exact I.call (g':=g') (t':=t') (d':=d') u hok hg hch
end

abbrev XK:=Value→Option Addr→Hp→Prop
abbrev St:=List (Option V)
abbrev VK:=V→Hp→Prop
abbrev TE:=St→Hp→VK→Prop
abbrev TT:=St→Hp→(Bool→Hp→Prop)→Prop
abbrev TA:=St→Hp→(List V→Hp→Prop)→Prop
structure Ends where
 nx:St→Hp→Prop
 rt:VK
 bk:St→Hp→Prop:=fun _ _=>False
 ct:St→Hp→Prop:=fun _ _=>False
abbrev TS:=Ends→St→Hp→Prop

def EP (X:Cx) (pins:List (Addr × Obj)) (σ:St) (Q:VK) (u:Value) (s':Shared) : Prop:=∃ v H',Inv X pins σ H' s'∧RelV v u∧Q v H'
def TP (X:Cx) (pins:List (Addr × Obj)) (σ:St) (Q:Bool→Hp→Prop) (b:Bool) (s':Shared) : Prop:=∃ H',Inv X pins σ H' s'∧Q b H'
def AP (X:Cx) (pins:List (Addr × Obj)) (σ:St) (Q:List V→Hp→Prop) (us:List Value) (s':Shared) : Prop:=∃ vs H',Inv X pins σ H' s'∧Vals vs us∧Q vs H'
def SP (X:Cx) (pins:List (Addr × Obj)) (D:Ends) (f:Flow) (s':Shared) : Prop:=
 match f with
 | .next=>∃ σ' H',Inv X pins σ' H' s'∧D.nx σ' H'
 | .brk=>∃ σ' H',Inv X pins σ' H' s'∧D.bk σ' H'
 | .cont=>∃ σ' H',Inv X pins σ' H' s'∧D.ct σ' H'
 | .ret u=>∃ v σ' H',Inv X pins σ' H' s'∧RelV v u∧D.rt v H'

def PE (X:Cx) (e:Expr) (t:TE) : Prop:=
 ∀ (pins:List (Addr × Obj)) (s:Shared) (σ:St) (H:Hp) (Q:VK),Inv X pins σ H s→t σ H Q→wpAny (model X.prog X.w) X.A (eval e X.env) (EP X pins σ Q) X.xe s
def PT (X:Cx) (e:Expr) (t:TT) : Prop:=
 ∀ (pins:List (Addr × Obj)) (s:Shared) (σ:St) (H:Hp) (Q:Bool→Hp→Prop),Inv X pins σ H s→t σ H Q→wpAny (model X.prog X.w) X.A (isTrue e X.env (eval e X.env)) (TP X pins σ Q) X.xe s
def PW (X:Cx) (e:Expr) (t:TT) : Prop:=
 ∀ (whole:Sem Value) (pins:List (Addr × Obj)) (s:Shared) (σ:St) (H:Hp) (Q:Bool→Hp→Prop),Inv X pins σ H s→t σ H Q→wpAny (model X.prog X.w) X.A (isTrue e X.env whole) (TP X pins σ Q) X.xe s
theorem PW.pt {X:Cx} {e:Expr} {t:TT} (h:PW X e t) : PT X e t:=h _
def PA (X:Cx) (es:List Expr) (t:TA) : Prop:=
 ∀ (pos:Pos) (pins:List (Addr × Obj)) (s:Shared) (σ:St) (H:Hp) (Q:List V→Hp→Prop),Inv X pins σ H s→t σ H Q→wpAny (model X.prog X.w) X.A (spliced (backTo pos (starEach es X.env))) (AP X pins σ Q) X.xe s
def PS (X:Cx) (st:Stmt) (t:TS) : Prop:=
 ∀ (pins:List (Addr × Obj)) (s:Shared) (σ:St) (H:Hp) (D:Ends),Inv X pins σ H s→t D σ H→wpAny (model X.prog X.w) X.A (exec st X.env) (SP X pins D) X.xe s
def PSs (X:Cx) (st:List Stmt) (t:TS) : Prop:=
 ∀ (pins:List (Addr × Obj)) (s:Shared) (σ:St) (H:Hp) (D:Ends),Inv X pins σ H s→t D σ H→wpAny (model X.prog X.w) X.A (execs st X.env) (SP X pins D) X.xe s
theorem thn {α:Type} {t:Sem α} {Q Q':α→Shared→Prop} {M:Model} {A:Around} {E:Value→Shared→Prop} {s:Shared} (h:wpAny M A t Q E s) (hQ:∀ a s,Q a s→Q' a s) : wpAny M A t Q' E s:=wpAny_mono h hQ fun _ _ x=>x
section
variable {X:Cx}

def tVar (i:Nat) : TE:=fun σ H Q=>∃ v,σ[i]? = some (some v)∧Q v H
def tC (v:V) : TE:=fun _ H Q=>Q v H
theorem pe_var {i:Nat} {x:Str} {pos:Pos} (hN:X.N[i]? = some x) (hv:Vis X.env.scope x) (hd:(x == ("__debug__" : Str))=false:=by decide) (hcd:(x == ("__classdict__" : Str))=false:=by decide) : PE X (.Name x pos) (tVar i):=by
 intro pins s σ H Q I h
 obtain ⟨v,e,h⟩:=h
 obtain ⟨m,hn,hl⟩:=I.loc
 obtain ⟨u,r,l⟩:=hl i x v hN e hv
 have fin:EP X pins σ Q u s:=⟨v,H,I,r,h⟩
 rcases l with ⟨hk,hm⟩ | ⟨hk,c,hc,hcell⟩
 ·exact wpAny_Name (wpAny_loadName_local I.ok.kind hk hn hm fin) hd
 ·rcases hk with hk | hk
  ·exact wpAny_Name (wpAny_loadName_cell I.ok.kind hk hc hcell fin) hd
  ·exact wpAny_Name (wpAny_loadName_free I.ok.kind hk hc hcell fin hcd) hd
theorem pe_int {i j pos} : PE X (.Constant (.int i) j pos) (tC (.int i)):=fun _ _ _ H _ I h=>wpAny_Constant_int ⟨.int i,H,I.tok _,⟨_,rfl⟩,h⟩
theorem pe_bl {b j pos} : PE X (.Constant (.bool b) j pos) (tC (.bl b)):=fun _ _ _ H _ I h=>Constant_bool ⟨.bl b,H,I,rfl,h⟩
theorem pe_non {j pos} : PE X (.Constant .none j pos) (tC .non):=fun _ _ _ H _ I h=>Constant_none ⟨.non,H,I,rfl,h⟩
theorem pe_str {x j pos} : PE X (.Constant (.str x) j pos) (tC (.str x)):=fun _ _ _ H _ I h=>Calls.Constant_str ⟨.str x,H,I.tok _,⟨_,rfl⟩,h⟩

def Gl (X:Cx) (x:Str) : Prop:=X.env.kindOf x=some .globalImplicit
theorem ld_glob {E:Value→Shared→Prop} {pins:List (Addr × Obj)} {s:Shared} {σ:St} {H:Hp} {x:Str} {u:Value} {pos:Pos} {Q:Value→Shared→Prop} (I:Inv X pins σ H s) (hg:Gl X x) (hm:X.mg x=some u) (h:Q u s)
  (hd:(x == ("__debug__" : Str))=false:=by decide) : wpAny (model X.prog X.w) X.A (eval (.Name x pos) X.env) Q E s:=
 Calls.Name_function_global I.ok.kind hg (Calls.loadGlobal_global (by rw [I.ok.glob]; exact I.mod.glob.keeps I.bk) hm h) hd
theorem ld_blt {E:Value→Shared→Prop} {pins:List (Addr × Obj)} {s:Shared} {σ:St} {H:Hp} {x:Str} {u:Value} {pos:Pos} {Q:Value→Shared→Prop} (I:Inv X pins σ H s) (hg:Gl X x) (hm:X.mg x=none) (hv:bootBuiltins x=some u) (h:Q u s)
  (hn:x≠"__name__":=by decide) (hd:(x == ("__debug__" : Str))=false:=by decide) : wpAny (model X.prog X.w) X.A (eval (.Name x pos) X.env) Q E s:=by
 obtain ⟨mb,h1,h2⟩:=I.mod.blt
 exact Calls.Name_function_global I.ok.kind hg (Calls.loadGlobal_builtin (by rw [I.ok.glob]; exact I.mod.glob.keeps I.bk) hm (by rw [I.ok.blt]; exact h1.keeps I.bk) ((h2 x hn).trans hv) h) hd
theorem pe_glob {x:Str} {v:V} {u:Value} {pos:Pos} (hg:Gl X x) (hm:X.mg x=some u) (r:RelV v u) (hd:(x == ("__debug__" : Str))=false:=by decide) : PE X (.Name x pos) (tC v):=
 fun _ _ _ H _ I h=>ld_glob I hg hm ⟨v,H,I,r,h⟩ hd
theorem pe_bltn {x:Str} {v:V} {u:Value} {pos:Pos} (hg:Gl X x) (hm:X.mg x=none) (hv:bootBuiltins x=some u) (r:RelV v u) (hn:x≠"__name__":=by decide) (hd:(x == ("__debug__" : Str))=false:=by decide) : PE X (.Name x pos) (tC v):=
 fun _ _ _ H _ I h=>ld_blt I hg hm hv ⟨v,H,I,r,h⟩ hn hd

variable {a b:Expr} {ta tb:TE} {pos:Pos}
def tB (t:TE) : TT:=fun σ H Q=>t σ H fun x H1=>∃ c,x = .bl c∧Q c H1
theorem pt_val {e:Expr} {t:TE} (h:PE X e t) (he:∀ whole,isTrue e X.env whole=(do let v ← whole; standAt e.pos; holding [v] (truthy v)):=by intro _; rfl) : PT X e (tB t):=by
 intro pins s σ H Q I hw
 refine isTrue_plain (thn (h pins s σ H _ I hw) fun v s1 ⟨x,H1,I1,r1,q1⟩=>?_) (he _)
 obtain ⟨d,rfl,q⟩:=q1
 cases r1
 exact wpAny_truthy_bool ⟨H1,I1,q⟩

variable {tA tB':TT} {rest:List Expr}
def tAnd (t u:TT) : TT:=fun σ H Q=>t σ H fun c H1=>if c=true then u σ H1 Q else Q false H1
def tOr (t u:TT) : TT:=fun σ H Q=>t σ H fun c H1=>if c=true then Q true H1 else u σ H1 Q
def tNot (t:TT) : TT:=fun σ H Q=>t σ H fun c H1=>Q (!c) H1
theorem pw_and1 (ha:PT X a tA) : PW X (.BoolOp .And [a] pos) tA:=by
 intro wh pins s σ H Q I h
 refine isTrue_and (thn (ha pins s σ H Q I h) fun c s1 e=>?_)
 cases c with
 | true=>exact isTrue_and_nil e
 | false=>exact e
theorem pw_or1 (ha:PT X a tA) : PW X (.BoolOp .Or [a] pos) tA:=by
 intro wh pins s σ H Q I h
 refine isTrue_or (thn (ha pins s σ H Q I h) fun c s1 e=>?_)
 cases c with
 | false=>exact isTrue_or_nil e
 | true=>exact e
theorem pw_and (ha:PT X a tA) (hb:PW X (.BoolOp .And (b :: rest) pos) tB') : PW X (.BoolOp .And (a :: b :: rest) pos) (tAnd tA tB'):=by
 intro wh pins s σ H Q I h
 refine isTrue_and (thn (ha pins s σ H _ I h) fun c s1 ⟨H1,I1,q1⟩=>?_)
 cases c with
 | true=>exact hb wh pins s1 σ H1 Q I1 q1
 | false=>exact ⟨H1,I1,q1⟩
theorem pw_or (ha:PT X a tA) (hb:PW X (.BoolOp .Or (b :: rest) pos) tB') : PW X (.BoolOp .Or (a :: b :: rest) pos) (tOr tA tB'):=by
 intro wh pins s σ H Q I h
 refine isTrue_or (thn (ha pins s σ H _ I h) fun c s1 ⟨H1,I1,q1⟩=>?_)
 cases c with
 | true=>exact ⟨H1,I1,q1⟩
 | false=>exact hb wh pins s1 σ H1 Q I1 q1
theorem pt_not (ha:PT X a tA) : PT X (.UnaryOp .Not a pos) (tNot tA):=by
 intro pins s σ H Q I h
 exact isTrue_not (ha pins s σ H (fun c H1=>Q (!c) H1) I h)
def tAndV (ta tb:TE) : TE:=fun σ H Q=>ta σ H fun x H1=>∃ c,x = .bl c∧if c=true then tb σ H1 Q else Q (.bl false) H1
def tOrV (ta tb:TE) : TE:=fun σ H Q=>ta σ H fun x H1=>∃ c,x = .bl c∧if c=true then Q (.bl true) H1 else tb σ H1 Q
def tNotV (ta:TE) : TE:=fun σ H Q=>ta σ H fun x H1=>∃ c,x = .bl c∧Q (.bl (!c)) H1
theorem pe_one {op} {t:TE} (h:PE X a t) : PE X (.BoolOp op [a] pos) t:=fun pins s σ H Q I hw=>BoolOp_one (h pins s σ H Q I hw)
theorem pe_and (ha:PE X a ta) (hb:PE X (.BoolOp .And (b :: rest) pos) tb) : PE X (.BoolOp .And (a :: b :: rest) pos) (tAndV ta tb):=by
 intro pins s σ H Q I h
 refine BoolOp_and (thn (ha pins s σ H _ I h) fun v s1 ⟨x,H1,I1,r1,q1⟩=>?_)
 obtain ⟨c,rfl,q1⟩:=q1
 cases r1
 refine wpAny_truthy_bool ?_
 cases c with
 | true=>exact hb pins s1 σ H1 Q I1 q1
 | false=>exact ⟨.bl false,H1,I1,rfl,q1⟩
theorem pe_or (ha:PE X a ta) (hb:PE X (.BoolOp .Or (b :: rest) pos) tb) : PE X (.BoolOp .Or (a :: b :: rest) pos) (tOrV ta tb):=by
 intro pins s σ H Q I h
 refine BoolOp_or (thn (ha pins s σ H _ I h) fun v s1 ⟨x,H1,I1,r1,q1⟩=>?_)
 obtain ⟨c,rfl,q1⟩:=q1
 cases r1
 refine wpAny_truthy_bool ?_
 cases c with
 | false=>exact hb pins s1 σ H1 Q I1 q1
 | true=>exact ⟨.bl true,H1,I1,rfl,q1⟩
theorem pe_not (ha:PE X a ta) : PE X (.UnaryOp .Not a pos) (tNotV ta):=by
 intro pins s σ H Q I h
 refine UnaryOp_ (thn (ha pins s σ H _ I h) fun v s1 ⟨x,H1,I1,r1,q1⟩=>?_)
 obtain ⟨c,rfl,q1⟩:=q1
 cases r1
 exact not_of (wpAny_truthy_bool ⟨.bl (!c),H1,I1,rfl,q1⟩)
end

def SqL (K:PySem.W.Frag) (H:Hp) (a:Addr) (xs:List V) : Prop:=
 Rd H a (.lst xs) ∨
  ∃ (o:Obj) (its:Array Value) (n:Nat),K.lookup a=some o∧o.cls = .type "list"∧o.dict=none∧o.data = .seq its n∧its.size≤sizeLine∧Vals xs its.toList
def SqT (K:PySem.W.Frag) (H:Hp) (a:Addr) (xs:List V) : Prop:=
 Rd H a (.tup xs) ∨
  ∃ (o:Obj) (its:Array Value) (n:Nat),K.lookup a=some o∧o.cls = .type "tuple"∧o.data = .seq its n∧its.size≤sizeLine∧Vals xs its.toList
def absV:Value→Option V
 | .none=>some .non
 | .bool b=>some (.bl b)
 | .int i _=>some (.int i)
 | .str x _=>some (.str x)
 | .bytes b _=>some (.byt b)
 | .float b _=>some (.flt b)
 | .ref a=>some (.ref a)
 | .type n=>some (.ty n)
 | _=>none
theorem RelV.abs {x:V} {u:Value} (r:RelV x u) : absV u=some x:=by
 cases x with
 | non=>cases r; rfl
 | bl _=>cases r; rfl
 | int _=>obtain ⟨t,rfl⟩:=r; rfl
 | str _=>obtain ⟨t,rfl⟩:=r; rfl
 | byt _=>obtain ⟨t,rfl⟩:=r; rfl
 | flt _=>obtain ⟨t,rfl⟩:=r; rfl
 | ref _=>cases r; rfl
 | ty _=>cases r; rfl
theorem RelV.inj {x y:V} {u:Value} (r:RelV x u) (q:RelV y u) : x=y:=Option.some.inj (r.abs.symm.trans q.abs)
theorem Vals.inj:∀ {xs ys:List V} {us:List Value},Vals xs us→Vals ys us→xs=ys
 | _,_,_,.nil,.nil=>rfl
 | _,_,_,.cons r t,.cons r' t'=>by rw [r.inj r',Vals.inj t t']
section
variable {X:Cx} {pins:List (Addr × Obj)} {σ:St} {H:Hp} {s:Shared} {a:Addr} {xs ys:List V}
theorem SqL.of {K:PySem.W.Frag} (h:H a=some (.lst xs)) : SqL K H a xs:=.inl (.inl h)
theorem SqT.of {K:PySem.W.Frag} (h:H a=some (.tup xs)) : SqT K H a xs:=.inl (.inl h)
theorem Inv.list (I:Inv X pins σ H s) (h:SqL X.K H a xs) : ∃ its:List Value,Vals xs its∧PlainL s.heap a its.toArray∧xs.length≤sizeLine:=by
 rcases h with h | ⟨o,its,n,hk,hc,hd,hs,hz,r⟩
 ·obtain ⟨z,its,n,r,e⟩:=h.ok I.hok
  exact ⟨its,r,⟨_,n,e,rfl,rfl,rfl⟩,z⟩
 ·refine ⟨its.toList,r,⟨o,n,I.kIn a o hk,hc,hd,by simpa using hs⟩,?_⟩
  have e:=r.length
  simp only [Array.length_toList] at e
  omega
theorem Inv.tuple (I:Inv X pins σ H s) (h:SqT X.K H a xs) : ∃ its:List Value,Vals xs its∧IsTup s.heap a its.toArray∧xs.length≤sizeLine:=by
 rcases h with h | ⟨o,its,n,hk,hc,hs,hz,r⟩
 ·obtain ⟨z,its,r,p⟩:=h.ok I.hok
  exact ⟨its,r,p,z⟩
 ·refine ⟨its.toList,r,⟨o,I.kIn a o hk,hc,n,by simpa using hs⟩,?_⟩
  have e:=r.length
  simp only [Array.length_toList] at e
  omega
theorem Inv.list_inj (I:Inv X pins σ H s) (h:SqL X.K H a xs) (h':SqL X.K H a ys) : xs=ys:=by
 obtain ⟨its,r,⟨o,n,e,_,_,d⟩,_⟩:=I.list h
 obtain ⟨its',r',⟨o',n',e',_,_,d'⟩,_⟩:=I.list h'
 rw [e] at e'; cases e'
 rw [d] at d'
 injection d' with d1 _
 have:its=its':=by simpa using congrArg Array.toList d1
 subst this
 exact r.inj r'
theorem Inv.tuple_inj (I:Inv X pins σ H s) (h:SqT X.K H a xs) (h':SqT X.K H a ys) : xs=ys:=by
 obtain ⟨its,r,⟨o,e,_,n,d⟩,_⟩:=I.tuple h
 obtain ⟨its',r',⟨o',e',_,n',d'⟩,_⟩:=I.tuple h'
 rw [e] at e'; cases e'
 rw [d] at d'
 injection d' with d1 _
 have:its=its':=by simpa using congrArg Array.toList d1
 subst this
 exact r.inj r'
end

abbrev Cx.wish (X:Cx) (E:Value→Shared→Prop) : Cx:={ X with xe:=E }
abbrev Cx.nox (X:Cx) : Cx:=X.wish fun _ _=>False
theorem Cx.Ok.wish {X:Cx} (ok:X.Ok) (E:Value→Shared→Prop) : (X.wish E).Ok:=
 ⟨ok.mod,ok.kind,ok.glob,ok.blt,ok.above,ok.inj,ok.has,ok.cab,ok.hd,ok.frames,ok.stk,ok.exf,ok.bs,ok.bsz,ok.noex,ok.exfs,ok.funs,ok.frf⟩
theorem Cx.Ok.unwish {X:Cx} {E:Value→Shared→Prop} (ok:(X.wish E).Ok) : X.Ok:=
 ⟨ok.mod,ok.kind,ok.glob,ok.blt,ok.above,ok.inj,ok.has,ok.cab,ok.hd,ok.frames,ok.stk,ok.exf,ok.bs,ok.bsz,ok.noex,ok.exfs,ok.funs,ok.frf⟩
section
variable {X:Cx} {pins:List (Addr × Obj)} {σ:St} {H:Hp} {s:Shared} {E:Value→Shared→Prop}
theorem Inv.wish (I:Inv X pins σ H s) (E:Value→Shared→Prop) : Inv (X.wish E) pins σ H s:=⟨I.ok.wish E,I.os,I.bare,I.base,I.loc,I.cell,I.free,I.freeC,I.pin,I.hok,I.len⟩
theorem Inv.unwish (I:Inv (X.wish E) pins σ H s) : Inv X pins σ H s:=⟨I.ok.unwish,I.os,I.bare,I.base,I.loc,I.cell,I.free,I.freeC,I.pin,I.hok,I.len⟩
theorem SP.unwish {D:Ends} {f:Flow} {s':Shared} (h:SP (X.wish E) pins D f s') : SP X pins D f s':=by
 cases f with
 | next=>obtain ⟨σ',H',I,q⟩:=h; exact ⟨σ',H',I.unwish,q⟩
 | brk=>obtain ⟨σ',H',I,q⟩:=h; exact ⟨σ',H',I.unwish,q⟩
 | cont=>obtain ⟨σ',H',I,q⟩:=h; exact ⟨σ',H',I.unwish,q⟩
 | ret u=>obtain ⟨v,σ',H',I,r,q⟩:=h; exact ⟨v,σ',H',I.unwish,r,q⟩
theorem PE.nox {e:Expr} {t:TE} (h:PE X.nox e t) : PE X e t:=fun pins s σ H Q I hw =>
 wpAny_mono (h pins s σ H Q (I.wish _) hw) (fun _ _ ⟨v,H',I',r,q⟩=>⟨v,H',I'.unwish,r,q⟩) fun _ _ z=>False.elim z
theorem PT.nox {e:Expr} {t:TT} (h:PT X.nox e t) : PT X e t:=fun pins s σ H Q I hw =>
 wpAny_mono (h pins s σ H Q (I.wish _) hw) (fun _ _ ⟨H',I',q⟩=>⟨H',I'.unwish,q⟩) fun _ _ z=>False.elim z
theorem PSs.nox {st:List Stmt} {t:TS} (h:PSs X.nox st t) : PSs X st t:=fun pins s σ H D I hw =>
 wpAny_mono (h pins s σ H D (I.wish _) hw) (fun _ _ q=>q.unwish) fun _ _ z=>False.elim z
end

section
variable {X:Cx} {st:Stmt} {rest:List Stmt} {t u:TS} {e:Expr} {te:TE} {pos:Pos}
def tNext:TS:=fun D σ H=>D.nx σ H
def tSeq (t u:TS) : TS:=fun D σ H=>t { D with nx:=u D } σ H
theorem pss_nil:PSs X [] tNext:=fun _ _ σ H _ I h=>wpAny_execs_nil ⟨σ,H,I,h⟩
theorem pss_cons (h1:PS X st t) (h2:PSs X rest u) : PSs X (st :: rest) (tSeq t u):=by
 intro pins s σ H D I h
 refine wpAny_execs_cons (thn (h1 pins s σ H { D with nx:=u D } I h) fun f s1 q=>?_)
 cases f with
 | next =>
  obtain ⟨σ',H',I',q⟩:=q
  exact h2 pins s1 σ' H' D I' q
 | ret v=>exact q
 | brk=>exact q
 | cont=>exact q
theorem pss_one (h1:PS X st t) : PSs X [st] t:=by
 intro pins s σ H D I h
 refine wpAny_execs_cons (thn (h1 pins s σ H D I h) fun f s1 q=>?_)
 cases f with
 | next=>exact wpAny_execs_nil q
 | ret v=>exact q
 | brk=>exact q
 | cont=>exact q
theorem Inv.quiet {pins:List (Addr × Obj)} {σ:St} {H:Hp} {s:Shared} (I:Inv X pins σ H s) : interactive X.env=false:=by simp [interactive,I.ok.kind]
def tDrop (te:TE) : TS:=fun D σ H=>te σ H fun _ H1=>D.nx σ H1
theorem ps_expr (he:PE X e te) (hs:swapsWith e none pos.line X.env=pure false:=by rfl) : PS X (.Expr e pos) (tDrop te):=by
 intro pins s σ H D I h
 exact wpAny_Expr_any (thn (he pins s σ H _ I h) fun v s1 ⟨x,H1,I1,r1,q1⟩=>⟨σ,H1,I1,q1⟩) I.quiet hs
def tRet (te:TE) : TS:=fun D σ H=>te σ H D.rt
theorem ps_ret (he:PE X e te) : PS X (.Return (some e) pos) (tRet te):=by
 intro pins s σ H D I h
 exact wpAny_Return_some (thn (he pins s σ H _ I h) fun v s1 ⟨x,H1,I1,r1,q1⟩=>⟨x,σ,H1,I1,r1,q1⟩)
def tIfS (c:TT) (t u:TS) : TS:=fun D σ H=>c σ H fun b H1=>if b=true then t D σ H1 else u D σ H1
theorem ps_if {c:Expr} {a b:List Stmt} {tc:TT} (hc:PT X c tc) (ha:PSs X a t) (hb:PSs X b u) : PS X (.If c a b pos) (tIfS tc t u):=by
 intro pins s σ H D I h
 refine wpAny_If (thn (hc pins s σ H _ I h) fun d s1 ⟨H1,I1,q1⟩=>?_)
 cases d with
 | true=>exact ha pins s1 σ H1 D I1 q1
 | false=>exact hb pins s1 σ H1 D I1 q1
end

abbrev TG:=V→St→Hp→(St→Hp→Prop)→Prop
abbrev TGs:=List V→St→Hp→(St→Hp→Prop)→Prop
def PG (X:Cx) (target:Expr) (t:TG) : Prop:=
 ∀ (pins:List (Addr × Obj)) (s:Shared) (σ:St) (H:Hp) (v:V) (u:Value) (Q:St→Hp→Prop),Inv X pins σ H s→RelV v u→t v σ H Q →
  wpAny (model X.prog X.w) X.A (assign target X.env u) (fun _ s'=>∃ σ' H',Inv X pins σ' H' s'∧Q σ' H') X.xe s
def PGs (X:Cx) (ts:List Expr) (t:TGs) : Prop:=
 ∀ (pins:List (Addr × Obj)) (s:Shared) (σ:St) (H:Hp) (vs:List V) (us:List Value) (Q:St→Hp→Prop),Inv X pins σ H s→Vals vs us→t vs σ H Q →
  wpAny (model X.prog X.w) X.A (assignInOrder ((assignEach ts X.env).map (·.2)) us) (fun _ s'=>∃ σ' H',Inv X pins σ' H' s'∧Q σ' H') X.xe s
abbrev TSet:=V→V→V→Hp→(Hp→Prop)→Prop
def PSet (X:Cx) (t:TSet) : Prop:=
 ∀ (pins:List (Addr × Obj)) (s:Shared) (σ:St) (H:Hp) (o i v:V) (ov iv u:Value) (Q:Hp→Prop),Inv X pins σ H s→RelV o ov→RelV i iv→RelV v u→t o i v H Q →
  wpAny (model X.prog X.w) X.A (setItem ov iv u) (fun _ s'=>∃ H',Inv X pins σ H' s'∧Q H') X.xe s
section
variable {X:Cx} {pos:Pos}
def gName (i:Nat) : TG:=fun v σ H Q=>Q (σ.set i (some v)) H
theorem pg_name {i:Nat} {x:Str} (hN:X.N.Nodup) (hi:X.N[i]? = some x) (hx:Loc X.env.scope x) (hf:X.fn x=true∨X.env.scope.names.lookup x=some .local:=by first | exact .inl rfl | exact .inr rfl | assumption) : PG X (.Name x pos) (gName i):=by
 intro pins s σ H v u Q I r h
 exact wpAny_assign_Name (store_ok I hN hi hx r (fun s' I'=>⟨_,H,I',h⟩) hf)
def gNil:TGs:=fun vs σ H Q=>vs=[]∧Q σ H
def gCons (t:TG) (u:TGs) : TGs:=fun vs σ H Q=>∃ v r,vs=v :: r∧t v σ H fun σ' H'=>u r σ' H' Q
theorem pgs_nil:PGs X [] gNil:=by
 intro pins s σ H vs us Q I r h
 obtain ⟨e,h⟩:=h
 subst e
 cases r
 exact assignInOrder_nil ⟨σ,H,I,h⟩
theorem pgs_cons {e:Expr} {es:List Expr} {t:TG} {u:TGs} (h1:PG X e t) (h2:PGs X es u)
  (hs:(assignEach (e :: es) X.env).map (·.2)=assign e X.env :: (assignEach es X.env).map (·.2):=by rfl) : PGs X (e :: es) (gCons t u):=by
 intro pins s σ H vs us Q I r h
 obtain ⟨v,vr,e1,h⟩:=h
 subst e1
 cases r with
 | cons r rr =>
  rw [hs]
  refine assignInOrder_cons (thn (h1 pins s σ H _ _ _ I r h) fun _ s1 ⟨σ1,H1,I1,q1⟩=>?_)
  exact h2 pins s1 σ1 H1 _ _ Q I1 rr q1
def gTup (K:PySem.W.Frag) (n:Nat) (t:TGs) : TG:=fun v σ H Q=>∃ a xs,v = .ref a∧SqT K H a xs∧xs.length=n∧t xs σ H Q
theorem pg_tup {es:List Expr} {k:Nat} {t:TGs} {n:Nat} (hc:X.calm=true) (h:PGs X es t)
  (hn:(assignEach es X.env).length=n:=by rfl) (hst:(assignEach es X.env).findIdx? (·.1)=none:=by rfl) : PG X (.Tuple es k pos) (gTup X.K n t):=by
 intro pins s σ H v u Q I r hw
 obtain ⟨a,xs,e1,hq,hl,hw⟩:=hw
 subst e1
 cases r
 obtain ⟨its,rv,ht,hz⟩:=I.tuple hq
 refine assign_Tuple_tuple (I.ok.hd hc) ht (by simp [hn,← hl,rv.length]) hst fun h' hx=>?_
 have I1:Inv X pins σ H { s with heap:=h' }:=I.kept (t':=s.toks) fun b o e=>hx b o (Nat.ne_of_lt (Heap.lt_size e)) e
 exact h pins _ σ H xs _ Q I1 (by simpa using rv) hw
def gSub (to ti:TE) (t:TSet) : TG:=fun v σ H Q=>to σ H fun o H1=>ti σ H1 fun i H2=>t o i v H2 fun H3=>Q σ H3
theorem pg_sub {o i:Expr} {to ti:TE} {t:TSet} (ho:PE X o to) (hi:PE X i ti) (hs:PSet X t)
  (ha:∀ v,assign (.Subscript o i pos) X.env v=(do
   let ov ← holding [v] (eval o X.env)
   let iv ← holding [v,ov] (eval i X.env)
   standAt pos
   holding [v,ov,iv] (setItem ov iv v)
   release [v,ov,iv] []):=by intro _; rfl) : PG X (.Subscript o i pos) (gSub to ti t):=by
 intro pins s σ H v u Q I r h
 rw [ha]
 refine wpAny_bind (wpAny_holding (thn (ho pins s σ H _ I h) fun ov s1 ⟨x,H1,I1,r1,q1⟩=>?_))
 refine wpAny_bind (wpAny_holding (thn (hi pins s1 σ H1 _ I1 q1) fun iv s2 ⟨y,H2,I2,r2,q2⟩=>?_))
 refine wpAny_bind (wpAny_standAt (wpAny_bind (wpAny_holding (thn (hs pins s2 σ H2 x y v ov iv u _ I2 r1 r2 r q2) fun _ s3 ⟨H3,I3,q3⟩=>?_))))
 exact wpAny_release ⟨σ,H3,I3,q3⟩
def tAsg (te:TE) (g:TG) : TS:=fun D σ H=>te σ H fun x H1=>g x σ H1 D.nx
theorem ps_asg {tg e:Expr} {te:TE} {g:TG} (he:PE X e te) (hg:PG X tg g) (hs:swapsWithSole [tg] e pos.line X.env=pure false:=by rfl) (hw:swappedStores [tg] e X.env=pure none:=by rfl)
  (h1:(assignEach [tg] X.env).map (·.2)=[assign tg X.env]:=by rfl) : PS X (.Assign [tg] e pos) (tAsg te g):=by
 intro pins s σ H D I h
 refine wpAny_Assign_stores (thn (he pins s σ H _ I h) fun v s1 ⟨x,H1,I1,r1,q1⟩=>?_) hs hw
 rw [h1]
 exact thn (hg pins s1 σ H1 x v _ I1 r1 q1) fun _ s2 q=>q
theorem ps_set {i:Nat} {x:Str} {e:Expr} {te:TE} {pos':Pos} (hN:X.N.Nodup) (hi:X.N[i]? = some x) (hx:Loc X.env.scope x) (he:PE X e te) (hs:swapsWith e (some (.Name x pos')) pos.line X.env=pure false:=by rfl) (hf:X.fn x=true∨X.env.scope.names.lookup x=some .local:=by first | exact .inl rfl | exact .inr rfl | assumption) :
  PS X (.Assign [.Name x pos'] e pos) (tAsg te (gName i)):=by
 intro pins s σ H D I h
 refine wpAny_Assign_Name (thn (he pins s σ H _ I h) fun v s1 ⟨y,H1,I1,r1,q1⟩=>?_) hs
 exact store_ok I1 hN hi hx r1 (fun s2 I2=>⟨_,H1,I2,q1⟩) hf
end

section
variable {X:Cx} {pos:Pos}
end

structure It where
 go:Nat→Hp→Prop
 yld:Nat→Hp→V→Hp→Prop
 stop:Nat→Hp→Prop
def FpOk (X:Cx) (pins:List (Addr × Obj)) (H:Hp) (b:Addr) : Prop:=
 H b=none∧b≠X.env.locals∧b ∉ X.fs∧(b ∈ X.ex∨X.s₀.heap.objs.size≤b)∧(∀ x c,X.env.cells.lookup x=some c→c≠b)∧∀ p ∈ X.pn++pins,p.1≠b
theorem Inv.fpOk {X:Cx} {pins:List (Addr × Obj)} {σ:St} {H H':Hp} {s:Shared} {b:Addr} (I:Inv X pins σ H s) (hb:s.heap.objs.size≤b) (hn:H' b=none) : FpOk X pins H' b:=by
 refine ⟨hn,Nat.ne_of_gt (Nat.lt_of_lt_of_le I.lt hb),I.nofs hb,.inr (Nat.le_trans I.sz hb),fun x c e z=>?_,fun p hp z=>?_⟩
 ·obtain ⟨v,q⟩:=I.cell x c e
  exact absurd (Nat.lt_of_lt_of_le q.lt (by rw [z]; exact hb)) (Nat.lt_irrefl _)
 ·exact absurd (Nat.lt_of_lt_of_le (Heap.lt_size (I.pin p hp).1) (by rw [z]; exact hb)) (Nat.lt_irrefl _)
structure Turn (P:Program) (w:World) (K:PySem.W.Frag) (tg:Expr) (J:It) (fp:List Addr) (it:Addr) (tn:Nat→Heap→Prop) : Prop where
 mem:it ∈ fp
 obj:∀ i h,tn i h→∀ b ∈ fp,∃ o,h.get? b=some o∧∀ v,o.data≠.cell v
 keep:∀ i h h',tn i h→(∀ b ∈ fp,∀ o,h.get? b=some o→h'.get? b=some o)→tn i h'
 item:∀ (X:Cx),X.prog=P→X.w=w→X.K=K→X.calm=true→∀ (i:Nat) (pins:List (Addr × Obj)) (s:Shared) (σ:St) (H:Hp) (E:Value→Shared→Prop),Inv X pins σ H s→(∀ b ∈ fp,FpOk X pins H b)→tn i s.heap→J.go i H →
  wpAny (model P w) X.A (pyNext (.ref it)) (fun r s1=>∃ u,r=some u ∧
   wpAny (model P w) X.A (letOwnedTupleGo tg (.ref it) u) (fun _ s2=>∃ x H',Inv X pins σ H' s2∧RelV x u∧J.yld i H x H'∧tn (i+1) s2.heap∧∀ b ∈ fp,H' b=none) E s1) E s
 done:∀ (X:Cx),X.prog=P→X.w=w→X.K=K→X.calm=true→∀ (i:Nat) (pins:List (Addr × Obj)) (s:Shared) (σ:St) (H:Hp) (E:Value→Shared→Prop),Inv X pins σ H s→(∀ b ∈ fp,FpOk X pins H b)→tn i s.heap→J.stop i H →
  wpAny (model P w) X.A (pyNext (.ref it)) (fun r s1=>r=none∧Inv X pins σ H s1) E s
 self:∀ (A:Around) (i:Nat) (s:Shared) (Q:Value→Shared→Prop) (E:Value→Shared→Prop),tn i s.heap→Q (.ref it) s→wpAny (model P w) A (pyIter (.ref it)) Q E s
abbrev TI:=St→Hp→(It→Hp→Prop)→Prop
def PIE (X:Cx) (pins:List (Addr × Obj)) (σ:St) (tg:Expr) (R:It→Hp→Prop) (itv:Value) (s2:Shared) : Prop:=
 ∃ (it:Addr) (fp:List Addr) (tn:Nat→Heap→Prop) (J:It) (H':Hp),itv = .ref it∧Inv X pins σ H' s2∧Turn X.prog X.w X.K tg J fp it tn∧tn 0 s2.heap∧(∀ b ∈ fp,FpOk X pins H' b)∧R J H'
def PI (X:Cx) (tg iter:Expr) (wi:TI) : Prop:=
 ∀ (pins:List (Addr × Obj)) (s:Shared) (σ:St) (H:Hp) (R:It→Hp→Prop),Inv X pins σ H s→wi σ H R →
  wpAny (model X.prog X.w) X.A (eval iter X.env) (fun v s1=>wpAny (model X.prog X.w) X.A (pyIter v) (PIE X pins σ tg R) X.xe s1) X.xe s

theorem go_of {M:Model} {A:Around} {E:Value→Shared→Prop} {s:Shared} {tg:Expr} {it:Addr} {u:Value} {o:Obj} {n:String} {vs:Array Value} {Q:Unit→Shared→Prop} (ho:s.heap.get? it=some o) (hc:o.cls = .type n) (hd:o.data = .fields vs)
  (hn:["enumerate","zip","dict_itemiterator","dict_reverseitemiterator","odict_iterator","itertools.zip_longest","itertools.pairwise"].contains n=false) (hQ:Q () s) : wpAny M A (letOwnedTupleGo tg (.ref it) u) Q E s:=by
 unfold letOwnedTupleGo
 cases tg <;> first
  | exact wpAny_pure hQ
  | (cases u <;> first
    | exact wpAny_pure hQ
    | (refine wpAny_bind (wpAny_load ho ?_)
       rw [hc,hd]
       show wpAny M A (if (["enumerate","zip","dict_itemiterator","dict_reverseitemiterator","odict_iterator","itertools.zip_longest","itertools.pairwise"].contains n && vs[0]? == some (rawInt _))=true then _ else _) Q E s
       rw [if_neg (by intro h; rw [hn,Bool.false_and] at h; cases h)]
       exact wpAny_pure hQ))

def Itl (K:PySem.W.Frag) (a:Addr) : It:=
 ⟨fun i H=>∃ xs x,SqL K H a xs∧xs[i]? = some x,fun i H x H'=>H' = H∧∀ xs,SqL K H a xs→xs[i]? = some x,fun i H=>∃ xs,SqL K H a xs∧xs.length≤i⟩
def Itt (K:PySem.W.Frag) (a:Addr) : It:=
 ⟨fun i H=>∃ xs x,SqT K H a xs∧xs[i]? = some x,fun i H x H'=>H' = H∧∀ xs,SqT K H a xs→xs[i]? = some x,fun i H=>∃ xs,SqT K H a xs∧xs.length≤i⟩
def Itr (lo:Int) (n:Nat) : It:=⟨fun i _=>i < n,fun i H x H'=>H' = H∧x = .int (lo+i),fun i _=>n≤i⟩
theorem turn_list {P:Program} {w:World} {K:PySem.W.Frag} {tg:Expr} (a it:Addr) : Turn P w K tg (Itl K a) [it] it (fun i h=>h.IsListIter it a i) where
 mem:=by simp
 obj:=fun i h st b hb=>by
  have e:b=it:=by simpa using hb
  subst e
  obtain ⟨o,e,c,d⟩:=st
  exact ⟨o,e,fun v z=>by rw [d] at z; cases z⟩
 keep:=fun i h h' st k=>st.at fun o e=>k it (by simp) o e
 item:=by
  intro X hP hw hK hc i pins s σ H E I hf st hg
  subst hP hw hK
  obtain ⟨xs,x,hq,hx⟩:=hg
  obtain ⟨its,rv,p,hz⟩:=I.list hq
  obtain ⟨u,hu,ru⟩:=rv.get hx
  obtain ⟨f0,f1,f2,f3,f4,f5⟩:=hf it (by simp)
  refine wpAny_pyNext_list_item st p.isList (x:=u) (by simpa using hu) fun h' st' sb=>?_
  have I1:Inv X pins σ H { s with heap:=h' }:=I.turned (t':=s.toks) (fun b o hb e=>(sb.2 b hb).trans e) f0 f1 f3 f4 f5
  obtain ⟨o,e,c,d⟩:=id st'
  exact ⟨u,rfl,go_of (s:={ s with heap:=h' }) e c d (by decide) ⟨x,H,I1,ru,⟨rfl,fun ys hy=>by rw [I.list_inj hy hq]; exact hx⟩,st',fun b hb=>(hf b hb).1⟩⟩
 done:=by
  intro X hP hw hK hc i pins s σ H E I hf st hg
  subst hP hw hK
  obtain ⟨xs,hq,hx⟩:=hg
  obtain ⟨its,rv,p,hz⟩:=I.list hq
  obtain ⟨f0,f1,f2,f3,f4,f5⟩:=hf it (by simp)
  have hl:=rv.length
  exact wpAny_pyNext_list_end (I.ok.hd hc) st p.isList (by simp; omega) fun h' eb=>⟨rfl,I.turned (t':=s.toks) (fun b o hb e=>eb b o hb e) f0 f1 f3 f4 f5⟩
 self:=fun _ _ _ _ _ st h=>wpAny_pyIter_listiter st h
theorem turn_tuple {P:Program} {w:World} {K:PySem.W.Frag} {tg:Expr} (a it:Addr) : Turn P w K tg (Itt K a) [it] it (fun i h=>h.IsTupleIter it a i) where
 mem:=by simp
 obj:=fun i h st b hb=>by
  have e:b=it:=by simpa using hb
  subst e
  obtain ⟨o,e,c,d⟩:=st
  exact ⟨o,e,fun v z=>by rw [d] at z; cases z⟩
 keep:=fun i h h' st k=>st.at fun o e=>k it (by simp) o e
 item:=by
  intro X hP hw hK hc i pins s σ H E I hf st hg
  subst hP hw hK
  obtain ⟨xs,x,hq,hx⟩:=hg
  obtain ⟨its,rv,p,hz⟩:=I.tuple hq
  obtain ⟨u,hu,ru⟩:=rv.get hx
  obtain ⟨f0,f1,f2,f3,f4,f5⟩:=hf it (by simp)
  refine wpAny_pyNext_tuple_item st (show s.heap.IsTuple a its.toArray from p) (x:=u) (by simpa using hu) fun h' st' sb=>?_
  have I1:Inv X pins σ H { s with heap:=h' }:=I.turned (t':=s.toks) (fun b o hb e=>(sb.2 b hb).trans e) f0 f1 f3 f4 f5
  obtain ⟨o,e,c,d⟩:=id st'
  exact ⟨u,rfl,go_of (s:={ s with heap:=h' }) e c d (by decide) ⟨x,H,I1,ru,⟨rfl,fun ys hy=>by rw [I.tuple_inj hy hq]; exact hx⟩,st',fun b hb=>(hf b hb).1⟩⟩
 done:=by
  intro X hP hw hK hc i pins s σ H E I hf st hg
  subst hP hw hK
  obtain ⟨xs,hq,hx⟩:=hg
  obtain ⟨its,rv,p,hz⟩:=I.tuple hq
  obtain ⟨f0,f1,f2,f3,f4,f5⟩:=hf it (by simp)
  have hl:=rv.length
  exact wpAny_pyNext_tuple_end (I.ok.hd hc) st (show s.heap.IsTuple a its.toArray from p) (by simp; omega) fun h' eb=>⟨rfl,I.turned (t':=s.toks) (fun b o hb e=>eb b o hb e) f0 f1 f3 f4 f5⟩
 self:=fun _ _ _ _ _ st h=>wpAny_pyIter_tupleiter st h
theorem turn_range {P:Program} {w:World} {K:PySem.W.Frag} {tg:Expr} (it:Addr) (lo:Int) (n:Nat) : Turn P w K tg (Itr lo n) [it] it (fun i h=>IsRangeIter h it (lo+(i:Nat) * 1) ((n:Int) - (i:Nat)) 1) where
 mem:=by simp
 obj:=fun i h st b hb=>by
  have e:b=it:=by simpa using hb
  subst e
  exact ⟨_,st,fun v z=>by
   have z':Data.fields _=Data.cell v:=z
   cases z'⟩
 keep:=fun i h h' st k=>k it (by simp) _ st
 item:=by
  intro X hP hw hK hc i pins s σ H E I hf st hg
  subst hP hw hK
  obtain ⟨f0,f1,f2,f3,f4,f5⟩:=hf it (by simp)
  have W:=Walks.range (prog:=X.prog) (w:=X.w) (I.ok.hd hc) it lo 1 n
  refine W.item i s _ _ hg st fun v h' tk hv st' kk=>?_
  obtain ⟨t,rfl⟩:=hv
  have I1:Inv X pins σ H { s with heap:=h',toks:=tk }:=I.turned (fun b o hb e=>kk b o (by simpa using hb) e) f0 f1 f3 f4 f5
  refine ⟨_,rfl,go_of (s:={ s with heap:=h',toks:=tk }) (n := "range_iterator") st' rfl rfl (by decide) ⟨.int (lo+i),H,I1,⟨t,?_⟩,⟨rfl,rfl⟩,st',fun b hb=>(hf b hb).1⟩⟩
  rw [Int.mul_one]
 done:=by
  intro X hP hw hK hc i pins s σ H E I hf st hg
  subst hP hw hK
  obtain ⟨f0,f1,f2,f3,f4,f5⟩:=hf it (by simp)
  exact wpAny_pyNext_range_end (I.ok.hd hc) st (by have:n≤i:=hg; omega) fun h' eb=>⟨rfl,I.turned (t':=s.toks) (fun b o hb e=>eb b o hb e) f0 f1 f3 f4 f5⟩
 self:=fun _ _ _ _ _ st h=>wpAny_pyIter_rangeiter st h
section
variable {X:Cx} {tg:Expr}
def iList (K:PySem.W.Frag) (tl:TE) : TI:=fun σ H R=>tl σ H fun x H1=>∃ a,x = .ref a∧(∃ xs,SqL K H1 a xs)∧R (Itl K a) H1
def iTup (K:PySem.W.Frag) (tl:TE) : TI:=fun σ H R=>tl σ H fun x H1=>∃ a,x = .ref a∧(∃ xs,SqT K H1 a xs)∧R (Itt K a) H1
theorem pi_list {l:Expr} {tl:TE} (hl:PE X l tl) : PI X tg l (iList X.K tl):=by
 intro pins s σ H R I h
 refine thn (hl pins s σ H _ I h) fun v s1 ⟨x,H1,I1,r1,q1⟩=>?_
 obtain ⟨a,e,⟨xs,hq⟩,q⟩:=q1
 subst e
 cases r1
 obtain ⟨its,rv,p,hz⟩:=I1.list hq
 refine wpAny_pyIter_list p.isList ?_
 refine ⟨s1.heap.objs.size,[s1.heap.objs.size],_,_,H1,rfl,I1.kept (t':=s1.toks) fun b o e=>Heap.get?_push_of_some _ e,turn_list a _,⟨_,Heap.get?_push_size _ rfl,rfl,rfl⟩,fun b hb=>?_,q⟩
 have e:b=s1.heap.objs.size:=by simpa using hb
 subst e
 exact I1.fpOk (Nat.le_refl _) (I1.hok.fresh (Nat.le_refl _))
theorem pi_tup {l:Expr} {tl:TE} (hl:PE X l tl) : PI X tg l (iTup X.K tl):=by
 intro pins s σ H R I h
 refine thn (hl pins s σ H _ I h) fun v s1 ⟨x,H1,I1,r1,q1⟩=>?_
 obtain ⟨a,e,⟨xs,hq⟩,q⟩:=q1
 subst e
 cases r1
 obtain ⟨its,rv,p,hz⟩:=I1.tuple hq
 refine wpAny_pyIter_tuple (show s1.heap.IsTuple a its.toArray from p) ?_
 refine ⟨s1.heap.objs.size,[s1.heap.objs.size],_,_,H1,rfl,I1.kept (t':=s1.toks) fun b o e=>Heap.get?_push_of_some _ e,turn_tuple a _,⟨_,Heap.get?_push_size _ rfl,rfl,rfl⟩,fun b hb=>?_,q⟩
 have e:b=s1.heap.objs.size:=by simpa using hb
 subst e
 exact I1.fpOk (Nat.le_refl _) (I1.hok.fresh (Nat.le_refl _))
theorem range_it {pins:List (Addr × Obj)} {σ:St} {H:Hp} {s:Shared} {R:It→Hp→Prop} {E:Value→Shared→Prop} {lo hi:Int} {t u v:Tok} {tk:Nat} (I:Inv X pins σ H s) (h1:-(2 ^ 62)≤lo) (h2:lo < 2 ^ 62) (h3:-(2 ^ 62)≤hi) (h4:hi < 2 ^ 62)
  (q:R (Itr lo (hi - lo).toNat) H) : wpAny (model X.prog X.w) X.A (pyIter (.ref s.heap.objs.size)) (PIE X pins σ tg R) E { s with heap:=s.heap.push { cls:=.type "range",data:=.fields #[.int lo t,.int hi u,.int 1 v] },toks:=tk }:=by
 refine wpAny_pyIter_range (IsRange.new ..) (small_one h1 h2 h3 h4) ?_
 have I1:Inv X pins σ H { s with heap:=s.heap.push { cls:=.type "range",data:=.fields #[.int lo t,.int hi u,.int 1 v] },toks:=tk }:=I.kept fun b o e=>Heap.get?_push_of_some _ e
 refine ⟨(s.heap.push { cls:=.type "range",data:=.fields #[.int lo t,.int hi u,.int 1 v] }).objs.size,[(s.heap.push { cls:=.type "range",data:=.fields #[.int lo t,.int hi u,.int 1 v] }).objs.size],_,_,H,rfl,
  I1.kept (t':=tk) fun b o e=>Heap.get?_push_of_some _ e,turn_range _ lo (hi - lo).toNat,?_,fun b hb=>?_,q⟩
 ·have e1:lo+((0:Nat) : Int) * 1=lo:=by simp
  have e2:(((hi - lo).toNat:Nat) : Int) - ((0:Nat) : Int)=Builtin.Range.rangeSize lo hi 1:=by rw [rangeSize_one]; split <;> omega
  show IsRangeIter _ _ (lo+((0:Nat) : Int) * 1) ((((hi - lo).toNat:Nat) : Int) - ((0:Nat) : Int)) 1
  rw [e1,e2]
  exact Heap.get?_push_size _ rfl
 ·have e:b=(s.heap.push { cls:=.type "range",data:=.fields #[.int lo t,.int hi u,.int 1 v] }).objs.size:=by simpa using hb
  subst e
  exact I1.fpOk (Nat.le_refl _) (I1.hok.fresh (Nat.le_refl _))
def iRng1 (ta:TA) : TI:=fun σ H R=>ta σ H fun vs H1=>∃ j:Int,vs=[.int j]∧-(2 ^ 62)≤j∧j < 2 ^ 62∧R (Itr 0 j.toNat) H1
theorem pi_range1 {a:Expr} {ta:TA} {p pos:Pos} (hg:Gl X "range") (hm:X.mg "range" = none) (ha:PA X [a] ta) (hs:starEach [a] X.env=[(false,eval a X.env)]:=by rfl) : PI X tg (.Call (.Name "range" p) [a] [] pos) (iRng1 ta):=by
 intro pins s σ H R I h
 refine Call_ (ld_blt I hg hm boot_range (PyProof.Rows.callWith_type1 (thn (ha pos pins s σ H _ I h) fun us s1 ⟨vs,H1,I1,r1,q1⟩=>?_) hs rfl))
 obtain ⟨j,e,q1,q2,q⟩:=q1
 subst e
 cases r1 with
 | cons r rr =>
  cases rr
  obtain ⟨t,rfl⟩:=r
  exact call_range_1 (range_it I1 (by omega) (by omega) q1 q2 (by simpa using q))
def tFor (wi:TI) (g:TG) (tb:TS) : TS:=fun D σ H=>wi σ H fun J H1=>∃ W:Nat→Nat→St→Hp→Prop,(∃ m,W 0 m σ H1)∧∀ i m σ H,W i m σ H →
 (J.stop i H∧D.nx σ H)∨(J.go i H∧∃ N:St→Hp→Prop,(∀ σ' H',N σ' H'→∃ m',m' < m∧W (i+1) m' σ' H')∧∀ x H',J.yld i H x H'→g x σ H' fun σ2 H2=>tb { D with nx:=N,ct:=N,bk:=D.nx } σ2 H2)
def pinsAt (fp:List Addr) (h:Heap) : List (Addr × Obj):=fp.filterMap fun b=>(h.get? b).map fun o=>(b,o)
theorem mem_pinsAt {fp:List Addr} {h:Heap} {b:Addr} {o:Obj} (hb:b ∈ fp) (e:h.get? b=some o) : (b,o) ∈ pinsAt fp h:=List.mem_filterMap.mpr ⟨b,hb,by rw [e]; rfl⟩
theorem of_pinsAt {fp:List Addr} {h:Heap} {p:Addr × Obj} (hp:p ∈ pinsAt fp h) : p.1 ∈ fp∧h.get? p.1=some p.2:=by
 obtain ⟨b,hb,e⟩:=List.mem_filterMap.mp hp
 cases q:h.get? b with
 | none=>rw [q] at e; cases e
 | some o =>
  rw [q] at e
  have e':(b,o)=p:=Option.some.inj e
  subst e'
  exact ⟨hb,q⟩
theorem Inv.pinned {pins:List (Addr × Obj)} {σ:St} {H:Hp} {s:Shared} {fp:List Addr} (I:Inv X pins σ H s) (hf:∀ b ∈ fp,FpOk X pins H b) (ho:∀ b ∈ fp,∃ o,s.heap.get? b=some o∧∀ v,o.data≠.cell v) : Inv X (pins++pinsAt fp s.heap) σ H s:=
 I.pins_of fun p hp=>(List.mem_append.mp hp).elim (fun z=>I.pin p (List.mem_append_right _ z)) fun z=>by
  obtain ⟨hb,e⟩:=of_pinsAt z
  obtain ⟨f0,f1,f2,_⟩:=hf p.1 hb
  obtain ⟨o,e',d⟩:=ho p.1 hb
  rw [e] at e'; cases e'
  exact ⟨e,f0,f1,f2,d⟩
theorem Inv.unpinned {pins pl:List (Addr × Obj)} {σ:St} {H:Hp} {s:Shared} (I:Inv X (pins++pl) σ H s) : Inv X pins σ H s:=I.pins_of fun p hp=>I.pin p (List.mem_append_right _ (List.mem_append_left _ hp))
theorem ps_for {iter:Expr} {body:List Stmt} {wi:TI} {g:TG} {tb:TS} {pos:Pos} (hp:PassesOwn (model X.prog X.w) X.A X.env X.xe) (hc:X.calm=true) (hi:PI X tg iter wi) (hg:PG X tg g) (hb:PSs X body tb)
  (hs:∀ x,foldedSetIterable iter X.env x=pure x:=by intro _; rfl) : PS X (.For tg iter body [] pos) (tFor wi g tb):=by
 intro pins s σ H D I h
 refine wpAny_For (thn (hi pins s σ H _ I h) fun v s1 h1=>thn h1 fun itv s2 h2=>?_) hs
 obtain ⟨it,fp,tn,J,H2,e,I2,T,st2,f2,W,⟨m0,w0⟩,turn⟩:=h2
 subst e
 -- what stays true of the iterator's objects through the loop
 have stat:∀ {H':Hp},(∀ b ∈ fp,H' b=none)→∀ b ∈ fp,FpOk X pins H' b:=fun hn b hb=>⟨hn b hb,(f2 b hb).2⟩
 refine codeAny_forLoop_any (fun n s'=>∃ i σ' H',Inv X pins σ' H' s'∧tn i s'.heap∧(∀ b ∈ fp,H' b=none)∧W i n σ' H') ?_ m0 ⟨0,σ,H2,I2,st2,fun b hb=>(f2 b hb).1,w0⟩
 rintro n s3 ⟨i,σ3,H3,I3,st3,fr3,w3⟩
 rcases turn i n σ3 H3 w3 with ⟨stop,qn⟩ | ⟨go,N,hN,step⟩
 ·refine wpAny_passesOwn hp (thn (T.done X rfl rfl rfl hc i pins s3 σ3 H3 X.xe I3 (stat fr3) st3 stop) fun r s4 ⟨hr,I4⟩=>?_)
  subst hr
  exact wpAny_execs_nil ⟨σ3,H3,I4,qn⟩
 ·refine wpAny_passesOwn hp (thn (T.item X rfl rfl rfl hc i pins s3 σ3 H3 X.xe I3 (stat fr3) st3 go) fun r s4 ⟨u,hr,h4⟩=>?_)
  subst hr
  refine wpAny_passesOwn hp (thn h4 fun _ s5 ⟨x,H5,I5,r5,y5,st5,fr5⟩=>?_)
  have I5':=I5.pinned (stat fr5) (T.obj _ _ st5)
  refine wpAny_passesOwn hp (thn (hg _ s5 σ3 H5 x u _ I5' r5 (step x H5 y5)) fun _ s6 ⟨σ6,H6,I6,q6⟩=>?_)
  refine wpAny_passesOwn hp (thn (hb _ s6 σ6 H6 _ I6 q6) fun f s7 q7=>?_)
  have again:∀ {σ7:St} {H7:Hp},Inv X (pins++pinsAt fp s5.heap) σ7 H7 s7→N σ7 H7→∃ m,m < n∧∃ i σ' H',Inv X pins σ' H' s7∧tn i s7.heap∧(∀ b ∈ fp,H' b=none)∧W i m σ' H':=fun {σ7 H7} I7 n7=>by
   obtain ⟨m',hm,w7⟩:=hN σ7 H7 n7
   refine ⟨m',hm,i+1,σ7,H7,I7.unpinned,T.keep _ _ _ st5 fun b hb o e=>(I7.pin (b,o) (List.mem_append_right _ (List.mem_append_right _ (mem_pinsAt hb e)))).1,fun b hb=>?_,w7⟩
   obtain ⟨o,e,d⟩:=T.obj _ _ st5 b hb
   exact (I7.pin (b,o) (List.mem_append_right _ (List.mem_append_right _ (mem_pinsAt hb e)))).2.1
  cases f with
  | next=>obtain ⟨σ7,H7,I7,n7⟩:=q7; exact again I7 n7
  | cont=>obtain ⟨σ7,H7,I7,n7⟩:=q7; exact again I7 n7
  | brk=>obtain ⟨σ7,H7,I7,q7⟩:=q7; exact ⟨σ7,H7,I7.unpinned,q7⟩
  | ret v=>obtain ⟨x7,σ7,H7,I7,r7,q7⟩:=q7; exact ⟨x7,σ7,H7,I7.unpinned,r7,q7⟩
end

theorem for_list {K:PySem.W.Frag} {a:Addr} {xs:List V} {g:TG} {tb:TS} {D:Ends} {σ:St} {H:Hp} (Pv:Nat→St→Hp→Prop) (h0:Pv 0 σ H) (hl:∀ i σ H,i≤xs.length→Pv i σ H→SqL K H a xs)
  (hs:∀ i x σ H,xs[i]? = some x→Pv i σ H→g x σ H fun σ2 H2=>tb { D with nx:=Pv (i+1),ct:=Pv (i+1),bk:=D.nx } σ2 H2) (hd:∀ σ H,Pv xs.length σ H→D.nx σ H) :
  ∃ W:Nat→Nat→St→Hp→Prop,(∃ m,W 0 m σ H)∧∀ i m σ H,W i m σ H →
   ((Itl K a).stop i H∧D.nx σ H)∨((Itl K a).go i H∧∃ N:St→Hp→Prop,(∀ σ' H',N σ' H'→∃ m',m' < m∧W (i+1) m' σ' H')∧∀ x H',(Itl K a).yld i H x H'→g x σ H' fun σ2 H2=>tb { D with nx:=N,ct:=N,bk:=D.nx } σ2 H2):=by
 refine ⟨fun i m σ H=>m=xs.length - i∧i≤xs.length∧Pv i σ H,⟨xs.length,by simp,Nat.zero_le _,h0⟩,?_⟩
 rintro i m σ H ⟨rfl,hi,p⟩
 have q:=hl i σ H hi p
 by_cases hlt:i < xs.length
 ·refine .inr ⟨⟨xs,xs[i],q,by simp [hlt]⟩,Pv (i+1),fun σ' H' p'=>⟨xs.length - (i+1),by omega,rfl,hlt,p'⟩,fun x H' y=>?_⟩
  obtain ⟨e,y⟩:=y
  subst e
  exact hs i x σ _ (y xs q) p
 ·have e:i=xs.length:=by omega
  subst e
  exact .inl ⟨⟨xs,q,Nat.le_refl _⟩,hd σ H p⟩
theorem for_range {lo:Int} {n:Nat} {g:TG} {tb:TS} {D:Ends} {σ:St} {H:Hp} (Pv:Nat→St→Hp→Prop) (h0:Pv 0 σ H)
  (hs:∀ i σ H,i < n→Pv i σ H→g (.int (lo+i)) σ H fun σ2 H2=>tb { D with nx:=Pv (i+1),ct:=Pv (i+1),bk:=D.nx } σ2 H2) (hd:∀ σ H,Pv n σ H→D.nx σ H) :
  ∃ W:Nat→Nat→St→Hp→Prop,(∃ m,W 0 m σ H)∧∀ i m σ H,W i m σ H →
   ((Itr lo n).stop i H∧D.nx σ H)∨((Itr lo n).go i H∧∃ N:St→Hp→Prop,(∀ σ' H',N σ' H'→∃ m',m' < m∧W (i+1) m' σ' H')∧∀ x H',(Itr lo n).yld i H x H'→g x σ H' fun σ2 H2=>tb { D with nx:=N,ct:=N,bk:=D.nx } σ2 H2):=by
 refine ⟨fun i m σ H=>m=n - i∧i≤n∧Pv i σ H,⟨n,by simp,Nat.zero_le _,h0⟩,?_⟩
 rintro i m σ H ⟨rfl,hi,p⟩
 by_cases hlt:i < n
 ·refine .inr ⟨hlt,Pv (i+1),fun σ' H' p'=>⟨n - (i+1),by omega,rfl,hlt,p'⟩,fun x H' y=>?_⟩
  obtain ⟨e,y⟩:=y
  subst e y
  exact hs i σ _ hlt p
 ·have e:i=n:=by omega
  subst e
  exact .inl ⟨Nat.le_refl _,hd σ H p⟩

abbrev R2:=V→V→Hp→VK→Prop
def OpR (X:Cx) (f:Value→Value→Sem Value) (r:R2) : Prop:=
 ∀ (pins:List (Addr × Obj)) (s:Shared) (σ:St) (H:Hp) (x y:V) (v u:Value) (Q:VK),Inv X pins σ H s→RelV x v→RelV y u→r x y H Q →
  wpAny (model X.prog X.w) X.A (f v u) (EP X pins σ Q) X.xe s
def UnR (X:Cx) (f:Value→Sem Value) (r:V→Hp→VK→Prop) : Prop:=
 ∀ (pins:List (Addr × Obj)) (s:Shared) (σ:St) (H:Hp) (x:V) (v:Value) (Q:VK),Inv X pins σ H s→RelV x v→r x H Q →
  wpAny (model X.prog X.w) X.A (f v) (EP X pins σ Q) X.xe s
def CallR (X:Cx) (f:Value) (r:List V→Hp→VK→Prop) : Prop:=
 ∀ (pins:List (Addr × Obj)) (s:Shared) (σ:St) (H:Hp) (xs:List V) (us:List Value) (Q:VK),Inv X pins σ H s→Vals xs us→r xs H Q →
  wpAny (model X.prog X.w) X.A (call f us) (EP X pins σ Q) X.xe s
def tOp (r:R2) (ta tb:TE) : TE:=fun σ H Q=>ta σ H fun x H1=>tb σ H1 fun y H2=>r x y H2 Q
def tUn (r:V→Hp→VK→Prop) (ta:TE) : TE:=fun σ H Q=>ta σ H fun x H1=>r x H1 Q
def rI (C:Int→Int→Prop) (g:Int→Int→V) : R2:=fun x y H Q=>∃ i j,x = .int i∧y = .int j∧C i j∧Q (g i j) H
def rI0 (g:Int→Int→V) : R2:=fun x y H Q=>∃ i j,x = .int i∧y = .int j∧Q (g i j) H
def rU (g:Int→V) : V→Hp→VK→Prop:=fun x H Q=>∃ i,x = .int i∧Q (g i) H

section
variable {X:Cx} {a b c:Expr} {ta tb tc:TE} {pos:Pos}

theorem binT (ha:PE X a ta) (hb:PE X b tb) {pins:List (Addr × Obj)} {s:Shared} {σ:St} {H:Hp} {R:V→V→Hp→Prop} (I:Inv X pins σ H s)
  (h:ta σ H fun x H1=>tb σ H1 fun y H2=>R x y H2) {Q:Value→Shared→Prop} {f:Value→Value→Sem Value}
  (hf:∀ v u s2 x y H2,Inv X pins σ H2 s2→RelV x v→RelV y u→R x y H2→wpAny (model X.prog X.w) X.A (f v u) Q X.xe s2) :
  wpAny (model X.prog X.w) X.A (eval a X.env) (fun v s₁=>wpAny (model X.prog X.w) X.A (eval b X.env) (fun u s₂=>wpAny (model X.prog X.w) X.A (f v u) Q X.xe s₂) X.xe s₁) X.xe s:=by
 refine thn (ha pins s σ H _ I h) fun v s1 ⟨x,H1,I1,r1,q1⟩=>?_
 refine thn (hb pins s1 σ H1 _ I1 q1) fun u s2 ⟨y,H2,I2,r2,q2⟩=>?_
 exact hf v u s2 x y H2 I2 r1 r2 q2

theorem pe_op {op:Operator} {r:R2} (ho:OpR X (binaryOp op) r) (ha:PE X a ta) (hb:PE X b tb) : PE X (.BinOp a op b pos) (tOp r ta tb):=by
 intro pins s σ H Q I h
 exact wpAny_BinOp (binT ha hb I h fun v u s2 x y H2 I2 rx ry q=>ho pins s2 σ H2 x y v u Q I2 rx ry q)
theorem pe_un {op:UnaryOp} {r:V→Hp→VK→Prop} (ho:UnR X (unaryOp op) r) (ha:PE X a ta) : PE X (.UnaryOp op a pos) (tUn r ta):=by
 intro pins s σ H Q I h
 exact UnaryOp_ (thn (ha pins s σ H _ I h) fun v s1 ⟨x,H1,I1,r1,q1⟩=>ho pins s1 σ H1 x v Q I1 r1 q1)
theorem opI {f:Value→Value→Sem Value} {C:Int→Int→Prop} {g:Int→Int→Int}
  (rule:∀ (i j:Int) (t u:Tok) (s:Shared) (Q:Value→Shared→Prop) (E:Value→Shared→Prop),C i j→Q (.int (g i j) s.toks) { s with toks:=s.toks+1 }→wpAny (model X.prog X.w) X.A (f (.int i t) (.int j u)) Q E s) :
  OpR X f (rI C fun i j=>.int (g i j)):=by
 intro pins s σ H x y v u Q I rx ry h
 obtain ⟨i,j,rfl,rfl,hc,q⟩:=h
 obtain ⟨t,rfl⟩:=rx
 obtain ⟨t',rfl⟩:=ry
 exact rule i j t t' s _ _ hc ⟨.int (g i j),H,I.tok _,⟨_,rfl⟩,q⟩
theorem opI0 {f:Value→Value→Sem Value} {g:Int→Int→Int}
  (rule:∀ (i j:Int) (t u:Tok) (s:Shared) (Q:Value→Shared→Prop) (E:Value→Shared→Prop),Q (.int (g i j) s.toks) { s with toks:=s.toks+1 }→wpAny (model X.prog X.w) X.A (f (.int i t) (.int j u)) Q E s) :
  OpR X f (rI0 fun i j=>.int (g i j)):=by
 intro pins s σ H x y v u Q I rx ry h
 obtain ⟨i,j,rfl,rfl,q⟩:=h
 obtain ⟨t,rfl⟩:=rx
 obtain ⟨t',rfl⟩:=ry
 exact rule i j t t' s _ _ ⟨.int (g i j),H,I.tok _,⟨_,rfl⟩,q⟩
theorem opB0 {f:Value→Value→Sem Value} {g:Int→Int→Bool}
  (rule:∀ (i j:Int) (t u:Tok) (s:Shared) (Q:Value→Shared→Prop) (E:Value→Shared→Prop),Q (.bool (g i j)) s→wpAny (model X.prog X.w) X.A (f (.int i t) (.int j u)) Q E s) :
  OpR X f (rI0 fun i j=>.bl (g i j)):=by
 intro pins s σ H x y v u Q I rx ry h
 obtain ⟨i,j,rfl,rfl,q⟩:=h
 obtain ⟨t,rfl⟩:=rx
 obtain ⟨t',rfl⟩:=ry
 exact rule i j t t' s _ _ ⟨.bl (g i j),H,I,rfl,q⟩

def CDiv (i j:Int) : Prop:=0 < j∧j < 1073741824
def CPow (i j:Int) : Prop:=0≤j∧j≤1000000∧i.natAbs < 2 ^ 64
def CMul (i j:Int) : Prop:=(-(2 ^ 64) < i∧i < 2 ^ 64)∨(-(2 ^ 64) < j∧j < 2 ^ 64)
theorem CMul.ok {i j:Int} (h:CMul i j) : IntMulOk i j:=by
 rcases h with ⟨h1,h2⟩ | ⟨h1,h2⟩
 ·exact .of_left (intBits_le_64 h1 h2)
 ·exact .of_right (intBits_le_64 h1 h2)
theorem op_add:OpR X (binaryOp .Add) (rI0 fun i j=>.int (i+j)):=opI0 fun _ _ _ _ _ _ _ q=>add_int q
theorem op_sub:OpR X (binaryOp .Sub) (rI0 fun i j=>.int (i - j)):=opI0 fun _ _ _ _ _ _ _ q=>sub_int q
theorem op_mul:OpR X (binaryOp .Mult) (rI CMul fun i j=>.int (i * j)):=opI fun _ _ _ _ _ _ _ hc q=>mul_int q hc.ok
theorem op_fdiv:OpR X (binaryOp .FloorDiv) (rI CDiv fun i j=>.int (i / j)):=opI fun i j _ _ _ _ _ hc q=>by
 have h1:(0:Int) < j:=hc.1
 have h2:j < 1073741824:=hc.2
 exact floordiv_int (by omega) (by rw [Int.fdiv_eq_ediv_of_nonneg i (by omega)]; exact q) (.inl (PyProof.noPylong_small (by omega)))
theorem op_mod:OpR X (binaryOp .Mod) (rI (fun _ j=>0 < j) fun i j=>.int (i % j)):=opI fun i j _ _ _ _ _ hc q=>by
 have h1:(0:Int) < j:=hc
 exact mod_int' (by omega) (by rw [Int.fmod_eq_emod_of_nonneg i (by omega)]; exact q)
theorem op_pow:OpR X (binaryOp .Pow) (rI CPow fun i j=>.int (i ^ j.toNat)):=opI fun _ _ _ _ _ _ _ hc q=>pow_int_small hc.1 hc.2.1 hc.2.2 q
theorem unI {f:Value→Sem Value} {g:Int→Int}
  (rule:∀ (i:Int) (t:Tok) (s:Shared) (Q:Value→Shared→Prop) (E:Value→Shared→Prop),Q (.int (g i) s.toks) { s with toks:=s.toks+1 }→wpAny (model X.prog X.w) X.A (f (.int i t)) Q E s) :
  UnR X f (rU fun i=>.int (g i)):=by
 intro pins s σ H x v Q I rx h
 obtain ⟨i,rfl,q⟩:=h
 obtain ⟨t,rfl⟩:=rx
 exact rule i t s _ _ ⟨.int (g i),H,I.tok _,⟨_,rfl⟩,q⟩
theorem un_neg:UnR X (unaryOp .USub) (rU fun i=>.int (-i)):=unI fun _ _ _ _ _ q=>neg_int q
end

def scal:V→V→Bool
 | .non,.non=>true | .non,.int _=>true | .int _,.non=>true | .non,.bl _=>true | .bl _,.non=>true | .non,.str _=>true | .str _,.non=>true
 | .int _,.int _=>true | .bl _,.bl _=>true | .str _,.str _=>true | .byt _,.byt _=>true
 | .int _,.str _=>true | .str _,.int _=>true | .bl _,.str _=>true | .str _,.bl _=>true
 | _,_=>false
def rEq:R2:=fun x y H Q=>scal x y=true∧Q (.bl (decide (x=y))) H
def rNe:R2:=fun x y H Q=>scal x y=true∧Q (.bl (!decide (x=y))) H

theorem dec_int {i j:Int} : decide (V.int i=V.int j)=(i == j):=by
 rw [Bool.eq_iff_iff]
 simp
theorem dec_bl {i j:Bool} : decide (V.bl i=V.bl j)=(i == j):=by
 rw [Bool.eq_iff_iff]
 simp
theorem dec_str {i j:Str} : decide (V.str i=V.str j)=(i == j):=by
 rw [Bool.eq_iff_iff]
 simp
theorem dec_byt {i j:Array UInt8} : decide (V.byt i=V.byt j)=(i.toList == j.toList):=by
 rw [Bool.eq_iff_iff]
 cases i
 cases j
 simp

section
variable {X:Cx} {a b c:Expr} {ta tb tc:TE} {pos:Pos}
theorem fin_bl {pins:List (Addr × Obj)} {σ:St} {H:Hp} {s:Shared} {Q:VK} {k k':Bool} (I:Inv X pins σ H s) (q:Q (.bl k) H) (e:k=k') : EP X pins σ Q (.bool k') s:=by
 subst e
 exact ⟨.bl k,H,I,rfl,q⟩
theorem op_eq:OpR X (compareOp .Eq) rEq:=by
 intro pins s σ H x y v u Q I rx ry h
 obtain ⟨hs,q⟩:=h
 cases x with
 | non =>
  cases rx
  cases y with
  | non=>cases ry; exact PySem.EqNone.eq_none_none (fin_bl I q (by simp))
  | bl j=>cases ry; exact PySem.EqNone.eq_none_bool (fin_bl I q (by simp))
  | int j=>obtain ⟨t',rfl⟩:=ry; exact PySem.EqNone.eq_none_int (fin_bl I q (by simp))
  | str j=>obtain ⟨t',rfl⟩:=ry; exact PySem.EqNone.eq_none_str (fin_bl I q (by simp))
  | _=>exact absurd (show false=true from hs) Bool.false_ne_true
 | bl i =>
  cases rx
  cases y with
  | non=>cases ry; exact PySem.EqNone.eq_bool_none (fin_bl I q (by simp))
  | bl j=>cases ry; exact eq_bool (fin_bl I q dec_bl)
  | str j=>obtain ⟨t',rfl⟩:=ry; exact PySem.EqMixed.eq_bool_str (fin_bl I q (by simp))
  | _=>exact absurd (show false=true from hs) Bool.false_ne_true
 | int i =>
  obtain ⟨t,rfl⟩:=rx
  cases y with
  | non=>cases ry; exact PySem.EqNone.eq_int_none (fin_bl I q (by simp))
  | int j=>obtain ⟨t',rfl⟩:=ry; exact eq_int (fin_bl I q dec_int)
  | str j=>obtain ⟨t',rfl⟩:=ry; exact PySem.EqMixed.eq_int_str (fin_bl I q (by simp))
  | _=>exact absurd (show false=true from hs) Bool.false_ne_true
 | str i =>
  obtain ⟨t,rfl⟩:=rx
  cases y with
  | non=>cases ry; exact PySem.EqNone.eq_str_none (fin_bl I q (by simp))
  | bl j=>cases ry; exact PySem.EqMixed.eq_str_bool (fin_bl I q (by simp))
  | int j=>obtain ⟨t',rfl⟩:=ry; exact PySem.EqMixed.eq_str_int (fin_bl I q (by simp))
  | str j=>obtain ⟨t',rfl⟩:=ry; exact eq_str (fin_bl I q dec_str)
  | _=>exact absurd (show false=true from hs) Bool.false_ne_true
 | byt i =>
  obtain ⟨t,rfl⟩:=rx
  cases y with
  | byt j=>obtain ⟨t',rfl⟩:=ry; exact PySem.W.eq_bytes (fin_bl I q dec_byt)
  | _=>exact absurd (show false=true from hs) Bool.false_ne_true
 | _=>cases y <;> exact absurd (show false=true from hs) Bool.false_ne_true
theorem op_ne:OpR X (compareOp .NotEq) rNe:=by
 intro pins s σ H x y v u Q I rx ry h
 obtain ⟨hs,q⟩:=h
 cases x with
 | non =>
  cases rx
  cases y with
  | non=>cases ry; exact PySem.EqNone.ne_none_none (fin_bl I q (by simp))
  | bl j=>cases ry; exact PySem.EqNone.ne_none_bool (fin_bl I q (by simp))
  | int j=>obtain ⟨t',rfl⟩:=ry; exact PySem.EqNone.ne_none_int (fin_bl I q (by simp))
  | str j=>obtain ⟨t',rfl⟩:=ry; exact PySem.EqNone.ne_none_str (fin_bl I q (by simp))
  | _=>exact absurd (show false=true from hs) Bool.false_ne_true
 | bl i =>
  cases rx
  cases y with
  | non=>cases ry; exact PySem.EqNone.ne_bool_none (fin_bl I q (by simp))
  | bl j=>cases ry; exact ne_bool (fin_bl I q (congrArg not dec_bl))
  | str j=>obtain ⟨t',rfl⟩:=ry; exact PySem.EqMixed.ne_bool_str (fin_bl I q (by simp))
  | _=>exact absurd (show false=true from hs) Bool.false_ne_true
 | int i =>
  obtain ⟨t,rfl⟩:=rx
  cases y with
  | non=>cases ry; exact PySem.EqNone.ne_int_none (fin_bl I q (by simp))
  | int j=>obtain ⟨t',rfl⟩:=ry; exact ne_int (fin_bl I q (congrArg not dec_int))
  | str j=>obtain ⟨t',rfl⟩:=ry; exact PySem.EqMixed.ne_int_str (fin_bl I q (by simp))
  | _=>exact absurd (show false=true from hs) Bool.false_ne_true
 | str i =>
  obtain ⟨t,rfl⟩:=rx
  cases y with
  | non=>cases ry; exact PySem.EqNone.ne_str_none (fin_bl I q (by simp))
  | bl j=>cases ry; exact PySem.EqMixed.ne_str_bool (fin_bl I q (by simp))
  | int j=>obtain ⟨t',rfl⟩:=ry; exact PySem.EqMixed.ne_str_int (fin_bl I q (by simp))
  | str j=>obtain ⟨t',rfl⟩:=ry; exact ne_str (fin_bl I q (congrArg not dec_str))
  | _=>exact absurd (show false=true from hs) Bool.false_ne_true
 | byt i =>
  obtain ⟨t,rfl⟩:=rx
  cases y with
  | byt j=>obtain ⟨t',rfl⟩:=ry; exact PySem.W.ne_bytes (fin_bl I q (congrArg not dec_byt))
  | _=>exact absurd (show false=true from hs) Bool.false_ne_true
 | _=>cases y <;> exact absurd (show false=true from hs) Bool.false_ne_true

theorem op_lt:OpR X (compareOp .Lt) (rI0 fun i j=>.bl (decide (i < j))):=opB0 fun _ _ _ _ _ _ _ q=>lt_int q
theorem op_le:OpR X (compareOp .LtE) (rI0 fun i j=>.bl (decide (i≤j))):=opB0 fun _ _ _ _ _ _ _ q=>le_int q
theorem op_gt:OpR X (compareOp .Gt) (rI0 fun i j=>.bl (decide (j < i))):=opB0 fun _ _ _ _ _ _ _ q=>gt_int q
theorem op_ge:OpR X (compareOp .GtE) (rI0 fun i j=>.bl (decide (j≤i))):=opB0 fun _ _ _ _ _ _ _ q=>ge_int q
theorem op_notN:OpR X (compareOp .IsNot) (fun x y H Q=>y = .non∧Q (.bl (!decide (x = .non))) H):=by
 intro pins s σ H x y v u Q I rx ry h
 obtain ⟨rfl,q⟩:=h
 cases ry
 refine isnot_none_gen (fin_bl I q ?_)
 cases x <;> first
  | (cases rx; rfl)
  | (obtain ⟨t,rfl⟩:=rx; rfl)

theorem op_notin_str:OpR X (compareOp .NotIn) (fun x y H Q=>∃ i j,x = .str i∧y = .str j∧Q (.bl (!(!(Builtin.Str.occurrences j i 0 j.length 1).isEmpty))) H):=by
 intro pins s σ H x y v u Q I rx ry h
 obtain ⟨i,j,rfl,rfl,q⟩:=h
 obtain ⟨t,rfl⟩:=rx
 obtain ⟨t',rfl⟩:=ry
 exact notIn_str (fin_bl I q rfl)
theorem nomark (b:Expr) {op:CmpOp} (h:op≠.In:=by decide) (h2:op≠.NotIn:=by decide) : behindInMarks op b=false:=by
 have e1:(op == CmpOp.In)=false:=by cases op <;> first | rfl | exact absurd rfl h
 have e2:(op == CmpOp.NotIn)=false:=by cases op <;> first | rfl | exact absurd rfl h2
 cases b <;> simp [behindInMarks,e1,e2]
theorem pe_cmpR {op:CmpOp} {r:R2} (ho:OpR X (compareOp op) r) (ha:PE X a ta) (hb:PE X b tb) (hm:behindInMarks op b=false) : PE X (.Compare a [op] [b] pos) (tOp r ta tb):=by
 intro pins s σ H Q I h
 exact wpAny_Compare1 (binT ha hb I h fun v u s2 x y H2 I2 rx ry q=>ho pins s2 σ H2 x y v u Q I2 rx ry q) hm
def tTest (t:TE) : TT:=fun σ H Q=>t σ H fun x H'=>∃ k,x = .bl k∧Q k H'
theorem pt_cmpR {op:CmpOp} {r:R2} (ho:OpR X (compareOp op) r) (ha:PE X a ta) (hb:PE X b tb) (hm:behindInMarks op b=false) : PT X (.Compare a [op] [b] pos) (tTest (tOp r ta tb)):=by
 intro pins s σ H Q I h
 refine wpAny_isTrue_Compare1 (thn (ha pins s σ H _ I h) fun v s1 ⟨x,H1,I1,r1,q1⟩=>thn (hb pins s1 σ H1 _ I1 q1) fun u s2 ⟨y,H2,I2,r2,q2⟩ =>
  thn (ho pins s2 σ H2 x y v u _ I2 r1 r2 q2) fun c s3 ⟨z,H3,I3,r3,k,e,q3⟩=>?_) hm
 subst e
 cases r3
 exact wpAny_truthy_bool ⟨H3,I3,q3⟩
def tChain (r r':R2) (ta tb tc:TE) : TE:=fun σ H Q=>ta σ H fun x H1=>tb σ H1 fun y H2=>r x y H2 fun z H3=>∃ k,z = .bl k ∧
 (if k=true then tc σ H3 fun w' H4=>r' y w' H4 Q else Q (.bl false) H3)
theorem pe_chain {op op':CmpOp} {r r':R2} (ho:OpR X (compareOp op) r) (ho':OpR X (compareOp op') r') (ha:PE X a ta) (hb:PE X b tb) (hc:PE X c tc)
  (hm:lastMarks [op,op'] [b,c]=false:=by with_unfolding_all rfl) : PE X (.Compare a [op,op'] [b,c] pos) (tChain r r' ta tb tc):=by
 intro pins s σ H Q I h
 refine Compare_chain (thn (ha pins s σ H _ I h) fun v s1 ⟨x,H1,I1,r1,q1⟩=>chain_link (thn (hb pins s1 σ H1 _ I1 q1) fun u s2 ⟨y,H2,I2,r2,q2⟩ =>
  thn (ho pins s2 σ H2 x y v u _ I2 r1 r2 q2) fun d s3 ⟨z,H3,I3,r3,k,e,q3⟩=>?_)) hm
 subst e
 cases r3
 refine wpAny_truthy_bool ?_
 cases k with
 | false=>exact ite_ff ⟨.bl false,H3,I3,rfl,q3⟩
 | true=>exact ite_tt (chain_last (thn (hc pins s3 σ H3 _ I3 q3) fun w' s4 ⟨z',H4,I4,r4,q4⟩=>ho' pins s4 σ H4 y z' u w' Q I4 r2 r4 q4))
theorem line63:(sizeLine:Nat) < 2 ^ 63:=by rw [sizeLine_eq]; decide
theorem op_add_str:OpR X (binaryOp .Add) (fun x y H Q=>∃ i j,x = .str i∧y = .str j∧i.length+j.length≤sizeLine∧Q (.str (i++j)) H):=by
 intro pins s σ H x y v u Q I rx ry h
 obtain ⟨i,j,rfl,rfl,hz,q⟩:=h
 obtain ⟨t,rfl⟩:=rx
 obtain ⟨t',rfl⟩:=ry
 exact add_str (fun t' tk=>⟨.str (i++j),H,I.tok _,⟨_,rfl⟩,q⟩) hz
theorem vals1 {x:V} {us:List Value} (r:Vals [x] us) : ∃ u,us=[u]∧RelV x u:=by
 cases r with
 | cons r1 r2=>cases r2; exact ⟨_,rfl,r1⟩
theorem vals2 {x y:V} {us:List Value} (r:Vals [x,y] us) : ∃ u w',us=[u,w']∧RelV x u∧RelV y w':=by
 cases r with
 | cons r1 r2 =>
  cases r2 with
  | cons r3 r4=>cases r4; exact ⟨_,_,rfl,r1,r3⟩
theorem call_max2 (hc:X.calm=true) : CallR X (.builtin "max") (fun xs H Q=>∃ i j,xs=[.int i,.int j]∧Q (.int (if j > i then j else i)) H):=by
 intro pins s σ H xs us Q I r h
 obtain ⟨i,j,rfl,q⟩:=h
 obtain ⟨u,w',rfl,⟨t,rfl⟩,⟨t',rfl⟩⟩:=vals2 r
 refine max_two_ints (I.ok.hd hc) fun h' tk k=>⟨_,H,I.kept k,?_,q⟩
 by_cases hj:j > i
 ·rw [if_pos hj,if_pos hj]; exact ⟨_,rfl⟩
 ·rw [if_neg hj,if_neg hj]; exact ⟨_,rfl⟩
theorem call_min2 (hc:X.calm=true) : CallR X (.builtin "min") (fun xs H Q=>∃ i j,xs=[.int i,.int j]∧Q (.int (if j < i then j else i)) H):=by
 intro pins s σ H xs us Q I r h
 obtain ⟨i,j,rfl,q⟩:=h
 obtain ⟨u,w',rfl,⟨t,rfl⟩,⟨t',rfl⟩⟩:=vals2 r
 refine min_two_ints (I.ok.hd hc) fun h' tk k=>⟨_,H,I.kept k,?_,q⟩
 by_cases hj:j < i
 ·rw [if_pos hj,if_pos hj]; exact ⟨_,rfl⟩
 ·rw [if_neg hj,if_neg hj]; exact ⟨_,rfl⟩
theorem call_int1:CallR X (.type "int") (fun xs H Q=>(∃ i,xs=[.int i]∧Q (.int i) H)∨∃ k,xs=[.bl k]∧Q (.int (if k then 1 else 0)) H):=by
 intro pins s σ H xs us Q I r h
 rcases h with ⟨i,rfl,q⟩ | ⟨k,rfl,q⟩
 ·obtain ⟨u,rfl,t,rfl⟩:=vals1 r
  exact call_int_int ⟨.int i,H,I,⟨_,rfl⟩,q⟩
 ·obtain ⟨u,rfl,r1⟩:=vals1 r
  cases r1
  exact call_int_bool ⟨.int (if k then 1 else 0),H,I.tok _,⟨_,rfl⟩,q⟩
end

section
variable {prog:Program} {w:World} {A:Around} {E:Value→Shared→Prop} {s:Shared} {K:PySem.W.Frag} {x dx C f:Addr} {mA:Str→Option Value} {name:Str} {v:Value}

end

section
variable {P:Program} {w:World} {H H':Hp} {h h':Heap} {a C dx:Addr} {fs fs':List (Str × V)}
end

structure Cls (K:PySem.W.Frag) (C:Addr) : Prop where
 pg:PySem.W.plainGet K C Str.empty=true
 hd:PySem.W.hasDictIn K C=true
 po:PySem.W.plainOver K C=true
 sa:PySem.W.findIn K (.ref C) "__setattr__" = some (some (.builtin "object.__setattr__"))
theorem Cls.get {K:PySem.W.Frag} {C:Addr} (c:Cls K C) (f:Str) : PySem.W.plainGet K C f=true:=c.pg
section
variable {X:Cx} {pins:List (Addr × Obj)} {σ:St} {H:Hp} {s:Shared} {a C dx:Addr} {fs:List (Str × V)} {f:Str} {v:V} {A:Around} {E:Value→Shared→Prop}

end

section
variable {X:Cx} {o e value:Expr} {f:Str} {pos pos' tpos:Pos} {ta tv:TE}
end

section
variable {X:Cx} {pins:List (Addr × Obj)} {σ:St} {H:Hp} {s:Shared} {A:Around} {E:Value→Shared→Prop} {Q:Value→Shared→Prop} {c:Value} {b:Bool}
end

structure Room (k:Nat) (A:Around) : Prop where
 hd:A.handled=none
 dp:A.depth+3 * k+5 < recursionLimit
 un:A.units+16 * k+200 < cLine
theorem Room.mono {j k:Nat} {A:Around} (r:Room k A) (h:j≤k) : Room j A:=⟨r.hd,by have:=r.dp; omega,by have:=r.un; omega⟩
theorem Room.deeper {k:Nat} {A:Around} (r:Room (k+1) A) (env:Env) : Room k (A.deeper env):=
 ⟨r.hd,by have:=r.dp; show A.depth+1+3 * k+5 < _; omega,by have:=r.un; show A.units+3+16 * k+200 < _; omega⟩
theorem Room.in1 {k:Nat} {A:Around} (r:Room (k+1) A) : Room k A.in1:=
 ⟨r.hd,by have:=r.dp; show A.depth+3 * k+5 < _; omega,by have:=r.un; show A.units+1+16 * k+200 < _; omega⟩
theorem Room.depth {k:Nat} {A:Around} (r:Room k A) : A.depth < recursionLimit:=by have:=r.dp; omega
theorem Room.units {k:Nat} {A:Around} (r:Room k A) : A.units+64 < cLine:=by have:=r.un; omega
def tNil:TA:=fun _ H Q=>Q [] H
def tCons (ta:TE) (tr:TA) : TA:=fun σ H Q=>ta σ H fun x H1=>tr σ H1 fun xs H2=>Q (x :: xs) H2
section
variable {X:Cx} {e:Expr} {es:List Expr} {te:TE} {t:TA} {pos:Pos}
theorem pa_nil:PA X [] tNil:=fun _ _ _ _ H Q I h=>Calls.spliced_nil ⟨[],H,I,.nil,h⟩
theorem pa_cons (ha:PE X e te) (hr:PA X es t) (hs:starEach (e :: es) X.env=(false,eval e X.env) :: starEach es X.env:=by rfl) : PA X (e :: es) (tCons te t):=by
 intro pos pins s σ H Q I h
 rw [hs]
 show wpAny _ _ (spliced ((false,eval e X.env) :: backTo pos (starEach es X.env))) _ _ s
 refine Calls.spliced_cons (thn (ha pins s σ H _ I h) fun u s1 ⟨x,H1,I1,r1,q1⟩=>?_)
 exact thn (hr pos pins s1 σ H1 _ I1 q1) fun us s2 ⟨xs,H2,I2,r2,q2⟩=>⟨x :: xs,H2,I2,.cons r1 r2,q2⟩

def tTup (t:TA) : TE:=fun σ H Q=>t σ H fun xs H1=>xs.length≤sizeLine∧∀ p,H1 p=none→Q (.ref p) (upd H1 p (.tup xs))
def tLst (t:TA) : TE:=fun σ H Q=>t σ H fun xs H1=>xs.length≤sizeLine∧∀ p,H1 p=none→Q (.ref p) (upd H1 p (.lst xs))
theorem pe_tup {x1} (h:PA X es t) : PE X (.Tuple es x1 pos) (tTup t):=by
 intro pins s σ H Q I hq
 refine wpAny_Tuple_spliced (thn (h pos pins s σ H _ I hq) fun us s1 ⟨xs,H1,I1,r,z,q⟩=>⟨by rw [← r.length]; exact z,?_⟩)
 have hf:H1 s1.heap.objs.size=none:=I1.hok.fresh (Nat.le_refl _)
 refine ⟨.ref s1.heap.objs.size,upd H1 s1.heap.objs.size (.tup xs),I1.laid (t':=s1.toks) (fun b u e=>Heap.get?_push_of_some _ e) (Nat.le_refl _) ?_,rfl,q _ hf⟩
 exact ⟨z,us,r,⟨_,Heap.get?_push_size _ rfl,rfl,_,rfl⟩⟩
theorem pe_lst (h:PA X es t) : PE X (.List es pos) (tLst t):=by
 intro pins s σ H Q I hq
 refine wpAny_List_spliced (thn (h pos pins s σ H _ I hq) fun us s1 ⟨xs,H1,I1,r,z,q⟩=>⟨by rw [← r.length]; exact z,?_⟩)
 have hf:H1 s1.heap.objs.size=none:=I1.hok.fresh (Nat.le_refl _)
 refine ⟨.ref s1.heap.objs.size,upd H1 s1.heap.objs.size (.lst xs),I1.laid (t':=s1.toks) (fun b u e=>Heap.get?_push_of_some _ e) (Nat.le_refl _) ?_,rfl,q _ hf⟩
 exact ⟨z,us,0,r,Heap.get?_push_size _ rfl⟩
end

abbrev Sp:=List V→Hp→VK→XK→Prop
abbrev CXT:=List Env→Hp→Shared→XK→Value→Shared→Prop

structure Env0 (P:Program) (w:World) (K:PySem.W.Frag) (mg:Str→Option Value) (base:Heap) (A:Around) (outer:List Env) (s:Shared) (H:Hp) : Prop where
 frames:A.frames=some outer
 mod:Mod K mg base
 bs:∀ b o,base.get? b=some o→s.heap.get? b=some o∧H b=none
 bsz:base.objs.size≤s.heap.objs.size
 funs:s.heap.FunFrames base outer
 frf:∀ b ∈ frs outer,H b=none
 hok:HOk P w H s.heap
 bare:AllBare s.gens
def CE (outer:List Env) (P:Program) (w:World) (H:Hp) (s:Shared) (Q:VK) (u:Value) (s':Shared) : Prop:=
 ∃ v H',s'.os=s.os∧AllBare s'.gens∧Un (frs outer) [] H H' s.heap s'.heap∧HOk P w H' s'.heap∧RelV v u∧Q v H'
def CR (CX:CXT) (outer:List Env) (P:Program) (w:World) (H:Hp) (s:Shared) (Q:VK) (E:XK) (r:Result) (s':Shared) : Prop:=
 match r with
 | .ok (.ret u)=>CE outer P w H s Q u s'
 | .ok _=>False
 | .error e=>CX outer H s E e s'
structure FnOk (P:Program) (w:World) (K:PySem.W.Frag) (mg:Str→Option Value) (base:Heap) (CX:CXT) (k:Nat) (f:Addr) (fd:FuncData) (ps:List Str) (sp:Sp) : Prop where
 len:∀ vs H Q E,sp vs H Q E→vs.length=ps.length
 run:∀ (A:Around) (outer:List Env) (s:Shared) (H:Hp) (args:Args) (us:List Value) (vs:List V) (Q:VK) (E:XK),Room k A→Env0 P w K mg base A outer s H→BindsTo s fd args (ps.zip us)→Vals vs us→sp vs H Q E →
  codeAny (model P w) A (.call (.ref f) args) (CR CX outer P w H s Q E) s
theorem FnOk.mono {P:Program} {w:World} {K:PySem.W.Frag} {mg:Str→Option Value} {base:Heap} {CX:CXT} {j k:Nat} {f:Addr} {fd:FuncData} {ps:List Str} {sp:Sp} (F:FnOk P w K mg base CX j f fd ps sp) (h:j≤k) :
  FnOk P w K mg base CX k f fd ps sp:=⟨F.len,fun A outer s H args us vs Q E hr=>F.run A outer s H args us vs Q E (hr.mono h)⟩
theorem Env0.in1 {P:Program} {w:World} {K:PySem.W.Frag} {mg:Str→Option Value} {base:Heap} {A:Around} {outer:List Env} {s:Shared} {H:Hp} (e:Env0 P w K mg base A outer s H) :
  Env0 P w K mg base A.in1 outer s H:=⟨e.frames,e.mod,e.bs,e.bsz,e.funs,e.frf,e.hok,e.bare⟩

section
variable {X:Cx} {pins:List (Addr × Obj)} {σ:St} {H:Hp} {s s':Shared}
theorem Inv.env0 (I:Inv X pins σ H s) : Env0 X.prog X.w X.K X.mg X.base X.A X.stack s H:=
 ⟨I.ok.frames,I.ok.mod,I.bs,Nat.le_trans I.ok.bsz I.sz,I.stack,I.stkFree,I.hok,I.bare⟩
theorem Inv.after {Q:VK} {u:Value} (I:Inv X pins σ H s) (h:CE X.stack X.prog X.w H s Q u s') : EP X pins σ Q u s':=by
 obtain ⟨v,H',os,bare,un,hok,r,q⟩:=h
 obtain ⟨hh,g,d,t,os'⟩:=s'
 obtain rfl:os' = s.os:=os
 exact ⟨v,H',I.call (h':=hh) (g':=g) (d':=d) (t':=t) (ch:=[]) un hok bare (fun b z=>absurd z (by simp)),r,q⟩
end

def tCall (sp:Sp) (dvs:List V) (E:XK) (t:TA) : TE:=fun σ H Q=>t σ H fun vs H1=>sp (vs++dvs) H1 Q E
def Binds (K:PySem.W.Frag) (fd:FuncData) (ps:List Str) (ds:List Value) : Prop:=
 ∀ (s:Shared) (us:List Value),K.In s.heap→(us++ds).length=ps.length→BindsTo s fd ⟨us,[]⟩ (ps.zip (us++ds))
theorem Binds.all {K:PySem.W.Frag} {fd:FuncData} {ps:List Str} (h:∀ us:List Value,us.length=ps.length→bindArgs fd ⟨us,[]⟩=pure (ps.zip us)) : Binds K fd ps []:=fun s us _ hl=>by
 rw [List.append_nil] at hl ⊢
 exact .of_eq (h us hl)

def Passes (CX:CXT) (X:Cx) (E:XK) : Prop:=∀ (pins:List (Addr × Obj)) (σ:St) (H:Hp) (s:Shared) (e:Value) (s':Shared),Inv X pins σ H s→CX X.stack H s E e s'→X.xe e s'

section
variable {X:Cx} {CX:CXT} {k:Nat} {f C:Addr} {fd:FuncData} {ps:List Str} {sp:Sp} {dvs:List V} {ds:List Value} {E:XK} {x m:Str} {p pos apos:Pos} {e o:Expr} {es:List Expr} {ta:TE} {t:TA}

theorem run_fn {pins:List (Addr × Obj)} {σ:St} {H:Hp} {s:Shared} {Q:VK} {us:List Value} {vs:List V} (F:FnOk X.prog X.w X.K X.mg X.base CX k f fd ps sp) (hr:Room k X.A) (hb:Binds X.K fd ps ds) (hd:Vals dvs ds) (hx:Passes CX X E)
  (I:Inv X pins σ H s) (r:Vals vs us) (h:sp (vs++dvs) H Q E) : wpAny (model X.prog X.w) X.A (call (.ref f) us) (EP X pins σ Q) X.xe s:=by
 have r2:Vals (vs++dvs) (us++ds):=r.append hd
 have hl:(us++ds).length=ps.length:=by rw [← r2.length]; exact F.len _ _ _ _ h
 refine wpAny_call (codeAny_mono (F.run X.A X.stack s H ⟨us,[]⟩ (us++ds) (vs++dvs) Q E hr I.env0 (hb s us I.kIn hl) r2 h) fun r s' hq=>?_)
 cases r with
 | error e=>exact hx pins σ H s e s' I hq
 | ok fl =>
  cases fl with
  | ret u=>exact I.after hq
  | next=>exact False.elim hq
  | brk=>exact False.elim hq
  | cont=>exact False.elim hq

theorem pe_call (F:FnOk X.prog X.w X.K X.mg X.base CX k f fd ps sp) (hr:Room k X.A) (hg:Gl X x) (hm:X.mg x=some (.ref f)) (hk:PySem.W.keepIn X.K (.ref f)=true) (hb:Binds X.K fd ps ds) (hd:Vals dvs ds) (hx:Passes CX X E)
  (ha:PA X (e :: es) t) (hdb:(x == ("__debug__" : Str))=false:=by decide) (he:starEach (e :: es) X.env=(false,eval e X.env) :: starEach es X.env:=by rfl) (hpl:(backTo pos (starEach es X.env)).any (·.1)=false:=by rfl) :
  PE X (.Call (.Name x p) (e :: es) [] pos) (tCall sp dvs E t):=by
 intro pins s σ H Q I h
 refine wpAny_Call_Name_kw (ld_glob I hg hm ?_ hdb)
 refine PySem.W.callWith_K (h₀:=X.base) I.ok.mod.kin hk (thn (ha pos pins s σ H _ I h) fun us s1 ⟨vs,H1,I1,r,q⟩=>⟨I1.kIn,?_⟩) he hpl
 exact run_fn F hr hb hd hx I1 r q
end

section
variable {X:Cx} {CX:CXT} {k:Nat} {f C:Addr} {fd:FuncData} {ps ks:List Str} {sp:Sp} {E:XK} {x m:Str} {p pos apos kpos:Pos} {e o:Expr} {es:List Expr} {kws:List Keyword} {te ta:TE} {t tk:TA} {nm:Option Str}
variable {g:List Value→List Value→List Value} {gV:List V→List V→List V}
end

structure FnScope (N P:List Str) (sc:Scope) : Prop where
 kind:sc.kind = .function
 co:sc.isCoroutine=false
 gen:sc.isGenerator=false
 nd:N.Nodup
 pre:N.take P.length=P
 par:∀ x ∈ P,sc.names.lookup x=some .local∨sc.names.lookup x=some .cell
 nofree:∀ y ∈ sc.names,y.2≠.free

theorem bindL_out {kindOf:Str→Option NameKind} {x:Str} : ∀ {binds:List (Str × Value)} {m:Str→Option Value},(∀ v,(x,v) ∉ binds)→bindL kindOf binds m x=m x
 | [],_,_=>rfl
 | (n,v) :: r,m,h=>by
  unfold bindL
  rw [bindL_out fun w hw=>h w (List.mem_cons_of_mem _ hw)]
  split
  ·have:x≠n:=by rintro rfl; exact h v List.mem_cons_self
   simp [this]
  ·rfl
theorem bindC_out {kindOf:Str→Option NameKind} {x:Str} : ∀ {binds:List (Str × Value)} {m:Str→Option Value},(∀ v,(x,v) ∉ binds)→bindC kindOf binds m x=m x
 | [],_,_=>rfl
 | (n,v) :: r,m,h=>by
  unfold bindC
  rw [bindC_out fun w hw=>h w (List.mem_cons_of_mem _ hw)]
  split
  ·rfl
  ·have:x≠n:=by rintro rfl; exact h v List.mem_cons_self
   simp [this]
theorem bindL_get {kindOf:Str→Option NameKind} {x:Str} {v:Value} : ∀ {P:List Str} {vs:List Value} {i:Nat} {m:Str→Option Value},P.Nodup→P[i]? = some x→vs[i]? = some v→kindOf x=some .local →
  bindL kindOf (P.zip vs) m x=some v
 | [],_,_,_,_,h,_,_=>by simp at h
 | _ :: _,[],_,_,_,_,h,_=>by simp at h
 | p :: P,w :: vs,0,m,nd,h1,h2,hk=>by
  simp at h1 h2; subst h1; subst h2
  show bindL kindOf ((p,w) :: P.zip vs) m p=_
  unfold bindL
  rw [bindL_out fun v hv=>(List.nodup_cons.mp nd).1 (List.of_mem_zip hv).1,if_pos hk]
  simp
 | p :: P,w :: vs,i+1,m,nd,h1,h2,hk=>by
  show bindL kindOf ((p,w) :: P.zip vs) m x=_
  unfold bindL
  exact bindL_get (i:=i) (List.nodup_cons.mp nd).2 (by simpa using h1) (by simpa using h2) hk
theorem bindC_get {kindOf:Str→Option NameKind} {x:Str} {v:Value} : ∀ {P:List Str} {vs:List Value} {i:Nat} {m:Str→Option Value},P.Nodup→P[i]? = some x→vs[i]? = some v→kindOf x≠some .local →
  bindC kindOf (P.zip vs) m x=some v
 | [],_,_,_,_,h,_,_=>by simp at h
 | _ :: _,[],_,_,_,_,h,_=>by simp at h
 | p :: P,w :: vs,0,m,nd,h1,h2,hk=>by
  simp at h1 h2; subst h1; subst h2
  show bindC kindOf ((p,w) :: P.zip vs) m p=_
  unfold bindC
  rw [bindC_out fun v hv=>(List.nodup_cons.mp nd).1 (List.of_mem_zip hv).1,if_neg hk]
  simp
 | p :: P,w :: vs,i+1,m,nd,h1,h2,hk=>by
  show bindC kindOf ((p,w) :: P.zip vs) m x=_
  unfold bindC
  exact bindC_get (i:=i) (List.nodup_cons.mp nd).2 (by simpa using h1) (by simpa using h2) hk

def start (N:List Str) (vs:List V) : St:=vs.map some++List.replicate (N.length - vs.length) none

def cxOf (CX:CXT) (P:Program) (w:World) (K:PySem.W.Frag) (mg:Str→Option Value) (base:Heap) (N:List Str) (qual:Str) (scope:Scope) (f:Addr) (cd:Value) (A:Around) (outer:List Env) (s:Shared) (H:Hp) (E:XK) : Cx where
 prog:=P
 w:=w
 K:=K
 mg:=mg
 base:=base
 A:=A.deeper (envOfC qual scope s.heap.objs.size f cd)
 N:=N
 s₀:=s
 H₀:=H
 env:=envOfC qual scope s.heap.objs.size f cd
 outer:=outer
 stack:=envOfC qual scope s.heap.objs.size f cd :: outer
 ex:=[]
 calm:=true
 fn:=fun _=>true
 pn:=[]
 xe:=fun e s'=>wpAny (model P w) (A.deeper (envOfC qual scope s.heap.objs.size f cd)) (leaving (envOfC qual scope s.heap.objs.size f cd) e) (fun _ s''=>CX outer H s E e s'') (fun e' s''=>CX outer H s E e' s'') s'

theorem cell_has {sc:Scope} {n:Nat} {x:Str} (h:sc.names.lookup x=some .cell) : ∃ c,(cellsFrom n sc.names []).lookup x=some c:=by
 have q:=PySem.W.cellsFrom_some sc.names n [] (.inl h)
 exact Option.isSome_iff_exists.mp q

theorem inv_start {CX:CXT} {P:Program} {w:World} {K:PySem.W.Frag} {mg:Str→Option Value} {base:Heap} {N ps:List Str} {qual:Str} {scope:Scope} {f:Addr} {cd:Value} {A:Around} {outer:List Env} {s s1:Shared} {H:Hp} {E:XK} {us:List Value} {vs:List V}
  (S:FnScope N ps scope) (hd:A.handled=none) (e0:Env0 P w K mg base A outer s H) (hl:vs.length=ps.length) (r:Vals vs us)
  (x:InCallC s s.heap.objs.size (bindL (envOfC qual scope s.heap.objs.size f cd).kindOf (ps.zip us) fun _=>none) (cellsFrom (s.heap.objs.size+1) scope.names []) (bindC (envOfC qual scope s.heap.objs.size f cd).kindOf (ps.zip us) fun _=>none) s1) :
  Inv (cxOf CX P w K mg base N qual scope f cd A outer s H E) [] (start N vs) H s1:=by
 have hpl:ps.length≤N.length:=by have:=congrArg List.length S.pre; rw [List.length_take] at this; omega
 obtain ⟨h1,tk,rfl,hk⟩:=x.done
 have noA:∀ b:Addr,b ∉ (cxOf CX P w K mg base N qual scope f cd A outer s H E).ex:=fun b z=>absurd (show b ∈ ([] : List Addr) from z) (by simp)
 refine ⟨⟨e0.mod,S.kind,rfl,rfl,Nat.le_refl _,fun y z c h1 h2=>?_,fun y hy=>?_,fun y c _ h=>?_,fun _=>hd,Around.frames_deeper e0.frames,.inr ⟨rfl,rfl⟩,fun b z=>absurd z (noA b),e0.bs,e0.bsz,fun b _ _=>noA b,fun b z=>absurd z (noA b),e0.funs,e0.frf⟩,
  rfl,e0.bare,Un.kept hk,⟨_,x.toInCall.ns,fun i y v h1 h2 h3=>?_⟩,fun y c h=>⟨_,x.cell y c h⟩,e0.hok.fresh (Nat.le_refl _),fun y c h=>?_,fun p hp=>absurd (show p ∈ ([] : List (Addr × Obj)) from hp) (by simp),e0.hok.kept hk,?_⟩
 ·exact name_of_addr x.apart (PySem.mem_of_lookup h1) (PySem.mem_of_lookup h2)
 ·have hy:scope.names.lookup y=some .cell∨scope.names.lookup y=some .free:=hy
  rcases hy with hy | hy
  ·exact cell_has hy
  ·exact absurd rfl (S.nofree _ (PySem.mem_of_lookup hy))
 ·exact Nat.le_of_lt (x.above y c (PySem.mem_of_lookup h))
 ·have hi:i < vs.length:=by
   unfold start at h2
   by_cases hi:i < vs.length
   ·exact hi
   ·rw [List.getElem?_append_right (by simpa using hi)] at h2
    rw [List.getElem?_replicate] at h2
    split at h2 <;> cases h2
  have ha:vs[i]? = some v:=by
   unfold start at h2
   rw [List.getElem?_append_left (by simpa using hi),List.getElem?_map] at h2
   cases e:vs[i]? with
   | none=>rw [e] at h2; cases h2
   | some a=>rw [e] at h2; cases h2; rfl
  obtain ⟨u,hu,rv⟩:=r.get ha
  have hp:ps[i]? = some y:=by
   rw [← S.pre,List.getElem?_take_of_lt (by omega)]; exact h1
  have ndP:ps.Nodup:=by rw [← S.pre]; exact S.nd.sublist (List.take_sublist _ _)
  refine ⟨u,rv,?_⟩
  rcases S.par y (List.mem_of_getElem? hp) with k | k
  ·exact .inl ⟨k,bindL_get ndP hp hu k⟩
  ·obtain ⟨c,e⟩:=cell_has (n:=s.heap.objs.size+1) k
   refine .inr ⟨.inl k,c,e,?_⟩
   have q:=x.cell y c e
   rw [bindC_get ndP hp hu (by show scope.names.lookup y≠_; rw [k]; decide)] at q
   exact q
 ·exact e0.hok.fresh (Nat.le_of_lt (x.above y c (PySem.mem_of_lookup h)))
 ·unfold start
  show _=N.length
  rw [List.length_append,List.length_map,List.length_replicate]
  omega

theorem fn_of {CX:CXT} {P:Program} {w:World} {K:PySem.W.Frag} {mg:Str→Option Value} {base:Heap} {k:Nat} {f:Addr} {name qual:Str} {params:Arguments} {body:List Stmt} {scope:Scope} {dV kV doc pm cdv ct oc:Value} {an od:Option Addr}
  {osl:Array (Option Value)} {N ps:List Str} {sp:Sp} (lk:K.lookup f=some ⟨oc,od,.func (PySem.W.fnOf name qual params body scope dV kV doc pm an cdv ct),osl⟩) (hcd:PySem.W.codeIn K cdv qual=true) (S:FnScope N ps scope)
  (len:∀ vs H Q E,sp vs H Q E→vs.length=ps.length)
  (hbody:∀ (A:Around) (outer:List Env) (s:Shared) (H:Hp) (vs:List V) (Q:VK) (E:XK),Room k (A.deeper (envOfC qual scope s.heap.objs.size f cdv))→sp vs H Q E →
   ∃ t,PSs (cxOf CX P w K mg base N qual scope f cdv A outer s H E) body t∧t { nx:=fun _ H'=>Q .non H',rt:=Q } (start N vs) H) :
  FnOk P w K mg base CX (k+1) f (PySem.W.fnOf name qual params body scope dV kV doc pm an cdv ct) ps sp:=by
 refine ⟨len,fun A outer s H args us vs Q E hr e0 hb r hsp=>?_⟩
 have hl:=len _ _ _ _ hsp
 have KX:K.In s.heap:=e0.mod.kin.keeps fun b o e=>(e0.bs b o e).1
 have lim:s.heap.NoLimit:=e0.mod.nolimit.keeps fun b o e=>(e0.bs b o e).1
 have hkind:∀ y ∈ ps.zip us,scope.names.lookup y.1=some .local∨(scope.names.lookup y.1=some .cell∧((cellsFrom (s.heap.objs.size+1) scope.names []).lookup y.1).isSome=true):=fun ⟨n,v⟩ hy=>by
  rcases S.par n (List.of_mem_zip hy).1 with q | q
  ·exact .inl q
  ·exact .inr ⟨q,PySem.W.cellsFrom_some _ _ _ (.inl q)⟩
 refine codeAny_call_function hr.depth (KX _ _ lk) rfl S.co S.gen rfl (PySem.W.codeRec_of KX hcd) (hb _ _ _ _ ?_)
 refine wpAny_newFunctionEnv_cells S.kind hkind fun env he s1 x=>?_
 subst he
 refine ⟨lim.keeps x.toInCall.keep,codeAny_func ?_⟩
 obtain ⟨t,ht,hq⟩:=hbody A outer s H vs Q E (hr.deeper _) hsp
 have I:Inv (cxOf CX P w K mg base N qual scope f cdv A outer s H E) [] (start N vs) H s1:=inv_start S hr.hd e0 hl r x
 refine wpAny_mono (ht [] s1 (start N vs) H _ I hq) (fun fl s' hs=>?_) fun e s' hs=>hs
 have fin:∀ {σ':St} {H':Hp} {v:V} {u:Value},Inv (cxOf CX P w K mg base N qual scope f cdv A outer s H E) [] σ' H' s'→RelV v u→Q v H'→CE outer P w H s Q u s':=
  fun {σ' H' v u} J rv q=>⟨v,H',J.os,J.bare,J.base,J.hok,rv,q⟩
 cases fl with
 | ret u =>
  obtain ⟨v,σ',H',J,rv,q⟩:=hs
  exact fin J rv q
 | next =>
  obtain ⟨σ',H',J,q⟩:=hs
  exact fin (v:=V.non) (u:=Value.none) J rfl q
 | brk =>
  obtain ⟨_,_,_,q⟩:=hs
  exact False.elim q
 | cont =>
  obtain ⟨_,_,_,q⟩:=hs
  exact False.elim q
section
variable {X:Cx} {x:Str} {p pos:Pos} {e:Expr} {es:List Expr} {t:TA} {id T:String} {r:List V→Hp→VK→Prop}

def tCB (r:List V→Hp→VK→Prop) (t:TA) : TE:=fun σ H Q=>t σ H fun vs H1=>r vs H1 Q
theorem pe_callB (hc:CallR X (.builtin id) r) (hg:Gl X x) (hm:X.mg x=none) (hv:bootBuiltins x=some (.builtin id)) (ha:PA X (e :: es) t) (hn:x≠"__name__":=by decide) (hdb:(x == ("__debug__" : Str))=false:=by decide)
  (he:starEach (e :: es) X.env=(false,eval e X.env) :: starEach es X.env:=by rfl) (hpl:(backTo pos (starEach es X.env)).any (·.1)=false:=by rfl) : PE X (.Call (.Name x p) (e :: es) [] pos) (tCB r t):=by
 intro pins s σ H Q I h
 refine wpAny_Call_Name_kw (ld_blt I hg hm hv ?_ hn hdb)
 exact PyProof.Rows.callWith_builtin1 (thn (ha pos pins s σ H _ I h) fun us s1 ⟨vs,H1,I1,r1,q1⟩=>hc pins s1 σ H1 vs us Q I1 r1 q1) he hpl
theorem pe_callTy (hc:CallR X (.type T) r) (hg:Gl X x) (hm:X.mg x=none) (hv:bootBuiltins x=some (.type T)) (ha:PA X (e :: es) t) (hn:x≠"__name__":=by decide) (hdb:(x == ("__debug__" : Str))=false:=by decide)
  (he:starEach (e :: es) X.env=(false,eval e X.env) :: starEach es X.env:=by rfl) (hpl:(backTo pos (starEach es X.env)).any (·.1)=false:=by rfl) : PE X (.Call (.Name x p) (e :: es) [] pos) (tCB r t):=by
 intro pins s σ H Q I h
 refine wpAny_Call_Name_kw (ld_blt I hg hm hv ?_ hn hdb)
 exact PyProof.Rows.callWith_type1 (thn (ha pos pins s σ H _ I h) fun us s1 ⟨vs,H1,I1,r1,q1⟩=>hc pins s1 σ H1 vs us Q I1 r1 q1) he hpl
end
end L2

namespace HT
open PySem PyProof.Rows

section
open PySem.SeqAt
open PySem.AutoSeq1 (wpAny_loadPart')
open PySem.MeetsSeq PySem.MeetsSeq2 PySem.MeetsSeq3

end

section
variable {prog:Program} {w:World} {A:Around} {E:Value→Shared→Prop} {s:Shared}

def sIx (n d:Nat) : Option Int→Nat
 | none=>d
 | some v=>if v < 0 then (v+(n:Int)).toNat else min v.toNat n
theorem sIx_none (n d:Nat) : sIx n d none=d:=rfl
theorem sIx_nat (n d k:Nat) : sIx n d (some (k:Int))=min k n:=by
 show (if (k:Int) < 0 then ((k:Int)+(n:Int)).toNat else min (k:Int).toNat n)=min k n
 rw [if_neg (by omega),Int.toNat_natCast]
theorem sIx_le (n d:Nat) (hd:d≤n) (o:Option Int) : sIx n d o≤n:=by
 cases o with
 | none=>exact hd
 | some v =>
  show (if v < 0 then (v+(n:Int)).toNat else min v.toNat n)≤n
  by_cases hv:v < 0
  ·rw [if_pos hv]; omega
  ·rw [if_neg hv]; exact Nat.min_le_right _ _
theorem clip_eq (v:Int) (n d:Nat) : (if v < 0 then max (v+(n:Int)) 0 else min v (n:Int))=((sIx n d (some v) : Nat) : Int):=by
 show (if v < 0 then max (v+(n:Int)) 0 else min v (n:Int))=(((if v < 0 then (v+(n:Int)).toNat else min v.toNat n) : Nat) : Int)
 by_cases hv:v < 0
 ·simp only [if_pos hv]; omega
 ·simp only [if_neg hv]; omega
end
end HT

namespace L2
open PySem PySem.Spec PyProof.Rows

abbrev TO:=St→Hp→(Option Int→Hp→Prop)→Prop
def PO (X:Cx) (e:Option Expr) (t:TO) : Prop:=
 ∀ (pins:List (Addr × Obj)) (s:Shared) (σ:St) (H:Hp) (Q:Option Int→Hp→Prop),Inv X pins σ H s→t σ H Q →
  wpAny (model X.prog X.w) X.A (evalPart e X.env) (fun u s'=>∃ o H',Inv X pins σ H' s'∧IsPart u o∧Q o H') X.xe s
def tNoPart:TO:=fun _ H Q=>Q none H
def tPart (t:TE) : TO:=fun σ H Q=>t σ H fun x H1=>∃ i,x = .int i∧Q (some i) H1

section
variable {X:Cx} {e:Expr} {te:TE} {lo hi:Option Expr} {tl th:TO} {pos p2:Pos}

theorem po_none:PO X none tNoPart:=by
 intro pins s σ H Q I h
 rw [evalPart_none]
 exact wpAny_pure ⟨none,H,I,.none,h⟩
theorem po_some (h:PE X e te) : PO X (some e) (tPart te):=by
 intro pins s σ H Q I hw
 rw [evalPart_some]
 refine thn (h pins s σ H _ I hw) fun u s1 ⟨x,H1,I1,r1,q1⟩=>?_
 obtain ⟨i,rfl,q⟩:=q1
 obtain ⟨t,rfl⟩:=r1
 exact ⟨some i,H1,I1,.int i t,q⟩

def SlR (X:Cx) (r:V→Option Int→Option Int→Hp→VK→Prop) : Prop:=
 ∀ (pins:List (Addr × Obj)) (s:Shared) (σ:St) (H:Hp) (x:V) (v vl vu:Value) (lo hi:Option Int) (sl:Addr) (Q:VK),Inv X pins σ H s→RelV x v→s.heap.IsSliceOf sl vl vu .none→IsPart vl lo→IsPart vu hi→r x lo hi H Q →
  ∃ T id,typeLookup (.type T) "__getitem__" = pure (some (.builtin id))∧s.TypeIs v T∧wpAny (model X.prog X.w) X.A (getItem v (.ref sl)) (EP X pins σ Q) X.xe s
def tSl (r:V→Option Int→Option Int→Hp→VK→Prop) (te:TE) (tl th:TO) : TE:=fun σ H Q=>te σ H fun x H1=>tl σ H1 fun l H2=>th σ H2 fun u H3=>r x l u H3 Q
theorem pe_slice {r:V→Option Int→Option Int→Hp→VK→Prop} (hr:SlR X r) (he:PE X e te) (hl:PO X lo tl) (hu:PO X hi th) : PE X (.Subscript e (.Slice lo hi none p2) pos) (tSl r te tl th):=by
 intro pins s σ H Q I h
 refine Subscript_ (thn (he pins s σ H _ I h) fun v s1 ⟨x,H1,I1,r1,q1⟩=>?_)
 refine wpAny_Slice (thn (hl pins s1 σ H1 _ I1 q1) fun vl s2 ⟨l,H2,I2,pl,q2⟩=>thn (hu pins s2 σ H2 _ I2 q2) fun vu s3 ⟨u,H3,I3,pu,q3⟩=>?_)
 rw [evalPart_none]
 refine wpAny_pure ?_
 have I4:Inv X pins σ H3 { s3 with heap:=s3.heap.push { cls:=.type "slice",data:=.fields #[vl,vu,.none] } }:=I3.kept (t':=s3.toks) fun b ob q=>Heap.get?_push_of_some _ q
 obtain ⟨T,id,hT,ht,hg⟩:=hr pins { s3 with heap:=s3.heap.push { cls:=.type "slice",data:=.fields #[vl,vu,.none] } } σ H3 x v vl vu l u s3.heap.objs.size Q I4 r1 (Heap.IsSliceOf.new ..) pl pu q3
 show wpAny (model X.prog X.w) X.A (subscriptTail e (.Slice lo hi none p2) v (.ref s3.heap.objs.size)) (EP X pins σ Q) X.xe { s3 with heap:=s3.heap.push { cls:=.type "slice",data:=.fields #[vl,vu,.none] } }
 exact tail_any (ops:=[.ref s3.heap.objs.size,v]) ht hT hg (by with_unfolding_all rfl)

def cutV (xs:List V) (lo hi:Option Int) : List V:=(xs.drop (HT.sIx xs.length 0 lo)).take (HT.sIx xs.length xs.length hi - HT.sIx xs.length 0 lo)
theorem cutV_length (xs:List V) (lo hi:Option Int) : (cutV xs lo hi).length≤xs.length:=by
 unfold cutV
 rw [List.length_take,List.length_drop]
 omega
end

def ixN (n:Nat) (i:Int) : Option Nat:=if 0≤i then (if i < n then some i.toNat else none) else if -(n:Int)≤i then some (i+n).toNat else none
def atI {α:Type} (xs:List α) (i:Int) : Option α:=(ixN xs.length i).bind fun j=>xs[j]?
theorem ixN_seq {n:Nat} {i:Int} {j:Nat} (h:ixN n i=some j) : seqIndex? i n=some j∧j < n∧-(n:Int)≤i∧i < n:=by
 unfold ixN at h
 by_cases h0:0≤i
 ·rw [if_pos h0] at h
  by_cases h1:i < n
  ·rw [if_pos h1] at h
   have e:i.toNat=j:=Option.some.inj h
   exact ⟨by rw [seqIndex_of h0 h1,e],by omega,by omega,h1⟩
  ·rw [if_neg h1] at h; cases h
 ·rw [if_neg h0] at h
  by_cases h1:-(n:Int)≤i
  ·rw [if_pos h1] at h
   have e:(i+n).toNat=j:=Option.some.inj h
   exact ⟨by rw [seqIndex_neg (by omega) h1,e],by omega,h1,by omega⟩
  ·rw [if_neg h1] at h; cases h
theorem atI_get {α:Type} {xs:List α} {i:Int} {v:α} (h:atI xs i=some v) : ∃ j,seqIndex? i xs.length=some j∧xs[j]? = some v∧j < xs.length∧-(xs.length:Int)≤i∧i < xs.length:=by
 unfold atI at h
 cases e:ixN xs.length i with
 | none=>rw [e] at h; cases h
 | some j =>
  rw [e] at h
  obtain ⟨h1,h2,h3,h4⟩:=ixN_seq e
  exact ⟨j,h1,h,h2,h3,h4⟩
theorem atI_nat {α:Type} {xs:List α} {j:Nat} {v:α} (h:xs[j]? = some v) : atI xs (j:Int)=some v:=by
 have hj:j < xs.length:=(List.getElem?_eq_some_iff.mp h).1
 have e:ixN xs.length (j:Int)=some j:=by
  unfold ixN
  rw [if_pos (by omega),if_pos (by omega)]; simp
 unfold atI; rw [e]; exact h
def PlainIx (b:Expr) : Prop:=∀ o i,subscripted b false o i=operate [o,i] (getItem o i)
def IxR (X:Cx) (r:R2) : Prop:=
 ∀ (value slice:Expr) (pins:List (Addr × Obj)) (s:Shared) (σ:St) (H:Hp) (x y:V) (v u:Value) (Q:VK),Inv X pins σ H s→RelV x v→RelV y u→r x y H Q →
  subscripted slice false v u=operate [v,u] (getItem v u)→wpAny (model X.prog X.w) X.A (subscriptTail value slice v u) (EP X pins σ Q) X.xe s
def MtR (X:Cx) (id:String) (r:V→List V→Hp→VK→Prop) : Prop:=
 ∀ (pins:List (Addr × Obj)) (s:Shared) (σ:St) (H:Hp) (x:V) (xs:List V) (v:Value) (us:List Value) (Q:VK),Inv X pins σ H s→RelV x v→Vals xs us→r x xs H Q →
  wpAny (model X.prog X.w) X.A (call (.builtin id) (v :: us)) (EP X pins σ Q) X.xe s
section
variable {X:Cx} {a b:Expr} {ta tb:TE} {pos:Pos}
theorem pe_ix {r:R2} (hr:IxR X r) (ha:PE X a ta) (hb:PE X b tb) (hs:PlainIx b) : PE X (.Subscript a b pos) (tOp r ta tb):=by
 intro pins s σ H Q I h
 exact Subscript_ (binT ha hb I h fun v u s2 x y H2 I2 rx ry q=>hr a b pins s2 σ H2 x y v u Q I2 rx ry q (hs _ _))

def rIxL (K:PySem.W.Frag) : R2:=fun x y H Q=>∃ p xs i v,x = .ref p∧y = .int i∧SqL K H p xs∧atI xs i=some v∧Q v H
def rIxT (K:PySem.W.Frag) : R2:=fun x y H Q=>∃ p xs i v,x = .ref p∧y = .int i∧SqT K H p xs∧atI xs i=some v∧Q v H
def rIxS:R2:=fun x y H Q=>∃ z i c,x = .str z∧y = .int i∧z.length≤sizeLine∧atI z.cps.toList i=some c∧Q (.str ⟨#[c]⟩) H
theorem ix_list:IxR X (rIxL X.K):=by
 intro value slice pins s σ H x y v u Q I rx ry h hs
 obtain ⟨p,xs,i,z,rfl,rfl,hq,he,q⟩:=h
 cases rx
 obtain ⟨t,rfl⟩:=ry
 obtain ⟨its,r,pl,hz⟩:=I.list hq
 obtain ⟨j,h1,h2,h3,h4,h5⟩:=atI_get he
 obtain ⟨w,ew,rw'⟩:=r.get h2
 have hl:=r.length
 have hn:=line63
 have fin:EP X pins σ Q w s:=⟨z,H,I,rw',q⟩
 by_cases h0:0≤i
 ·have hj:i.toNat=j:=by
   rw [seqIndex_of h0 h5] at h1
   exact Option.some.inj h1
  exact item_listR pl.isList h0 (by omega) (by rw [hj]; simpa using ew) fin hs
 ·have hj:(i+(its.toArray.size:Int)).toNat=j:=by
   rw [seqIndex_neg (by omega) h4] at h1
   rw [List.size_toArray,← hl]
   exact Option.some.inj h1
  exact subscriptTail_builtinR (x:=w) pl.isList.typeIs slot_list_getitem.lookup
   (wpAny_getItem_list_neg (Q:=fun r s'=>r=w∧EP X pins σ Q r s') pl.isList (by omega) (by rw [List.size_toArray] <;> omega) (by omega) (by rw [hj]; simpa using ew) ⟨rfl,fin⟩) hs
theorem ix_tup:IxR X (rIxT X.K):=by
 intro value slice pins s σ H x y v u Q I rx ry h hs
 obtain ⟨p,xs,i,z,rfl,rfl,hq,he,q⟩:=h
 cases rx
 obtain ⟨t,rfl⟩:=ry
 obtain ⟨its,r,pl,hz⟩:=I.tuple hq
 obtain ⟨j,h1,h2,h3,h4,h5⟩:=atI_get he
 obtain ⟨w,ew,rw'⟩:=r.get h2
 have hl:=r.length
 have hn:=line63
 have fin:EP X pins σ Q w s:=⟨z,H,I,rw',q⟩
 exact subscriptTail_builtinR (x:=w) pl.typeIs slot_tuple_getitem.lookup
  (getItem_tuple (j:=j) (Q:=fun r s'=>r=w∧EP X pins σ Q r s') pl (by omega) (by omega) (by rw [List.size_toArray,← hl]; exact h1) (by simpa using ew) ⟨rfl,fin⟩) hs
theorem ix_str:IxR X rIxS:=by
 intro value slice pins s σ H x y v u Q I rx ry h hs
 obtain ⟨z,i,c,rfl,rfl,hz,he,q⟩:=h
 obtain ⟨t,rfl⟩:=rx
 obtain ⟨t',rfl⟩:=ry
 obtain ⟨j,h1,h2,h3,h4,h5⟩:=atI_get he
 have hl:z.cps.toList.length=z.length:=by simp [Str.length]
 rw [hl] at h1 h4 h5
 have hn:=line63
 exact tail_any (typeIs_str s z t) slot_str_getitem.lookup (getItem_str (c:=c) (by
  have e1:decide (i < -(2 ^ 63:Int))=false:=decide_eq_false (by omega)
  have e2:decide (i ≥ 2 ^ 63)=false:=decide_eq_false (by omega)
  rw [e1,e2,Bool.or_false]) (by rw [h1]; simpa using h2) ⟨.str ⟨#[c]⟩,H,I.tok _,⟨_,rfl⟩,q⟩) hs
theorem mapSeq_set (its:List Value) (n j:Nat) (u:Value) : Obj.mapSeq (·.setIfInBounds j u) { cls:=.type "list",data:=.seq its.toArray n }={ cls:=.type "list",data:=.seq (its.set j u).toArray n }:=by
 simp [Obj.mapSeq]
theorem Inv.lst {pins:List (Addr × Obj)} {σ:St} {H:Hp} {s:Shared} {p:Addr} {xs:List V} (I:Inv X pins σ H s) (h:H p=some (.lst xs)) :
  ∃ (its:List Value) (n:Nat),Vals xs its∧s.heap.get? p=some { cls:=.type "list",data:=.seq its.toArray n }∧xs.length≤sizeLine:=by
 obtain ⟨z,its,n,r,e⟩:=I.hok p _ h
 exact ⟨its,n,r,e,z⟩
theorem Inv.lstUpd {pins:List (Addr × Obj)} {σ:St} {H:Hp} {s:Shared} {p:Addr} {xs ys:List V} {its its':List Value} {n n':Nat} {f:Obj→Obj} (I:Inv X pins σ H s) (h:H p=some (.lst xs))
  (ho:s.heap.get? p=some { cls:=.type "list",data:=.seq its.toArray n }) (hf:f { cls:=.type "list",data:=.seq its.toArray n }={ cls:=.type "list",data:=.seq its'.toArray n' }) (r:Vals ys its') (hz:ys.length≤sizeLine) (t:Nat) :
  Inv X pins σ (upd H p (.lst ys)) { s with heap:=s.heap.update p f,toks:=t }:=by
 have e:(s.heap.update p f).get? p=some { cls:=.type "list",data:=.seq its'.toArray n' }:=by
  rw [Heap.get?_update_self f ho (by rw [hf] <;> rfl),hf]
 refine I.write (x:=p) (e:=p) (by rw [h]; trivial) (.inl rfl) (fun b u hb q=>(Heap.get?_update_other _ _ (Ne.symm hb)).trans q) ⟨_,e⟩ ?_
 exact ⟨hz,its',n',r,e⟩
def rSetL:V→V→V→Hp→(Hp→Prop)→Prop:=fun o i v H Q=>∃ p xs k j,o = .ref p∧i = .int k∧H p=some (.lst xs)∧ixN xs.length k=some j∧Q (upd H p (.lst (xs.set j v)))
theorem set_list:PSet X rSetL:=by
 intro pins s σ H o i v ov iv u Q I ro ri rv h
 obtain ⟨p,xs,k,j,rfl,rfl,hp,hj,q⟩:=h
 cases ro
 obtain ⟨t,rfl⟩:=ri
 obtain ⟨its,n,r,ho,hz⟩:=I.lst hp
 obtain ⟨h1,h2,h3,h4⟩:=ixN_seq hj
 have hl:=r.length
 have hn:=line63
 have I':Inv X pins σ (upd H p (.lst (xs.set j v))) { s with heap:=s.heap.update p (Obj.mapSeq (·.setIfInBounds j u)) }:=
  I.lstUpd hp ho (mapSeq_set its n j u) (r.set rv j) (by rw [List.length_set]; exact hz) s.toks
 by_cases h0:0≤k
 ·have hk:k.toNat=j:=by
   rw [seqIndex_of h0 h4] at h1
   exact Option.some.inj h1
  exact PySem.W.ki_setAt ho h0 (by omega) (by rw [List.size_toArray,← hl]; exact h4) (by rw [hk]; exact ⟨_,I',q⟩)
 ·have hk:(k+(its.toArray.size:Int)).toNat=j:=by
   rw [seqIndex_neg (by omega) h3] at h1
   rw [List.size_toArray,← hl]
   exact Option.some.inj h1
  exact PySem.W.ki_setBack ho (by omega) (by rw [List.size_toArray,← hl]; exact h3) (by omega) (by rw [hk]; exact ⟨_,I',q⟩)

theorem slice_bounds (lo hi:Option Int) (n:Nat) : (sliceBounds lo hi none n).1=((HT.sIx n 0 lo:Nat) : Int)∧(sliceBounds lo hi none n).2.1=((HT.sIx n n hi:Nat) : Int)∧(sliceBounds lo hi none n).2.2=1:=by
 refine ⟨?_,?_,rfl⟩
 ·cases lo with
  | none=>simp [sliceBounds,HT.sIx]
  | some i =>
   simp only [sliceBounds,HT.sIx,Option.getD_none,show (1:Int) > 0 by decide,if_true]
   by_cases h:i < 0
   ·simp only [h,if_true] <;> omega
   ·simp only [h,if_false] <;> omega
 ·cases hi with
  | none=>simp [sliceBounds,HT.sIx]
  | some i =>
   simp only [sliceBounds,HT.sIx,Option.getD_none,show (1:Int) > 0 by decide,if_true]
   by_cases h:i < 0
   ·simp only [h,if_true] <;> omega
   ·simp only [h,if_false] <;> omega
theorem slicePick_cut (its:List Value) (lo hi:Option Int) : slicePick its.toArray lo hi none=((its.drop (HT.sIx its.length 0 lo)).take (HT.sIx its.length its.length hi - HT.sIx its.length 0 lo)).toArray:=by
 obtain ⟨h1,h2,h3⟩:=slice_bounds lo hi its.toArray.size
 unfold slicePick
 rw [h1,h2,h3]
 simp only [sliceRange_one,pick_run,List.size_toArray] <;> rfl
def rSlL (K:PySem.W.Frag) : V→Option Int→Option Int→Hp→VK→Prop:=fun x lo hi H Q=>∃ a xs,x = .ref a∧SqL K H a xs∧∀ p,H p=none→Q (.ref p) (upd H p (.lst (cutV xs lo hi)))
theorem sl_list:SlR X (rSlL X.K):=by
 intro pins s σ H x v vl vu lo hi sl Q I rx hs pl pu h
 obtain ⟨a,xs,rfl,hx,q⟩:=h
 cases rx
 obtain ⟨its,r,ht,hz⟩:=I.list hx
 have hlen:=r.length
 refine ⟨"list",_,slot_list_getitem.lookup,ht.isList.typeIs,?_⟩
 refine wpAny_getItem_list_slice ht.isList hs pl pu .none (by simp) ?_ (by rw [List.size_toArray] <;> omega)
 rw [slicePick_cut,← hlen]
 refine ⟨.ref s.heap.objs.size,_,I.laid (t':=s.toks) (o:=.lst (cutV xs lo hi)) (fun b ob q=>Heap.get?_push_of_some _ q) (Nat.le_refl _) ?_,rfl,q _ (I.hok.fresh (Nat.le_refl _))⟩
 exact ⟨Nat.le_trans (cutV_length xs lo hi) hz,_,0,(r.drop (HT.sIx xs.length 0 lo)).take (HT.sIx xs.length xs.length hi - HT.sIx xs.length 0 lo),Heap.get?_push_size _ rfl⟩

def flatV:V→Bool
 | .non=>true
 | .bl _=>true
 | .int _=>true
 | .str _=>true
 | _=>false
def eqV:V→V→Bool
 | .non,.non=>true
 | .bl a,.bl b=>a == b
 | .bl a,.int b=>(if a then 1 else 0) == b
 | .int a,.bl b=>a == (if b then 1 else 0)
 | .int a,.int b=>a == b
 | .str a,.str b=>a == b
 | _,_=>false
theorem eqAt_V {A:Around} {s:Shared} {y x:V} {u v:Value} (ry:RelV y u) (rx:RelV x v) (fy:flatV y=true) (fx:flatV x=true) : SeqAt.EqAt A s u v (eqV y x):=by
 cases y with
 | non =>
  cases ry
  cases x with
  | non=>cases rx; exact SeqAt.EqAt.same _
  | bl b=>cases rx; exact SeqAt.EqAt.none_bool b
  | int b=>obtain ⟨t,rfl⟩:=rx; exact SeqAt.EqAt.none_int b t
  | str b=>obtain ⟨t,rfl⟩:=rx; exact SeqAt.EqAt.none_str b t
  | _=>exact absurd (show false=true from fx) Bool.false_ne_true
 | bl a =>
  cases ry
  cases x with
  | non=>cases rx; exact SeqAt.EqAt.bool_none a
  | bl b=>cases rx; exact SeqAt.EqAt.bool_bool a b
  | int b=>obtain ⟨t,rfl⟩:=rx; exact SeqAt.EqAt.bool_int a b t
  | str b=>obtain ⟨t,rfl⟩:=rx; exact SeqAt.EqAt.bool_str a b t
  | _=>exact absurd (show false=true from fx) Bool.false_ne_true
 | int a =>
  obtain ⟨t',rfl⟩:=ry
  cases x with
  | non=>cases rx; exact SeqAt.EqAt.int_none a t'
  | bl b=>cases rx; exact SeqAt.EqAt.int_bool a t' b
  | int b=>obtain ⟨t,rfl⟩:=rx; exact SeqAt.EqAt.int_int a t' b t
  | str b=>obtain ⟨t,rfl⟩:=rx; exact SeqAt.EqAt.int_str a t' b t
  | _=>exact absurd (show false=true from fx) Bool.false_ne_true
 | str a =>
  obtain ⟨t',rfl⟩:=ry
  cases x with
  | non=>cases rx; exact SeqAt.EqAt.str_none a t'
  | bl b=>cases rx; exact SeqAt.EqAt.str_bool a t' b
  | int b=>obtain ⟨t,rfl⟩:=rx; exact SeqAt.EqAt.str_int a t' b t
  | str b=>obtain ⟨t,rfl⟩:=rx; exact SeqAt.EqAt.str_str a t' b t
  | _=>exact absurd (show false=true from fx) Bool.false_ne_true
 | _=>exact absurd (show false=true from fy) Bool.false_ne_true
theorem call_len_seq:CallR X (.builtin "len") (fun xs H Q=>∃ p ys,xs=[.ref p]∧(SqL X.K H p ys∨SqT X.K H p ys)∧Q (.int ys.length) H):=by
 intro pins s σ H xs us Q I r h
 obtain ⟨p,ys,rfl,hq,q⟩:=h
 obtain ⟨u,rfl,rx⟩:=vals1 r
 cases rx
 have hn:=line63
 rcases hq with hq | hq
 ·obtain ⟨its,r',pl,hz⟩:=I.list hq
  have hlen:=r'.length
  exact Calls.call_len_list pl.isList (by simp only [List.size_toArray] <;> omega) ⟨.int ys.length,H,I.tok _,⟨s.toks+1,by rw [List.size_toArray,hlen]⟩,q⟩
 ·obtain ⟨its,r',pl,hz⟩:=I.tuple hq
  have hlen:=r'.length
  exact len_tuple pl (by simp only [List.size_toArray] <;> omega) ⟨.int ys.length,H,I.tok _,⟨s.toks+1,by rw [List.size_toArray,hlen]⟩,q⟩
theorem call_len_str:CallR X (.builtin "len") (fun xs H Q=>∃ z,xs=[.str z]∧z.length≤sizeLine∧Q (.int z.length) H):=by
 intro pins s σ H xs us Q I r h
 obtain ⟨z,rfl,hz,q⟩:=h
 obtain ⟨u,rfl,t,rfl⟩:=vals1 r
 have hn:=line63
 exact len_str (by omega) ⟨.int z.length,H,I.tok _,⟨_,rfl⟩,q⟩
theorem call_list_of:CallR X (.type "list") (fun xs H Q=>∃ p ys,xs=[.ref p]∧(SqL X.K H p ys∨SqT X.K H p ys)∧∀ l,H l=none→Q (.ref l) (upd H l (.lst ys))):=by
 intro pins s σ H xs us Q I r h
 obtain ⟨p,ys,rfl,hq,q⟩:=h
 obtain ⟨u,rfl,rx⟩:=vals1 r
 cases rx
 have fin:∀ (its:List Value),Vals ys its→ys.length≤sizeLine→∀ (h':Heap) (c':Nat),(∀ b o',s.heap.get? b=some o'→h'.get? b=some o') →
   h'.get? s.heap.objs.size=some { cls:=.type "list",dict:=none,data:=.seq its.toArray c',slots:=#[] }→EP X pins σ Q (.ref s.heap.objs.size) { s with heap:=h' }:=fun its r' hz h' c' kp e =>
  ⟨.ref s.heap.objs.size,_,I.laid (t':=s.toks) kp (Nat.le_refl _) (show ObjOk X.prog X.w _ h' _ (.lst ys) from ⟨hz,its,c',r',e⟩),rfl,q _ (I.hok.fresh (Nat.le_refl _))⟩
 rcases hq with hq | hq
 ·obtain ⟨its,r',pl,hz⟩:=I.list hq
  have hlen:=r'.length
  obtain ⟨o,ho,hc,n,hd⟩:=pl.isList
  exact call_list_seq p (.inl rfl) ho hc hd (fun h' c' kp e=>fin its r' hz h' c' kp e) (by simp only [List.size_toArray] <;> omega)
 ·obtain ⟨its,r',pl,hz⟩:=I.tuple hq
  have hlen:=r'.length
  obtain ⟨o,ho,hc,n,hd⟩:=pl
  exact call_list_seq p (.inr rfl) ho hc hd (fun h' c' kp e=>fin its r' hz h' c' kp e) (by simp only [List.size_toArray] <;> omega)
def tyV (K:PySem.W.Frag) (T:String) (x:V) (H:Hp) : Prop:=match x with
 | .str _=>T = "str"
 | .int _=>T = "int"
 | .ref p=>(T = "list"∧∃ xs,SqL K H p xs)∨(T = "tuple"∧∃ o,K.lookup p=some o∧o.cls = .type "tuple"∧o.dict=none) ∨
   (T = "dict"∧((∃ kvs,H p=some (.dK kvs))∨∃ kvs,H p=some (.dT kvs)))∨(T = "set"∧∃ S n,H p=some (.set S n))
 | _=>False
theorem tyV_is {pins:List (Addr × Obj)} {σ:St} {H:Hp} {s:Shared} {T:String} {x:V} {v:Value} (I:Inv X pins σ H s) (r:RelV x v) (ty:tyV X.K T x H) :
  s.TypeIs v T∧∀ a,v = .ref a→∃ ob,s.heap.get? a=some ob∧ob.dict=none:=by
 cases x with
 | str z =>
  obtain ⟨t,rfl⟩:=r
  cases (show T = "str" from ty)
  exact ⟨typeIs_str s z t,fun _ e=>nomatch e⟩
 | int i =>
  obtain ⟨t,rfl⟩:=r
  cases (show T = "int" from ty)
  exact ⟨typeIs_int s i t,fun _ e=>nomatch e⟩
 | ref p =>
  cases r
  rcases ty with ⟨rfl,xs,hq⟩ | ⟨rfl,o,hk,hc,hd⟩ | ⟨rfl,hk⟩ | ⟨rfl,S,n,hk⟩
  ·obtain ⟨its,_,pl,_⟩:=I.list hq
   refine ⟨pl.isList.typeIs,fun a e=>?_⟩
   cases e
   obtain ⟨o,n,e,c,hd,_⟩:=pl
   exact ⟨o,e,hd⟩
  ·refine ⟨⟨o,I.kIn p o hk,hc⟩,fun a e=>?_⟩
   cases e
   exact ⟨o,I.kIn _ o hk,hd⟩
  ·have z:∃ o,s.heap.get? p=some o∧o.ExactDict:=by
    rcases hk with ⟨kvs,hk⟩ | ⟨kvs,hk⟩
    ·obtain ⟨_,_,_,_,o,_,_,e,ex,_⟩:=I.hok p _ hk
     exact ⟨o,e,ex⟩
    ·obtain ⟨_,_,_,_,o,_,_,e,ex,_⟩:=I.hok p _ hk
     exact ⟨o,e,ex⟩
   obtain ⟨o,e,ex⟩:=z
   refine ⟨⟨o,e,ex.1⟩,fun a e2=>?_⟩
   cases e2
   exact ⟨o,e,ex.2.1⟩
  ·obtain ⟨o,_,_,_,e,ex,_⟩:=I.hok p _ hk
   refine ⟨⟨o,e,ex.1⟩,fun a e2=>?_⟩
   cases e2
   exact ⟨o,e,ex.2.1⟩
 | _=>exact False.elim ty
def tBM0 (K:PySem.W.Frag) (T:String) (r:V→List V→Hp→VK→Prop) (to:TE) : TE:=fun σ H Q=>to σ H fun x H1=>tyV K T x H1∧r x [] H1 Q
def tBM (K:PySem.W.Frag) (T:String) (r:V→List V→Hp→VK→Prop) (to:TE) (t:TA) : TE:=fun σ H Q=>to σ H fun x H1=>tyV K T x H1∧t σ H1 fun xs H2=>r x xs H2 Q
variable {o e:Expr} {es:List Expr} {to:TE} {t:TA} {name:Str} {apos cpos:Pos} {T id:String} {r:V→List V→Hp→VK→Prop}
theorem pe_bm0 (pa:PlainAttrs T) (slot:Slot T name id) (hty:typeOf (.builtin id)=pure (.type "method_descriptor")) (hm:MtR X id r) (ho:PE X o to)
  (hbase:attributeBase o name X.env (eval o X.env)=eval o X.env:=by rfl) (hline:(apos.endLine == cpos.line)=true:=by rfl) : PE X (.Call (.Attribute o name apos) [] [] cpos) (tBM0 X.K T r to):=by
 intro pins s σ H Q I h
 refine wpAny_Call_method0_late hbase hline (thn (ho pins s σ H _ I h) fun v s1 ⟨x,H1,I1,r1,ty,q1⟩=>?_)
 obtain ⟨h1,h2⟩:=tyV_is I1 r1 ty
 exact ⟨T,id,pa,slot,hty,h1,h2,Calls.callWith_builtin rfl (PySem.evalArgs_none (hm pins s1 σ H1 x [] v [] Q I1 r1 .nil q1))⟩
theorem pe_bm (pa:PlainAttrs T) (slot:Slot T name id) (hty:typeOf (.builtin id)=pure (.type "method_descriptor")) (hm:MtR X id r) (ho:PE X o to) (ha:PA X (e :: es) t)
  (hbase:attributeBase o name X.env (eval o X.env)=eval o X.env:=by rfl)
  (hfew:((backTo cpos (starEach (e :: es) X.env)).all (fun x=>!x.1) && (backToKw cpos (keywordEach [] X.env)).all (fun x=>x.1.isSome)
   && decide ((e :: es).length+([] : List Keyword).length+(if ([] : List Keyword).isEmpty then 0 else 1) < 30))=true:=by rfl)
  (hline:(apos.endLine == cpos.line)=true:=by rfl) (hs:starEach (e :: es) X.env=(false,eval e X.env) :: starEach es X.env:=by rfl) (hplain:(backTo cpos (starEach es X.env)).any (·.1)=false:=by rfl) :
  PE X (.Call (.Attribute o name apos) (e :: es) [] cpos) (tBM X.K T r to t):=by
 intro pins s σ H Q I h
 refine wpAny_Call_method_late hbase hfew hline rfl (thn (ho pins s σ H _ I h) fun v s1 ⟨x,H1,I1,r1,ty,q1⟩=>?_)
 obtain ⟨h1,h2⟩:=tyV_is I1 r1 ty
 refine ⟨T,id,pa,slot,hty,h1,h2,?_⟩
 have hA:=ha cpos pins s1 σ H1 _ I1 q1
 rw [hs] at hA ⊢
 refine Calls.callWith_builtin (by show (false || (backTo cpos (starEach es X.env)).any (·.1))=false; rw [hplain] <;> rfl) (Calls.evalArgs_plain ?_)
 exact thn hA fun us s2 ⟨vs,H2,I2,r2,q2⟩=>hm pins s2 σ H2 x vs v us Q I2 r1 r2 q2
end

def MtM (X:Cx) (id:String) (r:V→List V→Hp→VK→Prop) : Prop:=
 ∀ (pins:List (Addr × Obj)) (s:Shared) (σ:St) (H:Hp) (x:V) (xs:List V) (v:Value) (us:List Value) (Q:VK),Inv X pins σ H s→RelV x v→Vals xs us→r x xs H Q →
  wpAny (model X.prog X.w) X.A (call (.builtin id) (v :: us)) (EP X pins σ Q) X.xe s

theorem Vals.one:∀ {x:V} {us:List Value},Vals [x] us→∃ u,us=[u]∧RelV x u
 | _,_,.cons r .nil=>⟨_,rfl,r⟩
theorem Vals.zero:∀ {us:List Value},Vals [] us→us=[]
 | _,.nil=>rfl
theorem Vals.dropLast {xs:List V} {us:List Value} (h:Vals xs us) : Vals xs.dropLast us.dropLast:=by
 induction h with
 | nil=>exact .nil
 | cons r t ih =>
  cases t with
  | nil=>exact .nil
  | cons q t'=>exact .cons r ih
theorem Vals.reverse {xs:List V} {us:List Value} (h:Vals xs us) : Vals xs.reverse us.reverse:=by
 induction h with
 | nil=>exact .nil
 | cons r t ih=>rw [List.reverse_cons,List.reverse_cons]; exact Vals.append ih (.cons r .nil)
theorem Vals.rep {xs:List V} {us:List Value} (h:Vals xs us) : ∀ k:Nat,Vals (List.replicate k xs).flatten (List.replicate k us).flatten
 | 0=>.nil
 | k+1=>by
  rw [List.replicate_succ,List.replicate_succ,List.flatten_cons,List.flatten_cons]
  exact Vals.append h (Vals.rep h k)
theorem foldl_rep (its:List Value) : ∀ (k:Nat) (acc:List Value),
  List.foldl (fun x1 x2=>x1++x2) acc.toArray (List.replicate k its.toArray)=(acc++(List.replicate k its).flatten).toArray
 | 0,acc=>by simp
 | k+1,acc=>by
  have e:acc.toArray++its.toArray=(acc++its).toArray:=by simp
  have e2:(acc++its)++(List.replicate k its).flatten=acc++(List.replicate (k+1) its).flatten:=by
   rw [List.replicate_succ,List.flatten_cons,List.append_assoc]
  rw [← e2,← foldl_rep its k (acc++its),← e,List.replicate_succ,List.foldl_cons]

section
variable {X:Cx} {pins:List (Addr × Obj)} {σ:St} {H:Hp} {s:Shared} {l b:Addr} {xs ys zs:List V}

theorem Inv.lset {its its':List Value} {n:Nat} {f:Array Value→Array Value} {t':Nat} (I:Inv X pins σ H s) (hH:H l=some (.lst xs))
  (e:s.heap.get? l=some { cls:=.type "list",data:=.seq its.toArray n }) (hf:f its.toArray=its'.toArray) (hv:Vals ys its') (hz:ys.length≤sizeLine) :
  Inv X pins σ (upd H l (.lst ys)) { s with heap:=s.heap.update l (Obj.mapSeq f),toks:=t' }:=by
 have q:=PySem.IsL.update e f
 rw [hf] at q
 refine I.write (x:=l) (e:=l) (by rw [hH]; exact trivial) (.inl rfl) (fun b' u hb hu=>(Heap.get?_update_other s.heap (Obj.mapSeq f) (Ne.symm hb)).trans hu) ⟨_,q⟩ ?_
 exact ⟨hz,its',_,hv,q⟩
theorem Inv.lnew {its:List Value} {t':Nat} (I:Inv X pins σ H s) (hv:Vals ys its) (hz:ys.length≤sizeLine) :
  Inv X pins σ (upd H s.heap.objs.size (.lst ys)) { s with heap:=s.heap.push { cls:=.type "list",data:=.seq its.toArray },toks:=t' }:=
 I.laid (fun _ _ q=>Heap.get?_push_of_some _ q) (Nat.le_refl _) ⟨hz,its,0,hv,Heap.get?_push_size _ rfl⟩
theorem Inv.fresh (I:Inv X pins σ H s) : H s.heap.objs.size=none:=I.hok.fresh (Nat.le_refl _)
theorem Inv.lstM (I:Inv X pins σ H s) (hH:H l=some (.lst xs)) : xs.length≤sizeLine∧∃ (its:List Value) (n:Nat),Vals xs its∧xs.length=its.length∧s.heap.get? l=some { cls:=.type "list",data:=.seq its.toArray n }:=by
 obtain ⟨z,its,n,r,e⟩:=I.hok l _ hH
 exact ⟨z,its,n,r,r.length,e⟩

theorem notLongL {n:Nat} (h:n≤sizeLine) : Builtin.List.listTooLong n=false:=by
 unfold Builtin.List.listTooLong
 exact decide_eq_false (by omega)
end

section
variable {X:Cx}

def rAppend:V→List V→Hp→VK→Prop:=fun x vs H Q=>∃ l xs y,x = .ref l∧vs=[y]∧H l=some (.lst xs)∧xs.length < sizeLine∧Q .non (upd H l (.lst (xs++[y])))
theorem mt_append:MtM X "list.append" rAppend:=by
 intro pins s σ H x vs v us Q I rx rv h
 obtain ⟨l,xs,y,rfl,rfl,hH,hz,q⟩:=h
 cases rx
 obtain ⟨u,rfl,ru⟩:=rv.one
 obtain ⟨z,its,n,r,hl,e⟩:=I.lstM hH
 refine call_meets F.slot_list_append ⟨_,e,rfl⟩ F.entry_list_append (F.args_list_append_2 _ _) (PySem.list_append l its.toArray n u (by rw [List.size_toArray]; omega)) ⟨e,?_⟩
 refine ⟨.non,_,I.lset (its':=its++[u]) hH e (by simp) (r.append (.cons ru .nil)) ?_,rfl,q⟩
 rw [List.length_append,List.length_singleton]
 omega

def rClear:V→List V→Hp→VK→Prop:=fun x vs H Q=>∃ l xs,x = .ref l∧vs=[]∧H l=some (.lst xs)∧Q .non (upd H l (.lst []))
theorem mt_clear:MtM X "list.clear" rClear:=by
 intro pins s σ H x vs v us Q I rx rv h
 obtain ⟨l,xs,rfl,rfl,hH,q⟩:=h
 cases rx
 have hus:=rv.zero
 subst hus
 obtain ⟨z,its,n,r,hl,e⟩:=I.lstM hH
 refine call_meets F.slot_list_clear ⟨_,e,rfl⟩ F.entry_list_clear (F.args_list_clear_1 _) (AutoSeq1.list_clear_list_0 l its.toArray n (by rw [List.size_toArray]; omega)) ⟨e,?_⟩
 exact ⟨.non,_,I.lset (its':=[]) (ys:=[]) hH e rfl .nil (Nat.zero_le _),rfl,q⟩

def rCat:R2:=fun x y H Q=>∃ l b xs zs,x = .ref l∧y = .ref b∧H l=some (.lst xs)∧H b=some (.lst zs)∧xs.length+zs.length≤sizeLine∧∀ p,H p=none→Q (.ref p) (upd H p (.lst (xs++zs)))
theorem op_cat:OpR X (binaryOp .Add) rCat:=by
 intro pins s σ H x y v u Q I rx ry h
 obtain ⟨l,b,xs,zs,rfl,rfl,hH,hB,hz,q⟩:=h
 cases rx
 cases ry
 obtain ⟨z,its,n,r,hl,e⟩:=I.lstM hH
 obtain ⟨z2,its2,n2,r2,hl2,e2⟩:=I.lstM hB
 refine PySem.P.add_list e e2 ?_ (by rw [List.size_toArray,List.size_toArray]; omega)
 have ea:its.toArray++its2.toArray=(its++its2).toArray:=by simp
 rw [ea]
 exact ⟨.ref _,_,I.lnew (t':=s.toks) (r.append r2) (by rw [List.length_append]; omega),rfl,q _ I.fresh⟩
def rRep:R2:=fun x y H Q=>∃ l k xs,x = .ref l∧y = .int k∧H l=some (.lst xs)∧-(2 ^ 63)≤k∧k < 2 ^ 63∧xs.length * k.toNat≤sizeLine ∧
 ∀ p,H p=none→Q (.ref p) (upd H p (.lst (List.replicate k.toNat xs).flatten))
theorem len_rep {α:Type} (xs:List α) (k:Nat) : (List.replicate k xs).flatten.length=k * xs.length:=by
 induction k with
 | zero=>simp
 | succ k ih=>rw [List.replicate_succ,List.flatten_cons,List.length_append,ih,Nat.succ_mul,Nat.add_comm]
theorem op_rep:OpR X (binaryOp .Mult) rRep:=by
 intro pins s σ H x y v u Q I rx ry h
 obtain ⟨l,k,xs,rfl,rfl,hH,h1,h2,hz,q⟩:=h
 cases rx
 obtain ⟨t,rfl⟩:=ry
 obtain ⟨z,its,n,r,hl,e⟩:=I.lstM hH
 have hlen:its.toArray.size * k.toNat≤sizeLine:=by rw [List.size_toArray,← hl]; exact hz
 have hcap:¬ its.toArray.size * k.toNat > (2 ^ 63 - 1) / 8:=by
  have:(sizeLine:Nat)≤(2 ^ 63 - 1) / 8:=by decide
  omega
 have hfit:¬ (!Builtin.List.listFitsIndex k)=true:=by
  rw [fitsIndex_both h1 h2]
  exact Bool.false_ne_true
 have hlong:¬ Builtin.List.listTooLong (its.toArray.size * k.toNat)=true:=by
  rw [notLongL hlen]
  exact Bool.false_ne_true
 have hnew:List.foldl (fun x1 x2=>x1++x2) #[] (List.replicate (if its.toArray.isEmpty=true then 0 else k.toNat) its.toArray)=(List.replicate k.toNat its).flatten.toArray:=by
  have f0:∀ m:Nat,List.foldl (fun x1 x2=>x1++x2) #[] (List.replicate m its.toArray)=(List.replicate m its).flatten.toArray:=fun m=>by
   have:=foldl_rep its m []
   rw [List.nil_append] at this
   exact this
  rw [f0]
  cases its with
  | nil=>simp
  | cons a r'=>rw [if_neg (by simp)]
 refine wpAny_binaryOp_repeat_ref (T := "list") (U := "int") (by decide) ⟨_,e,rfl⟩ (fun s'=>typeIs_int s' k t) noFill_list_mul F.fills_int_mul F.slot_int_rmul repeat_list F.slot_int_index.lookup
  (call_meets F.slot_int_rmul (typeIs_int s k t) F.entry_int_rmul (F.args_int_rmul_2 _ _) (int___rmul___int_list k t l its.toArray n)
   ⟨e,rfl,⟨_,e,rfl⟩,call_meets F.slot_list_mul ⟨_,e,rfl⟩ F.entry_list_mul (F.args_list_mul_2 _ _) (AutoListH.list___mul___list_int_3 l its.toArray n k t hfit hcap hlong) ⟨e,?_⟩⟩)
 rw [hnew]
 exact ⟨.ref _,_,I.lnew (t':=s.toks) (r.rep k.toNat) (by rw [len_rep,Nat.mul_comm]; exact hz),rfl,q _ I.fresh⟩

end

section
variable {prog:Program} {w:World} {A:Around} {E:Value→Shared→Prop} {s:Shared}
end

section
variable {X:Cx}
end

section
variable {κ:Type} [DecidableEq κ]
def valV (kvs:List (κ × V)) (k:κ) : Option V:=(kvs.find? fun kv=>decide (kv.1=k)).map (·.2)
def putK (kvs:List (κ × V)) (k:κ) (v:V) : List (κ × V):=
 if (kvs.any fun kv=>decide (kv.1=k))=true then kvs.map (fun kv=>if kv.1=k then (kv.1,v) else kv) else kvs++[(k,v)]
def dropK (kvs:List (κ × V)) (k:κ) : List (κ × V):=kvs.filter fun kv=>decide (kv.1≠k)

theorem valV_pos {p:κ × V} {r:List (κ × V)} {k:κ} (e:p.1=k) : valV (p :: r) k=some p.2:=by simp [valV,List.find?_cons,e]
theorem valV_neg {p:κ × V} {r:List (κ × V)} {k:κ} (e:¬ p.1=k) : valV (p :: r) k=valV r k:=by simp [valV,List.find?_cons,e]
theorem valV_any (k:κ) : ∀ kvs:List (κ × V),(kvs.any fun kv=>decide (kv.1=k))=(valV kvs k).isSome
 | []=>rfl
 | p :: r=>by
  rw [List.any_cons]
  by_cases e:p.1=k
  ·simp only [valV_pos e,decide_eq_true e,Bool.true_or,Option.isSome_some]
  ·rw [valV_neg e,decide_eq_false e,Bool.false_or]; exact valV_any k r
theorem RelO.isSome_eq {o:Option V} {u:Option Value} (r:RelO o u) : o.isSome=u.isSome:=by
 cases o with
 | none=>cases u with
  | none=>rfl
  | some _=>exact (show False from r).elim
 | some _=>cases u with
  | none=>exact (show False from r).elim
  | some _=>rfl
theorem RelO.getD {o:Option V} {u:Option Value} {d:V} {d':Value} (r:RelO o u) (rd:RelV d d') : RelV (o.getD d) (u.getD d'):=by
 cases o with
 | none=>cases u with
  | none=>exact rd
  | some _=>exact (show False from r).elim
 | some _=>cases u with
  | none=>exact (show False from r).elim
  | some _=>exact r

theorem KV.val {kvs:List (κ × V)} {vs:List (κ × Value)} (r:KV kvs vs) (k:κ) : RelO (valV kvs k) (valueAt vs k):=by
 unfold KV at r
 induction r with
 | nil=>exact True.intro
 | @cons p q ps qs h t ih =>
  obtain ⟨h1,h2⟩:=h
  by_cases e:p.1=k
  ·have e':q.1=k:=h1.symm.trans e
   have b:valueAt (q :: qs) k=some q.2:=by simp [valueAt,List.find?_cons,e']
   rw [valV_pos e,b]; exact h2
  ·have e':¬ q.1=k:=fun z=>e (h1.trans z)
   have b:valueAt (q :: qs) k=valueAt qs k:=by simp [valueAt,List.find?_cons,e']
   rw [valV_neg e,b]; exact ih
theorem KV.any {kvs:List (κ × V)} {vs:List (κ × Value)} (r:KV kvs vs) (k:κ) : (kvs.any fun kv=>decide (kv.1=k))=vs.any fun kv=>decide (kv.1=k):=by
 unfold KV at r
 induction r with
 | nil=>rfl
 | cons h t ih=>rw [List.any_cons,List.any_cons,ih,h.1]
theorem KV.repl {kvs:List (κ × V)} {vs:List (κ × Value)} (r:KV kvs vs) (k:κ) {y:V} {u:Value} (ry:RelV y u) :
  KV (kvs.map fun kv=>if kv.1=k then (kv.1,y) else kv) (vs.map fun kv=>if kv.1=k then (kv.1,u) else kv):=by
 unfold KV at r ⊢
 induction r with
 | nil=>exact .nil
 | @cons p q ps qs h t ih =>
  rw [List.map_cons,List.map_cons]
  refine .cons ?_ ih
  obtain ⟨h1,h2⟩:=h
  by_cases e:p.1=k
  ·rw [if_pos e,if_pos (h1.symm.trans e)]; exact ⟨h1,ry⟩
  ·rw [if_neg e,if_neg (fun z=>e (h1.trans z))]; exact ⟨h1,h2⟩
theorem KV.put {kvs:List (κ × V)} {vs:List (κ × Value)} (r:KV kvs vs) (k:κ) {y:V} {u:Value} (ry:RelV y u) : KV (putK kvs k y) (stored vs k u):=by
 unfold putK stored
 rw [r.any k]
 by_cases e:(vs.any fun kv=>decide (kv.1=k))=true
 ·rw [if_pos e,if_pos e]; exact r.repl k ry
 ·rw [if_neg e,if_neg e]; exact Paired.snoc r ⟨rfl,ry⟩
theorem KV.drop {kvs:List (κ × V)} {vs:List (κ × Value)} (r:KV kvs vs) (k:κ) : KV (dropK kvs k) (without vs k):=by
 unfold KV at r ⊢
 unfold dropK without
 induction r with
 | nil=>exact .nil
 | @cons p q ps qs h t ih =>
  obtain ⟨h1,h2⟩:=h
  rw [List.filter_cons,List.filter_cons]
  by_cases e:p.1=k
  ·have a:¬ decide (p.1≠k)=true:=by simp [e]
   have b:¬ decide (q.1≠k)=true:=by simp [h1.symm.trans e]
   rw [if_neg a,if_neg b]; exact ih
  ·have e':¬ q.1=k:=fun z=>e (h1.trans z)
   have a:decide (p.1≠k)=true:=by simp [e]
   have b:decide (q.1≠k)=true:=by simp [e']
   rw [if_pos a,if_pos b]; exact .cons ⟨h1,h2⟩ ih
theorem KV.length {kvs:List (κ × V)} {vs:List (κ × Value)} (r:KV kvs vs) : kvs.length=vs.length:=Paired.length r
end


abbrev KT (H:Hp) : List (List Key × V)→List (List Key × Addr × Value)→Prop:=Paired fun p q=>p.1=q.1∧H q.2.1=some (.tup (p.1.map kV))∧RelV p.2 q.2.2
theorem KT.val {H:Hp} {kvs:List (List Key × V)} {xs:List (List Key × Addr × Value)} (r:KT H kvs xs) (k:List Key) : RelO (valV kvs k) ((atKey xs k).map (·.2)):=by
 induction r with
 | nil=>exact True.intro
 | @cons p q ps qs h t ih =>
  obtain ⟨h1,_,h2⟩:=h
  by_cases e:p.1=k
  ·have e':q.1=k:=h1.symm.trans e
   have b:atKey (q :: qs) k=some q.2:=by simp [atKey,List.find?_cons,e']
   rw [valV_pos e,b]; exact h2
  ·have e':¬ q.1=k:=fun z=>e (h1.trans z)
   have b:atKey (q :: qs) k=atKey qs k:=by simp [atKey,List.find?_cons,e']
   rw [valV_neg e,b]; exact ih
theorem KT.repl {H:Hp} {kvs:List (List Key × V)} {xs:List (List Key × Addr × Value)} (r:KT H kvs xs) (k:List Key) {y:V} {u:Value} (ry:RelV y u) :
  KT H (kvs.map fun kv=>if kv.1=k then (kv.1,y) else kv) (xs.map (putAt k u)):=by
 induction r with
 | nil=>exact .nil
 | @cons p q ps qs h t ih =>
  rw [List.map_cons,List.map_cons]
  refine .cons ?_ ih
  obtain ⟨h1,h2,h3⟩:=h
  unfold putAt
  by_cases e:p.1=k
  ·rw [if_pos e,if_pos (h1.symm.trans e)]; exact ⟨h1,h2,ry⟩
  ·rw [if_neg e,if_neg (fun z=>e (h1.trans z))]; exact ⟨h1,h2,h3⟩
theorem KT.put {H:Hp} {kvs:List (List Key × V)} {xs:List (List Key × Addr × Value)} (r:KT H kvs xs) (k:List Key) {b:Addr} {y:V} {u:Value} (hb:H b=some (.tup (k.map kV))) (ry:RelV y u) :
  KT H (putK kvs k y) (storedH xs k b u):=by
 have e:(kvs.any fun kv=>decide (kv.1=k))=(atKey xs k).isSome:=by
  rw [valV_any,(r.val k).isSome_eq,Option.isSome_map]
 unfold putK storedH
 rw [e]
 by_cases q:(atKey xs k).isSome=true
 ·rw [if_pos q,if_pos q]; exact r.repl k ry
 ·rw [if_neg q,if_neg q]; exact Paired.snoc r ⟨rfl,hb,ry⟩
theorem KT.keeps {H H':Hp} {kvs:List (List Key × V)} {xs:List (List Key × Addr × Value)} (r:KT H kvs xs) (ht:∀ b ys,H b=some (.tup ys)→H' b=some (.tup ys)) : KT H' kvs xs:=
 Paired.mapP r fun _ _ z=>⟨z.1,ht _ _ z.2.1,z.2.2⟩

section
variable {P:Program} {w:World} {H:Hp} {h:Heap} {a:Addr}
end

def DGet (H:Hp) (a:Addr) (y:V) (r:Option V) : Prop:=
 (∃ kvs k,Rd H a (.dK kvs)∧y=kV k∧r=valV kvs k)∨∃ kvs k b,Rd H a (.dT kvs)∧y = .ref b∧H b=some (.tup (k.map kV))∧r=valV kvs k
def DPut (H:Hp) (a:Addr) (y v:V) (H':Hp) : Prop:=
 (∃ kvs k,H a=some (.dK kvs)∧y=kV k∧kvs.length < sizeLine∧H' = upd H a (.dK (putK kvs k v))) ∨
 ∃ kvs k b,H a=some (.dT kvs)∧y = .ref b∧H b=some (.tup (k.map kV))∧kvs.length < sizeLine∧H' = upd H a (.dT (putK kvs k v))
theorem DGet.k {H:Hp} {a:Addr} {kvs:List (Key × V)} {k:Key} (e:H a=some (.dK kvs)) : DGet H a (kV k) (valV kvs k):=.inl ⟨kvs,k,.inl e,rfl,rfl⟩
theorem DGet.t {H:Hp} {a b:Addr} {kvs:List (List Key × V)} {k:List Key} (e:H a=some (.dT kvs)) (eb:H b=some (.tup (k.map kV))) : DGet H a (.ref b) (valV kvs k):=.inr ⟨kvs,k,b,.inl e,rfl,eb,rfl⟩
theorem DPut.k {H:Hp} {a:Addr} {kvs:List (Key × V)} {k:Key} {v:V} (e:H a=some (.dK kvs)) (hl:kvs.length < sizeLine) : DPut H a (kV k) v (upd H a (.dK (putK kvs k v))):=.inl ⟨kvs,k,e,rfl,hl,rfl⟩
theorem DPut.t {H:Hp} {a b:Addr} {kvs:List (List Key × V)} {k:List Key} {v:V} (e:H a=some (.dT kvs)) (eb:H b=some (.tup (k.map kV))) (hl:kvs.length < sizeLine) :
  DPut H a (.ref b) v (upd H a (.dT (putK kvs k v))):=.inr ⟨kvs,k,b,e,rfl,eb,hl,rfl⟩


section
variable {X:Cx} {pins:List (Addr × Obj)} {σ:St} {H:Hp} {s:Shared} {a:Addr} {y v:V} {u r:Value} {o:Option V} {A:Around} {E:Value→Shared→Prop}

end

section
variable {X:Cx} {pins:List (Addr × Obj)} {σ:St} {H:Hp} {s:Shared} {a:Addr} {kvs:List (Key × V)} {k:Key} {u:Value} {A:Around} {E:Value→Shared→Prop}
end


section
variable {X:Cx} {o i e value:Expr} {pos pos' tpos:Pos} {td ty tv:TE}
end


section
variable {X:Cx} {pos:Pos}
end

section
variable {X:Cx} {pins:List (Addr × Obj)} {σ:St} {H:Hp} {s:Shared} {a:Addr} {y d:V} {u r:Value} {o:Option V} {A:Around} {E:Value→Shared→Prop}
end

section
variable {X:Cx} {o e f:Expr} {apos cpos:Pos} {td ty tx:TE}
end

section
variable {X:Cx} {pins:List (Addr × Obj)} {σ:St} {H:Hp} {s:Shared} {a:Addr} {kvs:List (Key × V)} {A:Around} {E:Value→Shared→Prop}
end


section
variable {X:Cx} {pins:List (Addr × Obj)} {σ:St} {H:Hp} {s:Shared} {a:Addr} {y:V} {u:Value} {A:Around} {E:Value→Shared→Prop}
end
end L2

namespace Att
open PySem PySem.W PySem.Calls PyProof.Rows

theorem ints_of_wellAll {P:Params} {h:Heap} : ∀ (ns:List Int) (vs:List Value),WellAll P h vs (ns.map WData.int)→IntsAre vs ns:=by
 intro ns
 induction ns with
 | nil =>
  intro vs w
  rw [List.map_nil] at w
  cases w
  exact .nil
 | cons n ns ih =>
  intro vs w
  rw [List.map_cons] at w
  cases w with
  | cons a b =>
   cases a
   exact .cons _ _ (ih _ b)

theorem script_of {l:OpenLaw} {n:Nat} (hn:l.most=some n) {P:Params} {h:Heap} {args:List WData} {vals:List Value}
  (hpre:l.row.toRowW.claim.pre args=true) (hwl:WellAll P h vals args) :
  ∃ a vs ns,vals=[Value.ref a]∧args=[WData.list (ns.map WData.int)]∧h.get? a=some { cls:=.type "list",data:=.seq vs.toArray }∧IntsAre vs ns∧ns.length≤n:=by
 have hsh:WShape.hasAll [] args [.list .int]=true:=(pre_splitW hpre).1
 have hc:l.pre.holds [] { args:=args }=true:=(pre_splitW hpre).2
 obtain ⟨d,r,rfl,h1,h2⟩:=hasAllW_cons hsh
 obtain rfl:=hasAllW_nil h2
 obtain ⟨xs,rfl,h3⟩:=hasW_list h1
 obtain ⟨ns,rfl⟩:=items_int h3
 have hlen:ns.length≤n:=by
  unfold OpenLaw.pre at hc
  have h4:(WTm.not (.lt (.lit (.int (n:Int))) (.len (.arg 0)))).holds [] { args:=[.list (ns.map .int)] }=true:=by
   have h4:=(holds_andW hc).1
   rw [hn] at h4
   exact h4
  have h5:=condW_of h4 (w_not (w_lt w_lit (w_len_list (w_arg rfl))))
  rw [List.length_map] at h5
  refine Nat.le_of_not_lt fun q=>?_
  have q':(n:Int) < ((ns.length:Nat) : Int):=by omega
  first
   | (rw [decide_eq_true q'] at h5; exact absurd h5 (by decide))
   | (simp at h5; omega)
 cases hwl with
 | cons w1 w2 =>
  cases w2
  cases w1 with
  | list ho hall=>exact ⟨_,_,ns,rfl,rfl,ho,ints_of_wellAll ns _ hall,hlen⟩

theorem post_true (l:OpenLaw) (args:List WData) : l.row.toRowW.claim.post args (.bool true) args=true:=
 postW_of (r:=l.row.toRowW) (X:=(true == true))
  (show WShape.has [] (.bool true) .bool=true by first | rfl | decide | simp [WShape.has,WShape.arms,WShape.armsAll])
  (show (WTm.eq .res (.lit (.bool true))).value [] { args:=args,res:=some (.bool true),after:=args }=some (.bool (true == true)) from w_eq_bool (w_res rfl) w_lit) rfl

theorem attach_call {l:OpenLaw} {n:Nat} {q:Program} {loose:List Str} {XP:(Str→Option Value)→Heap→Prop} {YP:World→Heap→Prop} {d:DefRec}
  (hn:l.most=some n) (hdf:d.params.defaults=[])
  (call:∀ (w:World) (s₀ s₁:Shared) (mg mb:Str→Option Value) (fa:Addr) (o:Obj) (pm cd doc:Value) (a:Addr) (vs:List Value) (ns:List Int),
   Ground q loose [] XP w s₀ mg mb s₁.heap→YP w s₁.heap →
   s₁.heap.get? fa=some o→o.data = .func (docDef d.name d.params d.body d.scope pm cd doc)→s₁.heap.CodeRec cd d.name→mg d.name=some (.ref fa) →
   s₁.heap.get? a=some { cls:=.type "list",data:=.seq vs.toArray }→IntsAre vs ns→ns.length≤n→s₁.gens = #[] →
   codeAny (model l.prog w) callerA (.call (.ref fa) ⟨[.ref a],[]⟩) (fun r s'=>r = .ok (.ret (.bool true))∧OldK s₁.heap s'.heap∧s'.os=s₁.os∧AllBare s'.gens) s₁) :
  WalkO q loose XP YP l.row.toRowW d [] (fun f vs=>PySem.call f vs):=by
 intro w s₀ s₁ mg mb G Y fa o pm cd doc dV kV ho hd hcd hD hmg hg args vals as hpre hlay hrd hwl hlo
 obtain rfl:dV = .none:=Dflts.none hD hdf
 obtain rfl:kV = .none:=Dflts.noKw hD
 obtain ⟨a,vs,ns,rfl,rfl,hobj,hints,hlen⟩:=script_of hn hpre hwl
 refine enter_call (codeAny_mono (call w s₀ s₁ mg mb fa o pm cd doc a vs ns G Y ho (fd_plain hd) hcd hmg hobj hints hlen hg) fun r s' hq=>?_)
 obtain ⟨rfl,h2,h3,h4⟩:=hq
 exact ⟨.inl ⟨.bool true,.bool true,[],rfl,fun _=>rfl,.bool true,post_true l _,fun _=>⟨List.Pairwise.nil,fun _ hm=>(nomatch hm)⟩⟩,h2,h3,h4⟩

section
variable {prog:Program} {w:World} {A:Around} {E:Value→Shared→Prop} {s:Shared} {K:Frag}

end
end Att

namespace L2
open PySem PySem.Spec PyProof.Rows

theorem vals_ints:∀ {vs:List Value} {ns:List Int},IntsAre vs ns→Vals (ns.map V.int) vs
 | _,_,.nil=>.nil
 | _,_,.cons n t h=>.cons ⟨t,rfl⟩ (vals_ints h)

def Only (H:Hp) : Prop:=∀ b,H b=none∨∃ o xs,H b=some (.frz o (.lst xs))

theorem law_call {P:Program} {w:World} {K:PySem.W.Frag} {mg mb:Str→Option Value} {CX:CXT} {k:Nat} {fa a:Addr} {fd:FuncData} {x:Str} {sp:Sp} {s₁:Shared} {vs:List Value} {ns:List Int}
  (KX:K.In s₁.heap) (hns:s₁.heap.Ns mainGlobals mg) (hb:s₁.heap.Ns builtinsNs mb) (hbb:∀ x:Str,x≠"__name__"→mb x=bootBuiltins x) (hlim:s₁.heap.NoLimit) (hg:s₁.gens = #[])
  (ha:s₁.heap.get? a=some { cls:=.type "list",data:=.seq vs.toArray }) (hi:IntsAre vs ns) (hl:ns.length≤sizeLine) (hr:Room k callerA)
  (F:∀ base:Heap,K.In base→base.Ns mainGlobals mg→FnOk P w K mg base CX k fa fd [x] sp) (hbind:∀ (s:Shared) (u:Value),BindsTo s fd ⟨[u],[]⟩ [(x,u)])
  (hsp:∀ H:Hp,Only H→SqL K H a (ns.map V.int)→sp [.ref a] H (fun v _=>v = .bl true) fun _ _ _=>False)
  (hCX:∀ H e s',CX [] H s₁ (fun _ _ _=>False) e s'→False) :
  codeAny (model P w) callerA (.call (.ref fa) ⟨[.ref a],[]⟩) (fun r s'=>r = .ok (.ret (.bool true))∧OldK s₁.heap s'.heap∧s'.os=s₁.os∧AllBare s'.gens) s₁:=by
 have rv:=vals_ints hi
 have lenV:=hi.length
 -- from an abstract heap in which nothing but the script may be tracked
 have core:∀ H:Hp,Only H→SqL K H a (ns.map V.int)→HOk P w H s₁.heap→(∀ b,H b≠none→b=a)→(H a≠none→K.lookup a=none) →
   codeAny (model P w) callerA (.call (.ref fa) ⟨[.ref a],[]⟩) (fun r s'=>r = .ok (.ret (.bool true))∧OldK s₁.heap s'.heap∧s'.os=s₁.os∧AllBare s'.gens) s₁:=by
  intro H hO hS hok hA hK
  have base_of:∀ {b:Addr} {o:Obj},s₁.heap.get? b=some o→H b=none→(hidT s₁.heap H).get? b=some o:=fun e n=>hidT_get e n
  have noA:∀ {b:Addr} {o:Obj} {es:Array DictEntry} {ep:Nat},s₁.heap.get? b=some o→o.data = .dict es ep→H b=none:=fun {b o es ep} e d=>by
   cases q:H b with
   | none=>rfl
   | some u =>
    have e':b=a:=hA b (by rw [q]; simp)
    subst e'
    rw [ha] at e; cases e
    have d':Data.seq vs.toArray _=Data.dict es ep:=d
    cases d'
  have nsK:∀ {b:Addr} {m:Str→Option Value},s₁.heap.Ns b m→(hidT s₁.heap H).Ns b m:=fun {b m} ⟨o,es,ep,e,d,r⟩=>⟨o,es,ep,base_of e (noA e d),d,r⟩
  have hKb:K.In (hidT s₁.heap H):=fun b o e=>base_of (KX b o e) (by
   cases q:H b with
   | none=>rfl
   | some u =>
    have e':b=a:=hA b (by rw [q]; simp)
    subst e'
    rw [hK (by rw [q]; simp)] at e; cases e)
  have hM:Mod K mg (hidT s₁.heap H):=⟨hKb,nsK hns,⟨mb,nsK hb,hbb⟩,let ⟨mc,h1,h2⟩:=hlim; ⟨mc,nsK h1,h2⟩⟩
  have e0:Env0 P w K mg (hidT s₁.heap H) callerA [] s₁ H:=⟨rfl,hM,fun b o e=>of_hidT e,Nat.le_of_eq (hidT_size _ _),trivial,fun b hb=>absurd (show b ∈ ([] : List Addr) from hb) (by simp),hok,.of_eq hg⟩
  refine codeAny_mono ((F _ hKb (nsK hns)).run callerA [] s₁ H ⟨[.ref a],[]⟩ [.ref a] [.ref a] _ _ hr e0 (hbind s₁ (.ref a)) (.cons rfl .nil) (hsp H hO hS)) fun r s' h=>?_
  cases r with
  | error e=>exact (hCX H e s' h).elim
  | ok fl =>
   cases fl with
   | next=>exact False.elim h
   | brk=>exact False.elim h
   | cont=>exact False.elim h
   | ret u =>
    obtain ⟨v,H',os,bare,un,hok',r',q⟩:=h
    have q':v = .bl true:=q
    subst q'
    obtain rfl:u=Value.bool true:=r'
    refine ⟨rfl,OldK.of_keep fun b o e=>?_,os,bare⟩
    cases q:H b with
    | none=>exact un.keep b o e q (by intro z; exact absurd (show b ∈ ([] : List Addr) from z) (by simp)) (by simp)
    | some u =>
     rcases hO b with z | ⟨ob,xs,z⟩
     ·rw [q] at z; cases z
     ·have z2:=un.frzs b ob _ z
      obtain ⟨e1,_⟩:=hok b _ z
      obtain ⟨e2,_⟩:=hok' b _ z2
      rw [e] at e1; cases e1
      exact e2
 cases hk:K.lookup a with
 | some o =>
  -- the script is one of the module's own objects
  have e:=KX a o hk
  rw [ha] at e
  cases e
  refine core (fun _=>none) (fun _=>.inl rfl) (.inr ⟨_,vs.toArray,_,hk,rfl,rfl,rfl,by rw [List.size_toArray,lenV]; exact hl,by simpa using rv⟩) (fun b u z=>by have z':(none:Option HO)=some u:=z; cases z') (fun b z=>absurd rfl z) fun z=>absurd rfl z
 | none =>
  refine core (fun b=>if b=a then some (.frz { cls:=.type "list",data:=.seq vs.toArray } (.lst (ns.map V.int))) else none) (fun b=>?_) (.inl (.inr ⟨{ cls:=.type "list",data:=.seq vs.toArray },if_pos rfl⟩)) (fun b u z=>?_) (fun b z=>?_) fun _=>hk
  ·by_cases hb:b=a
   ·exact .inr ⟨_,_,if_pos hb⟩
   ·exact .inl (if_neg hb)
  ·by_cases hb:b=a
   ·have z':=(if_pos hb).symm.trans z
    cases z'
    subst hb
    exact ⟨ha,by rw [List.length_map]; exact hl,vs,_,rv,ha⟩
   ·have z':=(if_neg hb).symm.trans z
    cases z'
  ·by_cases hb:b=a
   ·exact hb
   ·exact absurd (if_neg hb) z

theorem walk_of {l:PySem.W.OpenLaw} {n k:Nat} {q:Program} {loose:List Str} {XP:(Str→Option Value)→Heap→Prop} {YP:World→Heap→Prop} {d:DefRec} {K:Params→PySem.W.Frag} {CX:World→CXT} {sp:World→Sp} {x:Str}
  (hn:l.most=some n) (hn2:n≤sizeLine) (hdf:d.params.defaults=[]) (hr:Room k callerA)
  (hY:∀ (w:World) (h:Heap),YP w h→(K w.params).In h)
  (F:∀ (w:World) (mg:Str→Option Value) (fa:Addr) (h:Heap),(K w.params).In h→h.Ns mainGlobals mg→mg d.name=some (.ref fa) →
   ∃ fd:FuncData,(∀ (s:Shared) (u:Value),BindsTo s fd ⟨[u],[]⟩ [(x,u)]) ∧
    ∀ base:Heap,(K w.params).In base→base.Ns mainGlobals mg→FnOk l.prog w (K w.params) mg base (CX w) k fa fd [x] (sp w))
  (hsp:∀ (w:World) (H:Hp) (a:Addr) (ns:List Int),ns.length≤n→Only H→SqL (K w.params) H a (ns.map V.int)→sp w [.ref a] H (fun v _=>v = .bl true) fun _ _ _=>False)
  (hCX:∀ (w:World) (H:Hp) (s:Shared) (e:Value) (s':Shared),CX w [] H s (fun _ _ _=>False) e s'→False) :
  PySem.W.WalkO q loose XP YP l.row.toRowW d [] (fun f vs=>PySem.call f vs):=by
 refine Att.attach_call hn hdf fun w s₀ s₁ mg mb fa o pm cd doc a vs ns G Y ho hd hcd hmg hobj hints hlen hg=>?_
 have KX:=hY w _ Y
 obtain ⟨fd,hb,hF⟩:=F w mg fa _ KX G.T.g hmg
 exact law_call KX G.T.g G.T.b G.T.builtins G.T.nolimit hg hobj hints (Nat.le_trans hlen hn2) hr hF hb (fun H hO hS=>hsp w H a ns hlen hO hS) fun H e s'=>hCX w H s₁ e s'

abbrev CX0:CXT:=fun _ _ _ _ _ _=>False
abbrev E0:XK:=fun _ _ _=>False
theorem pass0 {X:Cx} : Passes CX0 X E0:=fun _ _ _ _ _ _ _ h=>h.elim

structure Fun (K:PySem.W.Frag) (x qual:Str) (st:Stmt) (f:Addr) (fd:FuncData) : Prop where
 ex:∃ (oc:Value) (od:Option Addr) (kV doc pm:Value) (an:Option Addr) (cdv ct:Value) (osl:Array (Option Value)),
  fd=PySem.W.fnOf x qual (defArgs st) (defBody st) (defScope st) .none kV doc pm an cdv ct∧K.lookup f=some ⟨oc,od,.func fd,osl⟩∧PySem.W.codeIn K cdv qual=true
 kp:PySem.W.keepIn K (.ref f)=true
section
variable {P:Program} {w:World} {K:PySem.W.Frag} {mg:Str→Option Value} {base:Heap}
theorem Fun.ok {x qual:Str} {st:Stmt} {f:Addr} {fd:FuncData} {N ps:List Str} {k:Nat} {sp:Sp} (F:Fun K x qual st f fd) (S:FnScope N ps (defScope st)) (len:∀ vs H Q E,sp vs H Q E→vs.length=ps.length)
  (hbody:∀ (cdv:Value) (A:Around) (outer:List Env) (s:Shared) (H:Hp) (vs:List V) (Q:VK) (E:XK),Room k (A.deeper (envOfC qual (defScope st) s.heap.objs.size f cdv))→sp vs H Q E →
   ∃ t,PSs (cxOf CX0 P w K mg base N qual (defScope st) f cdv A outer s H E).nox (defBody st) t∧t { nx:=fun _ H'=>Q .non H',rt:=Q } (start N vs) H) : FnOk P w K mg base CX0 (k+1) f fd ps sp:=by
 obtain ⟨oc,od,kV,doc,pm,an,cdv,ct,osl,rfl,lk,hcd⟩:=F.ex
 refine fn_of lk hcd S len fun A outer s H vs Q E hr hsp=>?_
 obtain ⟨t,h,q⟩:=hbody cdv A outer s H vs Q E hr hsp
 exact ⟨t,h.nox,q⟩
theorem Fun.binds {x qual:Str} {st:Stmt} {f:Addr} {fd:FuncData} {ps:List Str} (F:Fun K x qual st f fd)
  (h:∀ (kV doc pm:Value) (an:Option Addr) (cdv ct:Value) (us:List Value),us.length=ps.length→bindArgs (PySem.W.fnOf x qual (defArgs st) (defBody st) (defScope st) .none kV doc pm an cdv ct) ⟨us,[]⟩=pure (ps.zip us)) : Binds K fd ps []:=by
 obtain ⟨oc,od,kV,doc,pm,an,cdv,ct,osl,rfl,lk,hcd⟩:=F.ex
 exact .all (h kV doc pm an cdv ct)
theorem fun_mk {x qual:Str} {st:Stmt} {f:Addr} {oc:Value} {od an:Option Addr} {osl:Array (Option Value)} {kV doc pm cdv ct:Value} (l:K.lookup f=some ⟨oc,od,.func (PySem.W.fnOf x qual (defArgs st) (defBody st) (defScope st) .none kV doc pm an cdv ct),osl⟩)
  (c:PySem.W.codeIn K cdv qual=true) (k:PySem.W.keepIn K (.ref f)=true) : Fun K x qual st f (PySem.W.fnOf x qual (defArgs st) (defBody st) (defScope st) .none kV doc pm an cdv ct):=⟨⟨oc,od,kV,doc,pm,an,cdv,ct,osl,rfl,l,c⟩,k⟩
end
theorem hu_of {A:Around} {k:Nat} (hr:Room k A) : A.units+1 < cLine:=Nat.lt_of_le_of_lt (Nat.add_le_add_left (by decide:1≤64) _) hr.units
theorem small1000 {n:Nat} (h:n≤1000) : n < sizeLine:=Nat.lt_of_le_of_lt h (by decide)

section
variable {X:Cx}
theorem pv (i:Nat) {x:Str} {pos:Pos} (hN:X.N[i]? = some x:=by rfl) (hv:Vis X.env.scope x:=by first | exact Or.inl rfl | exact Or.inr (Or.inl rfl) | exact Or.inr (Or.inr rfl)) (hd:(x == ("__debug__" : Str))=false:=by decide)
  (hcd:(x == ("__classdict__" : Str))=false:=by decide) : PE X (.Name x pos) (tVar i):=pe_var hN hv hd hcd
end

theorem iteF {A B:Prop} (h:B) : if false=true then A else B:=by
 rw [if_neg Bool.false_ne_true]
 exact h
theorem iteT {A B:Prop} (h:A) : if true=true then A else B:=by
 rw [if_pos rfl]
 exact h
theorem ite2 {c A B:Prop} [Decidable c] (h1:c→A) (h2:¬ c→B) : if c then A else B:=by
 by_cases h:c
 ·rw [if_pos h]
  exact h1 h
 ·rw [if_neg h]
  exact h2 h
def Same (H H':Hp) : Prop:=∀ b o,H b=some o→H' b=some o
theorem Same.refl (H:Hp) : Same H H:=fun _ _ h=>h
theorem Same.trans {H H1 H2:Hp} (a:Same H H1) (b:Same H1 H2) : Same H H2:=fun c o h=>b c o (a c o h)
theorem Same.free {H H':Hp} (e:Same H H') {l:Addr} (h:H' l=Option.none) : H l=Option.none:=by
 cases q:H l with
 | none=>rfl
 | some o =>
  rw [e l o q] at h
  cases h
theorem Same.seq {K:PySem.W.Frag} {H H':Hp} {a:Addr} {xs:List V} (e:Same H H') (h:SqL K H a xs) : SqL K H' a xs:=by
 rcases h with (h | ⟨o,h⟩) | h
 ·exact .inl (.inl (e _ _ h))
 ·exact .inl (.inr ⟨o,e _ _ h⟩)
 ·exact .inr h

section
variable {κ:Type} [DecidableEq κ]
end

section
variable {prog:Program} {w:World} {A:Around} {R:Result→Shared→Prop} {s:Shared}
theorem compLoop_any {elt target iter:Expr} {ifs:List Expr} {scope:Scope} {pos:Pos} {it acc:Value} {env:Env} (I:Nat→Shared→Prop)
  (turn:∀ n s,I n s→wpAny (model prog w) A (pyNext it) (fun r s₁=>match r with
   | none=>R (.ok .next) s₁
   | some v=>wpAny (model prog w) A (letOwnedTupleGo target it v) (fun _ s₀=>wpAny (model prog w) A (assign target env v) (fun _ s₂ =>
     wpAny (model prog w) A (forIn ifs true fun c r=>if r=true then do let ok ← isTrue c env (eval c env); pure (ForInStep.yield ok) else pure (ForInStep.yield r)) (fun ok s₃ =>
      if ok=true then wpAny (model prog w) A (eval elt env) (fun x s₄ =>
       wpAny (model prog w) A (call (.builtin "list.append") [acc,x]) (fun _ s₅=>∃ m,m < n∧I m s₅) (fun _ _=>False) s₄) (fun _ _=>False) s₃
      else ∃ m,m < n∧I m s₃) (fun _ _=>False) s₂) (fun _ _=>False) s₀) (fun _ _=>False) s₁) (fun _ _=>False) s)
  (n:Nat) (h:I n s) : codeAny (model prog w) A (.compLoop (.ListComp elt [⟨target,iter,ifs,0⟩] scope pos) 0 it acc env) R s:=by
 refine codeAny_loop rfl I (fun n s hI=>?_) n h
 show wpAny _ A ((compTurn (.ListComp elt [⟨target,iter,ifs,0⟩] scope pos) 0 it acc env).onRaise (fun x=>do noteFrame x env; theTreesLotGoes x)) _ _ s
 refine wpAny_noted ?_
 rw [compTurn_list]
 refine wpAny_bind (wpAny_standAt (wpAny_bind (wpAny_mono (turn n s hI) (fun r s₁ h₁=>?_) fun _ _ h'=>h'.elim)))
 cases r with
 | none=>exact wpAny_pure h₁
 | some v =>
  refine wpAny_bind (wpAny_mono h₁ (fun _ s₀ h₀=>?_) fun _ _ h'=>h'.elim)
  refine wpAny_bind (wpAny_mono h₀ (fun _ s₂ h₂=>wpAny_bind (wpAny_mono h₂ (fun ok s₃ h₃=>?_) fun _ _ h'=>h'.elim)) fun _ _ h'=>h'.elim)
  cases ok with
  | false=>exact wpAny_pure ⟨rfl,h₃⟩
  | true =>
   exact wpAny_bind (wpAny_bind (wpAny_mono h₃ (fun x s₄ h₄=>wpAny_bind (wpAny_mono h₄ (fun _ s₅ h₅=>wpAny_pure (wpAny_pure ⟨rfl,h₅⟩)) fun _ _ h'=>h'.elim)) fun _ _ h'=>h'.elim))
end

def PTs (X:Cx) (ifs:List Expr) (t:TT) : Prop:=
 ∀ (pins:List (Addr × Obj)) (s:Shared) (σ:St) (H:Hp) (Q:Bool→Hp→Prop),Inv X pins σ H s→t σ H Q →
  wpAny (model X.prog X.w) X.A (forIn ifs true fun c r=>if r=true then do let ok ← isTrue c X.env (eval c X.env); pure (ForInStep.yield ok) else pure (ForInStep.yield r)) (TP X pins σ Q) X.xe s
def tYes:TT:=fun _ H Q=>Q true H
theorem pts_nil {X:Cx} : PTs X [] tYes:=fun _ _ _ H _ I h=>wpAny_tests_nil ⟨H,I,h⟩
abbrev Cx.blk (X:Cx) (N:List Str) (s:Shared) (H:Hp) (scope:Scope) (cl:List (Str × Addr)) (C:Addr) (ex:List Addr) : Cx:=
 { X with N:=N,s₀:=s,H₀:=H,env:=compEnvC scope cl C X.env,outer:=X.stack,stack:=X.stack,ex:=ex,fn:=fun _=>false,pn:=[],xe:=fun _ _=>False }

def AllC (env:Env) : List (Str × Addr)→Prop
 | []=>True
 | p :: r=>env.cells.lookup p.1=some p.2∧AllC env r
theorem lookup_mem {α:Type} : ∀ {l:List (Str × α)} {x:Str} {k:α},l.lookup x=some k→(x,k) ∈ l
 | [],_,_,h=>by simp at h
 | (n,k') :: r,x,k,h=>by
  rw [List.lookup_cons] at h
  cases hx:x == n with
  | true =>
   rw [hx] at h
   have e:x=n:=eq_of_beq hx
   have e2:k' = k:=Option.some.inj h
   rw [e,e2]; exact List.mem_cons_self
  | false =>
   rw [hx] at h
   exact List.mem_cons_of_mem _ (lookup_mem h)
theorem AllC.get {env:Env} : ∀ {cl:List (Str × Addr)} {x:Str} {c:Addr},AllC env cl→cl.lookup x=some c→env.cells.lookup x=some c:=fun {cl x c} h e=>by
 have go:∀ (l:List (Str × Addr)),AllC env l→∀ p ∈ l,env.cells.lookup p.1=some p.2:=by
  intro l
  induction l with
  | nil=>intro _ p hp; cases hp
  | cons q r ih =>
   intro ha p hp
   rcases List.mem_cons.mp hp with rfl | hp
   ·exact ha.1
   ·exact ih ha.2 p hp
 exact go cl h (x,c) (lookup_mem e)
def CapOk (X:Cx) (scope:Scope) (cl:List (Str × Addr)) : List Str→List Nat→Prop
 | [],[]=>True
 | y :: ys,j :: js=>(X.N[j]? = some y∧(X.env.kindOf y=some .cell∨X.env.kindOf y=some .free)∧(cl.lookup y).isSome=true∧((relabel scope X.env).names.lookup y=some .cell∨(relabel scope X.env).names.lookup y=some .free))∧CapOk X scope cl ys js
 | _,_=>False
theorem CapOk.get {X:Cx} {scope:Scope} {cl:List (Str × Addr)} : ∀ {ys:List Str} {js:List Nat} {i:Nat} {y:Str},CapOk X scope cl ys js→ys[i]? = some y →
  ∃ j,js[i]? = some j∧X.N[j]? = some y∧(X.env.kindOf y=some .cell∨X.env.kindOf y=some .free)∧(cl.lookup y).isSome=true∧((relabel scope X.env).names.lookup y=some .cell∨(relabel scope X.env).names.lookup y=some .free)
 | [],_,_,_,_,e=>by simp at e
 | _ :: _,[],_,_,h,_=>h.elim
 | y :: ys,j :: js,0,z,h,e=>by
  have e':y=z:=by simpa using e
  subst e'
  exact ⟨j,rfl,h.1⟩
 | y :: ys,j :: js,i+1,z,h,e=>by
  obtain ⟨k,e1,e2⟩:=CapOk.get (i:=i) h.2 (by simpa using e)
  exact ⟨k,by simpa using e1,e2⟩
theorem CapOk.len {X:Cx} {scope:Scope} {cl:List (Str × Addr)} : ∀ {ys:List Str} {js:List Nat},CapOk X scope cl ys js→ys.length=js.length
 | [],[],_=>rfl
 | [],_ :: _,h=>h.elim
 | _ :: _,[],h=>h.elim
 | _ :: _,_ :: _,h=>by rw [List.length_cons,List.length_cons,CapOk.len h.2]
def capv (σ:St) (js:List Nat) : St:=js.map fun j=>(σ[j]?).join
theorem relabel_free {scope:Scope} {env:Env} {x:Str} (hcell:∀ y ∈ scope.names,y.2≠.cell) (h:(relabel scope env).names.lookup x=some .cell∨(relabel scope env).names.lookup x=some .free) : (x,NameKind.free) ∈ scope.names:=by
 have hm:∃ k,(k=NameKind.cell∨k=NameKind.free)∧(x,k) ∈ (relabel scope env).names:=by
  rcases h with h | h
  ·exact ⟨_,.inl rfl,lookup_mem h⟩
  ·exact ⟨_,.inr rfl,lookup_mem h⟩
 obtain ⟨k,hk,hm⟩:=hm
 obtain ⟨⟨n,k'⟩,hin,e⟩:=List.mem_map.mp hm
 dsimp only at e
 by_cases hc:(k' == NameKind.free && env.scope.kind == .function && env.kindOf n == some .cell)=true
 ·rw [if_pos hc] at e
  cases e
  have:k' = NameKind.free:=by
   rw [Bool.and_eq_true,Bool.and_eq_true] at hc
   exact eq_of_beq hc.1.1
  rw [← this]; exact hin
 ·rw [if_neg hc] at e
  cases e
  rcases hk with hk | hk
  ·exact absurd hk (hcell _ hin)
  ·rw [← hk]; exact hin
section
variable {X:Cx} {pins:List (Addr × Obj)} {σ:St} {H:Hp} {s:Shared}
theorem Inv.adopt {D:Addr} {ys:List V} {its:List Value} {n:Nat} (I:Inv X pins σ H s) (hn:H D=none) (hnew:X.s₀.heap.objs.size≤D) (hL:D≠X.env.locals) (hc:∀ x c,X.env.cells.lookup x=some c→c≠D) (hp:∀ p ∈ X.pn++pins,p.1≠D)
  (e:s.heap.get? D=some { cls:=.type "list",data:=.seq its.toArray n }) (hv:Vals ys its) (hz:ys.length≤sizeLine) : Inv X pins σ (upd H D (.lst ys)) s:=by
 have ne:∀ b u,H b=some u→b≠D:=fun b u q=>ne_of_none q hn
 refine ⟨I.ok,I.os,I.bare,⟨I.base.keep,I.base.slot,fun b o q nn hx=>?_,I.base.there,fun b xs q=>?_,fun b o u q=>?_,fun b ps q=>?_⟩,I.loc,I.cell,?_,fun x c q=>?_,fun p hq=>?_,fun b u q=>?_,I.len⟩
 ·rw [upd_ne (Nat.ne_of_lt (Nat.lt_of_lt_of_le (Heap.lt_size q) hnew))]; exact I.base.free b o q nn hx
 ·have z:=I.base.tups b xs q
  rw [upd_ne (ne b _ z)]; exact z
 ·have z:=I.base.frzs b o u q
  rw [upd_ne (ne b _ z)]; exact z
 ·obtain ⟨more,z⟩:=I.base.tbls b ps q
  exact ⟨more,by rw [upd_ne (ne b _ z)]; exact z⟩
 ·rw [upd_ne (Ne.symm hL)]; exact I.free
 ·rw [upd_ne (hc x c q)]; exact I.freeC x c q
 ·obtain ⟨a1,a2,a3⟩:=I.pin p hq
  exact ⟨a1,by rw [upd_ne (hp p hq)]; exact a2,a3⟩
 ·by_cases hb:b=D
  ·subst hb
   rw [upd_same] at q; cases q
   exact ⟨hz,its,n,hv,e⟩
  ·rw [upd_ne hb] at q
   exact (I.hok b u q).stay (fun c v _ r=>r) (fun c r=>by rw [upd_ne (ne c _ r)]; exact r) fun c xs r=>by rw [upd_ne (ne c _ r)]; exact r
structure Outed (X:Cx) (pins:List (Addr × Obj)) (σ:St) (C D:Addr) (H:Hp) (s:Shared) : Prop where
 inv:Inv X pins σ H s
 ns:∃ m,s.heap.Ns C m
 nL:C≠X.env.locals
 new:X.s₀.heap.objs.size≤C
 nc:∀ x c,X.env.cells.lookup x=some c→c≠C
 np:∀ p ∈ X.pn++pins,p.1≠C
 free:H C=none
theorem Outed.gone {C D:Addr} {h':Heap} (O:Outed X pins σ C D H s) (sb:Heap.SameBut C s.heap h') : Inv X pins σ H { s with heap:=h' }:=
 O.inv.turned (t':=s.toks) (it:=C) (fun b o hb e=>(sb.2 b hb).trans e) O.free O.nL (.inr O.new) O.nc O.np
end

def gLC (J:It) (g:TG) (tc:TT) (te:TE) (n:Nat) (cv:St) (Fin:List V→Hp→Prop) (H1:Hp) : Prop:=
 ∃ W:Nat→Nat→List V→Hp→Prop,(∃ m,W 0 m [] H1)∧∀ i m ys H,W i m ys H →
  (J.stop i H∧Fin ys H) ∨
  (J.go i H∧ys.length < sizeLine∧∃ N:List V→Hp→Prop,(∀ ys' H',N ys' H'→∃ m',m' < m∧W (i+1) m' ys' H')∧∀ x H',J.yld i H x H'→∀ own:St,own.length=n→g x (own++cv) H' fun σ2 H2=>(∃ own2:St,own2.length=n∧σ2=own2++cv) ∧
   tc σ2 H2 fun b H3=>if b=true then te σ2 H3 fun y H4=>N (ys++[y]) H4 else N ys H3)

def clOf (env:Env) : List (Str × NameKind)→List (Str × Addr)→List (Str × Addr)
 | [],acc=>acc
 | (n,k) :: r,acc=>clOf env r (if k == .free then (match env.cells.lookup n with | some c=>(n,c) :: acc | none=>acc) else acc)
theorem clOf_all (env:Env) : ∀ (names:List (Str × NameKind)) (acc:List (Str × Addr)),AllC env acc→AllC env (clOf env names acc)
 | [],_,h=>h
 | (n,k) :: r,acc,h=>by
  refine clOf_all env r _ ?_
  split
  ·split
   ·exact ⟨by assumption,h⟩
   ·exact h
  ·exact h
structure LcOk (X:Cx) (scope:Scope) (cl:List (Str × Addr)) (own caps:List Str) (js:List Nat) : Prop where
 clos:closureFor scope X.env=pure cl
 cell:∀ y ∈ scope.names,y.2≠.cell
 kind:scope.kind = .function
 names:∀ y ∈ scope.names,y.2 = .local→scope.names.lookup y.1=some .local
 allc:AllC X.env cl
 free:(scope.names.all fun y=>y.2 != .free || (cl.lookup y.1).isSome)=true
 cap:CapOk X scope cl caps js

theorem lcok {X:Cx} {scope:Scope} {own caps:List Str} {js:List Nat} (clos:closureFor scope X.env=pure (clOf X.env scope.names []):=by with_unfolding_all rfl) (cell:∀ y ∈ scope.names,y.2≠.cell:=by decide +kernel) (kind:scope.kind = .function:=by rfl)
  (names:∀ y ∈ scope.names,y.2 = .local→scope.names.lookup y.1=some .local:=by decide +kernel) (free:(scope.names.all fun y=>y.2 != .free || ((clOf X.env scope.names []).lookup y.1).isSome)=true:=by with_unfolding_all rfl)
  (cap:CapOk X scope (clOf X.env scope.names []) caps js) : LcOk X scope (clOf X.env scope.names []) own caps js:=⟨clos,cell,kind,names,clOf_all _ _ _ trivial,free,cap⟩
section
variable {X:Cx} {elt iter target:Expr} {ifs:List Expr} {scope:Scope} {cl:List (Str × Addr)} {pos:Pos} {own caps:List Str} {js:List Nat} {g:TG} {tc:TT} {te:TE}
theorem lc_block {pins:List (Addr × Obj)} {σ:St} {s₂:Shared} {H1:Hp} {it:Addr} {fp:List Addr} {tn:Nat→Heap→Prop} {J:It} {Fin:List V→Hp→Prop} {RR:Value→Addr→Result→Shared→Prop} {E:Value→Shared→Prop}
  (hc:X.calm=true) (L:LcOk X scope cl own caps js)
  (hg:∀ s H C ex,PG (X.blk (own++caps) s H scope cl C ex) target g) (ht:∀ s H C ex,PTs (X.blk (own++caps) s H scope cl C ex) ifs tc) (he:∀ s H C ex,PE (X.blk (own++caps) s H scope cl C ex) elt te)
  (I2:Inv X pins σ H1 s₂) (T:Turn X.prog X.w X.K target J fp it tn) (st2:tn 0 s₂.heap) (f2:∀ b ∈ fp,FpOk X pins H1 b)
  (G:gLC J g tc te own.length (capv σ js) Fin H1)
  (hRR:∀ D C H ys s',H D=none→Outed X pins σ C D (upd H D (.lst ys)) s'→Fin ys H→RR (.ref D) C (.ok .next) s') :
  wpAny (model X.prog X.w) X.A (newList []) (fun acc s₃=>wpAny (model X.prog X.w) X.A (newFunctionEnv scope X.env.globals cl [] X.env.qual none .none (some X.env)) (fun cenv s₄ =>
   codeAny (model X.prog X.w) X.A (.compStart (.ListComp elt [⟨target,iter,ifs,0⟩] scope pos) 0 (.ref it) acc { cenv with scope:=relabel scope X.env }) (RR acc cenv.locals) s₄) E s₃) E s₂:=by
 refine wpAny_newObj_type (wpAny_newFunctionEnv L.cell (by intro y hy; simp at hy) (fun h₁ hns₁ hsb₁=>?_) L.kind)
 dsimp only at hns₁ hsb₁ ⊢
 generalize hH2:s₂.heap.push { cls:=.type "list",dict:=none,data:=.seq ([] : List Value).toArray }=G2 at hns₁ hsb₁ ⊢
 have hC:G2.objs.size=s₂.heap.objs.size+1:=by rw [← hH2,Heap.size_push]
 have up2:∀ b o,s₂.heap.get? b=some o→G2.get? b=some o:=fun b o e=>hH2 ▸ Heap.get?_push_of_some _ e
 have hDC:s₂.heap.objs.size≠G2.objs.size:=by rw [hC]; exact Nat.ne_of_lt (Nat.lt_succ_self _)
 have hD2:G2.get? s₂.heap.objs.size=some { cls:=.type "list",data:=.seq ([] : List Value).toArray ([] : List Value).length }:=hH2 ▸ Heap.get?_push_size _ rfl
 -- the state with the list laid
 have I3:Inv X pins σ H1 { s₂ with heap:=G2 }:=I2.kept (t':=s₂.toks) up2
 have up3:∀ b o,G2.get? b=some o→h₁.get? b=some o:=fun b o e=>hsb₁.extBut b o (Nat.ne_of_lt (Heap.lt_size e)) (Heap.get?_push_of_some _ e)
 have DH:H1 s₂.heap.objs.size=none:=I2.fresh
 have CH:H1 G2.objs.size=none:=I3.fresh
 have fpl:∀ b ∈ fp,b < s₂.heap.objs.size:=fun b hb=>by
  obtain ⟨o,e,_⟩:=T.obj 0 _ st2 b hb
  exact Heap.lt_size e
 have celllt:∀ x c,X.env.cells.lookup x=some c→c < s₂.heap.objs.size:=fun x c e=>by
  obtain ⟨v,q⟩:=I2.cell x c e
  exact q.lt
 have locl:X.env.locals < s₂.heap.objs.size:=I2.lt
 generalize hD:s₂.heap.objs.size=D at *
 generalize hCC:G2.objs.size=C at *
 have hDltC:D < C:=by omega
 have noF:∀ b,b ∈ frs X.stack→b < D:=fun b hb=>by
  rcases List.mem_cons.mp (I2.stkSub b hb) with e | hb
  ·rw [e]; exact locl
  ·obtain ⟨_,o,ho,_⟩:=I2.ok.funs.mem hb
   exact Nat.lt_of_lt_of_le (Heap.lt_size ho) (hD ▸ I2.sz)
 have fpF:∀ b ∈ fp,b ∉ frs X.stack:=fun b hb z=>by
  obtain ⟨_,e1,e2,_⟩:=f2 b hb
  rcases List.mem_cons.mp (I2.stkSub b z) with e | z
  ·exact e1 e
  ·exact e2 z
 have ok':(X.blk (own++caps) { s₂ with heap:=G2 } H1 scope cl C (D :: fp)).Ok:={
  mod:=I2.ok.mod
  kind:=L.kind
  glob:=I2.ok.glob
  blt:=I2.ok.blt
  above:=Nat.le_of_eq hCC
  inj:=fun x y c e1 e2=>I2.ok.inj x y c (L.allc.get e1) (L.allc.get e2)
  has:=fun x hx=>by
   have hm:=relabel_free L.cell hx
   have q:=List.all_eq_true.mp L.free _ hm
   have q':(cl.lookup x).isSome=true:=by simpa using q
   exact Option.isSome_iff_exists.mp q'
  cab:=fun x c e=>nomatch e
  hd:=I2.ok.hd
  frames:=I2.ok.frames
  stk:=.inl rfl
  exf:=fun b hb=>by
   rcases List.mem_cons.mp hb with rfl | hb
   ·exact ⟨Nat.ne_of_lt hDltC,fun x c e=>Nat.ne_of_lt (celllt x c (L.allc.get e))⟩
   ·obtain ⟨_,e1,e2,_,e4,_⟩:=f2 b hb
    exact ⟨Nat.ne_of_lt (Nat.lt_trans (fpl b hb) hDltC),fun x c e=>e4 x c (L.allc.get e)⟩
  bs:=fun b o e=>⟨up2 b o (I2.bs b o e).1,(I2.bs b o e).2⟩
  bsz:=by
   show X.base.objs.size≤G2.objs.size
   have:=I2.ok.bsz
   have:=I2.sz
   omega
  noex:=fun b o e hb=>by
   have hlt:=Heap.lt_size (I2.bs b o e).1
   rcases List.mem_cons.mp hb with z | hb
   ·exact absurd (show b < D from hD ▸ hlt) (by rw [z]; exact Nat.lt_irrefl _)
   ·obtain ⟨_,_,_,e3,_⟩:=f2 b hb
    rcases e3 with e3 | e3
    ·exact I2.ok.noex b o e e3
    ·exact absurd (Nat.lt_of_lt_of_le (Heap.lt_size (I2.ok.bs b o e).1) e3) (Nat.lt_irrefl _)
  exfs:=fun b hb z=>by
   rcases List.mem_cons.mp hb with e | hb
   ·exact absurd (noF b z) (by rw [e]; exact Nat.lt_irrefl _)
   ·exact fpF b hb z
  funs:=I3.stack
  frf:=I3.stkFree }
 have hns:h₁.Ns C (fun x=>([] : List (Str × Value)).reverse.lookup x):=hns₁
 have start:Inv (X.blk (own++caps) { s₂ with heap:=G2 } H1 scope cl C (D :: fp)) [(D,LCg.lst [])] (List.replicate own.length none++capv σ js) H1 { s₂ with heap:=h₁,toks:=s₂.toks+([] : List (Str × Value)).length }:=by
  refine ⟨ok',rfl,I2.bare,Un.kept up3,⟨_,hns,fun i x v e1 e2 e3=>?_⟩,fun x c e=>?_,CH,fun x c e=>I2.freeC x c (L.allc.get e),fun p hp=>?_,I3.hok.kept up3,?_⟩
  ·have hlo:own.length≤i:=by
    refine Nat.le_of_not_lt fun hlt=>?_
    rw [List.getElem?_append_left (by rw [List.length_replicate]; exact hlt),List.getElem?_replicate,if_pos hlt] at e2
    cases e2
   have e1':caps[i - own.length]? = some x:=by rw [← List.getElem?_append_right hlo]; exact e1
   obtain ⟨j,j1,j2,j3,j4,j5⟩:=L.cap.get e1'
   have e2':(capv σ js)[i - own.length]? = some (some v):=by
    rw [← e2,List.getElem?_append_right (by rw [List.length_replicate]; exact hlo),List.length_replicate]
   have e4:σ[j]? = some (some v):=by
    unfold capv at e2'
    rw [List.getElem?_map,j1] at e2'
    have e5:(σ[j]?).join=some v:=Option.some.inj e2'
    cases hq:σ[j]? with
    | none=>rw [hq] at e5; cases e5
    | some q=>rw [hq] at e5; exact congrArg some e5
   obtain ⟨m,hn,hl⟩:=I2.loc
   obtain ⟨u,ru,lk⟩:=hl j x v j2 e4 (.inr j3)
   refine ⟨u,ru,.inr ⟨j5,?_⟩⟩
   rcases lk with ⟨k,_⟩ | ⟨_,c,ec,o,ho,hd⟩
   ·rcases j3 with z | z <;> (rw [k] at z; cases z)
   ·obtain ⟨c',ec'⟩:=Option.isSome_iff_exists.mp j4
    have:=L.allc.get ec'
    rw [ec] at this
    cases this
    exact ⟨c,ec',o,up3 _ _ (up2 _ _ ho),hd⟩
  ·obtain ⟨v,o,ho,hd⟩:=I2.cell x c (L.allc.get e)
   exact ⟨v,o,up3 _ _ (up2 _ _ ho),hd⟩
  ·have e:p=(D,LCg.lst []):=by simpa using hp
   subst e
   exact ⟨up3 _ _ hD2,DH,Nat.ne_of_lt hDltC,fun z=>absurd (noF D z) (Nat.lt_irrefl _),fun v z=>by cases z⟩
  ·rw [List.length_append,List.length_append,List.length_replicate]
   unfold capv
   rw [List.length_map,L.cap.len]
 obtain ⟨W,⟨m0,w0⟩,turn⟩:=G
 have loop:codeAny (model X.prog X.w) X.A (.compLoop (.ListComp elt [⟨target,iter,ifs,0⟩] scope pos) 0 (.ref it) (.ref D) (compEnvC scope cl C X.env)) (RR (.ref D) C) { s₂ with heap:=h₁,toks:=s₂.toks+([] : List (Str × Value)).length }:=by
  refine compLoop_any (fun n s'=>∃ i ys its ow H',Inv (X.blk (own++caps) { s₂ with heap:=G2 } H1 scope cl C (D :: fp)) [(D,LCg.lst its)] (ow++capv σ js) H' s'∧ow.length=own.length∧tn i s'.heap∧(∀ b ∈ fp,H' b=none)∧Vals ys its∧ys.length≤sizeLine∧W i n ys H') ?_ m0
   ⟨0,[],[],List.replicate own.length none,H1,start,List.length_replicate,T.keep _ _ _ st2 fun b _ o e=>up3 _ _ (up2 _ _ e),fun b hb=>(f2 b hb).1,.nil,Nat.zero_le _,w0⟩
  rintro n s' ⟨i,ys,its,ow,H',I',hlo,st,fr,hv,hz,wv⟩
  have fpok:∀ {H'':Hp},(∀ b ∈ fp,H'' b=none)→∀ b ∈ fp,FpOk (X.blk (own++caps) { s₂ with heap:=G2 } H1 scope cl C (D :: fp)) [(D,LCg.lst its)] H'' b:=fun hn b hb=>by
   obtain ⟨_,e1,e2,e3,e4,e5⟩:=f2 b hb
   refine ⟨hn b hb,Nat.ne_of_lt (Nat.lt_trans (fpl b hb) hDltC),fpF b hb,.inl (List.mem_cons_of_mem _ hb),fun x c e=>e4 x c (L.allc.get e),fun p hp=>?_⟩
   have e:p=(D,LCg.lst its):=by simpa using hp
   subst e
   exact Nat.ne_of_gt (fpl b hb)
  rcases turn i n ys H' wv with ⟨stop,fin⟩ | ⟨go,hlt,N,hN,step⟩
  ·refine wpAny_mono (T.done (X.blk (own++caps) { s₂ with heap:=G2 } H1 scope cl C (D :: fp)) rfl rfl rfl hc i _ s' _ H' (fun _ _=>False) I' (fpok fr) st stop) (fun r s4 ⟨hr,I4⟩=>?_) fun _ _ f=>f
   subst hr
   have pD:=I4.pin (D,LCg.lst its) (by simp)
   have hch:∀ b ∈ D :: fp,(b ∈ X.ex∨X.s₀.heap.objs.size≤b)∧b≠X.env.locals∧(∀ x c,X.env.cells.lookup x=some c→c≠b)∧∀ p ∈ X.pn++pins,p.1≠b:=fun b hb=>by
    rcases List.mem_cons.mp hb with rfl | hb
    ·exact ⟨.inr (hD ▸ I2.sz),Nat.ne_of_gt locl,fun x c e=>Nat.ne_of_lt (celllt x c e),fun p hp=>Nat.ne_of_lt (hD ▸ Heap.lt_size (I2.pin p hp).1)⟩
    ·obtain ⟨_,e1,e2,e3,e4,e5⟩:=f2 b hb
     exact ⟨e3,e1,e4,e5⟩
   have IX:Inv X pins σ H' s4:=I2.call' (ch:=D :: fp) I4.os ((Un.kept up2).trans I4.base) I4.hok I4.bare hch
   have cD:=hch D List.mem_cons_self
   have IA:Inv X pins σ (upd H' D (.lst ys)) s4:=IX.adopt pD.2.1 (hD ▸ I2.sz) cD.2.1 cD.2.2.1 cD.2.2.2 pD.1 hv hz
   obtain ⟨mm,hmm,_⟩:=I4.loc
   refine hRR D C H' ys s4 pD.2.1 ⟨IA,⟨mm,hmm⟩,Nat.ne_of_gt (Nat.lt_trans locl hDltC),?_,fun x c e=>Nat.ne_of_lt (Nat.lt_trans (celllt x c e) hDltC),fun p hp=>?_,?_⟩ fin
   ·have:=I2.sz
    omega
   ·exact Nat.ne_of_lt (Nat.lt_trans (show p.1 < D from hD ▸ Heap.lt_size (I2.pin p hp).1) hDltC)
   ·rw [upd_ne (Nat.ne_of_gt hDltC)]; exact I4.free
  ·refine wpAny_mono (T.item (X.blk (own++caps) { s₂ with heap:=G2 } H1 scope cl C (D :: fp)) rfl rfl rfl hc i _ s' _ H' (fun _ _=>False) I' (fpok fr) st go) (fun r s4 ⟨u,hr,h4⟩=>?_) fun _ _ f=>f
   subst hr
   refine wpAny_mono h4 (fun _ s5 ⟨x,H5,I5,r5,y5,st5,fr5⟩=>?_) fun _ _ f=>f
   have I5':=I5.pinned (fpok fr5) (T.obj _ _ st5)
   have keepT:∀ {σ8:St} {H8:Hp} {s8:Shared},Inv (X.blk (own++caps) { s₂ with heap:=G2 } H1 scope cl C (D :: fp)) ([(D,LCg.lst its)]++pinsAt fp s5.heap) σ8 H8 s8→tn (i+1) s8.heap∧∀ b ∈ fp,H8 b=none:=fun {σ8 H8 s8} I8 =>
    ⟨T.keep _ _ _ st5 fun b hb o e=>(I8.pin (b,o) (List.mem_append_right _ (List.mem_append_right _ (mem_pinsAt hb e)))).1,fun b hb=>by
     obtain ⟨o,e,d⟩:=T.obj _ _ st5 b hb
     exact (I8.pin (b,o) (List.mem_append_right _ (List.mem_append_right _ (mem_pinsAt hb e)))).2.1⟩
   refine wpAny_mono (hg _ _ _ _ _ s5 _ H5 x u _ I5' r5 (step x H5 y5 ow hlo)) (fun _ s6 ⟨σ6,H6,I6,⟨own2,hl2,e6⟩,q6⟩=>?_) fun _ _ f=>f
   subst e6
   refine wpAny_mono (ht _ _ _ _ _ s6 _ H6 _ I6 q6) (fun b s7 ⟨H7,I7,q7⟩=>?_) fun _ _ f=>f
   cases b with
   | false =>
    rw [if_neg Bool.false_ne_true]
    rw [if_neg Bool.false_ne_true] at q7
    obtain ⟨m',hm,w7⟩:=hN _ _ q7
    obtain ⟨k1,k2⟩:=keepT I7
    exact ⟨m',hm,i+1,ys,its,own2,H7,I7.unpinned,hl2,k1,k2,hv,hz,w7⟩
   | true =>
    rw [if_pos rfl]
    rw [if_pos rfl] at q7
    refine wpAny_mono (he _ _ _ _ _ s7 _ H7 _ I7 q7) (fun y s8 ⟨vy,H8,I8,r8,n8⟩=>?_) fun _ _ f=>f
    obtain ⟨m',hm,w8⟩:=hN _ _ n8
    obtain ⟨k1,k2⟩:=keepT I8
    have pD:=I8.pin (D,LCg.lst its) (by simp)
    have hyl:=hv.length
    refine append_at (hsz:=by show its.toArray.size≤sizeLine; rw [List.size_toArray]; omega) pD.1 fun h9 hs9 hD9=>?_
    have I9:Inv (X.blk (own++caps) { s₂ with heap:=G2 } H1 scope cl C (D :: fp)) [] (own2++capv σ js) H8 { s8 with heap:=h9 }:=by
     refine (I8.pins_of (pins':=[]) fun p hp=>nomatch hp).turned (t':=s8.toks) (it:=D) (fun b o hb e=>(hs9.2 b hb).trans e) pD.2.1 (Nat.ne_of_lt hDltC) (.inl List.mem_cons_self) (fun x c e=>Nat.ne_of_lt (celllt x c (L.allc.get e))) fun p hp=>?_
     simp at hp
    refine ⟨m',hm,i+1,ys++[vy],its++[y],own2,H8,I9.pins_of fun p hp=>?_,hl2,T.keep _ _ _ k1 fun b hb o e=>(hs9.2 b (Nat.ne_of_lt (fpl b hb))).trans e,k2,hv.append (.cons r8 .nil),?_,w8⟩
    ·have e:p=(D,LCg.lst (its++[y])):=by simpa using hp
     subst e
     exact ⟨hD9.trans (congrArg some (LCg.lst_snoc its y)),pD.2.1,Nat.ne_of_lt hDltC,fun z=>absurd (noF D z) (Nat.lt_irrefl _),fun v z=>by cases z⟩
    ·rw [List.length_append,List.length_singleton]; omega
 exact codeAny_compStart_list loop (T.self _ _ _ _ _ (T.keep _ _ _ st2 fun b _ o e=>up3 _ _ (up2 _ _ e)) loop)

def tLCg (wi:TI) (g:TG) (tc:TT) (te:TE) (n:Nat) (js:List Nat) : TE:=fun σ H Q=>wi σ H fun J H1=>gLC J g tc te n (capv σ js) (fun ys H=>∀ p,H p=none→Q (.ref p) (upd H p (.lst ys))) H1
variable {wi:TI}
theorem pe_lcg (hc:X.calm=true) (L:LcOk X scope cl own caps js) (hi:PI X target iter wi)
  (hg:∀ s H C ex,PG (X.blk (own++caps) s H scope cl C ex) target g) (ht:∀ s H C ex,PTs (X.blk (own++caps) s H scope cl C ex) ifs tc) (he:∀ s H C ex,PE (X.blk (own++caps) s H scope cl C ex) elt te)
  (hs:∀ x,foldedSetIterable iter X.env x=pure x:=by intro _; rfl) : PE X (.ListComp elt [⟨target,iter,ifs,0⟩] scope pos) (tLCg wi g tc te own.length js):=by
 intro pins s σ H Q I h
 rw [eval_ListComp]
 refine wpAny_comprehension_free (use:=none) rfl hs L.clos L.kind L.names (thn (hi pins s σ H _ I h) fun v s1 h1=>thn h1 fun itv s2 h2=>?_)
 obtain ⟨it,fp,tn,J,H2,e,I2,T,st2,f2,G⟩:=h2
 subst e
 refine lc_block hc L hg ht he I2 T st2 f2 G ?_
 intro D C H3 ys s' hD O fin
 obtain ⟨m,hn⟩:=O.ns
 exact ⟨m,hn,fun h' sb=>⟨.ref D,_,O.gone sb,rfl,fin D hD⟩⟩
theorem ps_lcg {k:Nat} {y:Str} {py spos:Pos} (hc:X.calm=true) (L:LcOk X scope cl own caps js) (hi:PI X target iter wi)
  (hg:∀ s H C ex,PG (X.blk (own++caps) s H scope cl C ex) target g) (ht:∀ s H C ex,PTs (X.blk (own++caps) s H scope cl C ex) ifs tc) (he:∀ s H C ex,PE (X.blk (own++caps) s H scope cl C ex) elt te)
  (hN:X.N.Nodup) (hk:X.N[k]? = some y) (hy:X.env.scope.names.lookup y=some .local)
  (hsw:swapsWith (.ListComp elt [⟨target,iter,ifs,0⟩] scope pos) (some (.Name y py)) spos.line X.env=pure true:=by rfl)
  (hs:∀ x,foldedSetIterable iter X.env x=pure x:=by intro _; rfl) : PS X (.Assign [.Name y py] (.ListComp elt [⟨target,iter,ifs,0⟩] scope pos) spos) (tAsg (tLCg wi g tc te own.length js) (gName k)):=by
 intro pins s σ H De I h
 rw [exec_Assign_Name_used _ _ _ _ hsw]
 refine wpAny_bind (wpAny_standAt (wpAny_bind ?_))
 show wpAny _ _ (do let _ ← comprehension (.ListComp elt [⟨target,iter,ifs,0⟩] scope pos) scope X.env _ (newList []) false (eval iter X.env) (some (assign (.Name y py) X.env))) _ _ s
 refine wpAny_bind (wpAny_mono (wpAny_comprehension_free (use:=some (assign (.Name y py) X.env)) (Q:=fun _ s'=>SP X pins De .next s') rfl hs L.clos L.kind L.names
  (thn (hi pins s σ H _ I h) fun v s1 h1=>thn h1 fun itv s2 h2=>?_)) (fun _ s' hq=>wpAny_pure (wpAny_pure hq)) fun _ _ e=>e)
 obtain ⟨it,fp,tn,J,H2,e,I2,T,st2,f2,G⟩:=h2
 subst e
 refine lc_block hc L hg ht he I2 T st2 f2 G ?_
 intro D C H3 ys s' hD O fin
 show wpAny _ _ (assign (.Name y py) X.env (.ref D)) _ _ _
 refine wpAny_assign_Name (store_ok2 O.inv hN hk (.inl hy) (show RelV (.ref D) (.ref D) from rfl) (fun s'' I'' sb=>?_) (.inr hy))
 obtain ⟨a,hsb,ha⟩:=sb
 have hne:C≠a:=by
  rcases ha with rfl | ha
  ·exact O.nL
  ·exact Ne.symm (O.nc _ _ ha)
 obtain ⟨m,hn⟩:=O.ns
 refine ⟨m,hn.sameBut hsb hne,fun h' sb'=>⟨_,_,?_,fin D hD⟩⟩
 exact I''.turned (t':=s''.toks) (it:=C) (fun b o hb e=>(sb'.2 b hb).trans e) O.free O.nL (.inr O.new) O.nc O.np
end

section
variable {X:Cx} {elt iter:Expr} {ifs:List Expr} {scope:Scope} {cl:List (Str × Addr)} {pos:Pos} {caps:List Str} {js:List Nat} {tc:TT} {te:TE} {wi:TI} {x:Str} {px:Pos}
theorem gLC1 {J:It} {cv:St} {Fin:List V→Hp→Prop} {H1:Hp} (h:∃ W:Nat→Nat→List V→Hp→Prop,(∃ m,W 0 m [] H1)∧∀ i m ys H,W i m ys H →
  (J.stop i H∧Fin ys H) ∨
  (J.go i H∧ys.length < sizeLine∧∃ N:List V→Hp→Prop,(∀ ys' H',N ys' H'→∃ m',m' < m∧W (i+1) m' ys' H')∧∀ x H',J.yld i H x H' →
   tc (some x :: cv) H' fun b H3=>if b=true then te (some x :: cv) H3 fun y H4=>N (ys++[y]) H4 else N ys H3)) : gLC J (gName 0) tc te 1 cv Fin H1:=by
 obtain ⟨W,w0,turn⟩:=h
 refine ⟨W,w0,fun i m ys H w=>?_⟩
 rcases turn i m ys H w with ⟨a,b⟩ | ⟨a,b,N,hN,c⟩
 ·exact .inl ⟨a,b⟩
 ·refine .inr ⟨a,b,N,hN,fun v H' y own ho=>?_⟩
  match own,ho with
  | [τ],_=>exact ⟨⟨[some v],rfl,rfl⟩,c v H' y⟩
def tLC (wi:TI) (tc:TT) (te:TE) (js:List Nat) : TE:=tLCg wi (gName 0) tc te 1 js
theorem pe_lc (hc:X.calm=true) (L:LcOk X scope cl [x] caps js) (hi:PI X (.Name x px) iter wi)
  (ht:∀ s H C ex,PTs (X.blk (x :: caps) s H scope cl C ex) ifs tc) (he:∀ s H C ex,PE (X.blk (x :: caps) s H scope cl C ex) elt te)
  (hN:(x :: caps).Nodup:=by decide +kernel) (hx:(relabel scope X.env).names.lookup x=some .local:=by with_unfolding_all rfl)
  (hs:∀ x,foldedSetIterable iter X.env x=pure x:=by intro _; rfl) : PE X (.ListComp elt [⟨.Name x px,iter,ifs,0⟩] scope pos) (tLC wi tc te js):=
 pe_lcg (own:=[x]) (g:=gName 0) hc L hi (fun s H C ex=>pg_name (i:=0) hN rfl (.inl hx) (.inr hx)) ht he hs
theorem ps_lc {k:Nat} {y:Str} {py spos:Pos} (hc:X.calm=true) (L:LcOk X scope cl [x] caps js) (hi:PI X (.Name x px) iter wi)
  (ht:∀ s H C ex,PTs (X.blk (x :: caps) s H scope cl C ex) ifs tc) (he:∀ s H C ex,PE (X.blk (x :: caps) s H scope cl C ex) elt te)
  (hXN:X.N.Nodup) (hk:X.N[k]? = some y) (hy:X.env.scope.names.lookup y=some .local) (hN:(x :: caps).Nodup:=by decide +kernel) (hx:(relabel scope X.env).names.lookup x=some .local:=by with_unfolding_all rfl)
  (hsw:swapsWith (.ListComp elt [⟨.Name x px,iter,ifs,0⟩] scope pos) (some (.Name y py)) spos.line X.env=pure true:=by rfl)
  (hs:∀ x,foldedSetIterable iter X.env x=pure x:=by intro _; rfl) : PS X (.Assign [.Name y py] (.ListComp elt [⟨.Name x px,iter,ifs,0⟩] scope pos) spos) (tAsg (tLC wi tc te js) (gName k)):=
 ps_lcg (own:=[x]) (g:=gName 0) hc L hi (fun s H C ex=>pg_name (i:=0) hN rfl (.inl hx) (.inr hx)) ht he hXN hk hy hsw hs
theorem lc_list {K:PySem.W.Frag} {a:Addr} {xs:List V} {cv:St} {Fin:List V→Hp→Prop} {H1:Hp} (Pv:Nat→List V→Hp→Prop) (h0:Pv 0 [] H1) (hl:∀ i ys H,i≤xs.length→Pv i ys H→SqL K H a xs) (hz:∀ i ys H,i < xs.length→Pv i ys H→ys.length < sizeLine)
  (hs:∀ i x ys H,xs[i]? = some x→Pv i ys H→tc (some x :: cv) H fun b H3=>if b=true then te (some x :: cv) H3 fun y H4=>Pv (i+1) (ys++[y]) H4 else Pv (i+1) ys H3)
  (hd:∀ ys H,Pv xs.length ys H→Fin ys H) : gLC (Itl K a) (gName 0) tc te 1 cv Fin H1:=by
 refine gLC1 ⟨fun i m ys H=>m=xs.length - i∧i≤xs.length∧Pv i ys H,⟨xs.length,by simp,Nat.zero_le _,h0⟩,?_⟩
 rintro i m ys H ⟨rfl,hi,p⟩
 have q:=hl i ys H hi p
 by_cases hlt:i < xs.length
 ·refine .inr ⟨⟨xs,xs[i],q,by simp [hlt]⟩,hz i ys H hlt p,Pv (i+1),fun ys' H' p'=>⟨xs.length - (i+1),by omega,rfl,hlt,p'⟩,fun v H' y=>?_⟩
  obtain ⟨e,y⟩:=y
  subst e
  exact hs i v ys _ (y xs q) p
 ·have e:i=xs.length:=by omega
  subst e
  exact .inl ⟨⟨xs,q,Nat.le_refl _⟩,hd ys H p⟩
theorem lc_range {lo:Int} {n:Nat} {cv:St} {Fin:List V→Hp→Prop} {H1:Hp} (Pv:Nat→List V→Hp→Prop) (h0:Pv 0 [] H1) (hz:∀ i ys H,i < n→Pv i ys H→ys.length < sizeLine)
  (hs:∀ i ys H,i < n→Pv i ys H→tc (some (.int (lo+i)) :: cv) H fun b H3=>if b=true then te (some (.int (lo+i)) :: cv) H3 fun y H4=>Pv (i+1) (ys++[y]) H4 else Pv (i+1) ys H3)
  (hd:∀ ys H,Pv n ys H→Fin ys H) : gLC (Itr lo n) (gName 0) tc te 1 cv Fin H1:=by
 refine gLC1 ⟨fun i m ys H=>m=n - i∧i≤n∧Pv i ys H,⟨n,by simp,Nat.zero_le _,h0⟩,?_⟩
 rintro i m ys H ⟨rfl,hi,p⟩
 by_cases hlt:i < n
 ·refine .inr ⟨hlt,hz i ys H hlt p,Pv (i+1),fun ys' H' p'=>⟨n - (i+1),by omega,rfl,hlt,p'⟩,fun v H' y=>?_⟩
  obtain ⟨e,y⟩:=y
  subst e y
  exact hs i ys _ hlt p
 ·have e:i=n:=by omega
  subst e
  exact .inl ⟨Nat.le_refl _,hd ys H p⟩
end

theorem yes_go {A B:Hp→Prop} {σ:St} {H:Hp} (h:A H) : tYes σ H (fun b H3=>if b=true then A H3 else B H3):=by
 show if true=true then A H else B H
 rw [if_pos rfl]
 exact h
section
variable {X:Cx} {tg:Expr}
end
section
variable {X:Cx}
theorem partOf {v:Value} {o:Option Int} (p:IsPart v o) : ∃ l:Option (Int × Tok),v=partValue l∧o=l.map (·.1):=by
 cases p with
 | none=>exact ⟨none,rfl,rfl⟩
 | int i t=>exact ⟨some (i,t),rfl,rfl⟩
theorem sl_str:SlR X (fun x lo hi H Q=>∃ z,x = .str z∧z.length≤sizeLine∧Q (.str (Txt.slice z lo hi)) H):=by
 intro pins s σ H x v vl vu lo hi sl Q I r hs pl pu h
 obtain ⟨z,rfl,hz,q⟩:=h
 obtain ⟨t,rfl⟩:=r
 obtain ⟨l,rfl,rfl⟩:=partOf pl
 obtain ⟨u,rfl,rfl⟩:=partOf pu
 exact ⟨"str",_,F.slot_str_getitem.lookup,typeIs_str _ _ _,wpAny_getItem_str_slice (l:=l) (u:=u) (st:=none) hs rfl
  (post_val_or_str ⟨Nat.le_trans (Txt.slice_le z _ _) hz,fun t' k=>⟨.str (Txt.slice z _ _),H,I.tok k,⟨t',rfl⟩,q⟩⟩)⟩
theorem strsAre_of {ys:List Str} : ∀ {us:List Value},Vals (ys.map V.str) us→StrsAre us ys:=by
 induction ys with
 | nil=>intro us h; cases h; exact .nil
 | cons y ys ih =>
  intro us h
  cases h with
  | cons r t =>
   obtain ⟨tk,rfl⟩:=r
   exact .cons y tk (ih t)
theorem mt_join:MtR X "str.join" (fun x xs H Q=>∃ sep a ys,x = .str sep∧xs=[.ref a]∧SqL X.K H a (ys.map V.str)∧sep.length≤16∧(ys.map (·.length)).sum+ys.length≤1048576∧Q (.str (Txt.join sep ys)) H):=by
 intro pins s σ H x xs v us Q I rx r h
 obtain ⟨sep,a,ys,rfl,rfl,hS,h1,h2,q⟩:=h
 obtain ⟨t,rfl⟩:=rx
 obtain ⟨w',rfl,rfl⟩:=vals1 r
 obtain ⟨its,rv,p,hz⟩:=I.list hS
 exact join_listW p.isList (strsAre_of (by simpa using rv)) h1 h2 fun t' k=>⟨.str _,H,I.tok k,⟨t',rfl⟩,q⟩
theorem mt_find:MtR X "str.find" (fun x xs H Q=>∃ z y,x = .str z∧xs=[.str y]∧Q (.int (Txt.find z y)) H):=by
 intro pins s σ H x xs v us Q I rx r h
 obtain ⟨z,y,rfl,rfl,q⟩:=h
 obtain ⟨t,rfl⟩:=rx
 obtain ⟨w',rfl,u,rfl⟩:=vals1 r
 exact SC.find ⟨.int _,H,I.tok _,⟨_,rfl⟩,q⟩
end
end L2

namespace Tl
open PySem PySem.Builtin PySem.Builtin.Str L2

abbrev tx (l:List Nat) : Str:=⟨l.toArray⟩
theorem tx_app (a b:List Nat) : tx a++tx b=tx (a++b):=by
 show (⟨a.toArray++b.toArray⟩ : Str)=⟨(a++b).toArray⟩
 rw [List.append_toArray]
theorem tx_len (l:List Nat) : (tx l).length=l.length:=by show l.toArray.size=_; simp
theorem tx_inj {a b:List Nat} (h:tx a=tx b) : a=b:=by
 have e:a.toArray=b.toArray:=congrArg Str.cps h
 have e2:=congrArg Array.toList e
 simpa using e2
def cutL {α:Type} (l:List α) (lo hi:Option Int) : List α:=(l.drop (HT.sIx l.length 0 lo)).take (HT.sIx l.length l.length hi - HT.sIx l.length 0 lo)
theorem clip_eq (n d:Nat) (i:Int) : max 0 (min (if i < 0 then i+(n:Int) else i) (n:Int))=((HT.sIx n d (some i) : Nat) : Int):=by
 show _=(((if i < 0 then (i+(n:Int)).toNat else min i.toNat n) : Nat) : Int)
 by_cases h:i < 0
 ·rw [if_pos h,if_pos h]; omega
 ·rw [if_neg h,if_neg h]; omega
theorem idx_range (lo hi:Option Int) (n:Nat) : strSliceIndices lo hi 1 n=sliceRange ((HT.sIx n 0 lo:Nat) : Int) ((HT.sIx n n hi:Nat) : Int) 1:=by
 cases lo with
 | none =>
  cases hi with
  | none=>rfl
  | some j=>exact congrArg (fun z=>sliceRange 0 z 1) (clip_eq n n j)
 | some i =>
  cases hi with
  | none=>exact congrArg (fun z=>sliceRange z (n:Int) 1) (clip_eq n 0 i)
  | some j =>
   have a:=clip_eq n 0 i
   have b:=clip_eq n n j
   show sliceRange (max 0 (min (if i < 0 then i+(n:Int) else i) (n:Int))) (max 0 (min (if j < 0 then j+(n:Int) else j) (n:Int))) 1=_
   rw [a,b]
theorem slice_tx (l:List Nat) (lo hi:Option Int) : Txt.slice (tx l) lo hi=tx (cutL l lo hi):=by
 have h1:=HT.sIx_le l.length 0 (Nat.zero_le _) lo
 have h2:=HT.sIx_le l.length l.length (Nat.le_refl _) hi
 have ei:strSliceIndices lo hi 1 l.length=strSliceIndices (some ((HT.sIx l.length 0 lo:Nat) : Int)) (some ((HT.sIx l.length l.length hi:Nat) : Int)) 1 l.length:=by
  rw [idx_range lo hi,idx_range (some _) (some _),HT.sIx_nat,HT.sIx_nat,Nat.min_eq_left h1,Nat.min_eq_left h2]
 have e:Txt.slice (tx l) lo hi=StrLaws.sliceText (tx l) (some ((HT.sIx l.length 0 lo:Nat) : Int)) (some ((HT.sIx l.length l.length hi:Nat) : Int)):=by
  unfold Txt.slice StrLaws.sliceText
  rw [tx_len,ei]
 by_cases hab:HT.sIx l.length 0 lo≤HT.sIx l.length l.length hi
 ·rw [e,StrLaws.sliceText_nat (tx l) hab (by rw [tx_len]; exact h2)]
  rfl
 ·have e0:strSliceIndices lo hi 1 (tx l).length=[]:=by
   rw [tx_len,idx_range]
   unfold sliceRange
   simp only [show (1:Int) > 0 by decide,if_true]
   rw [if_neg (by omega)]
   rfl
  unfold Txt.slice
  rw [e0]
  have hne:¬ (((1:Int) == 1 && ([] : List Nat).length == (tx l).length)=true):=by
   rw [tx_len]
   intro h
   have:0=l.length:=by simpa using h
   omega
  rw [if_neg hne]
  unfold cutL
  rw [Nat.sub_eq_zero_of_le (by omega),List.take_zero]
  rfl
theorem cut_to {α:Type} (l:List α) (j:Nat) : cutL l none (some (j:Int))=l.take j:=by
 unfold cutL
 rw [HT.sIx_none,HT.sIx_nat,List.drop_zero,Nat.sub_zero]
 by_cases h:j≤l.length
 ·rw [Nat.min_eq_left h]
 ·rw [Nat.min_eq_right (by omega),List.take_of_length_le (Nat.le_refl _),List.take_of_length_le (by omega)]
def joinL (sep:List Nat) : List (List Nat)→List Nat
 | []=>[]
 | [x]=>x
 | x :: y :: r=>x++sep++joinL sep (y :: r)
theorem join_tx (sep:List Nat) : ∀ ps:List (List Nat),Txt.join (tx sep) (ps.map tx)=tx (joinL sep ps):=by
 have go:∀ ps:List (List Nat),Str.join (tx sep) (ps.map tx)=tx (joinL sep ps):=by
  intro ps
  induction ps with
  | nil=>rfl
  | cons x r ih =>
   cases r with
   | nil=>rfl
   | cons y r =>
    show tx x++tx sep++Str.join (tx sep) (tx y :: r.map tx)=_
    rw [show Str.join (tx sep) (tx y :: r.map tx)=tx (joinL sep (y :: r)) from ih,tx_app,tx_app]
    rfl
 intro ps
 show glued (tx sep) (ps.map tx)=_
 rw [StrLaws.glued_eq_join]
 exact go ps
theorem in_tx (l:List Nat) (c:Nat) : (!(occurrences (tx l) ⟨#[c]⟩ 0 (tx l).length 1).isEmpty)=decide (c ∈ l):=by
 have:=StrLaws.found_one (tx l) c
 rw [this]
end Tl

namespace L2
open PySem PySem.Spec PyProof.Rows

def isiV (K:PySem.W.Frag) (T:String) (x:V) (H:Hp) (b:Bool) : Prop:=match x with
 | .non=>b=false
 | .bl _=>b=(T == "bool" || T == "int")
 | .int _=>b=(T == "int")
 | .str _=>b=(T == "str")
 | .ref p=>((∃ xs,SqL K H p xs)∧b=(T == "list"))∨((∃ xs,SqT K H p xs)∧b=(T == "tuple"))
 | _=>False
section
variable {X:Cx}
theorem call_isi:CallR X (.builtin "isinstance") (fun xs H Q=>∃ x T b,xs=[x,.ty T]∧(T = "bool"∨T = "int"∨T = "str"∨T = "tuple"∨T = "list")∧isiV X.K T x H b∧Q (.bl b) H):=by
 intro pins s σ H xs us Q I r h
 obtain ⟨x,T,b,rfl,hT,hv,q⟩:=h
 obtain ⟨u,w',rfl,r1,r2⟩:=vals2 r
 cases r2
 have no:b=false→EP X pins σ Q (.bool false) { s with toks:=s.toks+1 }:=fun e=>⟨.bl false,H,I.tok _,rfl,e ▸ q⟩
 have yes:b=true→EP X pins σ Q (.bool true) s:=fun e=>⟨.bl true,H,I,rfl,e ▸ q⟩
 cases x with
 | non =>
  cases r1
  have hv':b=false:=hv
  rcases hT with rfl | rfl | rfl | rfl | rfl
  ·exact IsiPair.NoneType_bool (no hv')
  ·exact IsiPair.NoneType_int (no hv')
  ·exact IsiPair.NoneType_str (no hv')
  ·exact IsiPair.NoneType_tuple (no hv')
  ·exact IsiPair.NoneType_list (no hv')
 | bl c =>
  cases r1
  rcases hT with rfl | rfl | rfl | rfl | rfl
  ·exact IsiPair.bool_bool (yes (hv.trans (by decide)))
  ·exact IsiPair.bool_int (yes (hv.trans (by decide)))
  ·exact IsiPair.bool_str (no (hv.trans (by decide)))
  ·exact IsiPair.bool_tuple (no (hv.trans (by decide)))
  ·exact IsiPair.bool_list (no (hv.trans (by decide)))
 | int c =>
  obtain ⟨t,rfl⟩:=r1
  rcases hT with rfl | rfl | rfl | rfl | rfl
  ·exact IsiPair.int_bool (no (hv.trans (by decide)))
  ·exact IsiPair.int_int (yes (hv.trans (by decide)))
  ·exact IsiPair.int_str (no (hv.trans (by decide)))
  ·exact IsiPair.int_tuple (no (hv.trans (by decide)))
  ·exact IsiPair.int_list (no (hv.trans (by decide)))
 | str c =>
  obtain ⟨t,rfl⟩:=r1
  rcases hT with rfl | rfl | rfl | rfl | rfl
  ·exact IsiPair.str_bool (no (hv.trans (by decide)))
  ·exact IsiPair.str_int (no (hv.trans (by decide)))
  ·exact IsiPair.str_str (yes (hv.trans (by decide)))
  ·exact IsiPair.str_tuple (no (hv.trans (by decide)))
  ·exact IsiPair.str_list (no (hv.trans (by decide)))
 | ref p =>
  cases r1
  rcases hv with ⟨⟨xs,hq⟩,hb⟩ | ⟨⟨xs,hq⟩,hb⟩
  ·obtain ⟨its,_,p',_⟩:=I.list hq
   obtain ⟨o,n,e,c,_⟩:=p'
   rcases hT with rfl | rfl | rfl | rfl | rfl
   ·exact IsiPair.list_bool e c (no (hb.trans (by decide)))
   ·exact IsiPair.list_int e c (no (hb.trans (by decide)))
   ·exact IsiPair.list_str e c (no (hb.trans (by decide)))
   ·exact IsiPair.list_tuple e c (no (hb.trans (by decide)))
   ·exact IsiPair.list_list e c (yes (hb.trans (by decide)))
  ·obtain ⟨its,_,p',_⟩:=I.tuple hq
   obtain ⟨o,e,c,_⟩:=p'
   rcases hT with rfl | rfl | rfl | rfl | rfl
   ·exact IsiPair.tuple_bool e c (no (hb.trans (by decide)))
   ·exact IsiPair.tuple_int e c (no (hb.trans (by decide)))
   ·exact IsiPair.tuple_str e c (no (hb.trans (by decide)))
   ·exact IsiPair.tuple_tuple e c (yes (hb.trans (by decide)))
   ·exact IsiPair.tuple_list e c (no (hb.trans (by decide)))
 | byt c=>exact hv.elim
 | flt c=>exact hv.elim
 | ty c=>exact hv.elim
end

section
variable {X:Cx}
end
structure DefOk (K:PySem.W.Frag) (mg:Str→Option Value) (x:Str) (st:Stmt) (ps:List Str) (f:Addr) (fd:FuncData) : Prop where
 fn:Fun K x x st f fd
 bd:Binds K fd ps []
 mg:mg x=some (.ref f)
 ba:∀ us:List Value,us.length=ps.length→bindArgs fd ⟨us,[]⟩=pure (ps.zip us)
section
variable {X:Cx} {x:Str} {st:Stmt} {ps:List Str} {f:Addr} {fd:FuncData} {k:Nat} {sp:Sp} {e:Expr} {es:List Expr} {t:TA} {p pos:Pos}
theorem pe_callD (D:DefOk X.K X.mg x st ps f fd) (G:FnOk X.prog X.w X.K X.mg X.base CX0 k f fd ps sp) (hr:Room k X.A) (hg:Gl X x) (ha:PA X (e :: es) t) (hd:(x == ("__debug__" : Str))=false:=by decide)
  (he:starEach (e :: es) X.env=(false,eval e X.env) :: starEach es X.env:=by rfl) (hpl:(backTo pos (starEach es X.env)).any (·.1)=false:=by rfl) : PE X (.Call (.Name x p) (e :: es) [] pos) (tCall sp [] E0 t):=pe_call G hr hg D.mg D.fn.kp D.bd .nil pass0 ha hd he hpl
theorem defok_mk {K:PySem.W.Frag} {h:Heap} {mg:Str→Option Value} (KX:K.In h) (G:h.Ns mainGlobals mg) {od an:Option Addr} {sl:Array (Option Value)} {oc kV dc pm cd ct:Value} (a:PySem.W.nsIn K mainGlobals x=some (some (.ref f)))
  (l:K.lookup f=some ⟨oc,od,.func (PySem.W.fnOf x x (defArgs st) (defBody st) (defScope st) .none kV dc pm an cd ct),sl⟩) (c:PySem.W.codeIn K cd x=true) (k:PySem.W.keepIn K (.ref f)=true)
  (b:∀ (kV doc pm:Value) (an:Option Addr) (cdv ct:Value) (us:List Value),us.length=ps.length→bindArgs (PySem.W.fnOf x x (defArgs st) (defBody st) (defScope st) .none kV doc pm an cdv ct) ⟨us,[]⟩=pure (ps.zip us)) :
  DefOk K mg x st ps f (PySem.W.fnOf x x (defArgs st) (defBody st) (defScope st) .none kV dc pm an cd ct):=
 ⟨fun_mk l c k,(fun_mk l c k).binds b,PySem.W.mg_of KX G a,fun us hl=>b _ _ _ _ _ _ us hl⟩
end

theorem cut_seq {t u:TS} {D:Ends} {σ:St} {H:Hp} (Mid:St→Hp→Prop) (h2:∀ σ' H',Mid σ' H'→u D σ' H') (h1:(∀ σ' H',Mid σ' H'→u D σ' H')→t { D with nx:=u D } σ H) : tSeq t u D σ H:=h1 h2

def eqVs:List V→List V→Bool
 | [],[]=>true
 | a :: r,b :: s=>eqV a b && eqVs r s
 | _,_=>false
theorem eqVs_len:∀ {xs ys:List V},xs.length≠ys.length→eqVs xs ys=false
 | [],[],h=>absurd rfl h
 | [],_ :: _,_=>rfl
 | _ :: _,[],_=>rfl
 | a :: r,b :: s,h=>by
  show (eqV a b && eqVs r s)=false
  rw [eqVs_len (xs:=r) (ys:=s) (fun e=>h (by rw [List.length_cons,List.length_cons,e])),Bool.and_false]
theorem eqVs_range:∀ {xs ys:List V},xs.length=ys.length→(List.range xs.length).all (fun j=>eqV ((xs[j]?).getD .non) ((ys[j]?).getD .non))=eqVs xs ys
 | [],[],_=>rfl
 | [],_ :: _,h=>by simp at h
 | _ :: _,[],h=>by simp at h
 | a :: r,b :: s,h=>by
  have ih:=eqVs_range (xs:=r) (ys:=s) (by simpa using h)
  rw [List.length_cons,List.range_succ_eq_map,List.all_cons,List.all_map]
  show (eqV a b && _)=(eqV a b && eqVs r s)
  rw [← ih]
  rfl
theorem eqV_refl:∀ {x:V},flatV x=true→eqV x x=true:=by
 intro x f
 cases x with
 | non=>rfl
 | bl b=>show (b == b)=true; simp
 | int i=>show (i == i)=true; simp
 | str s=>show (s == s)=true; simp
 | _=>exact absurd (show false=true from f) Bool.false_ne_true
section
variable {X:Cx}
theorem flat_get {xs:List V} (f:xs.all flatV=true) {j:Nat} {x:V} (h:xs[j]? = some x) : flatV x=true:=List.all_eq_true.mp f x (List.mem_of_getElem? h)
theorem items_eq {A:Around} {s:Shared} {xs ys:List V} {its its2:List Value} (r:Vals xs its) (r2:Vals ys its2) (fx:xs.all flatV=true) (fy:ys.all flatV=true) (j:Nat) (h1:j < its.toArray.size) (h2:j < its2.toArray.size) :
  SeqAt.EqAt A s its.toArray[j] its2.toArray[j] (eqV ((xs[j]?).getD .non) ((ys[j]?).getD .non)):=by
 have l1:=r.length
 have l2:=r2.length
 have h1':j < its.length:=by simpa using h1
 have h2':j < its2.length:=by simpa using h2
 have e1:xs[j]? = some xs[j]:=List.getElem?_eq_getElem (by omega)
 have e2:ys[j]? = some ys[j]:=List.getElem?_eq_getElem (by omega)
 obtain ⟨u,hu,ru⟩:=r.get e1
 obtain ⟨v,hv,rv⟩:=r2.get e2
 have eu:its.toArray[j]=u:=by
  have:its[j]? = some its[j]:=List.getElem?_eq_getElem h1'
  rw [hu] at this
  simpa using this.symm
 have ev:its2.toArray[j]=v:=by
  have:its2[j]? = some its2[j]:=List.getElem?_eq_getElem h2'
  rw [hv] at this
  simpa using this.symm
 rw [eu,ev,e1,e2]
 exact eqAt_V ru rv (flat_get fx e1) (flat_get fy e2)
def rEqL (K:PySem.W.Frag) (neg:Bool) : R2:=fun x y H Q=>∃ a b xs ys,x = .ref a∧y = .ref b∧SqL K H a xs∧SqL K H b ys∧xs.all flatV=true∧ys.all flatV=true∧Q (.bl (if neg then !eqVs xs ys else eqVs xs ys)) H
theorem op_eqL (hu:X.A.units < cLine) : OpR X (compareOp .Eq) (rEqL X.K false):=by
 intro pins s σ H x y v u Q I rx ry h
 obtain ⟨a,b,xs,ys,rfl,rfl,ha,hb,fx,fy,q⟩:=h
 cases rx
 cases ry
 obtain ⟨its,r,p,z⟩:=I.list ha
 obtain ⟨its2,r2,p2,z2⟩:=I.list hb
 have l1:=r.length
 have l2:=r2.length
 by_cases hl:xs.length=ys.length
 ·refine SeqAt.eq_listAt (e:=fun j=>eqV ((xs[j]?).getD .non) ((ys[j]?).getD .non)) p.isList p2.isList (by simp; omega) hu (fun j h1 h2=>items_eq r r2 fx fy j h1 h2) ⟨.bl _,H,I,rfl,?_⟩
  have e:its.toArray.size=xs.length:=by simp; omega
  rw [e,eqVs_range hl]
  exact q
 ·refine SeqAt.eq_list_lengthsAt p.isList p2.isList (by simp; omega) hu ⟨.bl false,H,I,rfl,?_⟩
  have q':Q (.bl (eqVs xs ys)) H:=q
  rw [eqVs_len hl] at q'
  exact q'
theorem call_all (hc:X.calm=true) : CallR X (.builtin "all") (fun xs H Q=>∃ (l:Addr) (bs:List Bool),xs=[.ref l]∧SqL X.K H l (bs.map V.bl)∧Q (.bl (bs.all id)) H):=by
 intro pins s σ H xs us Q I r h
 obtain ⟨l,bs,rfl,hl,q⟩:=h
 obtain ⟨u,rfl,ru⟩:=vals1 r
 cases ru
 obtain ⟨its,rv,p,z⟩:=I.list hl
 have hlt:l < s.heap.objs.size:=by obtain ⟨_,_,e,_⟩:=p; exact Heap.lt_size e
 have len:=rv.length
 refine call_all_walk (wpAny_pyIter_list p.isList ?_)
 refine ⟨s.heap.objs.size,[s.heap.objs.size,l],[s.heap.objs.size],its.toArray.size,_,_,fun i=>(bs[i]?).getD true,rfl,Walks.list (A:=X.A.in1) (I.ok.hd hc) _ l (Nat.ne_of_lt hlt) its.toArray,
  ⟨⟨_,Heap.get?_push_size _ rfl,rfl,rfl⟩,p.isList.push _⟩,fun i v s' Q' E' hP hQ=>?_,fun h' tk hk=>?_⟩
 ·have hi:its[i]? = some v:=by simpa using hP
  have hlt2:i < bs.length:=by
   have:=(List.getElem?_eq_some_iff.mp hi).1
   rw [List.length_map] at len
   omega
  have eb:(bs.map V.bl)[i]? = some (V.bl bs[i]):=by rw [List.getElem?_map,List.getElem?_eq_getElem hlt2]; rfl
  obtain ⟨w',hw,rw'⟩:=rv.get eb
  rw [hi] at hw
  cases hw
  cases rw'
  have e2:(bs[i]?).getD true=bs[i]:=by rw [List.getElem?_eq_getElem hlt2]; rfl
  have hQ2:Q' ((bs[i]?).getD true) s':=hQ
  rw [e2] at hQ2
  exact wpAny_truthy_bool hQ2
 ·have e:((List.range its.toArray.size).all fun i=>(bs[i]?).getD true)=bs.all id:=by
   have:its.toArray.size=bs.length:=by rw [List.length_map] at len; simp; omega
   rw [this]
   exact LSm.range_all bs
  rw [e]
  exact ⟨.bl _,H,I.kept fun b x e=>hk b x (fun hm=>by rw [List.mem_singleton.mp hm] at e; exact Nat.lt_irrefl _ (Heap.lt_size e)) (Heap.get?_push_of_some _ e),rfl,q⟩

end

inductive DD where
 | bl (b:Bool)
 | int (i:Int)
 | str (s:Str)
 | tup (l:List DD)
 | lst (l:List DD)
mutual
def Rep (K:PySem.W.Frag) (H:Hp) : DD→V→Prop
 | .bl b,v=>v = .bl b
 | .int i,v=>v = .int i
 | .str s,v=>v = .str s
 | .tup l,v=>∃ a xs,v = .ref a∧SqT K H a xs∧l.length≤1000∧Reps K H l xs
 | .lst l,v=>∃ a xs,v = .ref a∧SqL K H a xs∧l.length≤1000∧Reps K H l xs
def Reps (K:PySem.W.Frag) (H:Hp) : List DD→List V→Prop
 | [],xs=>xs=[]
 | d :: l,xs=>∃ x r,xs=x :: r∧Rep K H d x∧Reps K H l r
end
theorem Reps.len {K:PySem.W.Frag} {H:Hp} : ∀ {l:List DD} {xs:List V},Reps K H l xs→xs.length=l.length
 | [],xs,h=>by
  unfold Reps at h
  rw [h]; rfl
 | d :: l,xs,h=>by
  unfold Reps at h
  obtain ⟨x,r,rfl,_,h⟩:=h
  rw [List.length_cons,List.length_cons,h.len]
theorem Reps.get {K:PySem.W.Frag} {H:Hp} : ∀ {l:List DD} {xs:List V} {i:Nat} {d:DD},Reps K H l xs→l[i]? = some d→∃ x,xs[i]? = some x∧Rep K H d x
 | [],_,_,_,_,e=>by simp at e
 | d :: l,xs,0,d',h,e=>by
  unfold Reps at h
  obtain ⟨x,r,rfl,hx,h⟩:=h
  have:d=d':=by simpa using e
  subst this
  exact ⟨x,rfl,hx⟩
 | d :: l,xs,i+1,d',h,e=>by
  unfold Reps at h
  obtain ⟨x,r,rfl,hx,h⟩:=h
  obtain ⟨y,ey,hy⟩:=h.get (i:=i) (by simpa using e)
  exact ⟨y,by simpa using ey,hy⟩
theorem Reps.strs {K:PySem.W.Frag} {H:Hp} : ∀ (l:List Str),Reps K H (l.map DD.str) (l.map V.str)
 | []=>by unfold Reps; rfl
 | s :: r=>by
  show Reps K H (DD.str s :: r.map DD.str) (V.str s :: r.map V.str)
  unfold Reps
  exact ⟨_,_,rfl,by unfold Rep; rfl,Reps.strs r⟩

section
variable {X:Cx} {o i:Expr} {pos:Pos} {td ty:TE}
end

def CXe (P:Program) (w:World) : CXT:=fun outer H s E e s' =>
 ∃ (x C:Addr) (H':Hp) (B:Heap) (a0:Value),e = .ref x∧s'.os=s.os∧AllBare s'.gens∧Un (frs outer) [] H H' s.heap s'.heap∧HOk P w H' B ∧
  (∀ b o,s.heap.get? b=some o→H b=none→b ∉ frs outer→B.get? b=some o)∧(∀ b o,s.heap.get? b=some o→b ∉ frs outer→∃ o',B.get? b=some o') ∧
  Heap.FlyingW B outer x (.ref C) a0 s'.heap∧E (.ref C) none H'
def Wish (X:Cx) (E:XK) : Prop:=∀ (pins:List (Addr × Obj)) (σ:St) (H:Hp) (s:Shared) (x C:Addr) (vs:List Value) (h':Heap),Inv X pins σ H s→Heap.MadeExcOf s.heap h' x (.ref C) vs→E (.ref C) none H→X.xe (.ref x) { s with heap:=h' }
theorem mem_frs {env:Env} {l:List Env} {b L:Addr} (hf:env.frame=some L) (h:b ∈ frs (env :: l)) : b=L∨b ∈ frs l:=by
 unfold frs at h
 rw [List.filterMap_cons,hf] at h
 exact List.mem_cons.mp h
theorem frs_all (l:List Env) : ∀ env ∈ l,∀ a,env.frame=some a→a ∈ frs l:=fun env he a hf=>List.mem_filterMap.mpr ⟨env,he,hf⟩
section
variable {P:Program} {w:World} {K:PySem.W.Frag} {mg:Str→Option Value} {base:Heap} {N:List Str} {qual:Str} {scope:Scope} {f:Addr} {cd:Value} {A:Around} {outer:List Env} {s:Shared} {H:Hp} {E:XK}
theorem wish_cx:Wish (cxOf (CXe P w) P w K mg base N qual scope f cd A outer s H E) E:=by
 intro pins σ H1 s1 x C vs h' I hx ee
 have hfr:(envOfC qual scope s.heap.objs.size f cd).frame=some (envOfC qual scope s.heap.objs.size f cd).locals:=rfl
 have hst:=I.stack
 have hfree:=I.stkFree
 have hsub:=I.stkSub
 show wpAny (model P w) (A.deeper (envOfC qual scope s.heap.objs.size f cd)) (leaving (envOfC qual scope s.heap.objs.size f cd) (.ref x)) (fun _ s''=>CXe P w outer H s E (.ref x) s'') _ _
 have hin:=frs_all (envOfC qual scope s.heap.objs.size f cd :: outer)
 have hff:s1.heap.FunFrames (PySem.W.hideAll s1.heap (frs (envOfC qual scope s.heap.objs.size f cd :: outer))) (envOfC qual scope s.heap.objs.size f cd :: outer):=PySem.W.funFrames_hide hst hin
 have notfr:∀ b,b < s.heap.objs.size→b ∉ frs outer→b ∉ frs (envOfC qual scope s.heap.objs.size f cd :: outer):=fun b hlt hb hm=>by
  rcases mem_frs hfr hm with e | hm
  ·exact absurd (Nat.lt_of_lt_of_le hlt I.ok.above) (by rw [e]; exact Nat.lt_irrefl _)
  ·exact hb hm
 refine wpAny_leaves_madeW (base:=PySem.W.hideAll s1.heap (frs (envOfC qual scope s.heap.objs.size f cd :: outer))) (h:=s1.heap) I.ok.frames hfr (fun b o q=>PySem.W.of_hideAll _ q) hff hx fun h'' t x1 x2 x3 x4=>?_
 have cov1:∀ b o,s.heap.get? b=some o→H b=none→b ∉ frs outer→(PySem.W.hideAll s1.heap (frs (envOfC qual scope s.heap.objs.size f cd :: outer))).get? b=some o:=fun b o q n hb =>
  PySem.W.hideAll_get _ (I.base.keep b o q n hb (show b ∉ ([] : List Addr) by simp)) (notfr b (Heap.lt_size q) hb)
 have cov2:∀ b o,s.heap.get? b=some o→b ∉ frs outer→∃ o',(PySem.W.hideAll s1.heap (frs (envOfC qual scope s.heap.objs.size f cd :: outer))).get? b=some o':=fun b o q hb=>by
  obtain ⟨o',e⟩:=I.base.there b o q (show b ∉ ([] : List Addr) by simp)
  exact ⟨o',PySem.W.hideAll_get _ e (notfr b (Heap.lt_size q) hb)⟩
 have slot:∀ b,b ∈ frs outer→∀ o,s1.heap.get? b=some o→∃ sl,h''.get? b=some { o with slots:=sl }:=fun b hb o q=>by
  have hm:b ∈ frs (envOfC qual scope s.heap.objs.size f cd :: outer):=by
   unfold frs
   rw [List.filterMap_cons,hfr]
   exact List.mem_cons_of_mem _ hb
  obtain ⟨_,o2,e2,nd⟩:=hff.mem hm
  rw [q] at e2
  cases e2
  exact x4 b o (hx.keeps b o q) nd
 refine ⟨x,C,H1,_,_,rfl,I.os,I.bare,⟨fun b o q n hb _=>x1.1 b o (cov1 b o q n hb),fun b o q n hb hx'=>?_,I.base.free,fun b o q _=>?_,I.base.tups,I.base.frzs,I.base.tbls⟩,fun b ob e=>?_,cov1,cov2,x1,ee⟩
 ·obtain ⟨sl,e1⟩:=I.base.slot b o q n hb hx'
  obtain ⟨sl2,e2⟩:=slot b hb _ e1
  exact ⟨sl2,e2⟩
 ·by_cases hb:b ∈ frs outer
  ·obtain ⟨o',e⟩:=I.base.there b o q (show b ∉ ([] : List Addr) by simp)
   obtain ⟨sl2,e2⟩:=slot b hb _ e
   exact ⟨_,e2⟩
  ·obtain ⟨o',e⟩:=cov2 b o q hb
   exact ⟨o',x1.1 b o' e⟩
 ·refine (I.hok b ob e).stay (fun c v hc q=>PySem.W.hideAll_get _ q fun hm=>?_) (fun _ q=>q) fun _ _ q=>q
  have z:=hfree c hm
  rcases hc with rfl | hc
  ·rw [e] at z; cases z
  ·rw [hc] at z; cases z
theorem pass_cx:Passes (CXe P w) (cxOf (CXe P w) P w K mg base N qual scope f cd A outer s H E) E:=by
 intro pins σ H1 s1 e s' I h
 obtain ⟨x,C,H',B,a0,rfl,os,bare,un,hok,cov1,cov2,fl,ee⟩:=h
 have hfr:(envOfC qual scope s.heap.objs.size f cd).frame=some (envOfC qual scope s.heap.objs.size f cd).locals:=rfl
 show wpAny (model P w) (A.deeper (envOfC qual scope s.heap.objs.size f cd)) (leaving (envOfC qual scope s.heap.objs.size f cd) (.ref x)) (fun _ s''=>CXe P w outer H s E (.ref x) s'') _ _
 have notfr:∀ b,b < s.heap.objs.size→b ∉ frs outer→b ∉ frs (envOfC qual scope s.heap.objs.size f cd :: outer):=fun b hlt hb hm=>by
  rcases mem_frs hfr hm with e | hm
  ·exact absurd (Nat.lt_of_lt_of_le hlt I.ok.above) (by rw [e]; exact Nat.lt_irrefl _)
  ·exact hb hm
 refine wpAny_leaves_onW I.ok.frames hfr fl fun h'' f2 up=>?_
 have c1:∀ b o,s.heap.get? b=some o→H b=none→b ∉ frs outer→B.get? b=some o:=fun b o q n hb =>
  cov1 b o (I.base.keep b o q n hb (show b ∉ ([] : List Addr) by simp)) (I.base.free b o q n (show b ∉ ([] : List Addr) by simp)) (notfr b (Heap.lt_size q) hb)
 have c2:∀ b o,s.heap.get? b=some o→b ∉ frs outer→∃ o',B.get? b=some o':=fun b o q hb=>by
  obtain ⟨o',e⟩:=I.base.there b o q (show b ∉ ([] : List Addr) by simp)
  exact cov2 b o' e (notfr b (Heap.lt_size q) hb)
 have fm:∀ b,b ∈ frs outer→b ∈ frs (envOfC qual scope s.heap.objs.size f cd :: outer):=fun b hb=>by
  unfold frs
  rw [List.filterMap_cons,hfr]
  exact List.mem_cons_of_mem _ hb
 refine ⟨x,C,H',B,a0,rfl,os.trans I.os,bare,⟨fun b o q n hb _=>f2.1 b o (c1 b o q n hb),fun b o q n hb hx'=>?_,fun b o q n hx'=>?_,fun b o q _=>?_,fun b xs q=>un.tups b xs (I.base.tups b xs q),fun b o u q=>un.frzs b o u (I.base.frzs b o u q),fun b ps q=>?_⟩,hok,c1,c2,f2,ee⟩
 ·obtain ⟨sl,e1⟩:=I.base.slot b o q n hb hx'
  obtain ⟨sl2,e2⟩:=un.slot b _ e1 (I.base.free b o q n hx') (fm b hb) (by simp)
  obtain ⟨_,o3,e3,nd⟩:=fl.2.2.1.mem (fm b hb)
  rw [e2] at e3
  cases e3
  obtain ⟨sl3,e4⟩:=up b _ e2 nd
  exact ⟨sl3,e4⟩
 ·obtain ⟨o',e⟩:=I.base.there b o q hx'
  exact un.free b o' e (I.base.free b o q n hx') (by simp)
 ·by_cases hb:b ∈ frs outer
  ·obtain ⟨_,o3,e3,_⟩:=f2.2.2.1.mem hb
   exact ⟨o3,e3⟩
  ·obtain ⟨o',e⟩:=c2 b o q hb
   exact ⟨o',f2.1 b o' e⟩
 ·obtain ⟨m1,e1⟩:=I.base.tbls b ps q
  obtain ⟨m2,e2⟩:=un.tbls b _ e1
  exact ⟨m1++m2,by rw [e2,Array.append_assoc]⟩
end

abbrev veTail:List Value:=[.type "ValueError",.type "Exception",.type "BaseException",.type "object"]
structure ExcOk (K:PySem.W.Frag) (mg:Str→Option Value) (c:Str) (C:Addr) : Prop where
 mg:mg c=some (.ref C)
 ex:PySem.W.excIn K C veTail "ValueError.__new__" = true
theorem exc_obj {K:PySem.W.Frag} {h:Heap} {C:Addr} {bmB:List Value} {newId:String} (X:K.In h) (q:PySem.W.excIn K C bmB newId=true) :
  ∃ bm N nm q bs hdct sn sub ab col dd k0 k1 k2 k3 k5 mN,h.get? C=some (excClassObj nm q C N bs bm hdct sn sub ab col dd k0 k1 k2 k3 k5 newId)∧h.Ns N mN∧mN "__init__" = none∧OwnTail h bmB bm:=by
 unfold PySem.W.excIn at q
 split at q
 ·rename_i dd cd sl ho
  split at q
  ·rename_i C' bm k0 k1 k2 k3 n k5 hm hs
   simp only [Bool.and_eq_true,beq_iff_eq,Bool.not_eq_true'] at q
   obtain ⟨⟨⟨⟨⟨rfl,rfl⟩,hdel⟩,ht⟩,hok⟩,hni⟩:=q
   obtain ⟨nm,bs,mro,ns,qn,hd,sn,sub,ab,col,del⟩:=cd
   dsimp only at hm hdel hok hni
   subst hm hdel
   have hsl:sl = #[k0,k1,k2,k3,some (.builtin n),k5]:=by
    obtain ⟨l⟩:=sl
    simp only at hs
    rw [hs]
   subst hsl
   exact ⟨bm,ns,nm,qn,bs,hd,sn,sub,ab,col,dd,k0,k1,k2,k3,k5,_,X _ _ ho,.of_isNs (PySem.W.isNs_of_in X hok),PySem.W.nsMap_none_of_in X hok hni,PySem.W.tail_of_in X ht⟩
  ·cases q
 ·cases q
def tRaise (E:XK) (C:Addr) (t:TA) : TS:=fun _ σ H=>t σ H fun vs H1=>vs.length≤sizeLine∧E (.ref C) none H1
section
variable {X:Cx} {E:XK} {c:Str} {C:Addr} {e:Expr} {es:List Expr} {t:TA} {np cpos pos:Pos}
theorem ps_raise (hc:X.calm=true) (hw:Wish X E) (O:ExcOk X.K X.mg c C) (hg:Gl X c) (ha:PA X (e :: es) t) (hd:(c == ("__debug__" : Str))=false:=by decide)
  (he:starEach (e :: es) X.env=(false,eval e X.env) :: starEach es X.env:=by rfl) (hpl:(backTo cpos (starEach es X.env)).any (·.1)=false:=by rfl) :
  PS X (.Raise (some (.Call (.Name c np) (e :: es) [] cpos)) none pos) (tRaise E C t):=by
 intro pins s σ H D I h
 obtain ⟨bm,N,nm,q,bs,hdct,sn,sub,ab,col,dd,k0,k1,k2,k3,k5,mN,hC,hN,hni,T⟩:=exc_obj I.ok.mod.kin O.ex
 refine wpAny_Raise_call_subU (C:=C) (nm:=nm) (q:=q) (N:=N) (bs:=bs) (bm:=bm) (hdct:=hdct) (sn:=sn) (sub:=sub) (ab:=ab) (col:=col) (dd:=dd) (k0:=k0) (k1:=k1) (k2:=k2) (k3:=k3) (k5:=k5)
  PySem.F.excBase_ValueError (by decide +kernel) PySem.F.excBase_ValueError (mN:=mN) (T.hasType PySem.F.excBase_ValueError.hasBase) (I.ok.hd hc) (by rw [he]; show (false || (backTo cpos (starEach es X.env)).any (·.1))=false; rw [hpl]; rfl) hni
  (ld_glob I hg O.mg ⟨rfl,?_⟩ hd)
 have ha':=ha cpos pins s σ H _ I h
 rw [he] at ha' ⊢
 refine Calls.evalArgs_plain (wpAny_mono ha' (fun vs s₂ h₂=>?_) fun _ _ y=>y)
 obtain ⟨xs,H1,I1,r,hz,ee⟩:=h₂
 exact ⟨rfl,by rw [← r.length]; exact hz,I1.bk _ _ hC,hN.keeps I1.bk,T.keeps I1.bk,fun h' x hm=>hw pins σ H1 s₂ x C _ h' I1 hm ee⟩
end
theorem Fun.okE {P:Program} {w:World} {K:PySem.W.Frag} {mg:Str→Option Value} {base:Heap} {x qual:Str} {st:Stmt} {f:Addr} {fd:FuncData} {N ps:List Str} {k:Nat} {sp:Sp} (F:Fun K x qual st f fd) (S:FnScope N ps (defScope st)) (len:∀ vs H Q E,sp vs H Q E→vs.length=ps.length)
  (hbody:∀ (cdv:Value) (A:Around) (outer:List Env) (s:Shared) (H:Hp) (vs:List V) (Q:VK) (E:XK),Room k (A.deeper (envOfC qual (defScope st) s.heap.objs.size f cdv))→sp vs H Q E →
   ∃ t,PSs (cxOf (CXe P w) P w K mg base N qual (defScope st) f cdv A outer s H E) (defBody st) t∧t { nx:=fun _ H'=>Q .non H',rt:=Q } (start N vs) H) : FnOk P w K mg base (CXe P w) (k+1) f fd ps sp:=by
 obtain ⟨oc,od,kV,doc,pm,an,cdv,ct,osl,rfl,lk,hcd⟩:=F.ex
 exact fn_of lk hcd S len fun A outer s H vs Q E hr hsp=>hbody cdv A outer s H vs Q E hr hsp
theorem FnOk.calm {P:Program} {w:World} {K:PySem.W.Frag} {mg:Str→Option Value} {base:Heap} {k:Nat} {f:Addr} {fd:FuncData} {ps:List Str} {sp:Sp} (F:FnOk P w K mg base CX0 k f fd ps sp) (CX:CXT) : FnOk P w K mg base CX k f fd ps sp:=
 ⟨F.len,fun A outer s H args us vs Q E hr e0 hb r hs=>codeAny_mono (F.run A outer s H args us vs Q E hr e0 hb r hs) fun r s' h=>by
  cases r with
  | error e=>exact False.elim h
  | ok fl=>cases fl <;> exact h⟩
theorem pe_callX {X:Cx} {x:Str} {st:Stmt} {ps:List Str} {f:Addr} {fd:FuncData} {k:Nat} {sp:Sp} {e:Expr} {es:List Expr} {t:TA} {p pos:Pos} {CX:CXT} {E:XK} (hx:Passes CX X E) (D:DefOk X.K X.mg x st ps f fd) (G:FnOk X.prog X.w X.K X.mg X.base CX k f fd ps sp) (hr:Room k X.A) (hg:Gl X x) (ha:PA X (e :: es) t) (hd:(x == ("__debug__" : Str))=false:=by decide)
  (he:starEach (e :: es) X.env=(false,eval e X.env) :: starEach es X.env:=by rfl) (hpl:(backTo pos (starEach es X.env)).any (·.1)=false:=by rfl) : PE X (.Call (.Name x p) (e :: es) [] pos) (tCall sp [] E t):=pe_call G hr hg D.mg D.fn.kp D.bd .nil hx ha hd he hpl

abbrev Cx.marked (X:Cx) (v:Value) : Cx:={ X with A:=X.A.mark (some v),calm:=false,xe:=fun _ _=>False }
theorem Inv.marked {X:Cx} {pins:List (Addr × Obj)} {σ:St} {H:Hp} {s:Shared} (I:Inv X pins σ H s) (v:Value) : Inv (X.marked v) pins σ H s:=
 ⟨⟨I.ok.mod,I.ok.kind,I.ok.glob,I.ok.blt,I.ok.above,I.ok.inj,I.ok.has,I.ok.cab,(fun h=>nomatch h),I.ok.frames,I.ok.stk,I.ok.exf,I.ok.bs,I.ok.bsz,I.ok.noex,I.ok.exfs,I.ok.funs,I.ok.frf⟩,I.os,I.bare,I.base,I.loc,I.cell,I.free,I.freeC,I.pin,I.hok,I.len⟩
theorem Inv.unmarked {X:Cx} {pins:List (Addr × Obj)} {σ:St} {H:Hp} {s:Shared} {v:Value} (I:Inv (X.marked v) pins σ H s) (hd:X.calm=true→X.A.handled=none) : Inv X pins σ H s:=
 ⟨⟨I.ok.mod,I.ok.kind,I.ok.glob,I.ok.blt,I.ok.above,I.ok.inj,I.ok.has,I.ok.cab,hd,I.ok.frames,I.ok.stk,I.ok.exf,I.ok.bs,I.ok.bsz,I.ok.noex,I.ok.exfs,I.ok.funs,I.ok.frf⟩,I.os,I.bare,I.base,I.loc,I.cell,I.free,I.freeC,I.pin,I.hok,I.len⟩
theorem SP.unmarked {X:Cx} {pins:List (Addr × Obj)} {D:Ends} {f:Flow} {s':Shared} {v:Value} (hd:X.calm=true→X.A.handled=none) (h:SP (X.marked v) pins D f s') : SP X pins D f s':=by
 cases f with
 | next=>obtain ⟨σ',H',I,q⟩:=h; exact ⟨σ',H',I.unmarked hd,q⟩
 | brk=>obtain ⟨σ',H',I,q⟩:=h; exact ⟨σ',H',I.unmarked hd,q⟩
 | cont=>obtain ⟨σ',H',I,q⟩:=h; exact ⟨σ',H',I.unmarked hd,q⟩
 | ret u=>obtain ⟨v,σ',H',I,r,q⟩:=h; exact ⟨v,σ',H',I.unmarked hd,r,q⟩
def Takes (K:PySem.W.Frag) (C T:Addr) : Prop:=PySem.W.exmOne K (.ref C) (.ref T)=some true
section
variable {X:Cx} {k:Nat} {f T:Addr} {fd:FuncData} {ps:List Str} {sp:Sp} {fx c:Str} {st:Stmt} {e:Expr} {es:List Expr} {t:TA} {b₀:Stmt} {suite:List Stmt} {th:TS} {np pf cpos apos hpos pos:Pos}
theorem caught {pins:List (Addr × Obj)} {σ:St} {H1 H':Hp} {s1 s2:Shared} {D:Ends} {x C:Addr} {B:Heap} {a0:Value} {E2:Value→Shared→Prop} (I1:Inv X pins σ H1 s1) (hst:X.stack=X.env :: X.outer∧X.env.frame=some X.env.locals)
  (os:s2.os=s1.os) (bare:AllBare s2.gens) (un:Un (frs X.stack) [] H1 H' s1.heap s2.heap) (hok:HOk X.prog X.w H' B)
  (cov1:∀ b o,s1.heap.get? b=some o→H1 b=none→b ∉ frs X.stack→B.get? b=some o) (cov2:∀ b o,s1.heap.get? b=some o→b ∉ frs X.stack→∃ o',B.get? b=some o') (fl:Heap.FlyingW B X.stack x (.ref C) a0 s2.heap)
  (hg:Gl X c) (hm:X.mg c=some (.ref T)) (tk:Takes X.K C T) (hh:∀ v,PSs (X.marked v) (b₀ :: suite) th) (q:th D σ H') (hd:(c == ("__debug__" : Str))=false:=by decide) :
  wpAny (model X.prog X.w) X.A (noteFrame (.ref x) X.env) (fun _ s₂=>wpAny (model X.prog X.w) X.A (setFlight (.ref x) none) (fun _ s₃=>wpAny (model X.prog X.w) X.A (handleBy (.ref x) X.env [.ExceptHandler (some (.Name c np)) none (b₀ :: suite) hpos]) (SP X pins D) E2 s₃) E2 s₂) E2 s2:=by
 have hfr:X.A.frames=some (X.env :: X.outer):=hst.1 ▸ I1.ok.frames
 -- the state behind, in any later heap that keeps B and the frames
 have after:∀ h6:Heap,Heap.FlyingW B X.stack x (.ref C) a0 h6→s2.heap.UpToSlots h6→Inv X pins σ H' { s2 with heap:=h6 }:=fun h6 fl6 up=>by
  refine I1.call' (ch:=[]) os ⟨fun b o q n hb _=>fl6.1 b o (cov1 b o q n hb),fun b o q n hb hx'=>?_,un.free,fun b o q _=>?_,un.tups,un.frzs,un.tbls⟩ (hok.kept fl6.1) bare (fun b z=>absurd z (by simp))
  ·obtain ⟨sl,e1⟩:=un.slot b o q n hb hx'
   obtain ⟨_,o3,e3,nd⟩:=fl.2.2.1.mem hb
   rw [e1] at e3
   cases e3
   obtain ⟨sl3,e4⟩:=up b _ e1 nd
   exact ⟨sl3,e4⟩
  ·by_cases hb:b ∈ frs X.stack
   ·obtain ⟨_,o3,e3,_⟩:=fl6.2.2.1.mem hb
    exact ⟨o3,e3⟩
   ·obtain ⟨o',e⟩:=cov2 b o q hb
    exact ⟨o',fl6.1 b o' e⟩
 rw [hst.1] at fl
 refine wpAny_looks_onW hfr hst.2 fl fun h₄ held up4=>?_
 refine wpAny_landsW held fun h₅ fl5 up5=>?_
 have fl5':Heap.FlyingW B X.stack x (.ref C) a0 h₅:=hst.1 ▸ fl5
 have I5:=after h₅ fl5' (up4.trans up5)
 have I5m:=I5.marked (.ref x)
 refine wpAny_handleBy_cons (codeAny_handlers_test (ld_glob (X:=X.marked (.ref x)) I5m hg hm ?_ hd)) (by intro q; cases q)
 obtain ⟨ob,hob,hobc⟩:=fl5.there
 have LT:PySem.W.Looks (model X.prog X.w) h₅ (typeOf (.ref x)) (.ref C):=by
  have z:PySem.W.Looks (model X.prog X.w) h₅ (typeOf (.ref x)) ob.cls:=(PySem.W.Looks.ld hob).andThen .now
  rw [hobc] at z
  exact z
 refine (PySem.W.exm_one (M:=model X.prog X.w) (I5.kIn) LT tk).here ?_
 refine codeAny_handlers_suite ?_
 refine lands_againW fl5 fun h₆ fl6 up6=>?_
 have I6:=after h₆ (hst.1 ▸ fl6) ((up4.trans up5).trans up6)
 refine wpAny_mono (hh (.ref x) pins _ σ H' D (I6.marked (.ref x)) q) (fun fl s' h=>?_) fun _ _ z=>False.elim z
 exact h.unmarked I1.ok.hd

theorem call_try {W:Value→Shared→Prop} {pins:List (Addr × Obj)} {σ:St} {H:Hp} {s:Shared} {Q:VK} {E:XK} (I:Inv X pins σ H s) (D:DefOk X.K X.mg fx st ps f fd) (G:FnOk X.prog X.w X.K X.mg X.base (CXe X.prog X.w) k f fd ps sp) (hr:Room k X.A) (hg:Gl X fx)
  (ha:PA (X.wish W) (e :: es) t) (h:t σ H fun vs H1=>sp (vs++[]) H1 Q E) (hW:∀ H1 s1 e s2,Inv X pins σ H1 s1→CXe X.prog X.w X.stack H1 s1 E e s2→W e s2)
  (hd:(fx == ("__debug__" : Str))=false:=by decide) (he:starEach (e :: es) X.env=(false,eval e X.env) :: starEach es X.env:=by rfl) (hpl:(backTo cpos (starEach es X.env)).any (·.1)=false:=by rfl) :
  wpAny (model X.prog X.w) X.A (eval (.Call (.Name fx pf) (e :: es) [] cpos) X.env) (EP X pins σ Q) W s:=by
 have I':=I.wish W
 refine wpAny_Call_Name_kw (ld_glob I hg D.mg ?_ hd)
 refine PySem.W.callWith_K (h₀:=X.base) I.ok.mod.kin D.fn.kp (thn (ha cpos pins s σ H _ I' h) fun us s1 ⟨vs,H1,I1,r,q⟩=>⟨I1.kIn,?_⟩) he hpl
 have r2:Vals (vs++[]) (us++[]):=r.append .nil
 have hl:(us++[]).length=ps.length:=by rw [← r2.length]; exact G.len _ _ _ _ q
 refine wpAny_call (codeAny_mono (G.run X.A X.stack s1 H1 ⟨us,[]⟩ (us++[]) (vs++[]) Q E hr I1.env0 (D.bd s1 us I1.kIn hl) r2 q) fun r s' hq=>?_)
 cases r with
 | error ex=>exact hW H1 s1 ex s' I1.unwish hq
 | ok fl =>
  cases fl with
  | ret u=>exact I1.unwish.after hq
  | next=>exact False.elim hq
  | brk=>exact False.elim hq
  | cont=>exact False.elim hq
def tTrySet (K:PySem.W.Frag) (sp:Sp) (i:Nat) (t:TA) (T:Addr) (th:TS) : TS:=fun D σ H=>t σ H fun vs H1=>sp (vs++[]) H1 (fun v H2=>D.nx (σ.set i (some v)) H2) (fun cls _ H2=>∃ C,cls = .ref C∧Takes K C T∧th D σ H2)
theorem ps_try_set {i:Nat} {y:Str} {py:Pos} (hN:X.N.Nodup) (hi:X.N[i]? = some y) (hy:Loc X.env.scope y) (Df:DefOk X.K X.mg fx st ps f fd) (G:FnOk X.prog X.w X.K X.mg X.base (CXe X.prog X.w) k f fd ps sp) (hr:Room k X.A) (hgf:Gl X fx)
  (ha:∀ W,PA (X.wish W) (e :: es) t) (hgc:Gl X c) (O:ExcOk X.K X.mg c T) (hst:X.stack=X.env :: X.outer∧X.env.frame=some X.env.locals) (hh:∀ v,PSs (X.marked v) (b₀ :: suite) th)
  (hs:swapsWith (.Call (.Name fx pf) (e :: es) [] cpos) (some (.Name y py)) apos.line X.env=pure false:=by rfl) (hf:X.fn y=true∨X.env.scope.names.lookup y=some .local:=by first | exact .inl rfl | exact .inr rfl | assumption)
  (hd:(fx == ("__debug__" : Str))=false:=by decide) (hdc:(c == ("__debug__" : Str))=false:=by decide) (he:starEach (e :: es) X.env=(false,eval e X.env) :: starEach es X.env:=by rfl) (hpl:(backTo cpos (starEach es X.env)).any (·.1)=false:=by rfl) :
  PS X (.Try [.Assign [.Name y py] (.Call (.Name fx pf) (e :: es) [] cpos) apos] [.ExceptHandler (some (.Name c np)) none (b₀ :: suite) hpos] [] [] pos) (tTrySet X.K sp i t T th):=by
 intro pins s σ H D I h
 refine wpAny_Try_except (wpAny_execs_cons (wpAny_Assign_Name (thn (call_try I Df G hr hgf (ha _) h (fun H1 s1 ex s2 I1 hx=>?_) hd he hpl) fun v s1 ⟨y,H1,I1,r1,q1⟩=>?_) hs))
 ·obtain ⟨x,C,H',B,a0,rfl,os,bare,un,hok,cov1,cov2,fl,C',ec,tk,q⟩:=hx
  cases ec
  exact caught I1 hst os bare un hok cov1 cov2 fl hgc O.mg tk hh q hdc
 ·exact store_ok I1 hN hi hy r1 (fun s2 I2=>wpAny_execs_nil (wpAny_execs_nil ⟨_,H1,I2,q1⟩)) hf
end
end L2

set_option maxHeartbeats 4000000
namespace L2
open PySem PySem.Spec PyProof.Rows Tl

def PP (X:Cx) (v:Expr) (c:St→Prop) : Prop:=∀ (pins:List (Addr × Obj)) (s:Shared) (σ:St) (H:Hp) (Q:Value→Shared→Prop),Inv X pins σ H s→c σ→(∀ (y:Str) (t:Tok) (s':Shared),y.length≤20000→Inv X pins σ H s'→Q (.str y t) s')→wpAny (model X.prog X.w) X.A (eval v X.env) Q X.xe s
def PJ (X:Cx) (vs:List Expr) (c:St→Prop) : Prop:=∀ (pins:List (Addr × Obj)) (s:Shared) (σ:St) (H:Hp) (acc:Str) (Q:Str→Shared→Prop),Inv X pins σ H s→c σ→acc.length+20000 * vs.length≤1000000→(∀ (z:Str) (s':Shared),z.length≤1000000→Inv X pins σ H s'→Q z s')→Joins (model X.prog X.w) X.A X.xe (evalEach vs X.env) acc Q s
section
variable {X:Cx}
theorem pj_nil:PJ X [] (fun _=>True):=fun _ s _ _ acc _ I _ ha q=>q acc s (by simpa using ha) I
theorem pj_cons {v:Expr} {vs:List Expr} {c d:St→Prop} (h:PP X v c) (hr:PJ X vs d) (he:evalEach (v :: vs) X.env=eval v X.env :: evalEach vs X.env:=by rfl) : PJ X (v :: vs) (fun σ=>c σ∧d σ):=by
 intro pins s σ H acc Q I hc ha q
 rw [he]
 refine h pins s σ H _ I hc.1 fun y t s' hy I'=>?_
 have hl:(acc++y).length=acc.length+y.length:=strLen_append _ _
 rw [List.length_cons] at ha
 refine ⟨y,t,rfl,?_,hr pins s' σ H (acc++y) Q I' hc.2 (by rw [hl]; omega) q⟩
 rw [hl]
 exact Nat.le_trans (show acc.length+y.length≤1000000 by omega) (by decide)
theorem pp_str {x:Str} {j pos} (hx:x.length≤20000:=by decide +kernel) : PP X (.Constant (.str x) j pos) (fun _=>True):=fun _ s _ _ _ I _ q=>Calls.Constant_str (q x _ _ hx (I.tok _))
theorem pp_int {n:Int} {e:Expr} {pos:Pos} (he:PE X e (tC (.int n))) (hn:n.natAbs.log2 < 1920:=by decide) (hl:(toString n:Str).length≤20000:=by decide +kernel) : PP X (.FormattedValue e (-1) none pos) (fun _=>True):=by
 intro pins s σ H Q I _ q
 refine wpAny_FormattedValue_plain (thn (he pins s σ H (fun v H'=>v = .int n∧H' = H) I ⟨rfl,rfl⟩) fun u s1 ⟨x,H1,I1,r1,e1,e2⟩=>?_)
 subst e1 e2
 obtain ⟨t,rfl⟩:=r1
 exact wpAny_formatField_int hn (q _ _ _ hl (I1.tok _))
def tFs (c:St→Prop) : TE:=fun σ H Q=>c σ∧∀ z:Str,Q (.str z) H
theorem pe_fstr {v v2:Expr} {vs:List Expr} {c:St→Prop} {pos:Pos} (h:PJ X (v :: v2 :: vs) c) (hl:vs.length≤20:=by decide) : PE X (.JoinedStr (v :: v2 :: vs) pos) (tFs c):=by
 intro pins s σ H Q I hw
 refine wpAny_JoinedStr (h pins s σ H _ _ I hw.1 (by show 0+_≤_; simp only [List.length_cons]; omega) fun z s' hz I'=>⟨Nat.le_trans hz (by decide),.str z,H,I'.tok _,⟨_,rfl⟩,hw.2 z⟩)
end

theorem Inv.track {X:Cx} {pins:List (Addr × Obj)} {σ:St} {H:Hp} {s:Shared} {D:Addr} {o:HO} (I:Inv X pins σ H s) (hn:H D=none) (hnew:X.s₀.heap.objs.size≤D) (hL:D≠X.env.locals) (hc:∀ x c,X.env.cells.lookup x=some c→c≠D) (hp:∀ p ∈ X.pn++pins,p.1≠D)
  (ok:ObjOk X.prog X.w (upd H D o) s.heap D o) : Inv X pins σ (upd H D o) s:=by
 have ne:∀ b u,H b=some u→b≠D:=fun b u q=>ne_of_none q hn
 refine ⟨I.ok,I.os,I.bare,⟨I.base.keep,I.base.slot,fun b o q nn hx=>?_,I.base.there,fun b xs q=>?_,fun b o u q=>?_,fun b ps q=>?_⟩,I.loc,I.cell,?_,fun x c q=>?_,fun p hq=>?_,fun b u q=>?_,I.len⟩
 ·rw [upd_ne (Nat.ne_of_lt (Nat.lt_of_lt_of_le (Heap.lt_size q) hnew))]; exact I.base.free b o q nn hx
 ·have z:=I.base.tups b xs q
  rw [upd_ne (ne b _ z)]; exact z
 ·have z:=I.base.frzs b o u q
  rw [upd_ne (ne b _ z)]; exact z
 ·obtain ⟨more,z⟩:=I.base.tbls b ps q
  exact ⟨more,by rw [upd_ne (ne b _ z)]; exact z⟩
 ·rw [upd_ne (Ne.symm hL)]; exact I.free
 ·rw [upd_ne (hc x c q)]; exact I.freeC x c q
 ·obtain ⟨a1,a2,a3⟩:=I.pin p hq
  exact ⟨a1,by rw [upd_ne (hp p hq)]; exact a2,a3⟩
 ·by_cases hb:b=D
  ·subst hb
   rw [upd_same] at q; cases q
   exact ok
  ·rw [upd_ne hb] at q
   exact (I.hok b u q).stay (fun c v _ r=>r) (fun c r=>by rw [upd_ne (ne c _ r)]; exact r) fun c xs r=>by rw [upd_ne (ne c _ r)]; exact r
section
variable {X:Cx} {elts:List Expr} {k1:Nat} {tp:Pos}
end

section
variable {X:Cx} {tg:Expr}
end
theorem op_eqNil {X:Cx} (hu:X.A.units < cLine) : OpR X (compareOp .Eq) (fun x y H Q=>∃ a b xs,x = .ref a∧y = .ref b∧SqL X.K H a xs∧SqL X.K H b []∧Q (.bl xs.isEmpty) H):=by
 intro pins s σ H x y v u Q I rx ry h
 obtain ⟨a,b,xs,rfl,rfl,ha,hb,q⟩:=h
 cases rx
 cases ry
 obtain ⟨its,r,p,z⟩:=I.list ha
 obtain ⟨its2,r2,p2,z2⟩:=I.list hb
 have l1:=r.length
 have l2:=r2.length
 cases xs with
 | nil =>
  refine SeqAt.eq_listAt (e:=fun _=>true) p.isList p2.isList (by simp at l1 l2 ⊢; omega) hu (fun j h1 h2=>absurd h1 (by simp at l1 ⊢; omega)) ⟨.bl _,H,I,rfl,?_⟩
  have e:its.toArray.size=0:=by rw [List.size_toArray]; exact l1.symm
  rw [e]
  exact q
 | cons x r=>exact SeqAt.eq_list_lengthsAt p.isList p2.isList (by simp at l1 l2 ⊢; omega) hu ⟨.bl false,H,I,rfl,q⟩
end L2

namespace L2
open PySem PySem.Spec PyProof.Rows

section
variable {X:Cx}
theorem all_true {n:Nat} : (List.range n).all (fun _=>true)=true:=List.all_eq_true.mpr fun _ _=>rfl
theorem same_new {H:Hp} {p:Addr} (h:H p=none) (o:HO) : Same H (upd H p o):=fun b u q=>by rw [upd_ne (ne_of_none q h)]; exact q
theorem Same.tup {K:PySem.W.Frag} {H H':Hp} {a:Addr} {xs:List V} (e:Same H H') (h:SqT K H a xs) : SqT K H' a xs:=by
 rcases h with (h | ⟨o,h⟩) | h
 ·exact .inl (.inl (e _ _ h))
 ·exact .inl (.inr ⟨o,e _ _ h⟩)
 ·exact .inr h
theorem SqT.lst {K:PySem.W.Frag} {H:Hp} {a l:Addr} {xs ys zs:List V} (e:H l=some (.lst ys)) (h:SqT K H a xs) : SqT K (upd H l (.lst zs)) a xs:=by
 rcases h with (h | ⟨o,h⟩) | h
 ·exact .inl (.inl (by rw [upd_ne (ne_of h e (fun z=>nomatch z))]; exact h))
 ·exact .inl (.inr ⟨o,by rw [upd_ne (ne_of h e (fun z=>nomatch z))]; exact h⟩)
 ·exact .inr h
def SameX (l:Addr) (H H':Hp) : Prop:=∀ b o,b≠l→H b=some o→H' b=some o
theorem SameX.refl (l:Addr) (H:Hp) : SameX l H H:=fun _ _ _ h=>h
theorem SameX.trans {l:Addr} {H H1 H2:Hp} (a:SameX l H H1) (b:SameX l H1 H2) : SameX l H H2:=fun c o n h=>b c o n (a c o n h)
theorem SameX.put {l:Addr} {H H1:Hp} {o:HO} (a:SameX l H H1) : SameX l H (upd H1 l o):=fun c u n h=>by rw [upd_ne n]; exact a c u n h
theorem Same.x {l:Addr} {H H':Hp} (e:Same H H') : SameX l H H':=fun b o _ h=>e b o h
theorem SameX.seq {K:PySem.W.Frag} {H H':Hp} {a l:Addr} {xs:List V} (e:SameX l H H') (n:a≠l) (h:SqL K H a xs) : SqL K H' a xs:=by
 rcases h with (h | ⟨o,h⟩) | h
 ·exact .inl (.inl (e _ _ n h))
 ·exact .inl (.inr ⟨o,e _ _ n h⟩)
 ·exact .inr h
theorem SameX.tup {K:PySem.W.Frag} {H H':Hp} {a l:Addr} {xs:List V} (e:SameX l H H') (n:a≠l) (h:SqT K H a xs) : SqT K H' a xs:=by
 rcases h with (h | ⟨o,h⟩) | h
 ·exact .inl (.inl (e _ _ n h))
 ·exact .inl (.inr ⟨o,e _ _ n h⟩)
 ·exact .inr h
def sp_law (K:PySem.W.Frag) : Sp:=fun vs H Q _=>∃ (a:Addr) (ns:List Int),vs=[.ref a]∧SqL K H a (ns.map V.int)∧ns.length≤63∧∀ H',Q (.bl true) H'
theorem small {n:Nat} (h:n≤1000) : n≤sizeLine:=Nat.le_of_lt (small1000 h)
theorem le1:1≤sizeLine:=by decide
theorem le2:2≤sizeLine:=by decide
theorem le3:3≤sizeLine:=by decide
theorem le4:4≤sizeLine:=by decide
theorem orG {a:Prop} {_inst:Decidable a} {X A B:Prop} (ha:a→A) (hx:¬ a→X) : if a then (if true=true then A else B) else X:=by
 by_cases h:a
 ·rw [if_pos h]; exact ha h
 ·rw [if_neg h]; exact hx h
end
end L2

namespace HT
open PySem PyProof.Rows
section
open PySem.SeqAt
open PySem.AutoSeq1 (wpAny_loadPart')
open PySem.MeetsSeq PySem.MeetsSeq2 PySem.MeetsSeq3

end
end HT

namespace L2
open PySem PySem.Spec PyProof.Rows
section
variable {X:Cx}

end
end L2

set_option maxHeartbeats 4000000
namespace L2
open PySem PySem.Spec PyProof.Rows Tl
def figs (n:Nat) : List Nat:=(Nat.toDigits 10 n).map Char.toNat
theorem digit_char:∀ d:Nat,d < 10→(Nat.digitChar d).toNat=d+48:=by decide
theorem figs_small {n:Nat} (h:n < 10) : figs n=[n+48]:=by
 unfold figs
 rw [Nat.toDigits_of_lt_base h,List.map_singleton,digit_char n h]
theorem figs_step {n:Nat} (h:10≤n) : figs n=figs (n / 10)++[n % 10+48]:=by
 have hm:n % 10 < 10:=Nat.mod_lt n (by decide)
 have t:Nat.toDigits 10 (n / 10)++Nat.toDigits 10 (n % 10)=Nat.toDigits 10 (10 * (n / 10)+n % 10):=Nat.toDigits_append_toDigits (by decide) (by omega) hm
 rw [Nat.div_add_mod] at t
 unfold figs
 rw [← t,List.map_append,Nat.toDigits_of_lt_base hm,List.map_singleton,digit_char _ hm]
theorem figs_pos (n:Nat) : 1≤(figs n).length:=by
 by_cases h:n < 10
 ·rw [figs_small h]; simp
 ·rw [figs_step (by omega),List.length_append,List.length_singleton]
  omega
theorem figs_mono:∀ (m n:Nat),n≤m→(figs n).length≤(figs m).length:=by
 intro m
 induction m using Nat.strongRecOn with
 | _ m ih =>
  intro n h
  by_cases hn:n < 10
  ·rw [figs_small hn]
   exact figs_pos m
  ·rw [figs_step (n:=n) (by omega),figs_step (n:=m) (by omega),List.length_append,List.length_append,List.length_singleton,List.length_singleton]
   have:=ih (m / 10) (by omega) (n / 10) (by omega)
   omega
abbrev pl (x:Int × Int) : List V:=[.int x.1,.int x.2]
abbrev fm (w h f m:Int) : List V:=[.int w,.int h,.int f,.int m]
structure FormOk (w h f m:Int) : Prop where
 w1:1≤w
 w2:w≤4000
 h1:1≤h
 h2:h≤60
 f1:0≤f
 f2:f≤10 ^ 60
 m1:1≤m
 m2:m≤60
def nextTop (x:Int × Int) : Int × Int:=(x.1+1,0)
def rowsOn (h:Int) (x:Int × Int) (k:Int) : Int × Int:=if h≤x.2+k then nextTop x else (x.1,x.2+k)
def firstFrom (f:Int) (x:Int × Int) (l:Int) : Int × Int:=if l=4∧(f+x.1) % 2=0 then nextTop x else x
def behindI (h f:Int) (x:Int × Int) (l:Int) : Int × Int:=if l=0 then x else if l=1 then rowsOn h x 1 else if l=2 then rowsOn h x 2 else firstFrom f (nextTop x) l
def sooner (x y:Int × Int) : Bool:=decide (x.1 < y.1) || (decide (x.1=y.1) && decide (x.2 < y.2))
theorem sooner_iff {x y:Int × Int} : sooner x y=true↔x.1 < y.1∨(x.1=y.1∧x.2 < y.2):=by simp [sooner]
theorem not_sooner {x y:Int × Int} : sooner x y=false↔¬ (x.1 < y.1∨(x.1=y.1∧x.2 < y.2)):=by rw [← sooner_iff]; simp
structure RowIn (h:Int) (x:Int × Int) : Prop where
 p1:0≤x.1
 r1:0≤x.2
 r2:x.2 < h
theorem behind_desc (h f l p r:Int) (h0:0≤l) (h1:l≤4) : ∃ q s,behindI h f (p,r) l=(q,s)∧(l=0∧q=p∧s=r∨l=1∧(h≤r+1∧q=p+1∧s=0∨r+1 < h∧q=p∧s=r+1) ∨
  l=2∧(h≤r+2∧q=p+1∧s=0∨r+2 < h∧q=p∧s=r+2)∨l=3∧q=p+1∧s=0∨l=4∧s=0∧((f+p) % 2=1∧q=p+2∨(f+p) % 2=0∧q=p+1)):=by
 have hc:l=0∨l=1∨l=2∨l=3∨l=4:=by omega
 rcases hc with rfl | rfl | rfl | rfl | rfl
 ·exact ⟨p,r,rfl,.inl ⟨rfl,rfl,rfl⟩⟩
 ·by_cases c:h≤r+1
  ·exact ⟨p+1,0,by show (if h≤r+1 then (p+1,(0:Int)) else (p,r+1))=_; rw [if_pos c],.inr (.inl ⟨rfl,.inl ⟨c,rfl,rfl⟩⟩)⟩
  ·exact ⟨p,r+1,by show (if h≤r+1 then (p+1,(0:Int)) else (p,r+1))=_; rw [if_neg c],.inr (.inl ⟨rfl,.inr ⟨Int.not_le.mp c,rfl,rfl⟩⟩)⟩
 ·by_cases c:h≤r+2
  ·exact ⟨p+1,0,by show (if h≤r+2 then (p+1,(0:Int)) else (p,r+2))=_; rw [if_pos c],.inr (.inr (.inl ⟨rfl,.inl ⟨c,rfl,rfl⟩⟩))⟩
  ·exact ⟨p,r+2,by show (if h≤r+2 then (p+1,(0:Int)) else (p,r+2))=_; rw [if_neg c],.inr (.inr (.inl ⟨rfl,.inr ⟨Int.not_le.mp c,rfl,rfl⟩⟩))⟩
 ·exact ⟨p+1,0,by show (if (3:Int)=4∧(f+(p+1)) % 2=0 then (p+1+1,(0:Int)) else (p+1,0))=_; rw [if_neg (fun z=>absurd z.1 (by decide))],.inr (.inr (.inr (.inl ⟨rfl,rfl,rfl⟩)))⟩
 ·by_cases c:(f+(p+1)) % 2=0
  ·exact ⟨p+1+1,0,by show (if (4:Int)=4∧(f+(p+1)) % 2=0 then (p+1+1,(0:Int)) else (p+1,0))=_; rw [if_pos ⟨rfl,c⟩],.inr (.inr (.inr (.inr ⟨rfl,rfl,.inl ⟨by omega,by omega⟩⟩)))⟩
  ·exact ⟨p+1,0,by show (if (4:Int)=4∧(f+(p+1)) % 2=0 then (p+1+1,(0:Int)) else (p+1,0))=_; rw [if_neg (fun z=>c z.2)],.inr (.inr (.inr (.inr ⟨rfl,rfl,.inr ⟨by omega,rfl⟩⟩)))⟩
theorem first_desc (f l p r:Int) : ∃ q s,firstFrom f (p,r) l=(q,s)∧(l=4∧(f+p) % 2=0∧q=p+1∧s=0∨(l≠4∨(f+p) % 2=1)∧q=p∧s=r):=by
 unfold firstFrom nextTop
 dsimp only
 split
 all_goals exact ⟨_,_,rfl,by omega⟩
theorem behind_in {h f l:Int} {x:Int × Int} (i:RowIn h x) (h0:0≤l) (h1:l≤4) : RowIn h (behindI h f x l):=by
 obtain ⟨p,r⟩:=x
 obtain ⟨a,b,c⟩:=i
 simp only at a b c
 obtain ⟨q,s,e,d⟩:=behind_desc h f l p r h0 h1
 rw [e]
 constructor <;> simp only <;> omega
theorem behind_self {h f l:Int} {x:Int × Int} (i:RowIn h x) (h0:0≤l) (h1:l≤4) : sooner (behindI h f x l) x=false:=by
 obtain ⟨p,r⟩:=x
 obtain ⟨a,b,c⟩:=i
 simp only at a b c
 obtain ⟨q,s,e,d⟩:=behind_desc h f l p r h0 h1
 rw [e,not_sooner]
 simp only
 omega
theorem behind_grows {h f l k:Int} {x y:Int × Int} (i:RowIn h x) (j:RowIn h y) (le:sooner y x=false) (h0:0≤l) (h1:l≤k) (h2:k≤4) : sooner (behindI h f y k) (behindI h f x l)=false:=by
 obtain ⟨p,r⟩:=x
 obtain ⟨p',r'⟩:=y
 obtain ⟨a,b,c⟩:=i
 obtain ⟨a',b',c'⟩:=j
 rw [not_sooner] at le ⊢
 simp only at a b c a' b' c' le
 obtain ⟨q,s,e,d⟩:=behind_desc h f l p r h0 (by omega)
 obtain ⟨q',s',e',d'⟩:=behind_desc h f k p' r' (by omega) h2
 rw [e,e']
 simp only
 rcases d with d | d | d | d | d <;> rcases d' with d' | d' | d' | d' | d' <;> omega
theorem first_grows {h f l k:Int} {x y:Int × Int} (i:RowIn h x) (j:RowIn h y) (le:sooner y x=false) (h1:l≤k) (h2:k≤4) : sooner (firstFrom f y k) (firstFrom f x l)=false:=by
 obtain ⟨p,r⟩:=x
 obtain ⟨p',r'⟩:=y
 obtain ⟨a,b,c⟩:=i
 obtain ⟨a',b',c'⟩:=j
 rw [not_sooner] at le ⊢
 simp only at a b c a' b' c' le
 obtain ⟨q,s,e,d⟩:=first_desc f l p r
 obtain ⟨q',s',e',d'⟩:=first_desc f k p' r'
 rw [e,e']
 simp only
 rcases d with d | d <;> rcases d' with d' | d' <;> omega
theorem sooner_refl (x:Int × Int) : sooner x x=false:=by rw [not_sooner]; omega
inductive Say where
 | text (l:List Nat)
 | page (k:Nat)
 | row (k:Nat)
def sayV:Say→List V
 | .text l=>[.str (PySem.Str.ofString "text"),.str (tx l)]
 | .page k=>[.str (PySem.Str.ofString "page"),.int (k:Int)]
 | .row k=>[.str (PySem.Str.ofString "row"),.int (k:Int)]
def saidL (h f:Int) (xs:List (Int × Int)) : Say→List Nat
 | .text l=>l
 | .page k=>figs (f+(xs.getD k (0,0)).1).toNat
 | .row k=>figs ((xs.getD k (0,0)).1 * h+(xs.getD k (0,0)).2+1).toNat
def SayOk (n:Nat) : Say→Prop
 | .text l=>1≤l.length∧l.length≤60∧∀ c ∈ l,33≤c∧c < 127
 | .page k=>k < n
 | .row k=>k < n
def PlsOk (h:Int) (xs:List (Int × Int)) : Prop:=∀ x ∈ xs,RowIn h x∧x.1 < 10 ^ 60
def PlsA (K:PySem.W.Frag) (H:Hp) (as:List Addr) (xs:List (Int × Int)) : Prop:=as.length=xs.length∧∀ (i:Nat) a x,as[i]? = some a→xs[i]? = some x→SqT K H a (pl x)
theorem PlsA.same {K:PySem.W.Frag} {H H':Hp} {as:List Addr} {xs:List (Int × Int)} (s:Same H H') (h:PlsA K H as xs) : PlsA K H' as xs:=⟨h.1,fun i a x e e'=>s.tup (h.2 i a x e e')⟩
theorem PlsA.lst {K:PySem.W.Frag} {H:Hp} {l:Addr} {ys zs:List V} {as:List Addr} {xs:List (Int × Int)} (e:H l=some (.lst ys)) (h:PlsA K H as xs) : PlsA K (upd H l (.lst zs)) as xs:=⟨h.1,fun i a x e1 e'=>SqT.lst e (h.2 i a x e1 e')⟩
theorem PlsA.nil {K:PySem.W.Frag} {H:Hp} : PlsA K H [] []:=⟨rfl,fun i a x e _=>by simp at e⟩
theorem PlsA.snoc {K:PySem.W.Frag} {H:Hp} {as:List Addr} {xs:List (Int × Int)} {a:Addr} {x:Int × Int} (h:PlsA K H as xs) (hx:SqT K H a (pl x)) : PlsA K H (as++[a]) (xs++[x]):=by
 refine ⟨by simp [h.1],fun i b y e e'=>?_⟩
 by_cases hi:i < as.length
 ·rw [List.getElem?_append_left hi] at e
  rw [List.getElem?_append_left (by rw [← h.1]; exact hi)] at e'
  exact h.2 i b y e e'
 ·rw [List.getElem?_append_right (by omega)] at e
  rw [List.getElem?_append_right (by rw [← h.1]; omega)] at e'
  have:i - as.length=0:=by
   rcases Nat.eq_zero_or_pos (i - as.length) with z | z
   ·exact z
   ·rw [List.getElem?_eq_none (by simp; omega)] at e; cases e
  rw [this] at e
  rw [← h.1,this] at e'
  cases e
  cases e'
  exact hx
theorem PlsA.get {K:PySem.W.Frag} {H:Hp} {as:List Addr} {xs:List (Int × Int)} (h:PlsA K H as xs) {k:Nat} (hk:k < xs.length) : ∃ a,atI (as.map V.ref) (k:Int)=some (V.ref a)∧SqT K H a (pl (xs.getD k (0,0))):=by
 have hk2:k < as.length:=by rw [h.1]; exact hk
 refine ⟨as[k],atI_nat (by rw [List.getElem?_map,List.getElem?_eq_getElem hk2]; rfl),?_⟩
 rw [List.getD_eq_getElem?_getD,List.getElem?_eq_getElem hk]
 exact h.2 k _ _ (List.getElem?_eq_getElem hk2) (List.getElem?_eq_getElem hk)
theorem PlsOk.get {h:Int} {xs:List (Int × Int)} (o:PlsOk h xs) {k:Nat} (hk:k < xs.length) : RowIn h (xs.getD k (0,0))∧(xs.getD k (0,0)).1 < 10 ^ 60:=by
 rw [List.getD_eq_getElem?_getD,List.getElem?_eq_getElem hk]
 exact o _ (List.getElem_mem hk)
theorem PlsOk.snoc {h:Int} {xs:List (Int × Int)} {x:Int × Int} (o:PlsOk h xs) (i:RowIn h x) (b:x.1 < 10 ^ 60) : PlsOk h (xs++[x]):=by
 intro y hy
 rcases List.mem_append.mp hy with hy | hy
 ·exact o y hy
 ·rw [List.mem_singleton.mp hy]
  exact ⟨i,b⟩
theorem refs_snoc (as:List Addr) (a:Addr) : as.map V.ref++[V.ref a]=(as++[a]).map V.ref:=by simp
def sgns:List Nat:=[33,34,35,36,38,39,40,41,42,43,44,45,46,47,48,49,50,51,52,53,54,55,56,57,58,59,60,61,62,63,64,65,66,67,68,69,70,71,72,73,74,75,76,77,78,79,80,81,82,83,84,85,86,87,88,89,90,91,92,93,94,95,96,97,98,99,100,101,102,103,104,105,106,107,108,109,110,111,112,113,114,115,116,117,118,119,120,121,122,123,124,125,126]
theorem sgn_in:∀ k:Nat,k < 93→33≤sgns.getD k 0∧sgns.getD k 0 < 127:=by decide +kernel
theorem join_one:∀ cs:List Nat,joinL [] (cs.map fun c=>[c])=cs
 | []=>rfl
 | [c]=>rfl
 | c :: d :: r=>by
  show [c]++[]++joinL [] ((d :: r).map fun c=>[c])=_
  rw [join_one (d :: r)]
  rfl
theorem sum_one:∀ cs:List Nat,((cs.map fun c=>tx [c]).map (·.length)).sum=cs.length
 | []=>rfl
 | c :: r=>by
  rw [List.map_cons,List.map_cons,List.sum_cons,sum_one r,tx_len]
  simp only [List.length_cons,List.length_nil]
  omega
def PlsLe (xs ys:List (Int × Int)) : Prop:=xs.length=ys.length∧∀ k,k < xs.length→sooner (ys.getD k (0,0)) (xs.getD k (0,0))=false
theorem getD_app {α:Type} (xs ys:List α) (d:α) (k:Nat) : (xs++ys).getD k d=if k < xs.length then xs.getD k d else ys.getD (k - xs.length) d:=by
 rw [List.getD_eq_getElem?_getD]
 by_cases e:k < xs.length
 ·rw [if_pos e,List.getElem?_append_left e,List.getD_eq_getElem?_getD]
 ·rw [if_neg e,List.getElem?_append_right (by omega),List.getD_eq_getElem?_getD]
theorem PlsLe.snoc {xs ys:List (Int × Int)} {x y:Int × Int} (h:PlsLe xs ys) (l:sooner y x=false) : PlsLe (xs++[x]) (ys++[y]):=by
 refine ⟨by simp [h.1],fun k hk=>?_⟩
 rw [getD_app,getD_app]
 by_cases e:k < xs.length
 ·rw [if_pos e,if_pos (by rw [← h.1]; exact e)]
  exact h.2 k e
 ·have hk2:k=xs.length:=by simp at hk; omega
  rw [if_neg e,if_neg (by rw [← h.1]; exact e),← h.1,hk2,Nat.sub_self]
  exact l
theorem row_le {h:Int} {x y:Int × Int} (i:RowIn h x) (j:RowIn h y) (le:sooner y x=false) : x.1 * h+x.2≤y.1 * h+y.2:=by
 rw [not_sooner] at le
 obtain ⟨p,r⟩:=x
 obtain ⟨p',r'⟩:=y
 obtain ⟨a,b,c⟩:=i
 obtain ⟨a',b',c'⟩:=j
 simp only at *
 by_cases e:p=p'
 ·subst e
  omega
 ·have h1:(p+1) * h≤p' * h:=Int.mul_le_mul_of_nonneg_right (by omega) (by omega)
  rw [Int.add_mul] at h1
  omega
theorem said_grows {w h f m:Int} {xs ys:List (Int × Int)} {s:Say} (fo:FormOk w h f m) (po:PlsOk h xs) (qo:PlsOk h ys) (le:PlsLe xs ys) (so:SayOk xs.length s) : (saidL h f xs s).length≤(saidL h f ys s).length:=by
 cases s with
 | text l=>exact Nat.le_refl _
 | page k =>
  have lk:=le.2 k so
  rw [not_sooner] at lk
  exact figs_mono _ _ (Int.toNat_le_toNat (by omega))
 | row k =>
  have:=row_le (po.get so).1 (qo.get (le.1 ▸ so)).1 (le.2 k so)
  exact figs_mono _ _ (Int.toNat_le_toNat (by omega))
def Dq (K:PySem.W.Frag) (H:Hp) : Nat→V→V→Prop
 | 0,x,y=>(flatV x=true∧flatV y=true∧eqV x y=true)∨∃ a,x = .ref a∧y = .ref a
 | n+1,x,y=>((flatV x=true∧flatV y=true∧eqV x y=true)∨∃ a,x = .ref a∧y = .ref a) ∨
   ∃ a b xs ys,x = .ref a∧y = .ref b∧((SqL K H a xs∧SqL K H b ys)∨(SqT K H a xs∧SqT K H b ys))∧xs.length=ys.length∧∀ (i:Nat) x y,xs[i]? = some x→ys[i]? = some y→Dq K H n x y
theorem items_deep {X:Cx} {pins:List (Addr × Obj)} {σ:St} {H:Hp} {s:Shared} {xs ys:List V} {its its2:List Value} {n:Nat} {A:Around} (r:Vals xs its) (r2:Vals ys its2)
  (d:∀ (i:Nat) x y,xs[i]? = some x→ys[i]? = some y→∀ u v,RelV x u→RelV y v→SeqAt.EqAt A s u v true) (j:Nat) (h1:j < its.toArray.size) (h2:j < its2.toArray.size) : SeqAt.EqAt A s its.toArray[j] its2.toArray[j] true:=by
 have l1:=r.length
 have l2:=r2.length
 have h1':j < its.length:=by simpa using h1
 have h2':j < its2.length:=by simpa using h2
 have hx:j < xs.length:=by omega
 have hy:j < ys.length:=by omega
 have e1:xs[j]? = some xs[j]:=List.getElem?_eq_getElem hx
 have e2:ys[j]? = some ys[j]:=List.getElem?_eq_getElem hy
 obtain ⟨u,hu,ru⟩:=r.get e1
 obtain ⟨v,hv,rv⟩:=r2.get e2
 have eu:its.toArray[j]=u:=by
  have:its[j]? = some its[j]:=List.getElem?_eq_getElem h1'
  rw [hu] at this
  simpa using this.symm
 have ev:its2.toArray[j]=v:=by
  have:its2[j]? = some its2[j]:=List.getElem?_eq_getElem h2'
  rw [hv] at this
  simpa using this.symm
 rw [eu,ev]
 exact d j _ _ e1 e2 u v ru rv
theorem min_true {n m:Nat} (h:n=m) : ((List.range (min n m)).all (fun _=>true) && (n == m))=true:=by
 rw [all_true,h]
 simp
theorem deep_eq {X:Cx} {pins:List (Addr × Obj)} {σ:St} {H:Hp} {s:Shared} (I:Inv X pins σ H s) : ∀ (n:Nat) (A:Around) (x y:V) (u v:Value),Dq X.K H n x y→RelV x u→RelV y v→A.units+n < cLine→SeqAt.EqAt A s u v true
 | 0,A,x,y,u,v,d,ru,rv,hu=>by
  rcases d with ⟨f,g,e⟩ | ⟨a,rfl,rfl⟩
  ·have:=eqAt_V (A:=A) (s:=s) ru rv f g
   rw [e] at this
   exact this
  ·cases ru
   cases rv
   exact SeqAt.EqAt.same _
 | n+1,A,x,y,u,v,d,ru,rv,hu=>by
  rcases d with (⟨f,g,e⟩ | ⟨a,rfl,rfl⟩) | ⟨a,b,xs,ys,rfl,rfl,hab,hl,hd⟩
  ·have:=eqAt_V (A:=A) (s:=s) ru rv f g
   rw [e] at this
   exact this
  ·cases ru
   cases rv
   exact SeqAt.EqAt.same _
  ·cases ru
   cases rv
   by_cases e:a=b
   ·subst e
    exact SeqAt.EqAt.same _
   have hrec:=fun i x y (e1:xs[i]? = some x) (e2:ys[i]? = some y) u v (ru:RelV x u) (rv:RelV y v)=>deep_eq I n A.in1 x y u v (hd i x y e1 e2) ru rv (by show A.units+1+n < cLine; omega)
   rcases hab with ⟨ha,hb⟩ | ⟨ha,hb⟩
   ·obtain ⟨its,r,p,z⟩:=I.list ha
    obtain ⟨its2,r2,p2,z2⟩:=I.list hb
    have l1:=r.length
    have l2:=r2.length
    have:=SeqAt.RcAt.lists (A:=A) (e:=fun _=>true) p.isList p2.isList (by simp; omega) (by omega) (fun j h1 h2=>items_deep (X:=X) (pins:=pins) (σ:=σ) (H:=H) (n:=n) r r2 hrec j h1 h2)
    rw [all_true] at this
    exact SeqAt.EqAt.of_refs e this
   ·obtain ⟨its,r,p,z⟩:=I.tuple ha
    obtain ⟨its2,r2,p2,z2⟩:=I.tuple hb
    have l1:=r.length
    have l2:=r2.length
    have:=SeqAt.RcAt.tuples (A:=A) (e:=fun _=>true) p p2 (by omega) (fun j h1 h2=>items_deep (X:=X) (pins:=pins) (σ:=σ) (H:=H) (n:=n) r r2 hrec j h1 h2)
    rw [min_true (by simp; omega)] at this
    exact SeqAt.EqAt.of_refs e this
section
variable {X:Cx}
def rEqQ (K:PySem.W.Frag) (neg:Bool) : R2:=fun x y H Q=>∃ n a b xs ys,n≤90∧x = .ref a∧y = .ref b∧((SqL K H a xs∧SqL K H b ys)∨(SqT K H a xs∧SqT K H b ys))∧xs.length=ys.length∧(∀ (i:Nat) x y,xs[i]? = some x→ys[i]? = some y→Dq K H n x y)∧Q (.bl (!neg)) H
theorem op_eqQ (hu:X.A.units+100 < cLine) : OpR X (compareOp .Eq) (rEqQ X.K false):=by
 intro pins s σ H x y v u Q I rx ry h
 obtain ⟨n,a,b,xs,ys,hn,rfl,rfl,hab,hl,hd,q⟩:=h
 cases rx
 cases ry
 have hrec:=fun i x y (e1:xs[i]? = some x) (e2:ys[i]? = some y) u v (ru:RelV x u) (rv:RelV y v)=>deep_eq I n X.A.in1 x y u v (hd i x y e1 e2) ru rv (by show X.A.units+1+n < cLine; omega)
 rcases hab with ⟨ha,hb⟩ | ⟨ha,hb⟩
 ·obtain ⟨its,r,p,z⟩:=I.list ha
  obtain ⟨its2,r2,p2,z2⟩:=I.list hb
  have l1:=r.length
  have l2:=r2.length
  refine SeqAt.eq_listAt (e:=fun _=>true) p.isList p2.isList (by simp; omega) (by omega) (fun j h1 h2=>items_deep (X:=X) (pins:=pins) (σ:=σ) (H:=H) (n:=n) r r2 hrec j h1 h2) ⟨.bl _,H,I,rfl,?_⟩
  rw [all_true]
  exact q
 ·obtain ⟨its,r,p,z⟩:=I.tuple ha
  obtain ⟨its2,r2,p2,z2⟩:=I.tuple hb
  have l1:=r.length
  have l2:=r2.length
  refine SeqAt.eq_tupleAt (e:=fun _=>true) p p2 (by omega) (fun j h1 h2=>items_deep (X:=X) (pins:=pins) (σ:=σ) (H:=H) (n:=n) r r2 hrec j h1 h2) ⟨.bl _,H,I,rfl,?_⟩
  rw [min_true (by simp; omega)]
  exact q
theorem op_neQ (hu:X.A.units+100 < cLine) : OpR X (compareOp .NotEq) (rEqQ X.K true):=by
 intro pins s σ H x y v u Q I rx ry h
 obtain ⟨n,a,b,xs,ys,hn,rfl,rfl,hab,hl,hd,q⟩:=h
 cases rx
 cases ry
 have hrec:=fun i x y (e1:xs[i]? = some x) (e2:ys[i]? = some y) u v (ru:RelV x u) (rv:RelV y v)=>deep_eq I n X.A.in1 x y u v (hd i x y e1 e2) ru rv (by show X.A.units+1+n < cLine; omega)
 rcases hab with ⟨ha,hb⟩ | ⟨ha,hb⟩
 ·obtain ⟨its,r,p,z⟩:=I.list ha
  obtain ⟨its2,r2,p2,z2⟩:=I.list hb
  have l1:=r.length
  have l2:=r2.length
  refine SeqAt.RcNeAt.lists (e:=fun _=>true) p.isList p2.isList (by simp; omega) (by omega) (fun j h1 h2=>items_deep (X:=X) (pins:=pins) (σ:=σ) (H:=H) (n:=n) r r2 hrec j h1 h2) _ _ _ _ ⟨.bl _,H,I,rfl,?_⟩
  rw [all_true]
  exact q
 ·obtain ⟨its,r,p,z⟩:=I.tuple ha
  obtain ⟨its2,r2,p2,z2⟩:=I.tuple hb
  have l1:=r.length
  have l2:=r2.length
  refine SeqAt.RcNeAt.tuples (e:=fun _=>true) p p2 (by omega) (fun j h1 h2=>items_deep (X:=X) (pins:=pins) (σ:=σ) (H:=H) (n:=n) r r2 hrec j h1 h2) _ _ _ _ ⟨.bl _,H,I,rfl,?_⟩
  rw [min_true (by simp; omega)]
  exact q
end
def fillStep (w:Int) (rows:List (List Nat)) (t:List Nat) : List (List Nat):=
 match rows.getLast? with
 | none=>[t]
 | some l=>if (l.length:Int)+1+t.length≤w then rows.dropLast++[l++32 :: t] else rows++[t]
theorem fillStep_nil (w:Int) (t:List Nat) : fillStep w [] t=[t]:=rfl
theorem fillStep_snoc (w:Int) (rs:List (List Nat)) (l t:List Nat) : fillStep w (rs++[l]) t=if (l.length:Int)+1+t.length≤w then rs++[l++32 :: t] else rs++[l]++[t]:=by simp [fillStep]
def fillW (w:Int) (ts:List (List Nat)) : List (List Nat):=ts.foldl (fillStep w) []
theorem fillW_snoc (w:Int) (ts:List (List Nat)) (t:List Nat) : fillW w (ts++[t])=fillStep w (fillW w ts) t:=by simp [fillW,List.foldl_append]
theorem list_snoc {α:Type} (l:List α) : l=[]∨∃ r c,l=r++[c]:=by
 by_cases h:l=[]
 ·exact .inl h
 ·exact .inr ⟨l.dropLast,l.getLast h,(List.dropLast_concat_getLast h).symm⟩
theorem snoc_ind {α:Type} {P:List α→Prop} (h0:P []) (h1:∀ l a,P l→P (l++[a])) : ∀ l,P l:=by
 intro l
 have:∀ n (l:List α),l.length=n→P l:=by
  intro n
  induction n with
  | zero=>intro l hl; rw [List.eq_nil_of_length_eq_zero hl]; exact h0
  | succ n ih =>
   intro l hl
   rcases list_snoc l with rfl | ⟨r,c,rfl⟩
   ·exact h0
   ·exact h1 r c (ih r (by simp at hl; exact hl))
 exact this _ l rfl
def numStep (w:Int) (x:Int × Int) (t:Int) : Int × Int:=if 0 < x.1∧x.2+1+t≤w then (x.1,x.2+1+t) else (x.1+1,t)
def numW (w:Int) (ts:List Int) : Int × Int:=ts.foldl (numStep w) (0,0)
theorem numW_snoc (w:Int) (ts:List Int) (t:Int) : numW w (ts++[t])=numStep w (numW w ts) t:=by simp [numW,List.foldl_append]
theorem fill_num (w:Int) (ts:List (List Nat)) : (numW w (ts.map fun t=>(t.length:Int))).1=(fillW w ts).length∧((fillW w ts=[]∧ts=[])∨∃ rs l,fillW w ts=rs++[l]∧(numW w (ts.map fun t=>(t.length:Int))).2=l.length):=by
 refine snoc_ind (P:=fun ts=>(numW w (ts.map fun t=>(t.length:Int))).1=(fillW w ts).length∧((fillW w ts=[]∧ts=[])∨∃ rs l,fillW w ts=rs++[l]∧(numW w (ts.map fun t=>(t.length:Int))).2=l.length)) ⟨rfl,.inl ⟨rfl,rfl⟩⟩ ?_ ts
 intro ts t ih
 rw [List.map_append,List.map_singleton,numW_snoc,fillW_snoc]
 obtain ⟨h1,h2⟩:=ih
 rcases h2 with ⟨h2,h3⟩ | ⟨rs,l,h2,h3⟩
 ·rw [h2] at h1 ⊢
  rw [fillStep_nil,numStep,if_neg (by simp at h1; omega)]
  exact ⟨by simp at h1 ⊢; omega,.inr ⟨[],t,rfl,rfl⟩⟩
 ·rw [h2] at h1 ⊢
  rw [fillStep_snoc,numStep]
  by_cases e:(l.length:Int)+1+t.length≤w
  ·rw [if_pos e,if_pos ⟨by simp at h1; omega,by rw [h3]; exact e⟩]
   refine ⟨by simp at h1 ⊢; omega,.inr ⟨rs,_,rfl,?_⟩⟩
   simp
   omega
  ·rw [if_neg e,if_neg (by rw [h3]; omega)]
   exact ⟨by simp at h1 ⊢; omega,.inr ⟨rs++[l],t,rfl,rfl⟩⟩
theorem fill_wide (w:Int) (ts:List (List Nat)) : (fillW w ts).any (fun r=>decide (w < r.length))=ts.any (fun t=>decide (w < t.length)):=by
 refine snoc_ind (P:=fun ts=>(fillW w ts).any (fun r=>decide (w < r.length))=ts.any (fun t=>decide (w < t.length))) rfl ?_ ts
 intro ts t ih
 rw [fillW_snoc,List.any_append,← ih]
 rcases list_snoc (fillW w ts) with e | ⟨rs,l,e⟩
 ·rw [e,fillStep_nil]
  rfl
 ·rw [e,fillStep_snoc]
  by_cases c:(l.length:Int)+1+t.length≤w
  ·rw [if_pos c,List.any_append,List.any_append]
   have c1:¬ w < ((l++32 :: t).length:Int):=by simp; omega
   have c2:¬ w < (l.length:Int):=by omega
   have c3:¬ w < (t.length:Int):=by omega
   simp [c2,c3]
   all_goals omega
  ·rw [if_neg c,List.any_append]
def highF (w h:Int) (ts:List (List Nat)) : Int:=if (fillW w ts).any (fun r=>decide (w < r.length)) then h else if h < (fillW w ts).length then h else (fillW w ts).length
def highN (w h:Int) (ts:List Int) : Int:=if ts.any (fun t=>decide (w < t)) then h else if h < (numW w ts).1 then h else (numW w ts).1
theorem high_eq (w h:Int) (ts:List (List Nat)) : highF w h ts=highN w h (ts.map fun t=>(t.length:Int)):=by
 unfold highF highN
 rw [fill_wide,(fill_num w ts).1,List.any_map]
 rfl
def lexLe (x y:Int × Int) : Prop:=x.1 < y.1∨(x.1=y.1∧x.2≤y.2)
theorem step_grows {w t u:Int} {x y:Int × Int} (h:lexLe x y) (hx:0≤x.1) (hx2:0≤x.2) (hy2:0≤y.2) (ht:t≤u) (t0:0≤t) : lexLe (numStep w x t) (numStep w y u):=by
 obtain ⟨a,b⟩:=x
 obtain ⟨c,d⟩:=y
 unfold lexLe numStep at *
 simp only at *
 repeat' split
 all_goals (simp only; omega)
theorem lexLe.refl (x:Int × Int) : lexLe x x:=.inr ⟨rfl,Int.le_refl _⟩
theorem lexLe.trans {x y z:Int × Int} (a:lexLe x y) (b:lexLe y z) : lexLe x z:=by
 unfold lexLe at *
 omega
theorem fold_grows {w:Int} : ∀ {ts us:List Int} {x y:Int × Int},ts.length=us.length→(∀ k,k < ts.length→ts.getD k 0≤us.getD k 0)→(∀ t ∈ ts,0≤t)→lexLe x y→0≤x.1→0≤x.2→0≤y.2→lexLe (ts.foldl (numStep w) x) (us.foldl (numStep w) y)
 | [],[],x,y,_,_,_,h,_,_,_=>h
 | [],_ :: _,_,_,e,_,_,_,_,_,_=>by simp at e
 | _ :: _,[],_,_,e,_,_,_,_,_,_=>by simp at e
 | t :: ts,u :: us,x,y,e,hk,h0,h,a,b,c=>by
  have t0:=h0 t (by simp)
  have tu:t≤u:=hk 0 (by simp)
  rw [List.foldl_cons,List.foldl_cons]
  refine fold_grows (by simpa using e) (fun k hk2=>?_) (fun v hv=>h0 v (List.mem_cons_of_mem _ hv)) (step_grows h a b c tu t0) ?_ ?_ ?_
  ·have:=hk (k+1) (by simp; omega)
   simpa using this
  ·unfold numStep; split <;> simp only <;> omega
  ·unfold numStep; split <;> simp only <;> omega
  ·unfold numStep; split <;> simp only <;> omega
theorem any_grows {w:Int} : ∀ {ts us:List Int},ts.length=us.length→(∀ k,k < ts.length→ts.getD k 0≤us.getD k 0)→ts.any (fun t=>decide (w < t))=true→us.any (fun t=>decide (w < t))=true
 | [],[],_,_,h=>h
 | [],_ :: _,e,_,_=>by simp at e
 | _ :: _,[],e,_,_=>by simp at e
 | t :: ts,u :: us,e,hk,h=>by
  have tu:t≤u:=hk 0 (by simp)
  rw [List.any_cons,Bool.or_eq_true] at h ⊢
  rcases h with h | h
  ·exact .inl (decide_eq_true (by have:=of_decide_eq_true h; omega))
  ·exact .inr (any_grows (by simpa using e) (fun k hk2=>by have:=hk (k+1) (by simp; omega); simpa using this) h)
theorem high_grows {w h:Int} {ts us:List Int} (e:ts.length=us.length) (hk:∀ k,k < ts.length→ts.getD k 0≤us.getD k 0) (h0:∀ t ∈ ts,0≤t) : highN w h ts≤highN w h us:=by
 have a:=fold_grows (w:=w) e hk h0 (lexLe.refl (0,0)) (by decide) (by decide) (by decide)
 have b:=any_grows (w:=w) e hk
 have c:lexLe (numW w ts) (numW w us):=a
 unfold highN
 by_cases x:ts.any (fun t=>decide (w < t))=true
 ·rw [if_pos x,if_pos (b x)]
  exact Int.le_refl _
 ·rw [if_neg x]
  unfold lexLe at c
  repeat' split
  all_goals omega
def rowsV (rows:List (List Nat)) : List V:=rows.map fun t=>V.str (tx t)
def SaysA (K:PySem.W.Frag) (H:Hp) (bs:List Addr) (ss:List Say) : Prop:=bs.length=ss.length∧∀ (i:Nat) b s,bs[i]? = some b→ss[i]? = some s→SqT K H b (sayV s)
theorem SaysA.same {K:PySem.W.Frag} {H H':Hp} {bs:List Addr} {ss:List Say} (s:Same H H') (h:SaysA K H bs ss) : SaysA K H' bs ss:=⟨h.1,fun i a x e e'=>s.tup (h.2 i a x e e')⟩
theorem SaysA.lst {K:PySem.W.Frag} {H:Hp} {l:Addr} {ys zs:List V} {bs:List Addr} {ss:List Say} (e:H l=some (.lst ys)) (h:SaysA K H bs ss) : SaysA K (upd H l (.lst zs)) bs ss:=⟨h.1,fun i a x e1 e'=>SqT.lst e (h.2 i a x e1 e')⟩
theorem SaysA.nil {K:PySem.W.Frag} {H:Hp} : SaysA K H [] []:=⟨rfl,fun i a x e _=>by simp at e⟩
theorem SaysA.app {K:PySem.W.Frag} {H:Hp} {bs cs:List Addr} {ss ts:List Say} (h:SaysA K H bs ss) (g:SaysA K H cs ts) : SaysA K H (bs++cs) (ss++ts):=by
 refine ⟨by simp [h.1,g.1],fun i b y e e'=>?_⟩
 by_cases hi:i < bs.length
 ·rw [List.getElem?_append_left hi] at e
  rw [List.getElem?_append_left (by rw [← h.1]; exact hi)] at e'
  exact h.2 i b y e e'
 ·rw [List.getElem?_append_right (by omega)] at e
  rw [List.getElem?_append_right (by rw [← h.1]; omega),← h.1] at e'
  exact g.2 _ b y e e'
theorem SaysA.one {K:PySem.W.Frag} {H:Hp} {b:Addr} {s:Say} (h:SqT K H b (sayV s)) : SaysA K H [b] [s]:=by
 refine ⟨rfl,fun i a x e e'=>?_⟩
 match i,e,e' with
 | 0,e,e' =>
  cases e
  cases e'
  exact h
theorem SaysA.take {K:PySem.W.Frag} {H:Hp} {bs:List Addr} {ss:List Say} (h:SaysA K H bs ss) (n:Nat) : SaysA K H (bs.take n) (ss.take n):=by
 refine ⟨by simp [h.1],fun i b y e e'=>?_⟩
 rw [List.getElem?_take] at e e'
 split at e
 ·rename_i c
  rw [if_pos c] at e'
  exact h.2 i b y e e'
 ·cases e
theorem SaysA.drop {K:PySem.W.Frag} {H:Hp} {bs:List Addr} {ss:List Say} (h:SaysA K H bs ss) (n:Nat) : SaysA K H (bs.drop n) (ss.drop n):=by
 refine ⟨by simp [h.1],fun i b y e e'=>?_⟩
 rw [List.getElem?_drop] at e e'
 exact h.2 _ b y e e'
theorem Same.put {H H2:Hp} {r:Addr} {o:HO} (s:Same H H2) (hr:H r=none) : Same H (upd H2 r o):=fun b u q=>by rw [upd_ne (ne_of_none q hr)]; exact s b u q
theorem rowsV_snoc (rs:List (List Nat)) (t:List Nat) : rowsV (rs++[t])=rowsV rs++[V.str (tx t)]:=by simp [rowsV]
theorem cbl:(PySem.Str.ofString " ")=tx [32]:=by decide +kernel
theorem cutV_map {α:Type} (f:α→V) (ns:List α) (lo hi:Option Int) : cutV (ns.map f) lo hi=(cutL ns lo hi).map f:=by
 unfold cutV cutL
 rw [List.length_map,List.map_take,List.map_drop]
theorem pick {α:Type} (xs:List α) (m k:Int) (h:m=(xs.length:Int)) (h0:0 < m) : ∃ z,z ∈ xs∧atI xs (k % m)=some z:=by
 have b1:=Int.emod_nonneg k (show m≠0 by omega)
 have b2:=Int.emod_lt_of_pos k h0
 obtain ⟨d,hd⟩:=Int.eq_ofNat_of_zero_le b1
 have hl:d < xs.length:=by omega
 refine ⟨xs[d],List.getElem_mem hl,?_⟩
 rw [hd]
 exact atI_nat (List.getElem?_eq_getElem hl)
theorem at_int {xs:List Int} (k:Nat) (h:k < xs.length) : atI (xs.map V.int) (k:Int)=some (V.int (xs.getD k 0)):=by
 refine atI_nat ?_
 rw [List.getElem?_map,List.getD_eq_getElem?_getD,List.getElem?_eq_getElem h]
 rfl
def StrOk (n:Nat) (xs:List Int) : Prop:=xs.length=n∧∀ x ∈ xs,0≤x∧x < 2147483647
theorem StrOk.get {n k:Nat} {xs:List Int} (h:StrOk n xs) (hk:k < n) : 0≤xs.getD k 0∧xs.getD k 0 < 2147483647:=by
 have hk2:k < xs.length:=by rw [h.1]; exact hk
 rw [List.getD_eq_getElem?_getD,List.getElem?_eq_getElem hk2]
 exact h.2 _ (List.getElem_mem hk2)
theorem StrOk.at {n k:Nat} {xs:List Int} (h:StrOk n xs) (hk:k < n) : atI (xs.map V.int) (k:Int)=some (V.int (xs.getD k 0)):=at_int k (by rw [h.1]; exact hk)
structure Wd where
 lead:Int
 kept:Bool
 say:Say
 foot:List Say
structure WdOk (n:Nat) (d:Wd) : Prop where
 l0:0≤d.lead
 l1:d.lead≤4
 s:SayOk n d.say
 f:∀ s ∈ d.foot,SayOk n s
 n:d.foot.length≤40
def WdAt (K:PySem.W.Frag) (H:Hp) (a:Addr) (d:Wd) : Prop:=∃ (sa fo:Addr) (bs:List Addr),SqT K H a [.int d.lead,.bl d.kept,.ref sa,.ref fo]∧SqT K H sa (sayV d.say)∧SqL K H fo (bs.map V.ref)∧SaysA K H bs d.foot
theorem WdAt.same {K:PySem.W.Frag} {H H':Hp} {a:Addr} {d:Wd} (s:Same H H') (h:WdAt K H a d) : WdAt K H' a d:=by
 obtain ⟨sa,fo,bs,h1,h2,h3,h4⟩:=h
 exact ⟨sa,fo,bs,s.tup h1,s.tup h2,s.seq h3,h4.same s⟩
def WdsA (K:PySem.W.Frag) (H:Hp) (as:List Addr) (ds:List Wd) : Prop:=as.length=ds.length∧∀ (i:Nat) a d,as[i]? = some a→ds[i]? = some d→WdAt K H a d
theorem WdsA.same {K:PySem.W.Frag} {H H':Hp} {as:List Addr} {ds:List Wd} (s:Same H H') (h:WdsA K H as ds) : WdsA K H' as ds:=⟨h.1,fun i a d e e'=>(h.2 i a d e e').same s⟩
theorem WdsA.nil {K:PySem.W.Frag} {H:Hp} : WdsA K H [] []:=⟨rfl,fun i a x e _=>by simp at e⟩
theorem WdsA.snoc {K:PySem.W.Frag} {H:Hp} {as:List Addr} {ds:List Wd} {a:Addr} {d:Wd} (h:WdsA K H as ds) (hx:WdAt K H a d) : WdsA K H (as++[a]) (ds++[d]):=by
 refine ⟨by simp [h.1],fun i b y e e'=>?_⟩
 by_cases hi:i < as.length
 ·rw [List.getElem?_append_left hi] at e
  rw [List.getElem?_append_left (by rw [← h.1]; exact hi)] at e'
  exact h.2 i b y e e'
 ·rw [List.getElem?_append_right (by omega)] at e
  rw [List.getElem?_append_right (by rw [← h.1]; omega)] at e'
  have:i - as.length=0:=by
   rcases Nat.eq_zero_or_pos (i - as.length) with z | z
   ·exact z
   ·rw [List.getElem?_eq_none (by simp; omega)] at e; cases e
  rw [this] at e
  rw [← h.1,this] at e'
  cases e
  cases e'
  exact hx
def BkAt (K:PySem.W.Frag) (H:Hp) (b:Addr) (w h f m:Int) (ds:List Wd) : Prop:=∃ (fa wa:Addr) (as:List Addr),SqT K H b [.ref fa,.ref wa]∧SqT K H fa (fm w h f m)∧SqL K H wa (as.map V.ref)∧WdsA K H as ds
theorem BkAt.same {K:PySem.W.Frag} {H H':Hp} {b:Addr} {w h f m:Int} {ds:List Wd} (s:Same H H') (g:BkAt K H b w h f m ds) : BkAt K H' b w h f m ds:=by
 obtain ⟨fa,wa,as,h1,h2,h3,h4⟩:=g
 exact ⟨fa,wa,as,s.tup h1,s.tup h2,s.seq h3,h4.same s⟩
def LwAt (K:PySem.W.Frag) (H:Hp) (a:Addr) (xs:List (Int × Int)) : Prop:=∃ as:List Addr,SqL K H a (as.map V.ref)∧PlsA K H as xs
theorem LwAt.same {K:PySem.W.Frag} {H H':Hp} {a:Addr} {xs:List (Int × Int)} (s:Same H H') (h:LwAt K H a xs) : LwAt K H' a xs:=by
 obtain ⟨as,h1,h2⟩:=h
 exact ⟨as,s.seq h1,h2.same s⟩
theorem StrOk.cut {n a:Nat} {xs:List Int} (h:StrOk n xs) (b:Nat) (hb:a+b≤n) : StrOk b ((xs.drop a).take b):=by
 refine ⟨by simp [h.1]; omega,fun x hx=>h.2 x (List.mem_of_mem_drop (List.mem_of_mem_take hx))⟩

section
variable {prog:Program} {w:World} {A:Around} {R:Result→Shared→Prop} {I:Addr} {fp wr:List Addr} {P:Nat→Value→Prop} {St:Nat→Heap→Prop}
end
section
variable {prog:Program} {w:World} {A:Around} {R:Result→Shared→Prop} {I:Addr} {fp wr:List Addr} {P:Nat→Value→Prop} {St:Nat→Heap→Prop}
end
def laterI (x y:Int × Int) : Int × Int:=if sooner x y then y else x
structure Frm where
 w:Int
 h:Int
 f:Int
 m:Int
structure BkOk (F:Frm) (ds:List Wd) (xs:List (Int × Int)) : Prop where
 fo:FormOk F.w F.h F.f F.m
 len:ds.length=xs.length
 wd:∀ d ∈ ds,WdOk ds.length d
 po:PlsOk F.h xs
 n:ds.length≤400
def wd0:Wd:=⟨0,false,.text [],[]⟩
abbrev dAt (ds:List Wd) (i:Nat) : Wd:=ds.getD i wd0
abbrev xAt (xs:List (Int × Int)) (i:Nat) : Int × Int:=xs.getD i (0,0)
def wideW (F:Frm) (xs:List (Int × Int)) (d:Wd) : Int:=((saidL F.h F.f xs d.say).length:Int)
def highW (F:Frm) (xs:List (Int × Int)) (d:Wd) : Int:=highF F.w F.h (d.foot.map (saidL F.h F.f xs))
def toldBehind (F:Frm) (ds:List Wd) (xs:List (Int × Int)) (i:Nat) : Int × Int:=
 firstFrom F.f (if 0 < i then laterI (xAt xs i) (behindI F.h F.f (xAt xs (i - 1)) (dAt ds i).lead) else xAt xs i) (dAt ds i).lead
def toldWide (F:Frm) (xs:List (Int × Int)) (j:Nat) (wide:Int) : Option (Int × Int):=if wide≤F.w then none else some (behindI F.h F.f (xAt xs j) 1)
def toldHigh (F:Frm) (xs:List (Int × Int)) (i j:Nat) (high:Int) : Option (Int × Int):=if (xAt xs j).1 < (xAt xs i).1∨(xAt xs i).2+1+high≤F.h then none else some ((xAt xs i).1+1,0)
def toldKept (ds:List Wd) (xs:List (Int × Int)) (i:Nat) : Option (Int × Int):=if i+1=ds.length∨(dAt ds (i+1)).kept=false then none else some ((xAt xs (i+1)).1,0)
def toldNever (F:Frm) (ds:List Wd) (xs:List (Int × Int)) (i:Nat) : Option (Int × Int):=if wideW F xs (dAt ds i)≤F.w∧highW F xs (dAt ds i)+1≤F.h then none else some (F.m,0)
def segD (ds:List Wd) (j i:Nat) : List Wd:=(ds.drop j).take (i+1 - j)
def wides (F:Frm) (ds:List Wd) (xs:List (Int × Int)) (j i:Nat) : List Int:=(segD ds j i).map (wideW F xs)
def highs (F:Frm) (ds:List Wd) (xs:List (Int × Int)) (j i:Nat) : List Int:=(segD ds j i).map (highW F xs)
def together (l:List Int) : Int:=l.sum+l.length - 1
def PlO (K:PySem.W.Frag) (H:Hp) (v:V) : Option (Int × Int)→Prop
 | none=>v = .non
 | some x=>∃ q,v = .ref q∧SqT K H q (pl x)
theorem PlO.same {K:PySem.W.Frag} {H H':Hp} {v:V} {o:Option (Int × Int)} (s:Same H H') (h:PlO K H v o) : PlO K H' v o:=by
 cases o with
 | none=>exact h
 | some x=>obtain ⟨q,e,hq⟩:=h; exact ⟨q,e,s.tup hq⟩
theorem BkOk.d {F:Frm} {ds:List Wd} {xs:List (Int × Int)} (B:BkOk F ds xs) {i:Nat} (h:i < ds.length) : ds[i]? = some (dAt ds i)∧WdOk xs.length (dAt ds i):=by
 have e:ds[i]? = some ds[i]:=List.getElem?_eq_getElem h
 have e2:dAt ds i=ds[i]:=by show ds.getD i wd0=_; rw [List.getD_eq_getElem?_getD,e]; rfl
 rw [e2]
 exact ⟨e,B.len ▸ B.wd _ (List.getElem_mem h)⟩
theorem BkOk.x {F:Frm} {ds:List Wd} {xs:List (Int × Int)} (B:BkOk F ds xs) {i:Nat} (h:i < ds.length) : RowIn F.h (xAt xs i)∧(xAt xs i).1 < 10 ^ 60:=B.po.get (B.len ▸ h)
theorem WdsA.get {K:PySem.W.Frag} {H:Hp} {as:List Addr} {ds:List Wd} (h:WdsA K H as ds) {k:Nat} (hk:k < ds.length) : ∃ a,atI (as.map V.ref) (k:Int)=some (V.ref a)∧WdAt K H a (dAt ds k):=by
 have hk2:k < as.length:=by rw [h.1]; exact hk
 refine ⟨as[k],atI_nat (by rw [List.getElem?_map,List.getElem?_eq_getElem hk2]; rfl),?_⟩
 have e:ds[k]? = some (dAt ds k):=by
  show _=some (ds.getD k wd0)
  rw [List.getD_eq_getElem?_getD,List.getElem?_eq_getElem hk]
  rfl
 exact h.2 k _ _ (List.getElem?_eq_getElem hk2) e
theorem WdsA.drop {K:PySem.W.Frag} {H:Hp} {as:List Addr} {ds:List Wd} (h:WdsA K H as ds) (n:Nat) : WdsA K H (as.drop n) (ds.drop n):=by
 refine ⟨by simp [h.1],fun i b y e e'=>?_⟩
 rw [List.getElem?_drop] at e e'
 exact h.2 _ b y e e'
theorem WdsA.take {K:PySem.W.Frag} {H:Hp} {as:List Addr} {ds:List Wd} (h:WdsA K H as ds) (n:Nat) : WdsA K H (as.take n) (ds.take n):=by
 refine ⟨by simp [h.1],fun i b y e e'=>?_⟩
 rw [List.getElem?_take] at e e'
 split at e
 ·rename_i c
  rw [if_pos c] at e'
  exact h.2 i b y e e'
 ·cases e
theorem LwAt.get {K:PySem.W.Frag} {H:Hp} {a:Addr} {xs:List (Int × Int)} {as:List Addr} (h:PlsA K H as xs) {k:Nat} (hk:k < xs.length) : ∃ b,atI (as.map V.ref) (k:Int)=some (V.ref b)∧SqT K H b (pl (xAt xs k)):=h.get hk
def PlOs (K:PySem.W.Frag) (H:Hp) (vs:List V) (os:List (Option (Int × Int))) : Prop:=vs.length=os.length∧∀ (k:Nat) v o,vs[k]? = some v→os[k]? = some o→PlO K H v o
theorem PlOs.same {K:PySem.W.Frag} {H H':Hp} {vs:List V} {os:List (Option (Int × Int))} (s:Same H H') (h:PlOs K H vs os) : PlOs K H' vs os:=⟨h.1,fun k v o e e'=>(h.2 k v o e e').same s⟩
theorem PlO.lst {K:PySem.W.Frag} {H:Hp} {l:Addr} {ys zs:List V} {v:V} {o:Option (Int × Int)} (e:H l=some (.lst ys)) (h:PlO K H v o) : PlO K (upd H l (.lst zs)) v o:=by
 cases o with
 | none=>exact h
 | some x=>obtain ⟨q,e1,hq⟩:=h; exact ⟨q,e1,SqT.lst e hq⟩
theorem PlOs.lst {K:PySem.W.Frag} {H:Hp} {l:Addr} {ys zs:List V} {vs:List V} {os:List (Option (Int × Int))} (e:H l=some (.lst ys)) (h:PlOs K H vs os) : PlOs K (upd H l (.lst zs)) vs os:=⟨h.1,fun k v o e1 e'=>(h.2 k v o e1 e').lst e⟩
theorem PlOs.nil {K:PySem.W.Frag} {H:Hp} : PlOs K H [] []:=⟨rfl,fun k v o e _=>by simp at e⟩
theorem PlOs.snoc {K:PySem.W.Frag} {H:Hp} {vs:List V} {os:List (Option (Int × Int))} {v:V} {o:Option (Int × Int)} (h:PlOs K H vs os) (hx:PlO K H v o) : PlOs K H (vs++[v]) (os++[o]):=by
 refine ⟨by simp [h.1],fun i b y e e'=>?_⟩
 by_cases hi:i < vs.length
 ·rw [List.getElem?_append_left hi] at e
  rw [List.getElem?_append_left (by rw [← h.1]; exact hi)] at e'
  exact h.2 i b y e e'
 ·rw [List.getElem?_append_right (by omega)] at e
  rw [List.getElem?_append_right (by rw [← h.1]; omega)] at e'
  have:i - vs.length=0:=by
   rcases Nat.eq_zero_or_pos (i - vs.length) with z | z
   ·exact z
   ·rw [List.getElem?_eq_none (by simp; omega)] at e; cases e
  rw [this] at e
  rw [← h.1,this] at e'
  cases e
  cases e'
  exact hx
def allTold (F:Frm) (ds:List Wd) (xs:List (Int × Int)) (i:Nat) : List (Option (Int × Int)):=
 [some (toldBehind F ds xs i),toldKept ds xs i,toldNever F ds xs i]++(List.range i).map (fun j=>toldWide F xs j (together (wides F ds xs j i)))++(List.range (i+1)).map (fun j=>toldHigh F xs i j (highs F ds xs j i).sum)
def bestOf (b:Int × Int) (os:List (Option (Int × Int))) : Int × Int:=os.foldl (fun b o=>match o with | none=>b | some x=>laterI b x) b
def raisedI (F:Frm) (ds:List Wd) (xs:List (Int × Int)) (i:Nat) : Int × Int:=bestOf (xAt xs i) (allTold F ds xs i)
theorem cut_fr {α:Type} (xs:List α) (a:Nat) : cutL xs (some (a:Int)) none=xs.drop a:=by
 unfold cutL HT.sIx
 have h2:¬ ((a:Int) < 0):=by omega
 simp only [if_neg h2,Int.toNat_natCast]
 rw [List.take_of_length_le (by simp)]
 by_cases g:a≤xs.length
 ·rw [Nat.min_eq_left g]
 ·rw [Nat.min_eq_right (by omega),List.drop_of_length_le (by omega),List.drop_of_length_le (by omega)]
theorem PlsA.set {K:PySem.W.Frag} {H:Hp} {as:List Addr} {xs:List (Int × Int)} {a:Addr} {x:Int × Int} (h:PlsA K H as xs) (k:Nat) (hx:SqT K H a (pl x)) : PlsA K H (as.set k a) (xs.set k x):=by
 refine ⟨by simp [h.1],fun i b y e e'=>?_⟩
 rw [List.getElem?_set] at e e'
 by_cases c:k=i
 ·rw [if_pos c] at e e'
  split at e
  ·split at e'
   ·cases e; cases e'; exact hx
   ·cases e'
  ·cases e
 ·rw [if_neg c] at e e'
  exact h.2 i b y e e'
theorem PlsOk.set {h:Int} {xs:List (Int × Int)} {x:Int × Int} (o:PlsOk h xs) (k:Nat) (i:RowIn h x) (b:x.1 < 10 ^ 60) : PlsOk h (xs.set k x):=by
 intro y hy
 rcases List.mem_or_eq_of_mem_set hy with hy | rfl
 ·exact o y hy
 ·exact ⟨i,b⟩
def Cp (K:PySem.W.Frag) (H:Hp) (a b:Addr) : Prop:=∃ (l:Int) (k:Bool) (sa fo fo':Addr) (bs:List Addr),SqT K H a [.int l,.bl k,.ref sa,.ref fo]∧SqT K H b [.int l,.bl k,.ref sa,.ref fo']∧SqL K H fo (bs.map V.ref)∧SqL K H fo' (bs.map V.ref)
theorem Cp.same {K:PySem.W.Frag} {H H':Hp} {a b:Addr} (s:Same H H') (h:Cp K H a b) : Cp K H' a b:=by
 obtain ⟨l,k,sa,fo,fo',bs,h1,h2,h3,h4⟩:=h
 exact ⟨l,k,sa,fo,fo',bs,s.tup h1,s.tup h2,s.seq h3,s.seq h4⟩
def CpA (K:PySem.W.Frag) (H:Hp) (as bs:List Addr) : Prop:=as.length=bs.length∧∀ (i:Nat) a b,as[i]? = some a→bs[i]? = some b→Cp K H a b
theorem CpA.same {K:PySem.W.Frag} {H H':Hp} {as bs:List Addr} (s:Same H H') (h:CpA K H as bs) : CpA K H' as bs:=⟨h.1,fun i a b e e'=>(h.2 i a b e e').same s⟩
theorem CpA.snoc {K:PySem.W.Frag} {H:Hp} {as bs:List Addr} {a b:Addr} (h:CpA K H as bs) (hx:Cp K H a b) : CpA K H (as++[a]) (bs++[b]):=by
 refine ⟨by simp [h.1],fun i c y e e'=>?_⟩
 by_cases hi:i < as.length
 ·rw [List.getElem?_append_left hi] at e
  rw [List.getElem?_append_left (by rw [← h.1]; exact hi)] at e'
  exact h.2 i c y e e'
 ·rw [List.getElem?_append_right (by omega)] at e
  rw [List.getElem?_append_right (by rw [← h.1]; omega)] at e'
  have:i - as.length=0:=by
   rcases Nat.eq_zero_or_pos (i - as.length) with z | z
   ·exact z
   ·rw [List.getElem?_eq_none (by simp; omega)] at e; cases e
  rw [this] at e
  rw [← h.1,this] at e'
  cases e
  cases e'
  exact hx
inductive CL:List Expr→List V→Prop where
 | nil:CL [] []
 | int {i:Int} {j:Nat} {pos:Pos} {es:List Expr} {vs:List V} (h:CL es vs) : CL (.Constant (.int i) j pos :: es) (.int i :: vs)
 | str {x:Str} {j:Nat} {pos:Pos} {es:List Expr} {vs:List V} (h:CL es vs) : CL (.Constant (.str x) j pos :: es) (.str x :: vs)
def tVs (vs:List V) : TA:=fun _ H Q=>Q vs H
theorem pa_cl {X:Cx} : ∀ {es:List Expr} {vs:List V},CL es vs→PA X es (tVs vs)
 | _,_,.nil=>pa_nil
 | _,_,.int h=>pa_cons pe_int (pa_cl h)
 | _,_,.str h=>pa_cons pe_str (pa_cl h)
theorem ps_pick {X:Cx} {i:Nat} {x:Str} {es:List Expr} {vs:List V} {b:Expr} {tb:TE} {p1 p2 p3 p4:Pos} (hN:X.N.Nodup) (hi:X.N[i]? = some x) (hx:Loc X.env.scope x) (hc:CL es vs) (hb:PE X b tb) (hs:PlainIx b)
  (hf:X.fn x=true∨X.env.scope.names.lookup x=some .local) : PS X (.Assign [.Name x p1] (.Subscript (.List es p2) b p3) p4) (tAsg (tOp (rIxL X.K) (tLst (tVs vs)) tb) (gName i)):=
 ps_set (i:=i) hN hi hx (pe_ix ix_list (pe_lst (pa_cl hc)) hb hs)
def rLen (K:PySem.W.Frag) : List V→Hp→VK→Prop:=fun xs H Q=>∃ p ys,xs=[.ref p]∧(SqL K H p ys∨SqT K H p ys)∧Q (.int (ys.length:Nat)) H
section
variable (F:Frm) (ds:List Wd) (xs:List (Int × Int)) (k:Str) (i:Nat) (j:Int)
end
def rList (K:PySem.W.Frag) : List V→Hp→VK→Prop:=fun xs H Q=>∃ p ys,xs=[.ref p]∧(SqL K H p ys∨SqT K H p ys)∧∀ l,H l=none→Q (.ref l) (upd H l (.lst ys))
theorem hu100 {A:Around} {k:Nat} (hr:Room k A) : A.units+100 < cLine:=by have:=hr.un; omega
theorem le_tr {x y z:Int × Int} (a:sooner y x=false) (b:sooner z y=false) : sooner z x=false:=by
 rw [not_sooner] at a b ⊢
 omega
theorem later_ge1 (x y:Int × Int) : sooner (laterI x y) x=false:=by
 unfold laterI
 cases e:sooner x y with
 | true =>
  rw [if_pos rfl]
  rw [sooner_iff] at e
  rw [not_sooner]
  omega
 | false=>rw [if_neg (by decide)]; exact sooner_refl x
theorem later_ge2 (x y:Int × Int) : sooner (laterI x y) y=false:=by
 unfold laterI
 cases e:sooner x y with
 | true=>rw [if_pos rfl]; exact sooner_refl y
 | false=>rw [if_neg (by decide)]; exact e
theorem later_le {x y z:Int × Int} (a:sooner z x=false) (b:sooner z y=false) : sooner z (laterI x y)=false:=by
 unfold laterI
 cases e:sooner x y with
 | true=>rw [if_pos rfl]; exact b
 | false=>rw [if_neg (by decide)]; exact a
theorem best_ge:∀ (os:List (Option (Int × Int))) (b:Int × Int),sooner (bestOf b os) b=false∧∀ x,some x ∈ os→sooner (bestOf b os) x=false
 | [],b=>⟨sooner_refl b,fun x h=>by cases h⟩
 | none :: r,b=>by
  obtain ⟨h1,h2⟩:=best_ge r b
  refine ⟨h1,fun x h=>h2 x ?_⟩
  rcases List.mem_cons.mp h with h | h
  ·cases h
  ·exact h
 | some y :: r,b=>by
  obtain ⟨h1,h2⟩:=best_ge r (laterI b y)
  refine ⟨le_tr (later_ge1 b y) h1,fun x h=>?_⟩
  rcases List.mem_cons.mp h with h | h
  ·have e:x=y:=by cases h; rfl
   rw [e]
   exact le_tr (later_ge2 b y) h1
  ·exact h2 x h
theorem best_le:∀ (os:List (Option (Int × Int))) (b z:Int × Int),sooner z b=false→(∀ x,some x ∈ os→sooner z x=false)→sooner z (bestOf b os)=false
 | [],b,z,h,_=>h
 | none :: r,b,z,h,h2=>best_le r b z h fun x hx=>h2 x (List.mem_cons_of_mem _ hx)
 | some y :: r,b,z,h,h2=>best_le r (laterI b y) z (later_le h (h2 y List.mem_cons_self)) fun x hx=>h2 x (List.mem_cons_of_mem _ hx)
theorem sum_le {α:Type} {f g:α→Int} : ∀ (l:List α),(∀ d ∈ l,f d≤g d)→(l.map f).sum≤(l.map g).sum
 | [],_=>Int.le_refl _
 | a :: r,h=>by
  have h1:=h a List.mem_cons_self
  have h2:=sum_le r fun d hd=>h d (List.mem_cons_of_mem _ hd)
  rw [List.map_cons,List.map_cons,List.sum_cons,List.sum_cons]
  omega
section
variable {F:Frm} {ds:List Wd} {xs ys:List (Int × Int)}
theorem wide_grows (B:BkOk F ds xs) (C:BkOk F ds ys) (le:PlsLe xs ys) {d:Wd} (hd:d ∈ ds) : wideW F xs d≤wideW F ys d:=by
 have wk:=B.wd d hd
 rw [B.len] at wk
 have:=said_grows B.fo B.po C.po le wk.s
 unfold wideW
 omega
theorem foot_grows (B:BkOk F ds xs) (C:BkOk F ds ys) (le:PlsLe xs ys) {d:Wd} (hd:d ∈ ds) : highW F xs d≤highW F ys d:=by
 have wk:=B.wd d hd
 rw [B.len] at wk
 unfold highW
 rw [high_eq,high_eq]
 refine high_grows (by simp) (fun k hk=>?_) (fun t ht=>?_)
 ·rw [List.length_map,List.length_map] at hk
  have hs:=wk.f (d.foot[k]) (List.getElem_mem hk)
  have:=said_grows B.fo B.po C.po le hs
  simp only [List.getD_eq_getElem?_getD,List.getElem?_map,List.getElem?_eq_getElem hk,Option.map_some,Option.getD_some]
  omega
 ·obtain ⟨u,_,rfl⟩:=List.mem_map.mp ht
  omega
theorem seg_mem {j i:Nat} {d:Wd} (h:d ∈ segD ds j i) : d ∈ ds:=List.mem_of_mem_drop (List.mem_of_mem_take h)
theorem wides_grow (B:BkOk F ds xs) (C:BkOk F ds ys) (le:PlsLe xs ys) (j i:Nat) : together (wides F ds xs j i)≤together (wides F ds ys j i):=by
 have:=sum_le (f:=wideW F xs) (g:=wideW F ys) (segD ds j i) fun d hd=>wide_grows B C le (seg_mem hd)
 unfold together wides
 rw [List.length_map,List.length_map]
 omega
theorem highs_grow (B:BkOk F ds xs) (C:BkOk F ds ys) (le:PlsLe xs ys) (j i:Nat) : (highs F ds xs j i).sum≤(highs F ds ys j i).sum:=
 sum_le (segD ds j i) fun d hd=>foot_grows B C le (seg_mem hd)
theorem all_mem {i:Nat} {x:Int × Int} : some x ∈ allTold F ds xs i↔(x=toldBehind F ds xs i∨toldKept ds xs i=some x∨toldNever F ds xs i=some x∨(∃ j,j < i∧toldWide F xs j (together (wides F ds xs j i))=some x)∨∃ j,j < i+1∧toldHigh F xs i j (highs F ds xs j i).sum=some x):=by
 unfold allTold
 simp only [List.mem_append,List.mem_cons,List.mem_map,List.mem_range,List.not_mem_nil,or_false,Option.some.injEq]
 constructor
 ·rintro (((h | h | h) | ⟨j,h1,h2⟩) | ⟨j,h1,h2⟩)
  ·exact .inl h
  ·exact .inr (.inl h.symm)
  ·exact .inr (.inr (.inl h.symm))
  ·exact .inr (.inr (.inr (.inl ⟨j,h1,h2⟩)))
  ·exact .inr (.inr (.inr (.inr ⟨j,h1,h2⟩)))
 ·rintro (h | h | h | ⟨j,h1,h2⟩ | ⟨j,h1,h2⟩)
  ·exact .inl (.inl (.inl h))
  ·exact .inl (.inl (.inr (.inl h.symm)))
  ·exact .inl (.inl (.inr (.inr h.symm)))
  ·exact .inl (.inr ⟨j,h1,h2⟩)
  ·exact .inr ⟨j,h1,h2⟩
theorem behind_told_grows (B:BkOk F ds xs) (C:BkOk F ds ys) (le:PlsLe xs ys) {i:Nat} (hi:i < ds.length) : sooner (toldBehind F ds ys i) (toldBehind F ds xs i)=false:=by
 have wk:=(B.d hi).2
 have rx:=(B.x hi).1
 have ry:=(C.x hi).1
 have l0:sooner (xAt ys i) (xAt xs i)=false:=le.2 i (by rw [← B.len]; exact hi)
 unfold toldBehind
 by_cases c:0 < i
 ·rw [if_pos c,if_pos c]
  have rx1:=(B.x (show i - 1 < ds.length by omega)).1
  have ry1:=(C.x (show i - 1 < ds.length by omega)).1
  have l1:sooner (xAt ys (i - 1)) (xAt xs (i - 1))=false:=le.2 (i - 1) (by rw [← B.len]; omega)
  have g:=behind_grows (f:=F.f) rx1 ry1 l1 wk.l0 (Int.le_refl _) wk.l1
  have bx:=behind_in (f:=F.f) rx1 wk.l0 wk.l1
  have byy:=behind_in (f:=F.f) ry1 wk.l0 wk.l1
  have li:∀ {a b:Int × Int},RowIn F.h a→RowIn F.h b→RowIn F.h (laterI a b):=fun {a b} ha hb=>by
   unfold laterI
   split
   ·exact hb
   ·exact ha
  refine first_grows (li rx bx) (li ry byy) ?_ (Int.le_refl _) wk.l1
  exact later_le (le_tr l0 (later_ge1 _ _)) (le_tr g (later_ge2 _ _))
 ·rw [if_neg c,if_neg c]
  exact first_grows rx ry l0 (Int.le_refl _) wk.l1
theorem raised_grows (B:BkOk F ds xs) (C:BkOk F ds ys) (le:PlsLe xs ys) {i:Nat} (hi:i < ds.length) : sooner (raisedI F ds ys i) (raisedI F ds xs i)=false:=by
 have l0:sooner (xAt ys i) (xAt xs i)=false:=le.2 i (by rw [← B.len]; exact hi)
 obtain ⟨g1,g2⟩:=best_ge (allTold F ds ys i) (xAt ys i)
 have gi:sooner (raisedI F ds ys i) (xAt ys i)=false:=g1
 have gm:∀ x,some x ∈ allTold F ds ys i→sooner (raisedI F ds ys i) x=false:=g2
 have hmem:dAt ds i ∈ ds:=List.mem_of_getElem? (B.d hi).1
 refine best_le _ _ _ (le_tr l0 gi) fun x hx=>?_
 rcases all_mem.mp hx with h | h | h | ⟨j,hj,h⟩ | ⟨j,hj,h⟩
 ·rw [h]
  exact le_tr (behind_told_grows B C le hi) (gm _ (all_mem.mpr (.inl rfl)))
 ·unfold toldKept at h
  split at h
  ·cases h
  ·rename_i c
   cases h
   have hi1:i+1 < ds.length:=by omega
   refine le_tr (y:=((xAt ys (i+1)).1,0)) ?_ (gm _ (all_mem.mpr (.inr (.inl ?_))))
   ·have l1:sooner (xAt ys (i+1)) (xAt xs (i+1))=false:=le.2 (i+1) (by rw [← B.len]; exact hi1)
    rw [not_sooner] at l1 ⊢
    simp only
    omega
   ·unfold toldKept
    rw [if_neg c]
 ·unfold toldNever at h
  split at h
  ·cases h
  ·rename_i c
   cases h
   refine gm _ (all_mem.mpr (.inr (.inr (.inl ?_))))
   unfold toldNever
   have w1:=wide_grows B C le hmem
   have w2:=foot_grows B C le hmem
   rw [if_neg (by omega)]
 ·unfold toldWide at h
  split at h
  ·cases h
  ·rename_i c
   cases h
   have w1:=wides_grow B C le j i
   have hj2:j < ds.length:=by omega
   have l1:sooner (xAt ys j) (xAt xs j)=false:=le.2 j (by rw [← B.len]; exact hj2)
   refine le_tr (behind_grows (f:=F.f) (B.x hj2).1 (C.x hj2).1 l1 (by decide) (Int.le_refl _) (by decide)) (gm _ (all_mem.mpr (.inr (.inr (.inr (.inl ⟨j,hj,?_⟩))))))
   unfold toldWide
   rw [if_neg (by omega)]
 ·unfold toldHigh at h
  split at h
  ·cases h
  ·rename_i c
   cases h
   have w1:=highs_grow B C le j i
   have hj2:j < ds.length:=by omega
   have l1:sooner (xAt ys j) (xAt xs j)=false:=le.2 j (by rw [← B.len]; exact hj2)
   have rx:=(C.x hi).1.r1
   by_cases c2:(xAt xs i).1 < (xAt ys i).1
   ·refine le_tr ?_ gi
    rw [not_sooner]
    simp only
    omega
   ·rw [not_sooner] at l0 l1
    have e1:(xAt ys i).1=(xAt xs i).1:=by omega
    refine gm _ (all_mem.mpr (.inr (.inr (.inr (.inr ⟨j,hj,?_⟩)))))
    unfold toldHigh
    rw [if_neg (by omega),e1]
end
def PlsB (h:Int) (xs:List (Int × Int)) : Prop:=∀ x ∈ xs,RowIn h x∧x.1 < 10 ^ 60 - 900
theorem PlsB.ok {h:Int} {xs:List (Int × Int)} (o:PlsB h xs) : PlsOk h xs:=fun x hx=>⟨(o x hx).1,by have:=(o x hx).2; omega⟩
theorem PlsB.get {h:Int} {xs:List (Int × Int)} (o:PlsB h xs) {k:Nat} (hk:k < xs.length) : RowIn h (xs.getD k (0,0))∧(xs.getD k (0,0)).1 < 10 ^ 60 - 900:=by
 rw [List.getD_eq_getElem?_getD,List.getElem?_eq_getElem hk]
 exact o _ (List.getElem_mem hk)
theorem PlsB.snoc {h:Int} {xs:List (Int × Int)} {x:Int × Int} (o:PlsB h xs) (i:RowIn h x) (b:x.1 < 10 ^ 60 - 900) : PlsB h (xs++[x]):=by
 intro y hy
 rcases List.mem_append.mp hy with hy | hy
 ·exact o y hy
 ·rw [List.mem_singleton.mp hy]
  exact ⟨i,b⟩
theorem PlsB.set {h:Int} {xs:List (Int × Int)} {x:Int × Int} (o:PlsB h xs) (k:Nat) (i:RowIn h x) (b:x.1 < 10 ^ 60 - 900) : PlsB h (xs.set k x):=by
 intro y hy
 rcases List.mem_or_eq_of_mem_set hy with hy | rfl
 ·exact o y hy
 ·exact ⟨i,b⟩
section
variable {prog:Program} {w:World} {A:Around} {R:Result→Shared→Prop} {I:Addr} {fp wr:List Addr} {n:Nat} {P:Nat→Value→Prop} {St:Nat→Heap→Prop}
end
def Cov (ps:List (Int × Int)) (x:Int × Int) : Prop:=∃ p ∈ ps,sooner p x=false
theorem Cov.app {ps:List (Int × Int)} {x:Int × Int} (h:Cov ps x) (y:Int × Int) : Cov (ps++[y]) x:=by
 obtain ⟨p,hp,e⟩:=h
 exact ⟨p,List.mem_append_left _ hp,e⟩
theorem Cov.last (ps:List (Int × Int)) (y:Int × Int) : Cov (ps++[y]) y:=⟨y,by simp,sooner_refl y⟩
def CovO (ps:List (Int × Int)) (o:Option (Int × Int)) : Prop:=∀ x,o=some x→Cov ps x
theorem CovO.app {ps:List (Int × Int)} {o:Option (Int × Int)} (h:CovO ps o) (y:Int × Int) : CovO (ps++[y]) o:=fun x e=>(h x e).app y
section
variable {F:Frm} {ds:List Wd} {xs:List (Int × Int)} {i:Nat}
def told3 (F:Frm) (ds:List Wd) (xs:List (Int × Int)) (i:Nat) : Nat→Option (Int × Int)
 | 0=>some (toldBehind F ds xs i)
 | 1=>toldKept ds xs i
 | _=>toldNever F ds xs i
structure Lat1 (F:Frm) (ds:List Wd) (xs:List (Int × Int)) (i n:Nat) (ps:List (Int × Int)) : Prop where
 und:∀ p ∈ ps,sooner (raisedI F ds xs i) p=false
 c0:Cov ps (xAt xs i)
 c:∀ k,k < n→CovO ps (told3 F ds xs i k)
structure Lat2 (F:Frm) (ds:List Wd) (xs:List (Int × Int)) (i t:Nat) (ps:List (Int × Int)) : Prop where
 base:Lat1 F ds xs i 3 ps
 cw:∀ j,i+1≤t+j→j < i→CovO ps (toldWide F xs j (together (wides F ds xs j i)))
 ch:∀ j,i+1≤t+j→j≤i→CovO ps (toldHigh F xs i j (highs F ds xs j i).sum)
theorem Lat1.start:Lat1 F ds xs i 0 [xAt xs i]:=by
 refine ⟨fun p hp=>?_,⟨_,List.mem_singleton.mpr rfl,sooner_refl _⟩,fun k hk=>absurd hk (Nat.not_lt_zero _)⟩
 rw [List.mem_singleton.mp hp]
 exact (best_ge _ _).1
theorem in_raised {x:Int × Int} (h:some x ∈ allTold F ds xs i) : sooner (raisedI F ds xs i) x=false:=(best_ge _ _).2 x h
theorem told3_mem {k:Nat} {x:Int × Int} (h:told3 F ds xs i k=some x) : some x ∈ allTold F ds xs i:=by
 rw [all_mem]
 match k,h with
 | 0,h=>exact .inl (Option.some.inj h).symm
 | 1,h=>exact .inr (.inl h)
 | k+2,h=>exact .inr (.inr (.inl h))
theorem Lat1.no {n:Nat} {ps:List (Int × Int)} (h:Lat1 F ds xs i n ps) (e:∀ x,told3 F ds xs i n=some x→sooner (xAt xs i) x=false) : Lat1 F ds xs i (n+1) ps:=by
 refine ⟨h.und,h.c0,fun k hk x ex=>?_⟩
 by_cases c:k=n
 ·subst c
  obtain ⟨p,hp,e0⟩:=h.c0
  exact ⟨p,hp,le_tr (e x ex) e0⟩
 ·exact h.c k (by omega) x ex
theorem Lat1.yes {n:Nat} {ps:List (Int × Int)} {y:Int × Int} (h:Lat1 F ds xs i n ps) (e:told3 F ds xs i n=some y) : Lat1 F ds xs i (n+1) (ps++[y]):=by
 refine ⟨fun p hp=>?_,h.c0.app y,fun k hk x ex=>?_⟩
 ·rcases List.mem_append.mp hp with hp | hp
  ·exact h.und p hp
  ·rw [List.mem_singleton.mp hp]
   exact in_raised (told3_mem e)
 ·by_cases c:k=n
  ·subst c
   rw [e] at ex
   cases ex
   exact Cov.last ps _
  ·exact (h.c k (by omega)).app y x ex
theorem Lat1.snoc {n:Nat} {ps:List (Int × Int)} {y:Int × Int} (h:Lat1 F ds xs i n ps) (hy:some y ∈ allTold F ds xs i) : Lat1 F ds xs i n (ps++[y]):=by
 refine ⟨fun p hp=>?_,h.c0.app y,fun k hk=>(h.c k hk).app y⟩
 rcases List.mem_append.mp hp with hp | hp
 ·exact h.und p hp
 ·rw [List.mem_singleton.mp hp]
  exact in_raised hy
theorem Lat2.start {ps:List (Int × Int)} (h:Lat1 F ds xs i 3 ps) : Lat2 F ds xs i 0 ps:=⟨h,fun j a b=>by omega,fun j a b=>by omega⟩
end
section
variable {F:Frm} {ds:List Wd} {xs ys:List (Int × Int)} {i:Nat}
def Fixd (F:Frm) (ds:List Wd) (xs:List (Int × Int)) : Prop:=∀ i,i < ds.length→raisedI F ds xs i=xAt xs i
def Pages (m:Int) (xs:List (Int × Int)) : Prop:=∀ x ∈ xs,x.1 < m
def LowX (F:Frm) (ds:List Wd) (xs:List (Int × Int)) : Prop:=∀ X,BkOk F ds X→Fixd F ds X→PlsLe xs X
theorem xAt_set {k:Nat} {y:Int × Int} (hi:i < xs.length) : xAt (xs.set i y) k=if k=i then y else xAt xs k:=by
 show (xs.set i y).getD k (0,0)=if k=i then y else xs.getD k (0,0)
 rw [List.getD_eq_getElem?_getD,List.getElem?_set]
 by_cases c:i=k
 ·subst c
  rw [if_pos rfl,if_pos rfl,if_pos hi]
  rfl
 ·rw [if_neg c,if_neg (Ne.symm c),← List.getD_eq_getElem?_getD]
theorem xAt_mem {k:Nat} (hk:k < xs.length) : xAt xs k ∈ xs:=by
 show xs.getD k (0,0) ∈ xs
 rw [List.getD_eq_getElem?_getD,List.getElem?_eq_getElem hk]
 exact List.getElem_mem hk
theorem BkOk.set (B:BkOk F ds xs) {y:Int × Int} (r:RowIn F.h y) (b:y.1 < 10 ^ 60) : BkOk F ds (xs.set i y):=⟨B.fo,by rw [List.length_set]; exact B.len,B.wd,B.po.set i r b,B.n⟩
theorem LowX.set (L:LowX F ds xs) (B:BkOk F ds xs) (hi:i < ds.length) : LowX F ds (xs.set i (raisedI F ds xs i)):=by
 intro X C fx
 have le:=L X C fx
 refine ⟨by rw [List.length_set]; exact le.1,fun k hk=>?_⟩
 rw [List.length_set] at hk
 have e:=xAt_set (k:=k) (y:=raisedI F ds xs i) (show i < xs.length by rw [← B.len]; exact hi)
 show sooner (xAt X k) (xAt (xs.set i (raisedI F ds xs i)) k)=false
 rw [e]
 by_cases c:k=i
 ·rw [if_pos c,c,← fx i hi]
  exact raised_grows B C le hi
 ·rw [if_neg c]
  exact le.2 k hk
theorem LowX.zero (e:xs.length=ds.length) (z:∀ x ∈ xs,x=(0,0)) : LowX F ds xs:=by
 intro X C _
 refine ⟨by rw [e,C.len],fun k hk=>?_⟩
 have h1:=z _ (xAt_mem hk)
 show sooner (xAt X k) (xAt xs k)=false
 rw [h1]
 have r:=(C.x (i:=k) (by omega)).1
 have p:=r.p1
 have q:=r.r1
 rw [not_sooner]
 simp only
 omega
def rank (h:Int) (x:Int × Int) : Int:=x.1 * h+x.2
theorem sum_bound {f:Int × Int→Int} {c:Int} : ∀ (xs:List (Int × Int)),(∀ x ∈ xs,f x≤c)→(xs.map f).sum≤xs.length * c
 | [],_=>by simp
 | x :: r,h=>by
  have h1:=h x List.mem_cons_self
  have h2:=sum_bound r fun y hy=>h y (List.mem_cons_of_mem _ hy)
  rw [List.map_cons,List.sum_cons,List.length_cons,Int.natCast_succ,Int.add_mul]
  omega
theorem rank_small {h m:Int} {x:Int × Int} (r:RowIn h x) (p:x.1 < m) : rank h x≤h * m:=by
 unfold rank
 have h0:0≤h:=by have:=r.r1; have:=r.r2; omega
 have:=Int.mul_le_mul_of_nonneg_right (show x.1+1≤m by omega) h0
 rw [Int.add_mul] at this
 have e:=Int.mul_comm m h
 have a:=r.r2
 omega
end
theorem PlsA.rep {K:PySem.W.Frag} {H:Hp} {a:Addr} {x:Int × Int} (n:Nat) (h:SqT K H a (pl x)) : PlsA K H (List.replicate n a) (List.replicate n x):=by
 refine ⟨by simp,fun i b y e e'=>?_⟩
 rw [List.getElem?_replicate] at e e'
 split at e
 ·rename_i c
  rw [if_pos c] at e'
  cases e
  cases e'
  exact h
 ·cases e
section
variable {X:Cx} {elts:List Expr} {k1:Nat} {tp:Pos}
end
theorem cut_last {α:Type} (l:List α) : cutL l none (some (-1))=l.dropLast:=by
 unfold cutL HT.sIx
 rw [List.dropLast_eq_take]
 simp only [List.drop_zero,Nat.sub_zero]
 congr 1
 simp
 omega
theorem cut_to {α:Type} (xs:List α) (b:Nat) : cutL xs none (some (b:Int))=xs.take b:=by
 unfold cutL HT.sIx
 have h2:¬ ((b:Int) < 0):=by omega
 simp only [if_neg h2,Int.toNat_natCast,Nat.sub_zero,List.drop_zero]
 by_cases g:b≤xs.length
 ·rw [Nat.min_eq_left g]
 ·rw [Nat.min_eq_right (by omega),List.take_of_length_le (by omega),List.take_of_length_le (by omega)]
end L2

set_option maxHeartbeats 4000000
namespace PySem
abbrev IsZ2 (h:Heap) (z TI TO:Addr) (f0 f1:Value) : Prop:=
 h.get? z=some { cls:=.type "zip",dict:=none,data:=.fields #[f0,f1,.bool false,.ref TI,.ref TO],slots:=#[] }
section
variable {prog:Program} {w:World} {A:Around} {E:Value→Shared→Prop} {s:Shared}
def ZAt (z TI TO:Addr) (i:Nat) (h:Heap) : Prop:=(i=0∧IsZip h z TI TO .none)∨(0 < i∧∃ (T:Addr) (b:Bool) (oT:Obj),IsZ2 h z TI TO (rawInt T) (.bool b)∧h.get? T=some oT∧T ∉ [z,TO]∧oT.cls = .type "tuple")
end
section
variable {prog:Program} {w:World} {A:Around} {R:Result→Shared→Prop}
theorem ZAt.keep {z TI TO S:Addr} {i:Nat} {h h':Heap} {acc:Array Value} {c:Nat} (hz:ZAt z TI TO i h) (nz:S≠z) (hS:h.get? S=some { cls:=.type "list",dict:=none,data:=.seq acc c,slots:=#[] }) (k:∀ b o,b≠S→h.get? b=some o→h'.get? b=some o) : ZAt z TI TO i h':=by
 rcases hz with ⟨i0,hz⟩ | ⟨i0,T,b,oT,hz,hT,nT,cT⟩
 ·exact .inl ⟨i0,k z _ (Ne.symm nz) hz⟩
 ·refine .inr ⟨i0,T,b,oT,k z _ (Ne.symm nz) hz,k T _ (fun e=>?_) hT,nT,cT⟩
  rw [e,hS] at hT
  cases hT
  simp at cT
end
namespace F
end F
section
variable {prog:Program} {w:World} {A:Around} {s:Shared} {R:Result→Shared→Prop}
end
section
variable {prog:Program} {w:World} {A:Around} {E:Value→Shared→Prop} {s:Shared}
end
end PySem

set_option maxHeartbeats 4000000
namespace L2
open PySem PySem.Spec PyProof.Rows Tl
def trkP (H:Hp) (N:Nat) : List (V × V)→Hp
 | []=>H
 | p :: r=>trkP (upd H N (.tup [p.1,p.2])) (N+1) r
theorem Inv.tups {X:Cx} {pins:List (Addr × Obj)} {σ:St} {s:Shared} : ∀ {ps:List (V × V)} {H:Hp} {N:Nat},Inv X pins σ H s→(∀ a,N≤a→H a=none)→X.s₀.heap.objs.size≤N→X.env.locals < N→(∀ x c,X.env.cells.lookup x=some c→c < N)→(∀ p ∈ X.pn++pins,p.1 < N) →
  (∀ (j:Nat) p,ps[j]? = some p→∃ u v,RelV p.1 u∧RelV p.2 v∧IsPair s.heap (N+j) u v)→Inv X pins σ (trkP H N ps) s
 | [],H,N,I,_,_,_,_,_,_=>I
 | p :: r,H,N,I,hf,h0,h1,h2,h3,ok=>by
  obtain ⟨u,v,ru,rv,hp⟩:=ok 0 p rfl
  have I1:Inv X pins σ (upd H N (.tup [p.1,p.2])) s:=I.track (hf N (Nat.le_refl _)) h0 (Nat.ne_of_gt h1) (fun x c q=>Nat.ne_of_lt (h2 x c q)) (fun p hp=>Nat.ne_of_lt (h3 p hp)) ⟨by show 2≤sizeLine; decide,[u,v],.cons ru (.cons rv .nil),⟨_,hp,rfl,_,rfl⟩⟩
  refine Inv.tups (ps:=r) (N:=N+1) I1 (fun a ha=>?_) (Nat.le_succ_of_le h0) (Nat.lt_succ_of_lt h1) (fun x c q=>Nat.lt_succ_of_lt (h2 x c q)) (fun p hp=>Nat.lt_succ_of_lt (h3 p hp)) (fun j q e=>?_)
  ·rw [upd_ne (Nat.ne_of_gt ha)]
   exact hf a (Nat.le_of_succ_le ha)
  ·have:=ok (j+1) q (by simpa using e)
   rw [show N+(j+1)=N+1+j by rw [Nat.add_assoc,Nat.add_comm 1]] at this
   exact this
structure FunV (K:PySem.W.Frag) (x qual:Str) (st:Stmt) (f:Addr) (fd:FuncData) : Prop where
 ex:∃ (oc:Value) (od:Option Addr) (dV kV doc pm:Value) (an:Option Addr) (cdv ct:Value) (osl:Array (Option Value)),fd=PySem.W.fnOf x qual (defArgs st) (defBody st) (defScope st) dV kV doc pm an cdv ct∧K.lookup f=some ⟨oc,od,.func fd,osl⟩∧PySem.W.codeIn K cdv qual=true
 kp:PySem.W.keepIn K (.ref f)=true
theorem FunV.ok {P:Program} {w:World} {K:PySem.W.Frag} {mg:Str→Option Value} {base:Heap} {x qual:Str} {st:Stmt} {f:Addr} {fd:FuncData} {N ps:List Str} {k:Nat} {sp:Sp} (F:FunV K x qual st f fd) (S:FnScope N ps (defScope st)) (len:∀ vs H Q E,sp vs H Q E→vs.length=ps.length) (hbody:∀ (cdv:Value) (A:Around) (outer:List Env) (s:Shared) (H:Hp) (vs:List V) (Q:VK) (E:XK),Room k (A.deeper (envOfC qual (defScope st) s.heap.objs.size f cdv))→sp vs H Q E →
   ∃ t,PSs (cxOf CX0 P w K mg base N qual (defScope st) f cdv A outer s H E).nox (defBody st) t∧t { nx:=fun _ H'=>Q .non H',rt:=Q } (start N vs) H) : FnOk P w K mg base CX0 (k+1) f fd ps sp:=by
 obtain ⟨oc,od,dV,kV,doc,pm,an,cdv,ct,osl,rfl,lk,hcd⟩:=F.ex
 exact fn_of lk hcd S len fun A outer s H vs Q E hr hsp=>let ⟨t,h,q⟩:=hbody cdv A outer s H vs Q E hr hsp; ⟨t,h.nox,q⟩
section
variable {X:Cx} {x:Str} {st:Stmt} {ps:List Str} {f:Addr} {fd:FuncData} {dv:Value} {k:Nat} {sp:Sp} {e:Expr} {es:List Expr} {t:TA} {p pos:Pos}
end
def segZ (zs:List (Int × Int)) (j i:Nat) : List (Int × Int):=(zs.drop j).take (i+1 - j)
def togS (zs:List (Int × Int)) (j i:Nat) : Int:=((segZ zs j i).map (·.1)).sum+(segZ zs j i).length - 1
def sumS (zs:List (Int × Int)) (j i:Nat) : Int:=((segZ zs j i).map (·.2)).sum
theorem segZ_cons {zs:List (Int × Int)} {j i:Nat} (hj:j≤i) (hi:i < zs.length) : segZ zs j i=xAt zs j :: segZ zs (j+1) i:=by
 unfold segZ
 have hj2:j < zs.length:=by omega
 have e:xAt zs j=zs[j]:=by
  show zs.getD j (0,0)=_
  rw [List.getD_eq_getElem?_getD,List.getElem?_eq_getElem hj2]
  rfl
 rw [List.drop_eq_getElem_cons hj2,show i+1 - j=(i+1 - (j+1))+1 by omega,List.take_succ_cons,e]
def sizesL (F:Frm) (ds:List Wd) (xs:List (Int × Int)) : List (Int × Int):=ds.map fun d=>(wideW F xs d,highW F xs d)
def LeZ (zs ys:List (Int × Int)) : Prop:=zs.length=ys.length∧∀ k,k < zs.length→(xAt zs k).1≤(xAt ys k).1∧(xAt zs k).2≤(xAt ys k).2
section
variable {F:Frm} {ds:List Wd} {xs ys zs:List (Int × Int)} {i j:Nat}
structure NoR (F:Frm) (ds:List Wd) (xs zs:List (Int × Int)) (i:Nat) : Prop where
 w:(xAt zs i).1≤F.w
 h:(xAt zs i).2+1≤F.h
 b:sooner (xAt xs i) (toldBehind F ds xs i)=false
 wide:∀ j,j < i→(∀ n,j≤n→n≤i→xAt xs n=xAt xs i)→togS zs j i≤F.w
 high:∀ j,j≤i→(∀ n,j≤n→n≤i→(xAt xs n).1=(xAt xs i).1)→(xAt xs i).2+1+sumS zs j i≤F.h
theorem segZ_congr {zs ys:List (Int × Int)} (e:zs.length=ys.length) (h:∀ k,k≤i→xAt zs k=xAt ys k) (hi:i < zs.length) : ∀ (d j:Nat),i+1 - j=d→segZ zs j i=segZ ys j i
 | 0,j,e=>by unfold segZ; rw [e]; simp
 | d+1,j,e2=>by
  rw [segZ_cons (zs:=zs) (j:=j) (by omega) hi,segZ_cons (zs:=ys) (j:=j) (by omega) (by rw [← e]; exact hi),h j (by omega),segZ_congr e h hi d (j+1) (by omega)]
theorem NoR.congr {xs' zs':List (Int × Int)} (N:NoR F ds xs zs i) (hx:∀ k,k≤i→xAt xs' k=xAt xs k) (hz:∀ k,k≤i→xAt zs' k=xAt zs k) (e:zs'.length=zs.length) (hi:i < zs.length) : NoR F ds xs' zs' i:=by
 have tb:toldBehind F ds xs' i=toldBehind F ds xs i:=by
  unfold toldBehind
  rw [hx i (Nat.le_refl _),hx (i - 1) (Nat.sub_le _ _)]
 have sg:∀ j,segZ zs' j i=segZ zs j i:=fun j=>segZ_congr e hz (by rw [e]; exact hi) _ j rfl
 refine ⟨by rw [hz i (Nat.le_refl _)]; exact N.w,by rw [hz i (Nat.le_refl _)]; exact N.h,by rw [hx i (Nat.le_refl _),tb]; exact N.b,fun j hj hn=>?_,fun j hj hn=>?_⟩
 ·have:=N.wide j hj (fun n a b=>by have:=hn n a b; rw [hx n b,hx i (Nat.le_refl _)] at this; exact this)
  unfold togS at this ⊢
  rw [sg]
  exact this
 ·have:=N.high j hj (fun n a b=>by have:=hn n a b; rw [hx n b,hx i (Nat.le_refl _)] at this; exact this)
  unfold sumS at this ⊢
  rw [sg,hx i (Nat.le_refl _)]
  exact this
theorem chain_le (h:∀ k,0 < k→k≤i→sooner (xAt xs k) (xAt xs (k - 1))=false) : ∀ (d n:Nat),n+d≤i→sooner (xAt xs (n+d)) (xAt xs n)=false
 | 0,n,_=>sooner_refl _
 | d+1,n,e=>le_tr (chain_le h d n (by omega)) (h (n+(d+1)) (by omega) e)
def LowF (F:Frm) (ds:List Wd) (x0 xs:List (Int × Int)) : Prop:=∀ X,BkOk F ds X→Fixd F ds X→PlsLe x0 X→PlsLe xs X
theorem LowF.set {x0:List (Int × Int)} {y:Int × Int} (L:LowF F ds x0 xs) (B:BkOk F ds xs) (hi:i < ds.length) (hy:some y ∈ allTold F ds xs i) : LowF F ds x0 (xs.set i y):=by
 intro X C fx l0
 have le:=L X C fx l0
 refine ⟨by rw [List.length_set]; exact le.1,fun k hk=>?_⟩
 rw [List.length_set] at hk
 have e:=xAt_set (k:=k) (y:=y) (show i < xs.length by rw [← B.len]; exact hi)
 show sooner (xAt X k) (xAt (xs.set i y) k)=false
 rw [e]
 by_cases c:k=i
 ·rw [if_pos c,c]
  have g:=raised_grows B C le hi
  rw [fx i hi] at g
  exact le_tr ((best_ge _ _).2 y hy) g
 ·rw [if_neg c]
  exact le.2 k hk
end
theorem LeZ.trans {a b c:List (Int × Int)} (h:LeZ a b) (g:LeZ b c) : LeZ a c:=⟨h.1.trans g.1,fun k hk=>by
 have h1:=h.2 k hk
 have h2:=g.2 k (by rw [← h.1]; exact hk)
 omega⟩
theorem PlsLe.trans {a b c:List (Int × Int)} (h:PlsLe a b) (g:PlsLe b c) : PlsLe a c:=⟨h.1.trans g.1,fun k hk=>le_tr (h.2 k hk) (g.2 k (by rw [← h.1]; exact hk))⟩
theorem PlsLe.refl (a:List (Int × Int)) : PlsLe a a:=⟨rfl,fun k _=>sooner_refl _⟩
structure RunOk (F:Frm) (ds:List Wd) (x0 zs xs:List (Int × Int)) (np:Nat) : Prop where
 B:BkOk F ds xs
 low:LowF F ds x0 xs
 le0:PlsLe x0 xs
 lz:LeZ zs (sizesL F ds xs)
 pg:∀ k,k < ds.length→(xAt xs k).1≤F.m+2
 ps:(np:Int)≤(xs.map (rank F.h)).sum
section
variable {F:Frm} {ds:List Wd} {x0 xs zs:List (Int × Int)} {np i:Nat}
theorem RunOk.sum_le (R:RunOk F ds x0 zs xs np) : (xs.map (rank F.h)).sum≤1512000:=by
 have h1:=R.B.fo.h1
 have h2:=R.B.fo.h2
 have m1:=R.B.fo.m1
 have m2:=R.B.fo.m2
 have n:=R.B.n
 have b:=sum_bound (f:=rank F.h) (c:=3780) xs (fun x hx=>by
  obtain ⟨k,hk,rfl⟩:=List.mem_iff_getElem.mp hx
  have hk2:k < ds.length:=by rw [R.B.len]; exact hk
  have p:=R.pg k hk2
  have r:=(R.B.x hk2).1
  have e:xAt xs k=xs[k]:=by
   show xs.getD k (0,0)=_
   rw [List.getD_eq_getElem?_getD,List.getElem?_eq_getElem hk]
   rfl
  rw [e] at p r
  have s:=rank_small (m:=F.m+3) r (by omega)
  have t:F.h * (F.m+3)≤60 * 63:=Int.mul_le_mul h2 (by omega) (by omega) (by decide)
  omega)
 have l:(xs.length:Int)≤400:=by rw [← R.B.len]; omega
 have t:(xs.length:Int) * 3780≤400 * 3780:=Int.mul_le_mul_of_nonneg_right l (by decide)
 omega
end
theorem WdsA.set {K:PySem.W.Frag} {H:Hp} {as:List Addr} {ds:List Wd} {a:Addr} {d:Wd} (h:WdsA K H as ds) (k:Nat) (hx:WdAt K H a d) : WdsA K H (as.set k a) (ds.set k d):=by
 refine ⟨by simp [h.1],fun i b y e e'=>?_⟩
 rw [List.getElem?_set] at e e'
 by_cases c:k=i
 ·rw [if_pos c] at e e'
  split at e
  ·split at e'
   ·cases e; cases e'; exact hx
   ·cases e'
  ·cases e
 ·rw [if_neg c] at e e'
  exact h.2 i b y e e'
theorem SaysA.rep {K:PySem.W.Frag} {H:Hp} {a:Addr} {s:Say} (n:Nat) (h:SqT K H a (sayV s)) : SaysA K H (List.replicate n a) (List.replicate n s):=by
 refine ⟨by simp,fun i b y e e'=>?_⟩
 rw [List.getElem?_replicate] at e e'
 split at e
 ·rename_i c
  rw [if_pos c] at e'
  cases e
  cases e'
  exact h
 ·cases e
structure SpotsOk (h f:Int) (xs:List (Int × Int)) (ls:List Int) : Prop where
 len:xs.length=ls.length
 l:∀ i,i < xs.length→0≤ls.getD i 0∧ls.getD i 0≤4
 r:∀ i,i < xs.length→RowIn h (xAt xs i)
 ff:∀ i,i < xs.length→firstFrom f (xAt xs i) (ls.getD i 0)=xAt xs i
 bh:∀ i,0 < i→i < xs.length→sooner (xAt xs i) (behindI h f (xAt xs (i - 1)) (ls.getD i 0))=false
theorem SpotsOk.nil {h f:Int} : SpotsOk h f [] []:=⟨rfl,fun i hi=>absurd hi (Nat.not_lt_zero _),fun i hi=>absurd hi (Nat.not_lt_zero _),fun i hi=>absurd hi (Nat.not_lt_zero _),fun i _ hi=>absurd hi (Nat.not_lt_zero _)⟩
theorem getD_snoc {α:Type} (xs:List α) (x d:α) (k:Nat) : (xs++[x]).getD k d=if k < xs.length then xs.getD k d else if k=xs.length then x else d:=by
 rw [getD_app]
 split
 ·rfl
 ·rename_i c
  split
  ·rename_i e
   rw [e,Nat.sub_self]
   rfl
  ·rename_i e
   obtain ⟨m,hm⟩ : ∃ m,k - xs.length=m+1:=⟨k - xs.length - 1,by omega⟩
   rw [hm]
   rfl
theorem SpotsOk.snoc {h f l:Int} {xs:List (Int × Int)} {ls:List Int} {x:Int × Int} (S:SpotsOk h f xs ls) (l0:0≤l) (l1:l≤4) (r:RowIn h x) (ff:firstFrom f x l=x) (bh:0 < xs.length→sooner x (behindI h f (xAt xs (xs.length - 1)) l)=false) : SpotsOk h f (xs++[x]) (ls++[l]):=by
 have ex:∀ k,xAt (xs++[x]) k=if k < xs.length then xAt xs k else if k=xs.length then x else (0,0):=fun k=>getD_snoc xs x (0,0) k
 have el:∀ k,(ls++[l]).getD k 0=if k < xs.length then ls.getD k 0 else if k=xs.length then l else 0:=fun k=>by rw [getD_snoc,S.len]
 have cs:∀ i,i < (xs++[x]).length→i < xs.length∨i=xs.length:=fun i hi=>by
  rw [List.length_append] at hi
  simp at hi
  omega
 refine ⟨by simp [S.len],fun i hi=>?_,fun i hi=>?_,fun i hi=>?_,fun i i0 hi=>?_⟩
 ·rw [el]
  rcases cs i hi with c | c
  ·rw [if_pos c]; exact S.l i c
  ·rw [if_neg (by omega),if_pos c]; exact ⟨l0,l1⟩
 ·rw [ex]
  rcases cs i hi with c | c
  ·rw [if_pos c]; exact S.r i c
  ·rw [if_neg (by omega),if_pos c]; exact r
 ·rw [ex,el]
  rcases cs i hi with c | c
  ·rw [if_pos c,if_pos c]; exact S.ff i c
  ·rw [if_neg (by omega),if_pos c,if_neg (by omega),if_pos c]; exact ff
 ·rcases cs i hi with c | c
  ·have e1:xAt (xs++[x]) i=xAt xs i:=by rw [ex,if_pos c]
   have e2:(ls++[l]).getD i 0=ls.getD i 0:=by rw [el,if_pos c]
   have e3:xAt (xs++[x]) (i - 1)=xAt xs (i - 1):=by rw [ex,if_pos (by omega)]
   rw [e1,e2,e3]
   exact S.bh i i0 c
  ·have e1:xAt (xs++[x]) i=x:=by rw [ex,if_neg (by omega),if_pos c]
   have e2:(ls++[l]).getD i 0=l:=by rw [el,if_neg (by omega),if_pos c]
   have e3:xAt (xs++[x]) (i - 1)=xAt xs (i - 1):=by rw [ex,if_pos (by omega)]
   rw [e1,e2,e3,c]
   exact bh (by omega)
theorem SpotsOk.mono {h f:Int} {xs:List (Int × Int)} {ls:List Int} (S:SpotsOk h f xs ls) : ∀ k,0 < k→k < xs.length→sooner (xAt xs k) (xAt xs (k - 1))=false:=fun k k0 hk =>
 le_tr (behind_self (f:=f) (S.r (k - 1) (by omega)) (S.l k hk).1 (S.l k hk).2) (S.bh k k0 hk)
theorem SpotsOk.le {h f:Int} {xs:List (Int × Int)} {ls:List Int} (S:SpotsOk h f xs ls) {j i:Nat} (hj:j≤i) (hi:i < xs.length) : sooner (xAt xs i) (xAt xs j)=false:=by
 have:=chain_le (i:=i) (xs:=xs) (fun k k0 k1=>S.mono k k0 (by omega)) (i - j) j (by omega)
 rwa [show j+(i - j)=i by omega] at this
section
variable {F:Frm} {ds:List Wd} {xs:List (Int × Int)} {i j:Nat}
end
def StsA (K:PySem.W.Frag) (H:Hp) (bs:List Addr) : Prop:=∀ b ∈ bs,∃ xs:List Int,SqL K H b (xs.map V.int)∧StrOk 18 xs
theorem StsA.same {K:PySem.W.Frag} {H H':Hp} {bs:List Addr} (s:Same H H') (h:StsA K H bs) : StsA K H' bs:=fun b hb=>by
 obtain ⟨xs,h1,h2⟩:=h b hb
 exact ⟨xs,s.seq h1,h2⟩
theorem xAt_of {xs:List (Int × Int)} {x:Int × Int} {k:Nat} (e:xs[k]? = some x) : xAt xs k=x:=by
 show xs.getD k (0,0)=x
 rw [List.getD_eq_getElem?_getD,e]
 rfl
section
variable {room:Int} {brk:Nat→Bool}
end
section
variable {F:Frm} {ds:List Wd} {L room:Int} {brk:Nat→Bool}
end
def er1 (H:Hp) (wa:Addr) : Hp:=fun b=>if b=wa then none else H b
theorem er1_same (H:Hp) (wa:Addr) : Same (er1 H wa) H:=fun b o h=>by
 unfold er1 at h
 split at h
 ·cases h
 ·exact h
theorem er1_at {H:Hp} {wa b:Addr} (n:b≠wa) : er1 H wa b=H b:=by
 unfold er1
 rw [if_neg n]
theorem er1_mono {H H':Hp} {wa:Addr} (s:Same H H') : Same (er1 H wa) (er1 H' wa):=fun b o h=>by
 unfold er1 at h ⊢
 split at h
 ·cases h
 ·rename_i c
  rw [if_neg c]
  exact s b o h
theorem er1_put {H:Hp} {wa:Addr} {o:HO} : er1 (upd H wa o) wa=er1 H wa:=by
 funext b
 unfold er1
 by_cases c:b=wa
 ·rw [if_pos c,if_pos c]
 ·rw [if_neg c,if_neg c,upd_ne c]
section
variable {F:Frm} {ds:List Wd} {xs:List (Int × Int)} {i j:Nat}
end
theorem PlsA.take {K:PySem.W.Frag} {H:Hp} {as:List Addr} {xs:List (Int × Int)} (h:PlsA K H as xs) (n:Nat) : PlsA K H (as.take n) (xs.take n):=by
 refine ⟨by simp [h.1],fun i a x e e'=>?_⟩
 rw [List.getElem?_take] at e e'
 split at e
 ·rename_i c
  rw [if_pos c] at e'
  exact h.2 i a x e e'
 ·cases e
theorem PlsA.drop {K:PySem.W.Frag} {H:Hp} {as:List Addr} {xs:List (Int × Int)} (h:PlsA K H as xs) (n:Nat) : PlsA K H (as.drop n) (xs.drop n):=by
 refine ⟨by simp [h.1],fun i a x e e'=>?_⟩
 rw [List.getElem?_drop] at e e'
 exact h.2 _ a x e e'
theorem PlsA.app {K:PySem.W.Frag} {H:Hp} {as bs:List Addr} {xs ys:List (Int × Int)} (h:PlsA K H as xs) (g:PlsA K H bs ys) : PlsA K H (as++bs) (xs++ys):=by
 refine ⟨by simp [h.1,g.1],fun i a x e e'=>?_⟩
 by_cases c:i < as.length
 ·rw [List.getElem?_append_left c] at e
  rw [List.getElem?_append_left (by rw [← h.1]; exact c)] at e'
  exact h.2 i a x e e'
 ·rw [List.getElem?_append_right (by omega)] at e
  rw [List.getElem?_append_right (by rw [← h.1]; omega),← h.1] at e'
  exact g.2 _ a x e e'
def gI (a r k:Nat) : Nat:=if k < a then k else k+r
section
variable {F:Frm} {ds es:List Wd} {xs ys:List (Int × Int)} {a r:Nat}
end
def mvSay (a r:Nat) : Say→Say
 | .text l=>.text l
 | .page k=>.page (gI a r k)
 | .row k=>.row (gI a r k)
def mvW (a r:Nat) (d:Wd) : Wd:=⟨d.lead,d.kept,mvSay a r d.say,d.foot.map (mvSay a r)⟩
structure Stg (d e:Wd) : Prop where
 lead:d.lead≤e.lead
 kept:d.kept=true→e.kept=true
 say:e.say=d.say∨∃ t u,d.say = .text t∧e.say = .text u∧t.length≤u.length
 foot:e.foot=d.foot∨∃ s,e.foot=d.foot++[s]
theorem Stg.refl (d:Wd) : Stg d d:=⟨Int.le_refl _,fun h=>h,.inl rfl,.inl rfl⟩
section
variable {a:Nat} {ds rs:List Wd}
end
theorem WdsA.app {K:PySem.W.Frag} {H:Hp} {as bs:List Addr} {ds es:List Wd} (h:WdsA K H as ds) (g:WdsA K H bs es) : WdsA K H (as++bs) (ds++es):=by
 refine ⟨by simp [h.1,g.1],fun i a x e e'=>?_⟩
 by_cases c:i < as.length
 ·rw [List.getElem?_append_left c] at e
  rw [List.getElem?_append_left (by rw [← h.1]; exact c)] at e'
  exact h.2 i a x e e'
 ·rw [List.getElem?_append_right (by omega)] at e
  rw [List.getElem?_append_right (by rw [← h.1]; omega),← h.1] at e'
  exact g.2 _ a x e e'
section
variable {F:Frm} {ds:List Wd} {xs:List (Int × Int)} {k:Nat}
end
structure Ris (b:Int) (xs:List (Int × Int)) : Prop where
 row:∀ k,k < xs.length→RowIn b (xAt xs k)
 pg:∀ k,k < xs.length→(xAt xs k).1≤(k:Int)+2
 up:∀ k,0 < k→k < xs.length→sooner (xAt xs k) (xAt xs (k - 1))=false
structure Szd (F:Frm) (ds:List Wd) (xs:List (Int × Int)) (n:Nat) (W T:Int) : Prop where
 w1:1≤W
 w2:W≤62+63 * (n:Int)
 wide:∀ k,k < n→∀ j,j≤k→(∀ n,j≤n→n≤k→xAt xs n=xAt xs k)→together (wides F ds xs j k)≤W
 foot:∀ k,k < n→∀ s ∈ (dAt ds k).foot,((saidL F.h F.f xs s).length:Int)≤W
 high:∀ k,k < n→∀ j,j≤k→(∀ n,j≤n→n≤k→(xAt xs n).1=(xAt xs k).1)→(xAt xs k).2+1+(highs F ds xs j k).sum≤T
 top:T=1∨∃ k j,k < n∧j≤k∧T=(xAt xs k).2+1+(highs F ds xs j k).sum
section
variable {F:Frm} {ds es:List Wd} {xs:List (Int × Int)} {k j:Nat} {h h' f w:Int}
theorem said_high (h1:h≤h') (po:PlsOk h xs) {s:Say} (so:SayOk xs.length s) : (saidL h f xs s).length≤(saidL h' f xs s).length:=by
 cases s with
 | text l=>exact Nat.le_refl _
 | page k=>exact Nat.le_refl _
 | row k =>
  have p:=(po.get (show k < xs.length from so)).1.p1
  refine figs_mono _ _ ?_
  show ((xs.getD k (0,0)).1 * h+(xs.getD k (0,0)).2+1).toNat≤((xs.getD k (0,0)).1 * h'+(xs.getD k (0,0)).2+1).toNat
  have:=Int.mul_le_mul_of_nonneg_left h1 p
  omega
theorem high_low {ts us:List Int} (hh:h≤h') (e:ts.length=us.length) (hk:∀ k,k < ts.length→ts.getD k 0≤us.getD k 0) (h0:∀ t ∈ ts,0≤t) (no:us.any (fun t=>decide (w < t))=false) : highN w h ts≤highN w h' us:=by
 have no2:ts.any (fun t=>decide (w < t))=false:=by
  cases c:ts.any (fun t=>decide (w < t)) with
  | false=>rfl
  | true=>rw [any_grows e hk c] at no; cases no
 have g:=fold_grows (w:=w) e hk h0 (lexLe.refl (0,0)) (Int.le_refl 0) (Int.le_refl 0) (Int.le_refl 0)
 have n1:(numW w ts).1≤(numW w us).1:=by
  rcases g with z | z
  ·exact Int.le_of_lt z
  ·exact Int.le_of_eq z.1
 unfold highN
 rw [no,no2,if_neg (show ¬ (false=true) by decide),if_neg (show ¬ (false=true) by decide)]
 split <;> split <;> omega
theorem num_count (w:Int) (ts:List Int) : (numW w ts).1≤ts.length:=by
 refine snoc_ind (P:=fun ts=>(numW w ts).1≤(ts.length:Int)) (Int.le_refl 0) (fun l t ih=>?_) ts
 rw [numW_snoc,List.length_append]
 unfold numStep
 split
 ·show (numW w l).1≤_
  simp
  omega
 ·show (numW w l).1+1≤_
  simp
  omega
theorem high_count {ts:List Int} (no:ts.any (fun t=>decide (w < t))=false) : highN w h ts≤ts.length:=by
 have:=num_count w ts
 unfold highN
 rw [no,if_neg (show ¬ (false=true) by decide)]
 split <;> omega
theorem any_no {ts:List Int} (h:∀ t ∈ ts,t≤w) : ts.any (fun t=>decide (w < t))=false:=by
 rw [List.any_eq_false]
 intro t ht
 have:=h t ht
 simp
 omega
theorem seg_sum {α:Type} {f:α→Int} : ∀ (l:List α),(∀ d ∈ l,0≤f d)→0≤(l.map f).sum
 | [],_=>Int.le_refl 0
 | a :: l,h=>by
  have:=seg_sum l (fun d hd=>h d (List.mem_cons_of_mem _ hd))
  have:=h a List.mem_cons_self
  show 0≤f a+(l.map f).sum
  omega
theorem sum_take {α:Type} {f:α→Int} : ∀ (l:List α) (n:Nat),(∀ d ∈ l,0≤f d)→((l.take n).map f).sum≤(l.map f).sum
 | [],n,_=>by simp
 | a :: l,0,h=>by
  have:=seg_sum (f:=f) (a :: l) h
  simpa using this
 | a :: l,n+1,h=>by
  have:=sum_take l n (fun d hd=>h d (List.mem_cons_of_mem _ hd))
  show f a+((l.take n).map f).sum≤f a+(l.map f).sum
  omega
theorem sum_drop {α:Type} {f:α→Int} : ∀ (l:List α) (n:Nat),(∀ d ∈ l,0≤f d)→((l.drop n).map f).sum≤(l.map f).sum
 | [],n,_=>by simp
 | a :: l,0,h=>Int.le_refl _
 | a :: l,n+1,h=>by
  have:=sum_drop l n (fun d hd=>h d (List.mem_cons_of_mem _ hd))
  have h0:=h a List.mem_cons_self
  show ((l.drop n).map f).sum≤f a+(l.map f).sum
  omega
def feetN (ds:List Wd) : Int:=(ds.map fun d=>(d.foot.length:Int)).sum
theorem feet_nonneg (ds:List Wd) : 0≤feetN ds:=seg_sum ds fun d _=>by omega
theorem szd_low {W T b:Int} (S:Szd F ds xs ds.length W T) (R:Ris b xs) (l:ds.length=xs.length) (b1:1≤b) (hw:∀ k,k < ds.length→∀ s ∈ (dAt ds k).foot,((saidL F.h F.f xs s).length:Int)≤F.w) : T≤b+feetN ds:=by
 have f0:=feet_nonneg ds
 rcases S.top with z | ⟨k,j,hk,hj,z⟩
 ·omega
 ·have r:=(R.row k (by omega)).r2
  have hm:∀ d ∈ ds,highW F xs d≤(d.foot.length:Int):=fun d hd=>by
   obtain ⟨i,hi,rfl⟩:=List.mem_iff_getElem.mp hd
   have e:dAt ds i=ds[i]:=by
    show ds.getD i wd0=_
    rw [List.getD_eq_getElem?_getD,List.getElem?_eq_getElem hi]
    rfl
   have h1:=hw i hi
   rw [e] at h1
   unfold highW
   rw [high_eq]
   have:=high_count (w:=F.w) (h:=F.h) (ts:=(ds[i].foot.map (saidL F.h F.f xs)).map fun t=>(t.length:Int)) (any_no fun t ht=>by
    obtain ⟨u,hu,rfl⟩:=List.mem_map.mp ht
    obtain ⟨s,hs,rfl⟩:=List.mem_map.mp hu
    exact h1 s hs)
   simpa using this
  have s1:(highs F ds xs j k).sum≤feetN ds:=by
   unfold highs segD feetN
   refine Int.le_trans (sum_le _ fun d hd=>hm d (List.mem_of_mem_drop (List.mem_of_mem_take hd))) ?_
   exact Int.le_trans (sum_take (f:=fun d:Wd=>(d.foot.length:Int)) _ _ fun d _=>by omega) (sum_drop (f:=fun d:Wd=>(d.foot.length:Int)) _ _ fun d _=>by omega)
  omega
theorem ris_pls {b:Int} (R:Ris b xs) (hb:b≤h) (hn:xs.length≤400) : PlsOk h xs:=fun x hx=>by
 obtain ⟨k,hk,rfl⟩:=List.mem_iff_getElem.mp hx
 have e:xAt xs k=xs[k]:=xAt_of (List.getElem?_eq_getElem hk)
 have r:=R.row k hk
 have p:=R.pg k hk
 rw [e] at r p
 exact ⟨⟨r.p1,r.r1,Int.lt_of_lt_of_le r.r2 hb⟩,by omega⟩
theorem fit_wide {F1:Frm} {W T:Int} (S:Szd F1 ds xs ds.length W T) (hf:F.f=F1.f) (hh:F.h≤F1.h) (po:PlsOk F.h xs) (wd:∀ d ∈ ds,WdOk xs.length d) (hw:W≤F.w) (hk:k < ds.length) : ∀ j,j≤k→(∀ n,j≤n→n≤k→xAt xs n=xAt xs k)→together (wides F ds xs j k)≤F.w:=fun j hj hn=>by
 refine Int.le_trans ?_ (Int.le_trans (S.wide k hk j hj hn) hw)
 have s1:((segD ds j k).map (wideW F xs)).sum≤((segD ds j k).map (wideW F1 xs)).sum:=sum_le _ fun d hd=>by
  have:=said_high (f:=F.f) hh po (wd d (List.mem_of_mem_drop (List.mem_of_mem_take hd))).s
  unfold wideW
  rw [← hf]
  omega
 unfold together wides
 rw [List.length_map,List.length_map]
 omega
theorem foot_low {F1:Frm} {d:Wd} (hf:F.f=F1.f) (hh:F.h≤F1.h) (hw:F.w=F1.w) (po:PlsOk F.h xs) (wd:WdOk xs.length d) (no:∀ s ∈ d.foot,((saidL F1.h F1.f xs s).length:Int)≤F1.w) : highW F xs d≤highW F1 xs d:=by
 unfold highW
 rw [high_eq,high_eq,hw]
 refine high_low hh (by simp) (fun k hk=>?_) (fun t ht=>?_) (any_no fun t ht=>?_)
 ·simp only [List.length_map] at hk
  rw [List.getD_eq_getElem?_getD,List.getElem?_map,List.getElem?_map,List.getElem?_eq_getElem hk,List.getD_eq_getElem?_getD,List.getElem?_map,List.getElem?_map,List.getElem?_eq_getElem hk]
  have:=said_high (f:=F.f) hh po (wd.f _ (List.getElem_mem hk))
  show ((saidL F.h F.f xs d.foot[k]).length:Int)≤((saidL F1.h F1.f xs d.foot[k]).length:Int)
  rw [← hf]
  omega
 ·obtain ⟨u,_,rfl⟩:=List.mem_map.mp ht
  omega
 ·obtain ⟨u,hu,rfl⟩:=List.mem_map.mp ht
  obtain ⟨s,hs,rfl⟩:=List.mem_map.mp hu
  exact no s hs
theorem fit_high {F2:Frm} {W T:Int} (S:Szd F2 ds xs ds.length W T) (hf:F.f=F2.f) (hh:F.h≤F2.h) (hw:F.w=F2.w) (po:PlsOk F.h xs) (wd:∀ d ∈ ds,WdOk xs.length d) (no:∀ d ∈ ds,∀ s ∈ d.foot,((saidL F2.h F2.f xs s).length:Int)≤F2.w) (ht:T≤F.h) (hk:k < ds.length) : ∀ j,j≤k→(∀ n,j≤n→n≤k→(xAt xs n).1=(xAt xs k).1)→(xAt xs k).2+1+(highs F ds xs j k).sum≤F.h:=fun j hj hn=>by
 have s:=S.high k hk j hj hn
 have s1:(highs F ds xs j k).sum≤(highs F2 ds xs j k).sum:=by
  unfold highs
  refine sum_le _ fun d hd=>?_
  have hm:=List.mem_of_mem_drop (List.mem_of_mem_take hd)
  exact foot_low hf hh hw po (wd d hm) (no d hm)
 omega
structure Fits (F:Frm) (ds:List Wd) (xs:List (Int × Int)) : Prop where
 len:ds.length=xs.length
 wide:∀ k,k < ds.length→∀ j,j≤k→(∀ n,j≤n→n≤k→xAt xs n=xAt xs k)→together (wides F ds xs j k)≤F.w
 high:∀ k,k < ds.length→∀ j,j≤k→(∀ n,j≤n→n≤k→(xAt xs n).1=(xAt xs k).1)→(xAt xs k).2+1+(highs F ds xs j k).sum≤F.h
 pg:Pages F.m xs
 po:PlsOk F.h xs
theorem Fits.of {F1 F2:Frm} {W1 T1 W2 T2 b:Int} (S1:Szd F1 ds xs ds.length W1 T1) (S2:Szd F2 ds xs ds.length W2 T2) (R:Ris b xs) (l:ds.length=xs.length) (n4:ds.length≤400) (b1:1≤b) (wd:∀ d ∈ ds,WdOk ds.length d)
  (f1:F.f=F1.f) (f2:F.f=F2.f) (h1:F1.h=b+feetN ds) (h2:F2.h=F1.h) (w2:F.w=F2.w) (ww:W1≤F.w) (hb:b≤F.h) (hm:F.h≤F1.h) (ht:(if T2 < F1.h then T2 else F1.h)≤F.h) (pg:Pages F.m xs) : Fits F ds xs:=by
 have po:=ris_pls (h:=F.h) R hb (by omega)
 have wdx:∀ d ∈ ds,WdOk xs.length d:=fun d hd=>by have:=wd d hd; rwa [l] at this
 have no:∀ k,k < ds.length→∀ s ∈ (dAt ds k).foot,((saidL F2.h F2.f xs s).length:Int)≤F2.w:=fun k hk s hs=>by
  have:=S1.foot k hk s hs
  rw [h2,← f2,f1,← w2]
  omega
 have no2:∀ d ∈ ds,∀ s ∈ d.foot,((saidL F2.h F2.f xs s).length:Int)≤F2.w:=fun d hd s hs=>by
  obtain ⟨i,hi,rfl⟩:=List.mem_iff_getElem.mp hd
  have e:dAt ds i=ds[i]:=by
   show ds.getD i wd0=_
   rw [List.getD_eq_getElem?_getD,List.getElem?_eq_getElem hi]
   rfl
  exact no i hi s (by rw [e]; exact hs)
 have tl:=szd_low S2 R l b1 no
 refine ⟨l,fun k hk=>fit_wide S1 f1 hm po wdx ww hk,fun k hk=>fit_high S2 f2 (by omega) w2 po wdx no2 ?_ hk,pg,po⟩
 split at ht <;> omega
end
def PtAt (K:PySem.W.Frag) (H:Hp) (a:Addr) (d:Wd) : Prop:=∃ (sa fo:Addr) (bs:List Addr),SqT K H a [.ref sa,.ref fo]∧SqT K H sa (sayV d.say)∧SqL K H fo (bs.map V.ref)∧SaysA K H bs d.foot
theorem PtAt.same {K:PySem.W.Frag} {H H':Hp} {a:Addr} {d:Wd} (s:Same H H') (h:PtAt K H a d) : PtAt K H' a d:=by
 obtain ⟨sa,fo,bs,h1,h2,h3,h4⟩:=h
 exact ⟨sa,fo,bs,s.tup h1,s.tup h2,s.seq h3,h4.same s⟩
def PtsA (K:PySem.W.Frag) (H:Hp) (as:List Addr) (ds:List Wd) : Prop:=as.length=ds.length∧∀ (i:Nat) a d,as[i]? = some a→ds[i]? = some d→PtAt K H a d
theorem PtsA.same {K:PySem.W.Frag} {H H':Hp} {as:List Addr} {ds:List Wd} (s:Same H H') (h:PtsA K H as ds) : PtsA K H' as ds:=⟨h.1,fun i a d e e'=>(h.2 i a d e e').same s⟩
theorem PtsA.nil {K:PySem.W.Frag} {H:Hp} : PtsA K H [] []:=⟨rfl,fun i a x e _=>by simp at e⟩
theorem PtsA.snoc {K:PySem.W.Frag} {H:Hp} {as:List Addr} {ds:List Wd} {a:Addr} {d:Wd} (h:PtsA K H as ds) (hx:PtAt K H a d) : PtsA K H (as++[a]) (ds++[d]):=by
 refine ⟨by simp [h.1],fun i b y e e'=>?_⟩
 by_cases hi:i < as.length
 ·rw [List.getElem?_append_left hi] at e
  rw [List.getElem?_append_left (by rw [← h.1]; exact hi)] at e'
  exact h.2 i b y e e'
 ·rw [List.getElem?_append_right (by omega)] at e
  rw [List.getElem?_append_right (by rw [← h.1]; omega),← h.1] at e'
  cases c:i - as.length with
  | zero=>rw [c] at e e'; cases e; cases e'; exact hx
  | succ n=>rw [c] at e; simp at e
theorem er1_sub {H H2:Hp} {wa:Addr} (s:Same H H2) (h:H wa=none) : Same H (er1 H2 wa):=fun b o e=>by
 rw [er1_at (ne_of_none e h)]
 exact s b o e
def LysA (K:PySem.W.Frag) (H:Hp) (as:List Addr) (xss:List (List (Int × Int))) : Prop:=as.length=xss.length∧∀ (i:Nat) a xs,as[i]? = some a→xss[i]? = some xs→LwAt K H a xs
theorem LysA.same {K:PySem.W.Frag} {H H':Hp} {as:List Addr} {xss:List (List (Int × Int))} (s:Same H H') (h:LysA K H as xss) : LysA K H' as xss:=⟨h.1,fun i a d e e'=>(h.2 i a d e e').same s⟩
def WdT (K:PySem.W.Frag) (H0 H:Hp) (a:Addr) (d:Wd) : Prop:=∃ (sa fo:Addr) (bs:List Addr),SqT K H a [.int d.lead,.bl d.kept,.ref sa,.ref fo]∧SqT K H sa (sayV d.say)∧SqL K H0 fo (bs.map V.ref)∧SaysA K H0 bs d.foot
def WdsT (K:PySem.W.Frag) (H0 H:Hp) (as:List Addr) (ds:List Wd) : Prop:=as.length=ds.length∧∀ (i:Nat) a d,as[i]? = some a→ds[i]? = some d→WdT K H0 H a d
section
variable {K:PySem.W.Frag} {H0 H H':Hp} {as:List Addr} {ds:List Wd}
theorem WdT.same {a:Addr} {d:Wd} (s:Same H H') (h:WdT K H0 H a d) : WdT K H0 H' a d:=by
 obtain ⟨sa,fo,bs,h1,h2,h3,h4⟩:=h
 exact ⟨sa,fo,bs,s.tup h1,s.tup h2,h3,h4⟩
theorem WdT.lst {a l:Addr} {d:Wd} {ys zs:List V} (e:H l=some (.lst ys)) (h:WdT K H0 H a d) : WdT K H0 (upd H l (.lst zs)) a d:=by
 obtain ⟨sa,fo,bs,h1,h2,h3,h4⟩:=h
 exact ⟨sa,fo,bs,SqT.lst e h1,SqT.lst e h2,h3,h4⟩
theorem WdT.at {a:Addr} {d:Wd} (s:Same H0 H) (h:WdT K H0 H a d) : WdAt K H a d:=by
 obtain ⟨sa,fo,bs,h1,h2,h3,h4⟩:=h
 exact ⟨sa,fo,bs,h1,h2,s.seq h3,h4.same s⟩
theorem WdAt.t {a:Addr} {d:Wd} (s:Same H0 H) (h:WdAt K H0 a d) : WdT K H0 H a d:=by
 obtain ⟨sa,fo,bs,h1,h2,h3,h4⟩:=h
 exact ⟨sa,fo,bs,s.tup h1,s.tup h2,h3,h4⟩
theorem WdsT.same (s:Same H H') (h:WdsT K H0 H as ds) : WdsT K H0 H' as ds:=⟨h.1,fun i a d e e'=>(h.2 i a d e e').same s⟩
theorem WdsT.lst {l:Addr} {ys zs:List V} (e:H l=some (.lst ys)) (h:WdsT K H0 H as ds) : WdsT K H0 (upd H l (.lst zs)) as ds:=⟨h.1,fun i a d e1 e2=>(h.2 i a d e1 e2).lst e⟩
theorem WdsT.at (s:Same H0 H) (h:WdsT K H0 H as ds) : WdsA K H as ds:=⟨h.1,fun i a d e e'=>(h.2 i a d e e').at s⟩
theorem WdsA.t (s:Same H0 H) (h:WdsA K H0 as ds) : WdsT K H0 H as ds:=⟨h.1,fun i a d e e'=>(h.2 i a d e e').t s⟩
theorem WdsT.set {a:Addr} {d:Wd} (h:WdsT K H0 H as ds) (k:Nat) (hx:WdT K H0 H a d) : WdsT K H0 H (as.set k a) (ds.set k d):=by
 refine ⟨by simp [h.1],fun i b y e e'=>?_⟩
 rw [List.getElem?_set] at e e'
 by_cases c:k=i
 ·rw [if_pos c] at e e'
  split at e
  ·cases e
   split at e'
   ·cases e'
    exact hx
   ·cases e'
  ·cases e
 ·rw [if_neg c] at e e'
  exact h.2 i b y e e'
end
section
variable {X:Cx}
end
structure Grown (ds ns:List Wd) (a r:Nat) : Prop where
 len:ns.length=ds.length+r
 at1:a≤ds.length
 w:∀ k,k < ds.length→mvW a r (dAt ds k)=dAt ns (gI a r k)
 kept:a < ds.length→(dAt ds a).kept=true→∀ q,a≤q→q < a+r→(dAt ns q).kept=true
section
variable {prog:Program} {w:World} {A:Around} {E:Value→Shared→Prop} {s:Shared}
end
section
variable {X:Cx} {pos:Pos}
end
section
variable {X:Cx} {elt iter:Expr} {ifs:List Expr} {scope:Scope} {cl:List (Str × Addr)} {pos px py tp:Pos} {k1:Nat} {x y:Str} {caps:List Str} {js:List Nat} {tc:TT} {te:TE} {wi:TI}
def g2 (K:PySem.W.Frag) : TG:=gTup K 2 (gCons (gName 0) (gCons (gName 1) gNil))
end
def rowW (F:Frm) (ds:List Wd) (xs:List (Int × Int)) (p r:Int) : Nat→List (List Nat)
 | 0=>[]
 | n+1=>rowW F ds xs p r n++(if xAt xs n=(p,r) then [saidL F.h F.f xs (dAt ds n).say] else [])
def feetW (F:Frm) (ds:List Wd) (xs:List (Int × Int)) (p:Int) : Nat→List (List Nat)
 | 0=>[]
 | n+1=>feetW F ds xs p n++(if (xAt xs n).1=p then fillW F.w ((dAt ds n).foot.map (saidL F.h F.f xs)) else [])
def bodyW (F:Frm) (ds:List Wd) (xs:List (Int × Int)) (p:Int) : List (List Nat):=(List.range F.h.toNat).map fun (r:Nat)=>joinL [32] (rowW F ds xs p (r:Int) ds.length)
def pgR (F:Frm) (ds:List Wd) (xs:List (Int × Int)) (p:Int) : List (List Nat):=(bodyW F ds xs p).take (F.h.toNat - (feetW F ds xs p ds.length).length)++feetW F ds xs p ds.length
structure LsF (H0 H:Hp) (pr:Addr) (qs:List Addr) (ws:Nat→List (List Nat)) : Prop where
 top:H pr=some (.lst (qs.map V.ref))
 nd:∀ (i j:Nat) (q:Addr),qs[i]? = some q→qs[j]? = some q→i=j
 ne:pr ∉ qs
 at':∀ (i:Nat) (q:Addr),qs[i]? = some q→H q=some (.lst (rowsV (ws i)))
 fr:∀ q ∈ qs,H0 q=none
theorem LsF.same {H0 H H':Hp} {pr:Addr} {qs:List Addr} {ws:Nat→List (List Nat)} (S:LsF H0 H pr qs ws) (s:Same H H') : LsF H0 H' pr qs ws:=⟨s _ _ S.top,S.nd,S.ne,fun i q h=>s _ _ (S.at' i q h),S.fr⟩
theorem LsF.put {H0 H:Hp} {pr a:Addr} {o:HO} {qs:List Addr} {ws:Nat→List (List Nat)} (S:LsF H0 H pr qs ws) (n1:a≠pr) (n2:a ∉ qs) : LsF H0 (upd H a o) pr qs ws:=
 ⟨by rw [upd_ne n1.symm]; exact S.top,S.nd,S.ne,fun i q h=>by rw [upd_ne (fun z=>n2 (by rw [← z]; exact List.mem_of_getElem? h))]; exact S.at' i q h,S.fr⟩
theorem LsF.push {H0 H:Hp} {pr q:Addr} {qs:List Addr} {ws ws':Nat→List (List Nat)} {j:Nat} {t:List Nat} (S:LsF H0 H pr qs ws) (hq:qs[j]? = some q) (e1:ws' j=ws j++[t]) (e2:∀ i,i≠j→ws' i=ws i) : LsF H0 (upd H q (.lst (rowsV (ws j)++[V.str (tx t)]))) pr qs ws':=by
 refine ⟨?_,S.nd,S.ne,fun i q' h=>?_,S.fr⟩
 ·rw [upd_ne (fun e=>S.ne (by rw [e]; exact List.mem_of_getElem? hq))]
  exact S.top
 ·by_cases e:i=j
  ·subst e
   have e3:q' = q:=Option.some.inj (h.symm.trans hq)
   subst e3
   rw [upd_same,e1,rowsV_snoc]
  ·rw [upd_ne (fun z=>e (S.nd i j q (by rw [← z]; exact h) hq)),e2 i e]
   exact S.at' i q' h
section
variable {F:Frm} {ds:List Wd} {xs:List (Int × Int)}
end
section
variable {X:Cx} {T name id:String} {r:V→List V→Hp→(V→Hp→Prop)→Prop} {o e:Expr} {es:List Expr} {to:TE} {t:TA} {apos cpos:Pos}
end
def PgsA (K:PySem.W.Frag) (H:Hp) (q:Addr) (F:Frm) (ds:List Wd) (xs:List (Int × Int)) (n:Nat) : Prop:=∃ ps rs:List Addr,ps.length=n∧rs.length=n∧SqL K H q (ps.map V.ref)∧∀ (i:Nat) p r,ps[i]? = some p→rs[i]? = some r→SqT K H p [.int (F.f+(i:Int)),.ref r]∧SqL K H r (rowsV (pgR F ds xs (i:Int)))
theorem PgsA.same {K:PySem.W.Frag} {H H':Hp} {q:Addr} {F:Frm} {ds:List Wd} {xs:List (Int × Int)} {n:Nat} (s:Same H H') (h:PgsA K H q F ds xs n) : PgsA K H' q F ds xs n:=by
 obtain ⟨ps,rs,h1,h2,h3,h4⟩:=h
 exact ⟨ps,rs,h1,h2,s.seq h3,fun i p r a b=>⟨s.tup (h4 i p r a b).1,s.seq (h4 i p r a b).2⟩⟩
theorem PgsA.get {K:PySem.W.Frag} {H:Hp} {q:Addr} {F:Frm} {ds:List Wd} {xs:List (Int × Int)} {n i:Nat} (h:PgsA K H q F ds xs n) (hi:i < n) : ∃ (ps:List Addr) (p r:Addr),SqL K H q (ps.map V.ref)∧atI (ps.map V.ref) (i:Int)=some (V.ref p)∧SqT K H p [.int (F.f+(i:Int)),.ref r]∧SqL K H r (rowsV (pgR F ds xs (i:Int))):=by
 obtain ⟨ps,rs,h1,h2,h3,h4⟩:=h
 have e1:ps[i]? = some (ps[i]'(by omega)):=List.getElem?_eq_getElem (by omega)
 have e2:rs[i]? = some (rs[i]'(by omega)):=List.getElem?_eq_getElem (by omega)
 exact ⟨ps,_,_,h3,atI_nat (by rw [List.getElem?_map,e1]; rfl),(h4 i _ _ e1 e2).1,(h4 i _ _ e1 e2).2⟩
section
variable {F:Frm} {ds:List Wd} {xs:List (Int × Int)} {b:Int}
end
section
variable {F:Frm} {ds:List Wd} {xs:List (Int × Int)} {b:Int}
end
structure PgI (H0 H:Hp) (ps rs:List Addr) (f:Int) (ws:Nat→List (List Nat)) : Prop where
 len:ps.length=rs.length
 tup:∀ (i:Nat) p r,ps[i]? = some p→rs[i]? = some r→H p=some (.tup [.int (f+(i:Int)),.ref r])
 at':∀ (i:Nat) r,rs[i]? = some r→H r=some (.lst (rowsV (ws i)))
 nd:∀ (i j:Nat) r,rs[i]? = some r→rs[j]? = some r→i=j
 fr:∀ r ∈ rs,H0 r=none
structure PgD (H0 H:Hp) (pa:Addr) (ps rs:List Addr) (f:Int) (ws:Nat→List (List Nat)) : Prop extends PgI H0 H ps rs f ws where
 top:H pa=some (.lst (ps.map V.ref))
 ne:pa ∉ rs
section
variable {H0 H H':Hp} {pa a:Addr} {ps rs:List Addr} {f:Int} {ws ws':Nat→List (List Nat)}
theorem PgI.nil:PgI H0 H [] [] f ws:=⟨rfl,fun i p r e=>by simp at e,fun i r e=>by simp at e,fun i j r e=>by simp at e,fun r h=>by cases h⟩
theorem PgI.same (S:PgI H0 H ps rs f ws) (s:Same H H') : PgI H0 H' ps rs f ws:=⟨S.len,fun i p r e1 e2=>s _ _ (S.tup i p r e1 e2),fun i r e=>s _ _ (S.at' i r e),S.nd,S.fr⟩
theorem PgD.same (S:PgD H0 H pa ps rs f ws) (s:Same H H') : PgD H0 H' pa ps rs f ws:=⟨S.toPgI.same s,s _ _ S.top,S.ne⟩
theorem snoc_at {α:Type} {l:List α} {x y:α} {j:Nat} (h:(l++[x])[j]? = some y) : l[j]? = some y∧j < l.length∨y=x∧j=l.length:=by
 by_cases c:j < l.length
 ·rw [List.getElem?_append_left c] at h
  exact .inl ⟨h,c⟩
 ·rw [List.getElem?_append_right (by omega)] at h
  cases hc:j - l.length with
  | zero=>rw [hc] at h; exact .inr ⟨(Option.some.inj h).symm,by omega⟩
  | succ n=>rw [hc] at h; simp at h
theorem PgI.snoc {p r:Addr} (S:PgI H0 H ps rs f ws) (s:Same H H') (hp:H' p=some (.tup [.int (f+(ps.length:Int)),.ref r])) (hr:H' r=some (.lst (rowsV (ws ps.length)))) (n1:H r=none) (n0:H0 r=none) : PgI H0 H' (ps++[p]) (rs++[r]) f ws:=by
 have l:=S.len
 have nr:∀ (i:Nat) q,rs[i]? = some q→q≠r:=fun i q e z=>by rw [z] at e; rw [S.at' i r e] at n1; cases n1
 refine ⟨by simp [l],fun i p' r' e1 e2=>?_,fun i r' e=>?_,fun i j q e1 e2=>?_,fun q hq=>?_⟩
 ·rcases snoc_at e1 with ⟨e1,h1⟩ | ⟨rfl,h1⟩
  ·rcases snoc_at e2 with ⟨e2,h2⟩ | ⟨rfl,h2⟩
   ·exact s _ _ (S.tup i p' r' e1 e2)
   ·omega
  ·rcases snoc_at e2 with ⟨e2,h2⟩ | ⟨rfl,h2⟩
   ·omega
   ·rw [h1]; exact hp
 ·rcases snoc_at e with ⟨e,h1⟩ | ⟨rfl,h1⟩
  ·exact s _ _ (S.at' i r' e)
  ·rw [h1,← l]; exact hr
 ·rcases snoc_at e1 with ⟨k1,h1⟩ | ⟨z1,h1⟩
  ·rcases snoc_at e2 with ⟨k2,h2⟩ | ⟨z2,h2⟩
   ·exact S.nd i j q k1 k2
   ·exact absurd z2 (nr i _ k1)
  ·rcases snoc_at e2 with ⟨k2,h2⟩ | ⟨_,h2⟩
   ·exact absurd z1 (nr j _ k2)
   ·omega
 ·rcases List.mem_append.mp hq with h | h
  ·exact S.fr q h
  ·rw [List.mem_singleton.mp h]; exact n0
theorem PgD.put {o:HO} {l:List V} (S:PgD H0 H pa ps rs f ws) (hl:H a=some (.lst l)) (n1:a≠pa) (n2:a ∉ rs) : PgD H0 (upd H a o) pa ps rs f ws:=by
 refine ⟨⟨S.len,fun i p r e1 e2=>?_,fun i r e=>?_,S.nd,S.fr⟩,by rw [upd_ne n1.symm]; exact S.top,S.ne⟩
 ·have z:=S.tup i p r e1 e2
  rw [upd_ne (fun e=>by rw [e,hl] at z; cases z)]
  exact z
 ·rw [upd_ne (fun e=>n2 (by rw [← e]; exact List.mem_of_getElem? (by assumption)))]
  exact S.at' i r e
theorem PgD.set {r:Addr} {j:Nat} {l:List (List Nat)} (S:PgD H0 H pa ps rs f ws) (hr:rs[j]? = some r) (e1:ws' j=l) (e2:∀ i,i≠j→ws' i=ws i) : PgD H0 (upd H r (.lst (rowsV l))) pa ps rs f ws':=by
 have hl:=S.at' j r hr
 refine ⟨⟨S.len,fun i p q h1 h2=>?_,fun i q h=>?_,S.nd,S.fr⟩,?_,S.ne⟩
 ·have z:=S.tup i p q h1 h2
  rw [upd_ne (fun e=>by rw [e,hl] at z; cases z)]
  exact z
 ·by_cases c:i=j
  ·subst c
   have:q=r:=Option.some.inj (h.symm.trans hr)
   subst this
   rw [upd_same,e1]
  ·rw [upd_ne (fun z=>c (S.nd i j r (by rw [← z]; exact h) hr)),e2 i c]
   exact S.at' i q h
 ·rw [upd_ne (fun e=>S.ne (by rw [e]; exact List.mem_of_getElem? hr))]
  exact S.top
theorem PgD.congr (S:PgD H0 H pa ps rs f ws) (e:∀ i,i < rs.length→ws' i=ws i) : PgD H0 H pa ps rs f ws':=
 ⟨⟨S.len,S.tup,fun i r h=>by rw [e i (List.getElem?_eq_some_iff.mp h).1]; exact S.at' i r h,S.nd,S.fr⟩,S.top,S.ne⟩
theorem PgD.get (S:PgD H0 H pa ps rs f ws) {i:Nat} (hi:i < ps.length) : ∃ p r,rs[i]? = some r∧ps[i]? = some p∧atI (ps.map V.ref) (i:Int)=some (V.ref p)∧H p=some (.tup [.int (f+(i:Int)),.ref r])∧H r=some (.lst (rowsV (ws i))):=by
 have e1:ps[i]? = some (ps[i]'hi):=List.getElem?_eq_getElem hi
 have hi2:i < rs.length:=by rw [← S.len]; exact hi
 have e2:rs[i]? = some (rs[i]'hi2):=List.getElem?_eq_getElem hi2
 exact ⟨_,_,e2,e1,atI_nat (by rw [List.getElem?_map,e1]; rfl),S.tup i _ _ e1 e2,S.at' i _ e2⟩
theorem flat_dq {K:PySem.W.Frag} {x y:V} {n:Nat} (f1:flatV x=true) (f2:flatV y=true) (e:eqV x y=true) : Dq K H n x y:=by
 cases n with
 | zero=>exact .inl ⟨f1,f2,e⟩
 | succ n=>exact .inl (.inl ⟨f1,f2,e⟩)
theorem LsF.set {pr q:Addr} {qs:List Addr} {j:Nat} {l:List (List Nat)} (S:LsF H0 H pr qs ws) (hq:qs[j]? = some q) (e1:ws' j=l) (e2:∀ i,i≠j→ws' i=ws i) : LsF H0 (upd H q (.lst (rowsV l))) pr qs ws':=by
 refine ⟨?_,S.nd,S.ne,fun i q' h=>?_,S.fr⟩
 ·rw [upd_ne (fun e=>S.ne (by rw [e]; exact List.mem_of_getElem? hq))]
  exact S.top
 ·by_cases e:i=j
  ·subst e
   have e3:q' = q:=Option.some.inj (h.symm.trans hq)
   subst e3
   rw [upd_same,e1]
  ·rw [upd_ne (fun z=>e (S.nd i j q (by rw [← z]; exact h) hq)),e2 i e]
   exact S.at' i q' h
end
section
variable {F:Frm} {ds:List Wd} {xs:List (Int × Int)}
end
end L2

set_option maxHeartbeats 4000000
namespace L2
open PySem PySem.W PySem.Calls PySem.Spec PyProof.Rows Builtin Builtin.ObjectAttr Builtin.Getset_descriptor
def ExcAt (h:Heap) (x C:Addr) : Prop:=∃ o,h.get? x=some o∧o.cls = .ref C
section
variable {prog:Program} {w:World} {A:Around} {E:Value→Shared→Prop} {h:Heap} {g:Array GenState} {d:Drawn} {t:Nat} {os:OsState} {K:Frag} {x C:Addr}
theorem ExcAt.type {M:Model} (I:ExcAt h x C) : PySem.W.Looks M h (typeOf (.ref x)) (.ref C):=by
 obtain ⟨ob,hob,hobc⟩:=I
 have z:PySem.W.Looks M h (typeOf (.ref x)) ob.cls:=(PySem.W.Looks.ld hob).andThen .now
 rw [hobc] at z
 exact z
theorem exc_check {M:Model} {nameV:Value} {Q:Unit→Shared→Prop} (X:K.In h) (I:ExcAt h x C) (hb:subIn K (.ref C) (.type "BaseException")=some true) (hq:Q () ⟨h,g,d,t,os⟩) : wpAny M A (checkBuiltinCall "BaseException.__getattribute__" ⟨[.ref x,nameV],[]⟩) Q E ⟨h,g,d,t,os⟩:=by
 have hk:builtinKind "BaseException.__getattribute__" = some .slot:=by decide +kernel
 have hsplit:splitId "BaseException.__getattribute__" = some ("BaseException","__getattribute__"):=by decide +kernel
 have ha:=PySem.F.args_bexc_ga (.ref x) nameV
 have L0:=I.type (M:=M)
 have L1:=looks_subIn (M:=M) X hb
 have LI:PySem.W.Looks M h (isInstance (.ref x) (.type "BaseException")) true:=L0.andThen L1
 simp only [checkBuiltinCall,hk,hsplit]
 refine wpAny_bind (LI.at ?_)
 repeat (first | assumption | wp_step)
theorem exc_get {R:Result→Shared→Prop} {tp:Value} (X:K.In h) (I:ExcAt h x C) (hm:mroIn K C (.type "object")=some true)
  (hq:R (.ok (.ret (.ref C))) ⟨h,g,d,t,os⟩) : codeAny (model prog w) A (.call (.builtin "getset_descriptor.__get__") ⟨[.builtin "object.__class__",.ref x,tp],[]⟩) R ⟨h,g,d,t,os⟩:=by
 have L0:=I.type (M:=model prog w)
 have L1:=looks_mroIn (M:=model prog w) X hm
 refine codeAny_call_builtin KF.slot_gs.plain KF.entry_gs (KF.slot_gs.check _ _ _ _ _ _ _ _ KF.type_class (KF.args_gs _ _ _) ?_)
 unfold Builtin.«getset_descriptor.__get__» descrGet
 rw [dga_obj]
 refine wpAny_bind (wpAny_pure ?_)
 unfold descrGetter descrCheckInstance descrNameAndClass isInstance
 simp only [KF.owner_class]
 repeat lk
 refine ⟨Code.quiet_builtin _ (by decide +kernel),codeAny_builtin KF.entry_class ?_⟩
 unfold Builtin.«object.__class__» shownTypeOf
 repeat lk
 exact hq
theorem exc_entry {tk:Tok} {Q:Fin→Shared→Prop} (X:K.In h) (I:ExcAt h x C) (hcl:findIn K (.ref C) "__class__" = some (some (.builtin "object.__class__"))) (hm:mroIn K C (.type "object")=some true) (hq:Q (.done (.ret (.ref C))) ⟨h,g,d,t,os⟩) :
  wpAny (model prog w) A (Builtin.«object.__getattribute__» ⟨[.ref x,.str "__class__" tk],[]⟩) Q E ⟨h,g,d,t,os⟩:=by
 have hT5:(⟨h,g,d,t,os⟩ : Shared).TypeIs (.builtin "object.__class__") "getset_descriptor":=PySem.F.typeOf_object_class
 have f5:=PySem.F.typeOf_object_class
 have f6:=PySem.F.slot_gs_get.lookup
 have f7:=PySem.F.slot_gs_set.lookup
 have L0:=I.type (M:=model prog w)
 have L1:=looks_findIn (M:=model prog w) X hcl
 obtain ⟨o,hx,hc⟩:=id I
 repeat (any_goals (first | assumption | (with_reducible refine wpAny_loadPart_at hx ?_; rw [hc]) | with_reducible refine Looks.at L0 ?_ | with_reducible refine Looks.at L1 ?_ | wp_step))
 refine exc_get X I hm ?_
 repeat (any_goals (first | assumption | wp_step))
theorem exc_call {tk:Tok} {R:Result→Shared→Prop} (X:K.In h) (I:ExcAt h x C) (hcl:findIn K (.ref C) "__class__" = some (some (.builtin "object.__class__"))) (hm:mroIn K C (.type "object")=some true) (hb:subIn K (.ref C) (.type "BaseException")=some true) (hq:R (.ok (.ret (.ref C))) ⟨h,g,d,t,os⟩) :
  codeAny (model prog w) A (.call (.builtin "BaseException.__getattribute__") ⟨[.ref x,.str "__class__" tk],[]⟩) R ⟨h,g,d,t,os⟩:=
 codeAny_call_builtin (by decide +kernel) PySem.F.entry_bexc_ga (exc_check X I hb (exc_entry X I hcl hm hq))
theorem exc_by {tk:Tok} {Q:Value→Shared→Prop} (X:K.In h) (I:ExcAt h x C) (hga:findIn K (.ref C) "__getattribute__" = some (some (.builtin "BaseException.__getattribute__"))) (hgt:findIn K (.ref C) "__getattr__" = some none) (hcl:findIn K (.ref C) "__class__" = some (some (.builtin "object.__class__"))) (hm:mroIn K C (.type "object")=some true) (hb:subIn K (.ref C) (.type "BaseException")=some true) (hq:Q (.ref C) ⟨h,g,d,t,os⟩) :
  wpAny (model prog w) A (getAttrBy (.ref x) (.str "__class__" tk) false false) Q E ⟨h,g,d,t,os⟩:=by
 have f3:=PySem.F.attr_ValueError.ga.bind (.ref x)
 have hx2:(Value.builtin "BaseException.__getattribute__" == Value.builtin "object.__getattribute__")=false:=by decide +kernel
 have hx1:(onTheHeap (Value.ref C) && Value.builtin "BaseException.__getattribute__" == Value.builtin "object.__getattribute__")=false:=by rw [hx2]; rfl
 have L0:=I.type (M:=model prog w)
 have L1:=looks_findIn (M:=model prog w) X hga
 have L2:=looks_findIn (M:=model prog w) X hgt
 obtain ⟨o,hx,hc⟩:=id I
 repeat (any_goals (first | assumption | (with_reducible refine wpAny_loadPart_at hx ?_; rw [hc]) | with_reducible refine Looks.at L0 ?_ | with_reducible refine Looks.at L1 ?_ | with_reducible refine Looks.at L2 ?_ | wp_step))
 refine exc_call X I hcl hm hb ?_
 repeat (any_goals (first | assumption | wp_step))
theorem exc_attr {Q:Option Value→Shared→Prop} (X:K.In h) (I:ExcAt h x C) (hga:findIn K (.ref C) "__getattribute__" = some (some (.builtin "BaseException.__getattribute__"))) (hgt:findIn K (.ref C) "__getattr__" = some none) (hcl:findIn K (.ref C) "__class__" = some (some (.builtin "object.__class__"))) (hm:mroIn K C (.type "object")=some true) (hb:subIn K (.ref C) (.type "BaseException")=some true) (hq:Q (some (.ref C)) ⟨h,g,d,t+1,os⟩) :
  wpAny (model prog w) A (getAttr? (.ref x) "__class__") Q E ⟨h,g,d,t,os⟩:=by
 unfold getAttr? getAttrBy?
 repeat (any_goals (first | assumption | with_reducible apply exc_by X I hga hgt hcl hm hb | wp_step))
end
def excLk (K:Frag) (C:Addr) : Bool:=(clsIn K C).isSome && findIn K (.ref C) "__getattribute__" == some (some (.builtin "BaseException.__getattribute__")) && findIn K (.ref C) "__getattr__" == some none && findIn K (.ref C) "__class__" == some (some (.builtin "object.__class__")) && mroIn K C (.type "object") == some true && subIn K (.ref C) (.type "BaseException") == some true
theorem kitx_exc {K:Frag} {x C:Addr} (e:excLk K C=true) : KitX K (.ref x) (.ref C) (fun h=>ExcAt h x C):=by
 unfold excLk at e
 simp only [Bool.and_eq_true,beq_iff_eq] at e
 obtain ⟨⟨⟨⟨⟨e0,e1⟩,e2⟩,e3⟩,e4⟩,e5⟩:=e
 refine ⟨fun _ _ _ I=>I.type,fun _ _ X _=>?_,fun h tp dd its n sl X htp=>?_,fun {prog w A E Q s} X I k=>?_⟩
 ·unfold clsIn at e0
  split at e0
  ·rename_i c' d' cd' sl' ho
   intro A' Q' E' s' k q
   unfold isType loadHead
   exact wpAny_bind (wpAny_loadPart (k _ _ (X _ _ ho)) (wpAny_pure q))
  ·cases e0
 ·refine Bool.eq_false_iff.mpr fun q=>?_
  have e:C=tp:=Value.ref.inj (beq_iff_eq.mp q)
  subst e
  unfold clsIn at e0
  split at e0
  ·rename_i c' d' cd' sl' ho
   have z:=(X _ _ ho).symm.trans htp
   cases z
  ·cases e0
 ·obtain ⟨h,g,d,t,os⟩:=s
  exact exc_attr X I e1 e2 e3 e4 e5 k
end L2

namespace L2
open PySem PySem.W PySem.Spec PyProof.Rows
def excO (x C:Addr) : HO:=.ext fun h=>ExcAt h x C
section
variable {X:Cx} {pins:List (Addr × Obj)} {σ:St} {H:Hp} {s:Shared}
theorem ObjOk.there {P:Program} {w:World} {H:Hp} {h:Heap} {a:Addr} {o:HO} (z:ObjOk P w H h a o) : ∃ ob,h.get? a=some ob:=by
 induction o with
 | lst xs=>obtain ⟨_,_,_,_,e⟩:=z; exact ⟨_,e⟩
 | tup xs=>obtain ⟨_,_,_,ob,e,_⟩:=z; exact ⟨_,e⟩
 | dK kvs=>obtain ⟨_,_,_,_,ob,_,_,e,_⟩:=z; exact ⟨_,e⟩
 | dT kvs=>obtain ⟨_,_,_,_,ob,_,_,e,_⟩:=z; exact ⟨_,e⟩
 | set S n=>obtain ⟨ob,_,_,_,e,_⟩:=z; exact ⟨_,e⟩
 | ins C dx fs=>obtain ⟨_,_,_,e,_⟩:=z; exact ⟨_,e⟩
 | own y=>obtain ⟨_,e⟩:=z; exact ⟨_,e⟩
 | xd fs=>obtain ⟨_,⟨_,_,_,e,_⟩,_⟩:=z; exact ⟨_,e⟩
 | rng lo hi=>obtain ⟨_,_,_,e⟩:=z; exact ⟨_,e⟩
 | frz ob u ih=>obtain ⟨e,_⟩:=z; exact ⟨_,e⟩
 | tbl ps=>exact ⟨_,(show h.get? a=some _ from z)⟩
 | met f y=>exact ⟨_,(show h.get? a=some _ from z)⟩
 | ext φ=>obtain ⟨_,⟨_,e⟩,_⟩:=z; exact ⟨_,e⟩
theorem Inv.trackX {x C:Addr} (I:Inv X pins σ H s) (ex:ExcAt s.heap x C) (hn:H x=none) (h0:∀ o,X.s₀.heap.get? x=some o→x ∈ X.ex) (hL:x≠X.env.locals) (hc:∀ y c,X.env.cells.lookup y=some c→c≠x) (hp:∀ p ∈ X.pn++pins,p.1≠x) : Inv X pins σ (upd H x (excO x C)) s:=by
 refine ⟨I.ok,I.os,I.bare,⟨I.base.keep,I.base.slot,fun b o q n hx=>?_,I.base.there,fun b xs q=>?_,fun b o u q=>?_,fun b ps q=>?_⟩,I.loc,I.cell,?_,fun y c e=>?_,fun p h=>?_,fun b ob q=>?_,I.len⟩
 ·have nb:b≠x:=fun e=>by subst e; exact hx (h0 o q)
  rw [upd_ne nb]
  exact I.base.free b o q n hx
 ·have z:=I.base.tups b xs q
  rw [upd_ne (fun e=>by rw [e,hn] at z; cases z)]
  exact z
 ·have z:=I.base.frzs b o u q
  rw [upd_ne (fun e=>by rw [e,hn] at z; cases z)]
  exact z
 ·obtain ⟨more,z⟩:=I.base.tbls b ps q
  exact ⟨more,by rw [upd_ne (fun e=>by rw [e,hn] at z; cases z)]; exact z⟩
 ·rw [upd_ne (Ne.symm hL)]
  exact I.free
 ·rw [upd_ne (hc y c e)]
  exact I.freeC y c e
 ·obtain ⟨z1,z2,z3,z4,z5⟩:=I.pin p h
  exact ⟨z1,by rw [upd_ne (hp p h)]; exact z2,z3,z4,z5⟩
 ·by_cases e:b=x
  ·subst e
   rw [upd_same] at q
   cases q
   obtain ⟨o,e1,e2⟩:=id ex
   exact ⟨ex,⟨o,e1⟩,fun h1 h2 p k=>by obtain ⟨o,f1,f2⟩:=p; exact ⟨o,k o f1,f2⟩⟩
  ·rw [upd_ne e] at q
   refine (I.hok b ob q).stay (fun c v _ z=>z) (fun c z=>?_) (fun c xs z=>?_)
   ·rw [upd_ne (fun e=>by rw [e,hn] at z; cases z)]; exact z
   ·rw [upd_ne (fun e=>by rw [e,hn] at z; cases z)]; exact z
theorem goes_ok {M:Model} {A:Around} {E:Value→Shared→Prop} {i:Nat} {x:Str} {pos:Pos} {Q:Unit→Shared→Prop} (I:Inv X pins σ H s) (hN:X.N.Nodup) (hi:X.N[i]? = some x) (hk:X.env.kindOf x=some .local)
  (h:∀ s',Inv X pins (σ.set i none) H s'→Q () s') : wpAny M A (do bindName X.env x .none; unbindBehindTheSuite X.env x pos) Q E s:=by
 obtain ⟨m,hn,hl⟩:=id I.loc
 have hcls:(X.env.scope.kind == .class || (X.env.scope.kind == .module && X.env.locals != X.env.globals))=false:=by rw [I.ok.kind]; rfl
 have hiσ:i < σ.length:=by rw [I.len]; exact (List.getElem?_eq_some_iff.mp hi).1
 have cne:=I.cne
 have tracked:∀ {a:Addr} {h':Heap},(∃ o,s.heap.get? a=some o∧H a=none)→Heap.SameBut a s.heap h'→HOk X.prog X.w H h':=fun {a h'} ha hs b ob e=>by
  obtain ⟨_,_,hfree⟩:=ha
  refine (I.hok b ob e).stay (fun c w' hc q=>(hs.2 c ?_).trans q) (fun _ q=>q) fun _ _ q=>q
  rintro rfl
  rcases hc with rfl | hc
  ·rw [hfree] at e; cases e
  ·rw [hfree] at hc; cases hc
 refine wpAny_nameGoes_keeps hk hn hcls (fun h' v hn' hs=>?_)
 obtain ⟨oL,_,_,hoL,_⟩:=id hn
 refine h _ ⟨I.ok,I.os,I.bare,⟨fun b o e n hb hx=>?_,fun b o e n hb hx=>?_,I.base.free,fun b o e hx=>?_,I.base.tups,I.base.frzs,I.base.tbls⟩,⟨_,hn',fun j y v' e1 e2 e3=>?_⟩,fun y c e=>?_,I.free,I.freeC,fun p hp=>?_,tracked ⟨oL,hoL,I.free⟩ hs,by simpa using I.len⟩
 ·exact (hs.2 b (Nat.ne_of_lt (Nat.lt_of_lt_of_le (Heap.lt_size e) I.ok.above))).trans (I.base.keep b o e n hb hx)
 ·obtain ⟨sl,e1⟩:=I.base.slot b o e n hb hx
  exact ⟨sl,(hs.2 b (Nat.ne_of_lt (Nat.lt_of_lt_of_le (Heap.lt_size e) I.ok.above))).trans e1⟩
 ·obtain ⟨o',e1⟩:=I.base.there b o e hx
  exact ⟨o',(hs.2 b (Nat.ne_of_lt (Nat.lt_of_lt_of_le (Heap.lt_size e) I.ok.above))).trans e1⟩
 ·by_cases hj:j=i
  ·subst hj
   rw [List.getElem?_set_self hiσ] at e2
   cases e2
  ·rw [List.getElem?_set_ne (Ne.symm hj)] at e2
   obtain ⟨u',r',q⟩:=hl j y v' e1 e2 e3
   refine ⟨u',r',?_⟩
   rcases q with ⟨k,e⟩ | ⟨k,c,e,z⟩
   ·refine .inl ⟨k,?_⟩
    have:y≠x:=fun e=>hj (nodup_ix hN e1 (e ▸ hi))
    simp [this,e]
   ·exact .inr ⟨k,c,e,z.sameBut hs (cne y c e)⟩
 ·obtain ⟨w',z⟩:=I.cell y c e
  exact ⟨w',z.sameBut hs (cne y c e)⟩
 ·obtain ⟨e,n,ne,nf,d⟩:=I.pin p hp
  exact ⟨(hs.2 p.1 ne).trans e,n,ne,nf,d⟩
end
def offD (D:Ends) (i:Nat) : Ends:={ nx:=fun σ H=>D.nx (σ.set i none) H,rt:=D.rt,bk:=fun σ H=>D.bk (σ.set i none) H,ct:=fun σ H=>D.ct (σ.set i none) H }
section
variable {X:Cx} {k:Nat} {f T:Addr} {fd:FuncData} {ps:List Str} {sp:Sp} {fx c n:Str} {i:Nat} {st:Stmt} {e:Expr} {es:List Expr} {t:TA} {b₀:Stmt} {suite:List Stmt} {th:TS} {np pf cpos apos hpos pos:Pos}
theorem caught_as {pins:List (Addr × Obj)} {σ:St} {H1 H':Hp} {s1 s2:Shared} {D:Ends} {x C:Addr} {B:Heap} {a0:Value} {E2:Value→Shared→Prop} (I1:Inv X pins σ H1 s1) (hst:X.stack=X.env :: X.outer∧X.env.frame=some X.env.locals)
  (os:s2.os=s1.os) (bare:AllBare s2.gens) (un:Un (frs X.stack) [] H1 H' s1.heap s2.heap) (hok:HOk X.prog X.w H' B)
  (cov1:∀ b o,s1.heap.get? b=some o→H1 b=none→b ∉ frs X.stack→B.get? b=some o) (cov2:∀ b o,s1.heap.get? b=some o→b ∉ frs X.stack→∃ o',B.get? b=some o') (fl:Heap.FlyingW B X.stack x (.ref C) a0 s2.heap)
  (hN:X.N.Nodup) (hi:X.N[i]? = some n) (hk:X.env.kindOf n=some .local)
  (hg:Gl X c) (hm:X.mg c=some (.ref T)) (tk:Takes X.K C T) (hh:∀ v,PSs (X.marked v) (b₀ :: suite) th) (q:∀ x,H' x=none→th (offD D i) (σ.set i (some (.ref x))) (upd H' x (excO x C))) (hd:(c == ("__debug__" : Str))=false:=by decide) :
  wpAny (model X.prog X.w) X.A (noteFrame (.ref x) X.env) (fun _ s₂=>wpAny (model X.prog X.w) X.A (setFlight (.ref x) none) (fun _ s₃=>wpAny (model X.prog X.w) X.A (handleBy (.ref x) X.env [.ExceptHandler (some (.Name c np)) (some n) (b₀ :: suite) hpos]) (SP X pins D) E2 s₃) E2 s₂) E2 s2:=by
 have hfr:X.A.frames=some (X.env :: X.outer):=hst.1 ▸ I1.ok.frames
 have after:∀ h6:Heap,Heap.FlyingW B X.stack x (.ref C) a0 h6→s2.heap.UpToSlots h6→Inv X pins σ H' { s2 with heap:=h6 }:=fun h6 fl6 up=>by
  refine I1.call' (ch:=[]) os ⟨fun b o q n hb _=>fl6.1 b o (cov1 b o q n hb),fun b o q n hb hx'=>?_,un.free,fun b o q _=>?_,un.tups,un.frzs,un.tbls⟩ (hok.kept fl6.1) bare (fun b z=>absurd z (by simp))
  ·obtain ⟨sl,e1⟩:=un.slot b o q n hb hx'
   obtain ⟨_,o3,e3,nd⟩:=fl.2.2.1.mem hb
   rw [e1] at e3
   cases e3
   obtain ⟨sl3,e4⟩:=up b _ e1 nd
   exact ⟨sl3,e4⟩
  ·by_cases hb:b ∈ frs X.stack
   ·obtain ⟨_,o3,e3,_⟩:=fl6.2.2.1.mem hb
    exact ⟨o3,e3⟩
   ·obtain ⟨o',e⟩:=cov2 b o q hb
    exact ⟨o',fl6.1 b o' e⟩
 have flx:=fl
 rw [hst.1] at fl
 refine wpAny_looks_onW hfr hst.2 fl fun h₄ held up4=>?_
 refine wpAny_landsW held fun h₅ fl5 up5=>?_
 have fl5':Heap.FlyingW B X.stack x (.ref C) a0 h₅:=hst.1 ▸ fl5
 have I5:=after h₅ fl5' (up4.trans up5)
 have I5m:=I5.marked (.ref x)
 refine wpAny_handleBy_cons (codeAny_handlers_test (ld_glob (X:=X.marked (.ref x)) I5m hg hm ?_ hd)) (by intro q; cases q)
 obtain ⟨ob,hob,hobc⟩:=fl5.there
 have LT:PySem.W.Looks (model X.prog X.w) h₅ (typeOf (.ref x)) (.ref C):=by
  have z:PySem.W.Looks (model X.prog X.w) h₅ (typeOf (.ref x)) ob.cls:=(PySem.W.Looks.ld hob).andThen .now
  rw [hobc] at z
  exact z
 refine (PySem.W.exm_one (M:=model X.prog X.w) (I5.kIn) LT tk).here ?_
 refine codeAny_handlers_suite_as ?_
 refine lands_againW fl5 fun h₆ fl6 up6=>?_
 have fl6':Heap.FlyingW B X.stack x (.ref C) a0 h₆:=hst.1 ▸ fl6
 have I6:=after h₆ fl6' ((up4.trans up5).trans up6)
 have hBx:B.get? x=none:=fl6'.2.1
 have hx0:H' x=none:=by
  cases hq:H' x with
  | none=>rfl
  | some o =>
   obtain ⟨ob2,z⟩:=(hok x o hq).there
   rw [hBx] at z
   cases z
 obtain ⟨oe,vs,T',oT,ts,he,hcl,hdat,_⟩:=fl6'.2.2.2
 have nofr:∀ b,b ∈ frs X.stack→b≠x:=fun b hb e=>by
  obtain ⟨_,o3,e3,nd⟩:=fl6'.2.2.1.mem hb
  rw [e,he] at e3
  cases e3
  exact nd _ hdat
 have I7:=(I6.trackX (x:=x) (C:=C) ⟨oe,he,hcl.1⟩ hx0 (fun o z=>by
   by_cases hx':x ∈ X.ex
   ·exact hx'
   ·obtain ⟨o',z'⟩:=I1.base.there x o z hx'
    obtain ⟨o2,z2⟩:=cov2 x o' z' (fun hb=>nofr x hb rfl)
    rw [hBx] at z2
    cases z2) (fun e=>by
   obtain ⟨m,⟨oL,es',ep,hoL,hdL,_⟩,_⟩:=I6.loc
   have hoL':h₆.get? X.env.locals=some oL:=hoL
   rw [← e,he] at hoL'
   cases hoL'
   rw [hdat] at hdL
   cases hdL) (fun y cc ec e=>by
   obtain ⟨v,oc,z1,z2⟩:=I6.cell y cc ec
   have z1':h₆.get? cc=some oc:=z1
   rw [e,he] at z1'
   cases z1'
   rw [hdat] at z2
   cases z2) (fun p hp e=>by
   obtain ⟨z1,z2,z3,z4,z5⟩:=I1.pin p hp
   have nf:p.1 ∉ frs X.stack:=fun hb=>by
    rcases List.mem_cons.mp (I1.stkSub p.1 hb) with z | z
    ·exact z3 z
    ·exact z4 z
   obtain ⟨o2,z6⟩:=cov2 p.1 p.2 z1 nf
   rw [e,hBx] at z6
   cases z6)).marked (.ref x)
 refine store_ok (X:=X.marked (.ref x)) I7 hN hi (.inl hk) (show RelV (.ref x) (.ref x) from rfl) (fun s8 I8=>?_) (.inr hk)
 refine wpAny_mono (hh (.ref x) pins _ _ _ (offD D i) I8 (q x hx0)) (fun fl s' h=>?_) fun _ _ z=>False.elim z
 have h':=h.unmarked I1.ok.hd
 show wpAny (model X.prog X.w) X.A (do bindName X.env n .none; unbindBehindTheSuite X.env n hpos) (fun _ s₃=>SP X pins D fl s₃) E2 s'
 cases fl with
 | next=>obtain ⟨σ',H2,J,z⟩:=h'; exact goes_ok J hN hi hk fun s3 J3=>⟨_,_,J3,z⟩
 | brk=>obtain ⟨σ',H2,J,z⟩:=h'; exact goes_ok J hN hi hk fun s3 J3=>⟨_,_,J3,z⟩
 | cont=>obtain ⟨σ',H2,J,z⟩:=h'; exact goes_ok J hN hi hk fun s3 J3=>⟨_,_,J3,z⟩
 | ret u=>obtain ⟨v,σ',H2,J,r,z⟩:=h'; exact goes_ok J hN hi hk fun s3 J3=>⟨_,_,_,J3,r,z⟩
def tTryAs (K:PySem.W.Frag) (sp:Sp) (t:TA) (T:Addr) (i:Nat) (th:TS) : TS:=fun D σ H=>t σ H fun vs H1=>sp (vs++[]) H1 (fun _ H2=>D.nx σ H2) (fun cls _ H2=>∃ C,cls = .ref C∧Takes K C T∧∀ x,H2 x=none→th (offD D i) (σ.set i (some (.ref x))) (upd H2 x (excO x C)))
theorem ps_try_as (hN:X.N.Nodup) (hi:X.N[i]? = some n) (hk:X.env.kindOf n=some .local) (Df:DefOk X.K X.mg fx st ps f fd) (G:FnOk X.prog X.w X.K X.mg X.base (CXe X.prog X.w) k f fd ps sp) (hr:Room k X.A) (hgf:Gl X fx)
  (ha:∀ W,PA (X.wish W) (e :: es) t) (hgc:Gl X c) (O:ExcOk X.K X.mg c T) (hst:X.stack=X.env :: X.outer∧X.env.frame=some X.env.locals) (hh:∀ v,PSs (X.marked v) (b₀ :: suite) th)
  (hs:swapsWith (.Call (.Name fx pf) (e :: es) [] cpos) none apos.line X.env=pure false:=by rfl)
  (hd:(fx == ("__debug__" : Str))=false:=by decide) (hdc:(c == ("__debug__" : Str))=false:=by decide) (he:starEach (e :: es) X.env=(false,eval e X.env) :: starEach es X.env:=by rfl) (hpl:(backTo cpos (starEach es X.env)).any (·.1)=false:=by rfl) :
  PS X (.Try [.Expr (.Call (.Name fx pf) (e :: es) [] cpos) apos] [.ExceptHandler (some (.Name c np)) (some n) (b₀ :: suite) hpos] [] [] pos) (tTryAs X.K sp t T i th):=by
 intro pins s σ H D I h
 refine wpAny_Try_except (wpAny_execs_cons (wpAny_Expr_any (thn (call_try I Df G hr hgf (ha _) h (fun H1 s1 ex s2 I1 hx=>?_) hd he hpl) fun v s1 ⟨y,H1,I1,r1,q1⟩=>?_) I.quiet hs))
 ·obtain ⟨x,C,H',B,a0,rfl,os,bare,un,hok,cov1,cov2,fl,C',ec,tk,q⟩:=hx
  cases ec
  exact caught_as I1 hst os bare un hok cov1 cov2 fl hN hi hk hgc O.mg tk hh q hdc
 ·exact wpAny_execs_nil (wpAny_execs_nil ⟨σ,H1,I1,q1⟩)
def rIsiX (K:PySem.W.Frag) (xs:List V) (H:Hp) (Q:V→Hp→Prop) : Prop:=∃ x C T b,xs=[.ref x,T]∧H x=some (excO x C)∧excLk K C=true∧((∃ a,T = .ref a∧PySem.W.kitOne K (.ref C) (.ref a)=some b)∨∃ m,T = .ty m∧PySem.W.kitOne K (.ref C) (.type m)=some b)∧Q (.bl b) H
theorem call_isiX {X:Cx} : CallR X (.builtin "isinstance") (rIsiX X.K):=by
 intro pins s σ H xs us Q I r h
 obtain ⟨x,C,T,b,rfl,hx,hl,hT,q⟩:=h
 obtain ⟨ho,_,_⟩:=(show ObjOk X.prog X.w H s.heap x (excO x C) from I.hok x _ hx)
 rcases hT with ⟨a,rfl,hb⟩ | ⟨m,rfl,hb⟩
 ·cases r with
  | cons r1 r2 =>
   cases r2 with
   | cons r3 r4 =>
    cases r4
    cases r1
    cases r3
    exact PySem.W.kia_one (kitx_exc hl) I.kIn ho hb (by intro z; cases z) fun tk=>⟨.bl b,H,I.tok tk,rfl,q⟩
 ·cases r with
  | cons r1 r2 =>
   cases r2 with
   | cons r3 r4 =>
    cases r4
    cases r1
    cases r3
    exact PySem.W.kia_one (kitx_exc hl) I.kIn ho hb (by intro z; cases z) fun tk=>⟨.bl b,H,I.tok tk,rfl,q⟩
end
theorem pass_never {P:Program} {w:World} {X:Cx} : Passes (CXe P w) X (fun _ _ _=>False):=by
 intro pins σ H1 s1 e s' I h
 obtain ⟨x,C,H',B,a0,rfl,os,bare,un,hok,cov1,cov2,fl,ee⟩:=h
 exact ee.elim
end L2

set_option maxHeartbeats 4000000
namespace L2
open PySem PySem.Spec PyProof.Rows Tl
open scoped Classical
theorem boot_ValueError:bootBuiltins "ValueError" = some (.type "ValueError"):=by decide +kernel
def GrT (F G:Frm) (ds ns:List Wd) (t r:Nat) : Prop:=F=G∧Grown ds ns t r∧∀ s,s < t→¬ Grown ds ns s r
theorem GrT.one {F G:Frm} {ds ns:List Wd} {t r t' r':Nat} (h:GrT F G ds ns t r) (g:GrT F G ds ns t' r') : t=t'∧r=r':=by
 have e:r=r':=by have a:=h.2.1.len; have b:=g.2.1.len; omega
 subst e
 refine ⟨?_,rfl⟩
 rcases Nat.lt_trichotomy t t' with c | c | c
 ·exact absurd h.2.1 (g.2.2 t c)
 ·exact c
 ·exact absurd g.2.1 (h.2.2 t' c)
def OwnW (K:PySem.W.Frag) (H:Hp) (wq:Addr) (wqs:List Addr) (ws:List Wd) : Prop:=H wq=some (.lst (wqs.map V.ref))∧WdsA K (er1 H wq) wqs ws
theorem OwnW.all {K:PySem.W.Frag} {H:Hp} {wq:Addr} {wqs:List Addr} {ws:List Wd} (h:OwnW K H wq wqs ws) : WdsA K H wqs ws:=h.2.same (er1_same _ _)
theorem OwnW.same {K:PySem.W.Frag} {H H':Hp} {wq:Addr} {wqs:List Addr} {ws:List Wd} (h:OwnW K H wq wqs ws) (s:Same H H') : OwnW K H' wq wqs ws:=⟨s _ _ h.1,h.2.same (er1_mono s)⟩
theorem OwnW.new {K:PySem.W.Frag} {H:Hp} {p:Addr} {wqs:List Addr} {ws:List Wd} (hp:H p=none) (h:WdsA K H wqs ws) : OwnW K (upd H p (.lst (wqs.map V.ref))) p wqs ws:=⟨upd_same,h.same (er1_sub (same_new hp _) hp)⟩
theorem OwnW.put {K:PySem.W.Frag} {H:Hp} {wq:Addr} {wqs:List Addr} {ws:List Wd} (h:WdsA K (er1 H wq) wqs ws) : OwnW K (upd H wq (.lst (wqs.map V.ref))) wq wqs ws:=⟨upd_same,by rw [er1_put]; exact h⟩
end L2

set_option maxHeartbeats 4000000
namespace L2
open PySem PySem.Spec PyProof.Rows Builtin Builtin.ObjectAttr
section
variable {prog:Program} {w:World} {A:Around} {E:Value→Shared→Prop} {h:Heap} {g:Array GenState} {d:Drawn} {t:Nat} {os:OsState} {a:Addr} {o:Obj}
end
end L2

namespace L2
open PySem PySem.Spec PyProof.Rows
def laid (kvs:List (Key × Value)) : List (Key × Value):=kvs.foldl (fun m kv=>stored m kv.1 kv.2) []
section
variable {prog:Program} {w:World} {A:Around} {R:Result→Shared→Prop} {i0 l d:Addr} {its:Array Value} {kvs:List (Key × Value)}
def Prs (prog:Program) (w:World) (h:Heap) (its:Array Value) (kvs:List (Key × Value)) : Prop:=its.size=kvs.length∧∀ (j:Nat) v k x,its[j]? = some v→kvs[j]? = some (k,x)→∃ p key,v = .ref p∧IsTup h p #[key,x]∧(mixKind prog w).is k key=true
theorem tup_keep {h h':Heap} {p a:Addr} {xs:Array Value} (t:IsTup h p xs) (s:Heap.SameBut a h h') (n:p≠a) : IsTup h' p xs:=by
 obtain ⟨o,ho,r⟩:=t
 exact ⟨o,(s.2 p n).trans ho,r⟩
theorem Prs.keep {h h':Heap} {a:Addr} (t:Prs prog w h its kvs) (s:Heap.SameBut a h h') (n:∀ o,h.get? a=some o→o.cls≠.type "tuple") : Prs prog w h' its kvs:=⟨t.1,fun j v k x e1 e2=>by
 obtain ⟨p,key,e3,tp,kk⟩:=t.2 j v k x e1 e2
 refine ⟨p,key,e3,tup_keep tp s fun e=>?_,kk⟩
 obtain ⟨o,ho,hc,_⟩:=tp
 exact n o (by rw [← e]; exact ho) hc⟩
end
section
variable {X:Cx}
end
end L2

set_option maxHeartbeats 4000000
namespace L2
open PySem PySem.Spec PyProof.Rows Tl
abbrev Pg:=Int × List (List Nat)
def pgAt (H:Hp) (a r:Addr) (p:Pg) : Prop:=H a=some (.tup [.int p.1,.ref r])∧H r=some (.lst (rowsV p.2))
theorem pgAt.same {H H':Hp} {a r:Addr} {p:Pg} (h:pgAt H a r p) (s:Same H H') : pgAt H' a r p:=⟨s _ _ h.1,s _ _ h.2⟩
structure PgS (H:Hp) (as rs:List Addr) (ps:List Pg) : Prop where
 l1:as.length=ps.length
 l2:rs.length=ps.length
 at':∀ (i:Nat) a r p,as[i]? = some a→rs[i]? = some r→ps[i]? = some p→pgAt H a r p
structure PgL (H:Hp) (q:Addr) (as rs:List Addr) (ps:List Pg) : Prop extends PgS H as rs ps where
 top:H q=some (.lst (as.map V.ref))
section
variable {H H':Hp} {q:Addr} {as rs:List Addr} {ps:List Pg}
theorem PgS.nil:PgS H [] [] []:=⟨rfl,rfl,fun i a r p e=>by simp at e⟩
theorem PgS.same (h:PgS H as rs ps) (s:Same H H') : PgS H' as rs ps:=⟨h.l1,h.l2,fun i a r p e1 e2 e3=>(h.at' i a r p e1 e2 e3).same s⟩
theorem PgL.same (h:PgL H q as rs ps) (s:Same H H') : PgL H' q as rs ps:=⟨h.toPgS.same s,s _ _ h.top⟩
theorem PgS.snoc {a r:Addr} {p:Pg} (h:PgS H as rs ps) (x:pgAt H a r p) : PgS H (as++[a]) (rs++[r]) (ps++[p]):=by
 have l1:=h.l1
 have l2:=h.l2
 refine ⟨by simp [l1],by simp [l2],fun i a' r' p' e1 e2 e3=>?_⟩
 rcases snoc_at e1 with ⟨k1,z1⟩ | ⟨k1,z1⟩
 ·rcases snoc_at e2 with ⟨k2,z2⟩ | ⟨k2,z2⟩
  ·rcases snoc_at e3 with ⟨k3,z3⟩ | ⟨k3,z3⟩
   ·exact h.at' i a' r' p' k1 k2 k3
   ·omega
  ·omega
 ·rcases snoc_at e2 with ⟨k2,z2⟩ | ⟨k2,z2⟩
  ·omega
  ·rcases snoc_at e3 with ⟨k3,z3⟩ | ⟨k3,z3⟩
   ·omega
   ·rw [k1,k2,k3]; exact x
theorem PgS.get (h:PgS H as rs ps) {i:Nat} (hi:i < ps.length) : ∃ a r p,as[i]? = some a∧rs[i]? = some r∧ps[i]? = some p∧pgAt H a r p∧atI (as.map V.ref) (i:Int)=some (V.ref a):=by
 have h1:as[i]? = some (as[i]'(by rw [h.l1]; exact hi)):=List.getElem?_eq_getElem _
 have h2:rs[i]? = some (rs[i]'(by rw [h.l2]; exact hi)):=List.getElem?_eq_getElem _
 have h3:ps[i]? = some ps[i]:=List.getElem?_eq_getElem hi
 exact ⟨_,_,_,h1,h2,h3,h.at' i _ _ _ h1 h2 h3,atI_nat (by rw [List.getElem?_map,h1]; rfl)⟩
end
abbrev Fe:=Nat × Option (Addr × Addr × Pg)
def fv:Option (Addr × Addr × Pg)→V
 | none=>.non
 | some y=>.ref y.1
def plainF (fl:List Fe) : List (Nat × Option Pg):=fl.map fun x=>(x.1,x.2.map fun y=>y.2.2)
def feAt (H:Hp) (f:Addr) (x:Fe) : Prop:=H f=some (.tup [.int (x.1:Int),fv x.2])∧∀ y,x.2=some y→pgAt H y.1 y.2.1 y.2.2
theorem feAt.same {H H':Hp} {f:Addr} {x:Fe} (h:feAt H f x) (s:Same H H') : feAt H' f x:=⟨s _ _ h.1,fun y e=>(h.2 y e).same s⟩
structure FlS (H:Hp) (fs:List Addr) (fl:List Fe) : Prop where
 len:fs.length=fl.length
 at':∀ (i:Nat) f x,fs[i]? = some f→fl[i]? = some x→feAt H f x
theorem FlS.nil {H:Hp} : FlS H [] []:=⟨rfl,fun i f x e=>by simp at e⟩
theorem FlS.same {H H':Hp} {fs:List Addr} {fl:List Fe} (h:FlS H fs fl) (s:Same H H') : FlS H' fs fl:=⟨h.len,fun i f x e1 e2=>(h.at' i f x e1 e2).same s⟩
theorem FlS.snoc {H:Hp} {fs:List Addr} {fl:List Fe} {f:Addr} {x:Fe} (h:FlS H fs fl) (e:feAt H f x) : FlS H (fs++[f]) (fl++[x]):=by
 have l:=h.len
 refine ⟨by simp [l],fun i f' x' e1 e2=>?_⟩
 rcases snoc_at e1 with ⟨k1,z1⟩ | ⟨k1,z1⟩
 ·rcases snoc_at e2 with ⟨k2,z2⟩ | ⟨k2,z2⟩
  ·exact h.at' i f' x' k1 k2
  ·omega
 ·rcases snoc_at e2 with ⟨k2,z2⟩ | ⟨k2,z2⟩
  ·omega
  ·rw [k1,k2]; exact e
def dfA (os ns:List Pg) : Nat→List (Nat × Option Pg)
 | 0=>[]
 | n+1=>dfA os ns n++(if ns.length≤n then [(n,none)] else if os.length≤n∨os[n]?≠ns[n]? then [(n,ns[n]?)] else [])
def lk {α:Type} (fl:List (Nat × α)) (k:Nat) : Option α:=fl.foldl (fun o x=>if x.1=k then some x.2 else o) none
theorem pgAt.er {H:Hp} {q a r:Addr} {zs:List V} {p:Pg} (h:pgAt H a r p) (hq:H q=some (.lst zs)) (n:r≠q) : pgAt (er1 H q) a r p:=by
 refine ⟨?_,by rw [er1_at n]; exact h.2⟩
 rw [er1_at (fun e=>by rw [e] at h; rw [h.1] at hq; cases hq)]
 exact h.1
theorem feAt.er {H:Hp} {q f:Addr} {zs:List V} {x:Fe} (h:feAt H f x) (hq:H q=some (.lst zs)) (n:∀ y,x.2=some y→y.2.1≠q) : feAt (er1 H q) f x:=by
 refine ⟨?_,fun y e=>(h.2 y e).er hq (n y e)⟩
 rw [er1_at (fun e=>by rw [e] at h; rw [h.1] at hq; cases hq)]
 exact h.1
def FrF (H:Hp) (fl:List Fe) : Prop:=∀ x ∈ fl,∀ y,x.2=some y→H y.2.1=none
theorem FrF.nil {H:Hp} : FrF H []:=fun x hx=>by cases hx
theorem FrF.snoc {H:Hp} {fl:List Fe} {x:Fe} (h:FrF H fl) (n:∀ y,x.2=some y→H y.2.1=none) : FrF H (fl++[x]):=fun z hz=>by
 rcases List.mem_append.mp hz with hz | hz
 ·exact h z hz
 ·rw [List.mem_singleton.mp hz]; exact n
section
variable {os ns:List Pg} {fl:List Fe} {i:Nat} (ef:plainF fl=dfA os ns i)
include ef
end
theorem szR {fs:List Addr} {n:Nat} (h:fs.length≤n) (h2:n < 1000) : (fs.map V.ref).length < sizeLine:=by
 rw [List.length_map]
 exact Nat.lt_of_lt_of_le (show _ < 1000 by omega) (small (Nat.le_refl _))
theorem FlS.mem {H:Hp} {fs:List Addr} {fl:List Fe} {x:Fe} (h:FlS H fs fl) (hx:x ∈ fl) : ∃ f,feAt H f x:=by
 obtain ⟨i,hi,rfl⟩:=List.getElem_of_mem hx
 exact ⟨_,h.at' i _ _ (List.getElem?_eq_getElem (by rw [h.len]; exact hi)) (List.getElem?_eq_getElem hi)⟩
theorem ixN_in {n:Nat} {k:Int} (h0:0≤k) (h1:k < n) : ixN n k=some k.toNat:=by unfold ixN; rw [if_pos h0,if_pos h1]
theorem pgAt.set {H:Hp} {a r:Addr} {p:Pg} {l:List (List Nat)} (h:pgAt H a r p) : pgAt (upd H r (.lst (rowsV l))) a r (p.1,l):=by
 refine ⟨?_,upd_same⟩
 rw [upd_ne (fun e=>by have:=h.1; rw [e,h.2] at this; cases this)]
 exact h.1
theorem rows_ref {as:List Addr} {t:List (List Nat)} {i:Nat} {a:Addr} (h:as[i]? = some a) : ¬ as.map V.ref=rowsV t:=fun e=>by
 have:=congrArg (fun l=>l[i]?) e
 unfold rowsV at this
 rw [List.getElem?_map,List.getElem?_map,h] at this
 cases ht:t[i]? with
 | none=>rw [ht] at this; cases this
 | some u=>rw [ht] at this; cases this
def PgW (H:Hp) (q:Addr) (as rs:List Addr) (n:Nat) : Prop:=H q=some (.lst (as.map V.ref))∧as.length=rs.length∧∀ (j:Nat) a r,as[j]? = some a→rs[j]? = some r→∃ (z:Int) (t:List (List Nat)),H a=some (.tup [.int z,.ref r])∧H r=some (.lst (rowsV t))∧t.length≤n
theorem PgL.w {H:Hp} {q:Addr} {as rs:List Addr} {ps:List Pg} {n:Nat} (h:PgL H q as rs ps) (hn:∀ p ∈ ps,p.2.length≤n) : PgW H q as rs n:=by
 refine ⟨h.top,by rw [h.l1,h.l2],fun j a r e1 e2=>?_⟩
 have hj:j < ps.length:=by rw [← h.l1]; exact (List.getElem?_eq_some_iff.mp e1).1
 have:=h.at' j a r _ e1 e2 (List.getElem?_eq_getElem hj)
 exact ⟨_,_,this.1,this.2,hn _ (List.getElem_mem hj)⟩
theorem PgW.put {H:Hp} {q:Addr} {as rs:List Addr} {n i:Nat} {a r:Addr} {t:List (List Nat)} {u:List Nat} (h:PgW H q as rs n) (ha:as[i]? = some a) (ht:H r=some (.lst (rowsV t))) (hn:t.length≤n) : PgW (upd H r (.lst (rowsV t++[V.str (tx u)]))) q as rs (n+1):=by
 obtain ⟨h1,h2,h3⟩:=h
 refine ⟨?_,h2,fun j a' r' e1 e2=>?_⟩
 ·rw [upd_ne (fun e=>by rw [e,ht] at h1; exact rows_ref ha (HO.lst.inj (Option.some.inj h1)).symm)]
  exact h1
 ·obtain ⟨z,t',g1,g2,g3⟩:=h3 j a' r' e1 e2
  refine ⟨z,?_⟩
  rw [upd_ne (fun e=>by rw [e,ht] at g1; cases g1)]
  by_cases c:r' = r
  ·rw [c] at g1 ⊢
   exact ⟨t++[u],g1,by rw [upd_same]; unfold rowsV; rw [List.map_append]; rfl,by rw [List.length_append]; show _+1≤_; omega⟩
  ·exact ⟨t',g1,by rw [upd_ne c]; exact g2,by omega⟩
def FlW (H:Hp) (q:Addr) (fs:List Addr) (fl:List Fe) (n:Nat) : Prop:=H q=some (.lst (fs.map V.ref))∧∀ (j:Nat) f x,fs[j]? = some f→fl[j]? = some x→H f=some (.tup [.int (x.1:Int),fv x.2])∧∀ y,x.2=some y→∃ (z:Int) (t:List (List Nat)),H y.1=some (.tup [.int z,.ref y.2.1])∧H y.2.1=some (.lst (rowsV t))∧t.length≤n
theorem FlS.w {H:Hp} {q:Addr} {fs:List Addr} {fl:List Fe} {n:Nat} (h:FlS H fs fl) (hq:H q=some (.lst (fs.map V.ref))) (hn:∀ x ∈ fl,∀ y,x.2=some y→y.2.2.2.length≤n) : FlW H q fs fl n:=
 ⟨hq,fun j f x e1 e2=>⟨(h.at' j f x e1 e2).1,fun y e=>⟨_,_,((h.at' j f x e1 e2).2 y e).1,((h.at' j f x e1 e2).2 y e).2,hn x (List.mem_of_getElem? e2) y e⟩⟩⟩
theorem FlW.up {H:Hp} {q:Addr} {fs:List Addr} {fl:List Fe} {n:Nat} (h:FlW H q fs fl n) : FlW H q fs fl (n+1):=
 ⟨h.1,fun j f x e1 e2=>⟨(h.2 j f x e1 e2).1,fun y e=>by
  obtain ⟨z,t,g1,g2,g3⟩:=(h.2 j f x e1 e2).2 y e
  exact ⟨z,t,g1,g2,by omega⟩⟩⟩
theorem FlW.put {H:Hp} {q:Addr} {fs:List Addr} {fl:List Fe} {n i:Nat} {a r:Addr} {t:List (List Nat)} {u:List Nat} (h:FlW H q fs fl n) (ha:fs[i]? = some a) (ht:H r=some (.lst (rowsV t))) (hn:t.length≤n) : FlW (upd H r (.lst (rowsV t++[V.str (tx u)]))) q fs fl (n+1):=by
 obtain ⟨h1,h3⟩:=h
 refine ⟨?_,fun j f x e1 e2=>?_⟩
 ·rw [upd_ne (fun e=>by rw [e,ht] at h1; exact rows_ref ha (HO.lst.inj (Option.some.inj h1)).symm)]
  exact h1
 ·obtain ⟨g0,g⟩:=h3 j f x e1 e2
  refine ⟨?_,fun y e=>?_⟩
  ·rw [upd_ne (fun e=>by rw [e,ht] at g0; cases g0)]
   exact g0
  obtain ⟨z,t',g1,g2,g3⟩:=g y e
  refine ⟨z,?_⟩
  rw [upd_ne (fun e=>by rw [e,ht] at g1; cases g1)]
  by_cases c:y.2.1=r
  ·rw [c] at g1 ⊢
   exact ⟨t++[u],g1,by rw [upd_same]; unfold rowsV; rw [List.map_append]; rfl,by rw [List.length_append]; show _+1≤_; omega⟩
  ·exact ⟨t',g1,by rw [upd_ne c]; exact g2,by omega⟩
theorem all_rep (n:Nat) : (List.replicate n true).all id=true:=by
 rw [List.all_eq_true]
 intro x hx
 exact List.eq_of_mem_replicate hx
theorem rep_snoc (n:Nat) : (List.replicate n true).map V.bl++[V.bl true]=(List.replicate (n+1) true).map V.bl:=by
 rw [List.replicate_succ',List.map_append]
 rfl
section
variable {X:Cx}
theorem pp_intV {i:Nat} {e:Expr} {pos:Pos} (he:PE X e (tVar i)) : PP X (.FormattedValue e (-1) none pos) (fun σ=>∃ n:Int,σ[i]? = some (some (.int n))∧n.natAbs.log2 < 1920∧(toString n:Str).length≤20000):=by
 intro pins s σ H Q I hc q
 obtain ⟨n,hv,hn,hl⟩:=hc
 refine wpAny_FormattedValue_plain (thn (he pins s σ H (fun v H'=>v = .int n∧H' = H) I ⟨_,hv,rfl,rfl⟩) fun u s1 ⟨x,H1,I1,r1,e1,e2⟩=>?_)
 subst e1 e2
 obtain ⟨t,rfl⟩:=r1
 exact wpAny_formatField_int hn (q _ _ _ hl (I1.tok _))
end
inductive Sg where
 | text (l:List Nat)
 | num (k:Bool) (n:Int)
def sgV:Sg→List V
 | .text l=>[.str (PySem.Str.ofString "text"),.str (tx l)]
 | .num k n=>[.str (if k then PySem.Str.ofString "page" else PySem.Str.ofString "row"),.int n]
def sgOk (many:Int) : Sg→Bool
 | .text l=>decide (l≠[]) && (decide (l.length≤60) && decide (32 ∉ l))
 | .num _ n=>decide (0≤n) && decide (n < many)
def sgSm:Sg→Prop
 | .text l=>l.length≤300
 | .num _ _=>True
def IsS (H:Hp) (a:Addr) : Prop:=∃ s,H a=some (.tup (sgV s))∧sgSm s
def OkS (many:Int) (H:Hp) (a:Addr) : Prop:=∃ s,H a=some (.tup (sgV s))∧sgOk many s=true
theorem IsS.same {H H':Hp} {a:Addr} (h:IsS H a) (s:Same H H') : IsS H' a:=by
 obtain ⟨x,h1,h2⟩:=h
 exact ⟨x,s _ _ h1,h2⟩
theorem sgV_inj {s t:Sg} (h:sgV s=sgV t) : sgOk m s=sgOk m t:=by
 cases s with
 | text l =>
  cases t with
  | text l' =>
   have:=(List.cons.inj (List.cons.inj h).2).1
   rw [tx_inj (V.str.inj this)]
  | num k n=>have:=(List.cons.inj (List.cons.inj h).2).1; cases this
 | num k n =>
  cases t with
  | text l=>have:=(List.cons.inj (List.cons.inj h).2).1; cases this
  | num k' n' =>
   have:=(List.cons.inj (List.cons.inj h).2).1
   rw [V.int.inj this]
   rfl
theorem OkS.of {H:Hp} {a:Addr} {s:Sg} {m:Int} (h:H a=some (.tup (sgV s))) : OkS m H a↔sgOk m s=true:=by
 constructor
 ·rintro ⟨t,h1,h2⟩
  rw [h] at h1
  rw [sgV_inj (HO.tup.inj (Option.some.inj h1))]
  exact h2
 ·exact fun h2=>⟨s,h,h2⟩
theorem OkS.same {H H':Hp} {a:Addr} {m:Int} (h:IsS H a) (s:Same H H') : OkS m H' a↔OkS m H a:=by
 obtain ⟨x,h1,h2⟩:=h
 rw [OkS.of h1,OkS.of (s _ _ h1)]
structure Wx where
 lead:Int
 kept:Bool
 sa:Addr
 bs:List Addr
def wxAt (H:Hp) (a fo:Addr) (x:Wx) : Prop:=H a=some (.tup [.int x.lead,.bl x.kept,.ref x.sa,.ref fo])∧H fo=some (.lst (x.bs.map V.ref))
def wxIn (H:Hp) (x:Wx) : Prop:=x.bs.length≤100∧∀ b ∈ x.sa :: x.bs,IsS H b
def wxOk (many:Int) (H:Hp) (x:Wx) : Prop:=(0≤x.lead∧x.lead≤4)∧x.bs.length≤40∧∀ b ∈ x.sa :: x.bs,OkS many H b
theorem wxAt.same {H H':Hp} {a fo:Addr} {x:Wx} (h:wxAt H a fo x) (s:Same H H') : wxAt H' a fo x:=⟨s _ _ h.1,s _ _ h.2⟩
theorem wxIn.same {H H':Hp} {x:Wx} (h:wxIn H x) (s:Same H H') : wxIn H' x:=⟨h.1,fun b hb=>(h.2 b hb).same s⟩
theorem wxOk.same {H H':Hp} {x:Wx} {m:Int} (h:wxIn H x) (s:Same H H') : wxOk m H' x↔wxOk m H x:=by
 constructor
 ·rintro ⟨h1,h2,h3⟩
  exact ⟨h1,h2,fun b hb=>(OkS.same (h.2 b hb) s).mp (h3 b hb)⟩
 ·rintro ⟨h1,h2,h3⟩
  exact ⟨h1,h2,fun b hb=>(OkS.same (h.2 b hb) s).mpr (h3 b hb)⟩
structure WxS (H:Hp) (as fs:List Addr) (xs:List Wx) : Prop where
 l1:as.length=xs.length
 l2:fs.length=xs.length
 at':∀ (i:Nat) a f x,as[i]? = some a→fs[i]? = some f→xs[i]? = some x→wxAt H a f x
def WxI (H:Hp) (xs:List Wx) : Prop:=∀ x ∈ xs,wxIn H x
section
variable {H H':Hp} {as fs:List Addr} {xs:List Wx}
theorem WxS.nil:WxS H [] [] []:=⟨rfl,rfl,fun i a r p e=>by simp at e⟩
theorem WxS.same (h:WxS H as fs xs) (s:Same H H') : WxS H' as fs xs:=⟨h.l1,h.l2,fun i a r p e1 e2 e3=>(h.at' i a r p e1 e2 e3).same s⟩
theorem WxI.same (h:WxI H xs) (s:Same H H') : WxI H' xs:=fun x hx=>(h x hx).same s
theorem WxS.snoc {a f:Addr} {x:Wx} (h:WxS H as fs xs) (e:wxAt H a f x) : WxS H (as++[a]) (fs++[f]) (xs++[x]):=by
 have l1:=h.l1
 have l2:=h.l2
 refine ⟨by simp [l1],by simp [l2],fun i a' r' p' e1 e2 e3=>?_⟩
 rcases snoc_at e1 with ⟨k1,z1⟩ | ⟨k1,z1⟩
 ·rcases snoc_at e2 with ⟨k2,z2⟩ | ⟨k2,z2⟩
  ·rcases snoc_at e3 with ⟨k3,z3⟩ | ⟨k3,z3⟩
   ·exact h.at' i a' r' p' k1 k2 k3
   ·omega
  ·omega
 ·rcases snoc_at e2 with ⟨k2,z2⟩ | ⟨k2,z2⟩
  ·omega
  ·rcases snoc_at e3 with ⟨k3,z3⟩ | ⟨k3,z3⟩
   ·omega
   ·rw [k1,k2,k3]; exact e
theorem WxS.get (h:WxS H as fs xs) {i:Nat} (hi:i < xs.length) : ∃ a f x,as[i]? = some a∧fs[i]? = some f∧xs[i]? = some x∧wxAt H a f x∧atI (as.map V.ref) (i:Int)=some (V.ref a):=by
 have h1:as[i]? = some (as[i]'(by rw [h.l1]; exact hi)):=List.getElem?_eq_getElem _
 have h2:fs[i]? = some (fs[i]'(by rw [h.l2]; exact hi)):=List.getElem?_eq_getElem _
 have h3:xs[i]? = some xs[i]:=List.getElem?_eq_getElem hi
 exact ⟨_,_,_,h1,h2,h3,h.at' i _ _ _ h1 h2 h3,atI_nat (by rw [List.getElem?_map,h1]; rfl)⟩
end
theorem refs_dq {K:PySem.W.Frag} {H:Hp} {n:Nat} (bs:List Addr) : ∀ (i:Nat) x y,(bs.map V.ref)[i]? = some x→(bs.map V.ref)[i]? = some y→Dq K H n x y:=by
 intro i x y e1 e2
 rw [e1] at e2
 cases e2
 rw [List.getElem?_map] at e1
 obtain ⟨a,_,rfl⟩:=Option.map_eq_some_iff.mp e1
 cases n with
 | zero=>exact .inr ⟨a,rfl,rfl⟩
 | succ n=>exact .inl (.inr ⟨a,rfl,rfl⟩)
theorem wx_dq {K:PySem.W.Frag} {H:Hp} {a f b g:Addr} {x:Wx} (h:wxAt H a f x) (k:wxAt H b g x) : Dq K H 2 (.ref a) (.ref b):=by
 refine .inr ⟨a,b,_,_,rfl,rfl,.inr ⟨SqT.of h.1,SqT.of k.1⟩,rfl,fun j u v e1 e2=>?_⟩
 match j,e1,e2 with
 | 0,e1,e2=>cases e1; cases e2; exact flat_dq rfl rfl (eqV_refl rfl)
 | 1,e1,e2=>cases e1; cases e2; exact flat_dq rfl rfl (eqV_refl rfl)
 | 2,e1,e2=>cases e1; cases e2; exact .inl (.inr ⟨_,rfl,rfl⟩)
 | 3,e1,e2=>cases e1; cases e2; exact .inr ⟨_,_,_,_,rfl,rfl,.inl ⟨SqL.of h.2,SqL.of k.2⟩,rfl,refs_dq _⟩
 | j+4,e1,_=>exact absurd e1 (by simp)
theorem wxs_dq {K:PySem.W.Frag} {H:Hp} {as fs bs gs:List Addr} {xs:List Wx} (h:WxS H as fs xs) (g:WxS H bs gs xs) : (as.map V.ref).length=(bs.map V.ref).length∧∀ (i:Nat) x y,(as.map V.ref)[i]? = some x→(bs.map V.ref)[i]? = some y→Dq K H 2 x y:=by
 refine ⟨by rw [List.length_map,List.length_map,h.l1,g.l1],fun i x y e1 e2=>?_⟩
 rw [List.getElem?_map] at e1 e2
 obtain ⟨a,ea,rfl⟩:=Option.map_eq_some_iff.mp e1
 obtain ⟨b,eb,rfl⟩:=Option.map_eq_some_iff.mp e2
 have hi:i < xs.length:=by rw [← h.l1]; exact (List.getElem?_eq_some_iff.mp ea).1
 obtain ⟨a',f,z,f1,f2,f3,f4,_⟩:=h.get hi
 obtain ⟨b',t,z',g1,g2,g3,g4,_⟩:=g.get hi
 rw [ea] at f1
 cases f1
 rw [eb] at g1
 cases g1
 rw [f3] at g3
 cases g3
 exact wx_dq f4 g4
theorem bx_dq {K:PySem.W.Frag} {H:Hp} {fa wq uq:Addr} {as fs bs gs:List Addr} {xs:List Wx} (hw:H wq=some (.lst (as.map V.ref))) (hu:H uq=some (.lst (bs.map V.ref))) (h:WxS H as fs xs) (g:WxS H bs gs xs) : ∀ (i:Nat) x y,[V.ref fa,V.ref wq][i]? = some x→[V.ref fa,V.ref uq][i]? = some y→Dq K H 3 x y:=by
 intro i x y e1 e2
 match i,e1,e2 with
 | 0,e1,e2=>cases e1; cases e2; exact .inl (.inr ⟨_,rfl,rfl⟩)
 | 1,e1,e2=>cases e1; cases e2; exact .inr ⟨_,_,_,_,rfl,rfl,.inl ⟨SqL.of hw,SqL.of hu⟩,(wxs_dq (K:=K) h g).1,(wxs_dq h g).2⟩
 | i+2,e1,_=>exact absurd e1 (by simp)
structure Fr where
 w:Int
 h:Int
 f:Int
 m:Int
def frV (F:Fr) : List V:=[.int F.w,.int F.h,.int F.f,.int F.m]
def FrOk (F:Fr) : Prop:=(1≤F.w∧F.w≤200)∧(1≤F.h∧F.h≤60)∧(0≤F.f∧F.f≤10 ^ 60)∧(1≤F.m∧F.m≤60)
def DueC (H:Hp) (F:Fr) (xs:List Wx) : Nat→Prop
 | 0=>¬ FrOk F
 | 1=>FrOk F∧400 < xs.length
 | 2=>FrOk F∧xs.length≤400∧∃ x ∈ xs,¬ wxOk xs.length H x
 | _=>FrOk F∧xs.length≤400∧∀ x ∈ xs,wxOk xs.length H x
theorem DueC.same {H H':Hp} {F:Fr} {xs:List Wx} (h:WxI H xs) (s:Same H H') : ∀ c,DueC H F xs c→DueC H' F xs c
 | 0,d=>d
 | 1,d=>d
 | 2,⟨d1,d2,x,hx,d3⟩=>⟨d1,d2,x,hx,fun z=>d3 ((wxOk.same (h x hx) s).mp z)⟩
 | c+3,⟨d1,d2,d3⟩=>⟨d1,d2,fun x hx=>(wxOk.same (h x hx) s).mpr (d3 x hx)⟩
def dueS:Nat→PySem.Str
 | 0=>PySem.Str.ofString "form"
 | 1=>PySem.Str.ofString "long"
 | 2=>PySem.Str.ofString "word"
 | _=>PySem.Str.ofString "good"
theorem all_iff {bs:List Bool} {as:List Addr} {P:Addr→Prop} (hl:bs.length=as.length) (h:∀ (i:Nat) b a,bs[i]? = some b→as[i]? = some a→(b=true↔P a)) : bs.all id=true↔∀ a ∈ as,P a:=by
 rw [List.all_eq_true]
 constructor
 ·intro z a ha
  obtain ⟨i,hi,rfl⟩:=List.getElem_of_mem ha
  have hb:bs[i]? = some (bs[i]'(by rw [hl]; exact hi)):=List.getElem?_eq_getElem _
  exact (h i _ _ hb (List.getElem?_eq_getElem hi)).mp (z _ (List.getElem_mem _))
 ·intro z b hb
  obtain ⟨i,hi,rfl⟩:=List.getElem_of_mem hb
  have ha:as[i]? = some (as[i]'(by rw [← hl]; exact hi)):=List.getElem?_eq_getElem _
  exact (h i _ _ (List.getElem?_eq_getElem hi) ha).mpr (z _ (List.getElem_mem _))
theorem dstr (l:List Nat) : decide (V.str (tx l)=V.str (PySem.Str.ofString ""))=decide (l=[]):=by
 have e:(PySem.Str.ofString "")=tx []:=by decide +kernel
 rw [e]
 by_cases c:l=[]
 ·rw [c,decide_eq_true rfl,decide_eq_true rfl]
 ·rw [decide_eq_false c,decide_eq_false (fun z=>c (tx_inj (V.str.inj z)))]
theorem blank_in (l:List Nat) : (!(Builtin.Str.occurrences (tx l) (PySem.Str.ofString " ") 0 (tx l).length 1).isEmpty)=decide (32 ∈ l):=by
 have e:(PySem.Str.ofString " ")=⟨#[32]⟩:=by decide +kernel
 rw [e]
 exact in_tx l 32
theorem blank_find (l:List Nat) : decide (V.int (Txt.find (tx l) (PySem.Str.ofString " "))=V.int (-1))=decide (32 ∉ l):=by
 have h:=blank_in l
 unfold Txt.find
 cases hc:Builtin.Str.occurrences (tx l) (PySem.Str.ofString " ") 0 (tx l).length 1 with
 | nil =>
  rw [hc] at h
  have:¬ 32 ∈ l:=of_decide_eq_false h.symm
  rw [decide_eq_true rfl,decide_eq_true this]
 | cons i t =>
  rw [hc] at h
  have:32 ∈ l:=of_decide_eq_true h.symm
  rw [decide_eq_false (fun z=>absurd (show ((i:Nat) : Int) = -1 from V.int.inj z) (by omega)),decide_eq_false (fun z=>z this)]
theorem ne_num (k:Bool) : ¬ V.str (if k then PySem.Str.ofString "page" else PySem.Str.ofString "row")=V.str (PySem.Str.ofString "text"):=by
 cases k
 ·exact fun z=>absurd (V.str.inj z) (by decide +kernel)
 ·exact fun z=>absurd (V.str.inj z) (by decide +kernel)
theorem op_notT {X:Cx} : OpR X (compareOp .IsNot) (fun x y H Q=>y = .bl true∧(x = .non∨x = .bl true)∧Q (.bl (!decide (x = .bl true))) H):=by
 intro pins s σ H x y v u Q I rx ry h
 obtain ⟨rfl,hx,q⟩:=h
 cases ry
 rcases hx with rfl | rfl
 ·cases rx
  exact wpAny_isNot_plain rfl (fin_bl I q rfl)
 ·cases rx
  exact wpAny_isNot_plain rfl (fin_bl I q rfl)
theorem due_uniq {H:Hp} {F:Fr} {xs:List Wx} {c d:Nat} (hc:c < 4) (hd:d < 4) (h:DueC H F xs c) (k:DueC H F xs d) : c=d:=by
 match c,d,hc,hd,h,k with
 | 0,0,_,_,_,_=>rfl
 | 1,1,_,_,_,_=>rfl
 | 2,2,_,_,_,_=>rfl
 | 3,3,_,_,_,_=>rfl
 | 0,1,_,_,h,k=>exact absurd k.1 h
 | 0,2,_,_,h,k=>exact absurd k.1 h
 | 0,3,_,_,h,k=>exact absurd k.1 h
 | 1,0,_,_,h,k=>exact absurd h.1 k
 | 2,0,_,_,h,k=>exact absurd h.1 k
 | 3,0,_,_,h,k=>exact absurd h.1 k
 | 1,2,_,_,h,k=>exact absurd h.2 (Nat.not_lt.mpr k.2.1)
 | 1,3,_,_,h,k=>exact absurd h.2 (Nat.not_lt.mpr k.2.1)
 | 2,1,_,_,h,k=>exact absurd k.2 (Nat.not_lt.mpr h.2.1)
 | 3,1,_,_,h,k=>exact absurd k.2 (Nat.not_lt.mpr h.2.1)
 | 2,3,_,_,h,k=>obtain ⟨_,_,x,hx,n⟩:=h; exact absurd (k.2.2 x hx) n
 | 3,2,_,_,h,k=>obtain ⟨_,_,x,hx,n⟩:=k; exact absurd (h.2.2 x hx) n
theorem p60c:(10:Int) ^ (60:Int).toNat=10 ^ 60:=by decide +kernel
theorem wxAt.put {H:Hp} {a f r:Addr} {x:Wx} {l:List V} {o:HO} (h:wxAt H a f x) (hl:H r=some (.lst l)) (n:f≠r) : wxAt (upd H r o) a f x:=by
 refine ⟨?_,by rw [upd_ne n]; exact h.2⟩
 rw [upd_ne (fun e=>by have:=h.1; rw [e,hl] at this; cases this)]
 exact h.1
theorem WxS.put {H:Hp} {as fs:List Addr} {xs:List Wx} {r:Addr} {l:List V} {o:HO} (h:WxS H as fs xs) (hl:H r=some (.lst l)) (n:∀ f ∈ fs,f≠r) : WxS (upd H r o) as fs xs:=
 ⟨h.l1,h.l2,fun i a f x e1 e2 e3=>(h.at' i a f x e1 e2 e3).put hl (n f (List.mem_of_getElem? e2))⟩
theorem part_dq {K:PySem.W.Frag} {H:Hp} {as fs bs gs:List Addr} {xs:List Wx} {k:Nat} (l1:bs.length=xs.length) (l2:gs.length=xs.length) (P:∀ (j:Nat) b f x,j≠k→bs[j]? = some b→gs[j]? = some f→xs[j]? = some x→wxAt H b f x) (g:WxS H as fs xs) {j:Nat} {u v:V} (hj:j≠k) (e1:(bs.map V.ref)[j]? = some u) (e2:(as.map V.ref)[j]? = some v) : Dq K H 2 u v:=by
 rw [List.getElem?_map] at e1 e2
 obtain ⟨b,eb,rfl⟩:=Option.map_eq_some_iff.mp e1
 obtain ⟨a,ea,rfl⟩:=Option.map_eq_some_iff.mp e2
 have hi:j < xs.length:=by rw [← l1]; exact (List.getElem?_eq_some_iff.mp eb).1
 obtain ⟨a',t,z',g1,g2,g3,g4,_⟩:=g.get hi
 rw [ea] at g1
 cases g1
 exact wx_dq (P j b _ z' hj eb (List.getElem?_eq_getElem (by rw [l2]; exact hi)) g3) g4
theorem take_dq {K:PySem.W.Frag} {H:Hp} {as fs bs gs:List Addr} {xs:List Wx} {k:Nat} (l1:bs.length=xs.length) (l2:gs.length=xs.length) (P:∀ (j:Nat) b f x,j≠k→bs[j]? = some b→gs[j]? = some f→xs[j]? = some x→wxAt H b f x) (g:WxS H as fs xs) : ((bs.take k).map V.ref).length=((as.take k).map V.ref).length∧∀ (i:Nat) u v,((bs.take k).map V.ref)[i]? = some u→((as.take k).map V.ref)[i]? = some v→Dq K H 2 u v:=by
 refine ⟨by rw [List.length_map,List.length_map,List.length_take,List.length_take,l1,g.l1],fun i u v e1 e2=>?_⟩
 rw [List.map_take,List.getElem?_take] at e1 e2
 by_cases c:i < k
 ·rw [if_pos c] at e1 e2
  exact part_dq l1 l2 P g (by omega) e1 e2
 ·rw [if_neg c] at e1
  cases e1
theorem drop_dq {K:PySem.W.Frag} {H:Hp} {as fs bs gs:List Addr} {xs:List Wx} {k:Nat} (l1:bs.length=xs.length) (l2:gs.length=xs.length) (P:∀ (j:Nat) b f x,j≠k→bs[j]? = some b→gs[j]? = some f→xs[j]? = some x→wxAt H b f x) (g:WxS H as fs xs) : ((bs.drop (k+1)).map V.ref).length=((as.drop (k+1)).map V.ref).length∧∀ (i:Nat) u v,((bs.drop (k+1)).map V.ref)[i]? = some u→((as.drop (k+1)).map V.ref)[i]? = some v→Dq K H 2 u v:=by
 refine ⟨by rw [List.length_map,List.length_map,List.length_drop,List.length_drop,l1,g.l1],fun i u v e1 e2=>?_⟩
 rw [List.map_drop,List.getElem?_drop] at e1 e2
 exact part_dq l1 l2 P g (by omega) e1 e2
theorem lc_tup {tc:TT} {te:TE} {K:PySem.W.Frag} {a:Addr} {xs:List V} {cv:St} {Fin:List V→Hp→Prop} {H1:Hp} (Pv:Nat→List V→Hp→Prop) (h0:Pv 0 [] H1) (hl:∀ i ys H,i≤xs.length→Pv i ys H→SqT K H a xs) (hz:∀ i ys H,i < xs.length→Pv i ys H→ys.length < sizeLine)
  (hs:∀ i x ys H,xs[i]? = some x→Pv i ys H→tc (some x :: cv) H fun b H3=>if b=true then te (some x :: cv) H3 fun y H4=>Pv (i+1) (ys++[y]) H4 else Pv (i+1) ys H3)
  (hd:∀ ys H,Pv xs.length ys H→Fin ys H) : gLC (Itt K a) (gName 0) tc te 1 cv Fin H1:=by
 refine gLC1 ⟨fun i m ys H=>m=xs.length - i∧i≤xs.length∧Pv i ys H,⟨xs.length,by simp,Nat.zero_le _,h0⟩,?_⟩
 rintro i m ys H ⟨rfl,hi,p⟩
 have q:=hl i ys H hi p
 by_cases hlt:i < xs.length
 ·refine .inr ⟨⟨xs,xs[i],q,by simp [hlt]⟩,hz i ys H hlt p,Pv (i+1),fun ys' H' p'=>⟨xs.length - (i+1),by omega,rfl,hlt,p'⟩,fun v H' y=>?_⟩
  obtain ⟨e,y⟩:=y
  subst e
  exact hs i v ys _ (y xs q) p
 ·have e:i=xs.length:=by omega
  subst e
  exact .inl ⟨⟨xs,q,Nat.le_refl _⟩,hd ys H p⟩
theorem frV_at {F:Fr} {i:Nat} {y:V} (h:(frV F)[i]? = some y) : ∃ n,y=V.int n:=by
 match i,h with
 | 0,h=>exact ⟨_,(Option.some.inj h).symm⟩
 | 1,h=>exact ⟨_,(Option.some.inj h).symm⟩
 | 2,h=>exact ⟨_,(Option.some.inj h).symm⟩
 | 3,h=>exact ⟨_,(Option.some.inj h).symm⟩
 | i+4,h=>exact absurd h (by simp [frV])
theorem due_ex (H:Hp) (F:Fr) (xs:List Wx) : ∃ c,c < 4∧DueC H F xs c:=by
 by_cases c1:FrOk F
 ·by_cases c2:xs.length≤400
  ·by_cases c3:∀ x ∈ xs,wxOk xs.length H x
   ·exact ⟨3,by decide,c1,c2,c3⟩
   ·refine ⟨2,by decide,c1,c2,?_⟩
    exact Classical.byContradiction fun z=>c3 fun x hx=>Classical.byContradiction fun w=>z ⟨x,hx,w⟩
  ·exact ⟨1,by decide,c1,Nat.lt_of_not_le c2⟩
 ·exact ⟨0,by decide,c1⟩
theorem ref_rep (n:Nat) (a:Addr) : (List.replicate n [V.ref a]).flatten=(List.replicate n a).map V.ref:=by
 induction n with
 | zero=>rfl
 | succ n ih=>rw [List.replicate_succ,List.flatten_cons,ih,List.replicate_succ]; rfl
theorem IsS.put {H:Hp} {b r:Addr} {l:List V} {o:HO} (h:IsS H b) (hl:H r=some (.lst l)) : IsS (upd H r o) b:=by
 obtain ⟨s,h1,h2⟩:=h
 exact ⟨s,by rw [upd_ne (fun e=>by rw [e,hl] at h1; cases h1)]; exact h1,h2⟩
theorem WxI.put {H:Hp} {xs:List Wx} {r:Addr} {l:List V} {o:HO} (h:WxI H xs) (hl:H r=some (.lst l)) : WxI (upd H r o) xs:=fun x hx=>⟨(h x hx).1,fun b hb=>((h x hx).2 b hb).put hl⟩
theorem WxS.set {H:Hp} {as fs:List Addr} {xs:List Wx} {k:Nat} {a f:Addr} {x:Wx} (h:WxS H as fs xs) (e:wxAt H a f x) : WxS H (as.set k a) (fs.set k f) (xs.set k x):=by
 refine ⟨by rw [List.length_set,List.length_set,h.l1],by rw [List.length_set,List.length_set,h.l2],fun i a' f' x' e1 e2 e3=>?_⟩
 rw [List.getElem?_set] at e1 e2 e3
 by_cases c:k=i
 ·rw [if_pos c] at e1 e2 e3
  split at e1
  ·split at e2
   ·split at e3
    ·cases e1; cases e2; cases e3; exact e
    ·cases e3
   ·cases e2
  ·cases e1
 ·rw [if_neg c] at e1 e2 e3
  exact h.at' i a' f' x' e1 e2 e3
theorem refs_set (as:List Addr) (k:Nat) (a:Addr) : (as.map V.ref).set k (V.ref a)=(as.set k a).map V.ref:=(List.map_set ..).symm
theorem memSet {α:Type} {l:List α} {k:Nat} {a b:α} (h:b ∈ l.set k a) : b ∈ l∨b=a:=List.mem_or_eq_of_mem_set h
theorem ints_set (as:List Int) (k:Nat) (a:Int) : (as.map V.int).set k (V.int a)=(as.set k a).map V.int:=(List.map_set ..).symm
theorem len4 {l:List Int} (h:l.length=4) : ∃ a b c d,l=[a,b,c,d]:=by
 match l,h with
 | [a,b,c,d],_=>exact ⟨a,b,c,d,rfl⟩
theorem len3 {l:List Int} (h:l.length=3) : ∃ a b c,l=[a,b,c]:=by
 match l,h with
 | [a,b,c],_=>exact ⟨a,b,c,rfl⟩
theorem pickI (l:List Int) (m k:Int) (h:m=(l.length:Int)) (h0:0 < m) : ∃ z,z ∈ l∧atI (l.map V.int) (k % m)=some (V.int z):=by
 obtain ⟨v,hv,e⟩:=pick (l.map V.int) m k (by rw [List.length_map]; exact h) h0
 obtain ⟨z,hz,rfl⟩:=List.mem_map.mp hv
 exact ⟨z,hz,e⟩
end L2

namespace K27
open PySem PySem.Spec L2 Tl

noncomputable abbrev s_l_cell_at:Stmt:=top 16
noncomputable abbrev s_l_copied:Stmt:=top 20
noncomputable abbrev s_l_is_form:Stmt:=top 27
noncomputable abbrev s_l_is_saying:Stmt:=top 28
noncomputable abbrev s_l_is_word:Stmt:=top 29
noncomputable abbrev s_l_due:Stmt:=top 30
noncomputable abbrev s_l_mixed:Stmt:=top 18
noncomputable abbrev s_l_form:Stmt:=top 26
noncomputable abbrev s_check_number:Stmt:=top 12
noncomputable abbrev s_check_form:Stmt:=top 10
noncomputable abbrev s_l_form_refused:Stmt:=top 32
noncomputable abbrev s_is_saying:Stmt:=top 14
noncomputable abbrev s_check_word:Stmt:=top 13
noncomputable abbrev s_book_of:Stmt:=top 11
noncomputable abbrev s_l_refused:Stmt:=top 31
noncomputable abbrev s_l_whole:Stmt:=top 17
noncomputable abbrev s_l_saying_kinds:Stmt:=top 33
noncomputable abbrev s_l_word_kinds:Stmt:=top 34
noncomputable abbrev s_l_is_book:Stmt:=top 35
noncomputable abbrev s_l_told_apart:Stmt:=top 36
noncomputable abbrev s_l_signs:Stmt:=top 19
noncomputable abbrev s_l_odd_saying:Stmt:=top 23
noncomputable abbrev s_l_odd_word:Stmt:=top 24
noncomputable abbrev s_l_saying:Stmt:=top 21
noncomputable abbrev s_l_word:Stmt:=top 22
noncomputable abbrev s_l_words:Stmt:=top 25
noncomputable abbrev s_law:Stmt:=top 37
set_option genInjectivity false in
structure Adr where
 f_l_cell_at:Addr
 fd_l_cell_at:FuncData
 f_l_copied:Addr
 fd_l_copied:FuncData
 f_l_is_form:Addr
 fd_l_is_form:FuncData
 f_l_is_saying:Addr
 fd_l_is_saying:FuncData
 f_l_is_word:Addr
 fd_l_is_word:FuncData
 f_l_due:Addr
 fd_l_due:FuncData
 f_l_mixed:Addr
 fd_l_mixed:FuncData
 f_l_form:Addr
 fd_l_form:FuncData
 f_check_number:Addr
 fd_check_number:FuncData
 f_check_form:Addr
 fd_check_form:FuncData
 f_l_form_refused:Addr
 fd_l_form_refused:FuncData
 f_is_saying:Addr
 fd_is_saying:FuncData
 f_check_word:Addr
 fd_check_word:FuncData
 f_book_of:Addr
 fd_book_of:FuncData
 f_l_refused:Addr
 fd_l_refused:FuncData
 f_l_whole:Addr
 fd_l_whole:FuncData
 f_l_saying_kinds:Addr
 fd_l_saying_kinds:FuncData
 f_l_word_kinds:Addr
 fd_l_word_kinds:FuncData
 f_l_is_book:Addr
 fd_l_is_book:FuncData
 f_l_told_apart:Addr
 fd_l_told_apart:FuncData
 f_l_signs:Addr
 fd_l_signs:FuncData
 f_l_odd_saying:Addr
 fd_l_odd_saying:FuncData
 f_l_odd_word:Addr
 fd_l_odd_word:FuncData
 f_l_saying:Addr
 fd_l_saying:FuncData
 f_l_word:Addr
 fd_l_word:FuncData
 f_l_words:Addr
 fd_l_words:FuncData
 f_law:Addr
 fd_law:FuncData
 c_BadForm:Addr
 c_BadWord:Addr
 c_TooLong:Addr
 c_TrueleafError:Addr
structure Txt (P:Program) (w:World) (K:PySem.W.Frag) (mg:Str→Option Value) (a:Adr) : Prop where
 d_l_cell_at:DefOk K mg "_law_cell_at" s_l_cell_at ["script","k"] a.f_l_cell_at a.fd_l_cell_at
 d_l_copied:DefOk K mg "_law_copied" s_l_copied ["words"] a.f_l_copied a.fd_l_copied
 d_l_is_form:DefOk K mg "_law_is_form" s_l_is_form ["form"] a.f_l_is_form a.fd_l_is_form
 d_l_is_saying:DefOk K mg "_law_is_saying" s_l_is_saying ["saying","many"] a.f_l_is_saying a.fd_l_is_saying
 d_l_is_word:DefOk K mg "_law_is_word" s_l_is_word ["word","many"] a.f_l_is_word a.fd_l_is_word
 d_l_due:DefOk K mg "_law_due" s_l_due ["form","words"] a.f_l_due a.fd_l_due
 d_l_mixed:DefOk K mg "_law_mixed" s_l_mixed ["cell"] a.f_l_mixed a.fd_l_mixed
 d_l_form:DefOk K mg "_law_form" s_l_form ["script","far"] a.f_l_form a.fd_l_form
 d_check_number:DefOk K mg "check_number" s_check_number ["number","least","most"] a.f_check_number a.fd_check_number
 d_check_form:DefOk K mg "check_form" s_check_form ["form"] a.f_check_form a.fd_check_form
 d_l_form_refused:DefOk K mg "_law_form_refused" s_l_form_refused ["form"] a.f_l_form_refused a.fd_l_form_refused
 d_is_saying:DefOk K mg "is_saying" s_is_saying ["saying","many"] a.f_is_saying a.fd_is_saying
 d_check_word:DefOk K mg "check_word" s_check_word ["word","many"] a.f_check_word a.fd_check_word
 d_book_of:DefOk K mg "book_of" s_book_of ["form","words"] a.f_book_of a.fd_book_of
 d_l_refused:DefOk K mg "_law_refused" s_l_refused ["form","words"] a.f_l_refused a.fd_l_refused
 d_l_whole:DefOk K mg "_law_whole" s_l_whole ["found"] a.f_l_whole a.fd_l_whole
 d_l_saying_kinds:DefOk K mg "_law_saying_kinds" s_l_saying_kinds ["saying"] a.f_l_saying_kinds a.fd_l_saying_kinds
 d_l_word_kinds:DefOk K mg "_law_word_kinds" s_l_word_kinds ["word"] a.f_l_word_kinds a.fd_l_word_kinds
 d_l_is_book:DefOk K mg "_law_is_book" s_l_is_book ["found","form","words"] a.f_l_is_book a.fd_l_is_book
 d_l_told_apart:DefOk K mg "_law_told_apart" s_l_told_apart ["form","words","at"] a.f_l_told_apart a.fd_l_told_apart
 d_l_signs:DefOk K mg "_law_signs" s_l_signs ["number","size"] a.f_l_signs a.fd_l_signs
 d_l_odd_saying:DefOk K mg "_law_odd_saying" s_l_odd_saying ["number","many","far"] a.f_l_odd_saying a.fd_l_odd_saying
 d_l_odd_word:DefOk K mg "_law_odd_word" s_l_odd_word ["word","number","many","far"] a.f_l_odd_word a.fd_l_odd_word
 d_l_saying:DefOk K mg "_law_saying" s_l_saying ["number","many"] a.f_l_saying a.fd_l_saying
 d_l_word:DefOk K mg "_law_word" s_l_word ["number","many"] a.f_l_word a.fd_l_word
 d_l_words:DefOk K mg "_law_words" s_l_words ["script","far"] a.f_l_words a.fd_l_words
 d_law:DefOk K mg "law" s_law ["script"] a.f_law a.fd_law
 z_ValueError:mg "ValueError" = none
 z_all:mg "all" = none
 z_bool:mg "bool" = none
 z_int:mg "int" = none
 z_isinstance:mg "isinstance" = none
 z_len:mg "len" = none
 z_list:mg "list" = none
 z_max:mg "max" = none
 z_min:mg "min" = none
 z_range:mg "range" = none
 z_str:mg "str" = none
 z_tuple:mg "tuple" = none
 x_BadForm:ExcOk K mg "BadForm" a.c_BadForm
 x_BadWord:ExcOk K mg "BadWord" a.c_BadWord
 x_TooLong:ExcOk K mg "TooLong" a.c_TooLong
 x_TrueleafError:ExcOk K mg "TrueleafError" a.c_TrueleafError
 t_BadForm_BadForm:Takes K a.c_BadForm a.c_BadForm
 t_BadForm_TrueleafError:Takes K a.c_BadForm a.c_TrueleafError
 t_TooLong_TrueleafError:Takes K a.c_TooLong a.c_TrueleafError
 t_BadWord_TrueleafError:Takes K a.c_BadWord a.c_TrueleafError
 lk_BadForm:excLk K a.c_BadForm=true
 lk_TooLong:excLk K a.c_TooLong=true
 lk_BadWord:excLk K a.c_BadWord=true
 ki_BadForm_ValueError:PySem.W.kitOne K (.ref a.c_BadForm) (.type "ValueError")=some true
 ki_BadForm_BadForm:PySem.W.kitOne K (.ref a.c_BadForm) (.ref a.c_BadForm)=some true
 ki_BadForm_TooLong:PySem.W.kitOne K (.ref a.c_BadForm) (.ref a.c_TooLong)=some false
 ki_BadForm_BadWord:PySem.W.kitOne K (.ref a.c_BadForm) (.ref a.c_BadWord)=some false
 ki_TooLong_ValueError:PySem.W.kitOne K (.ref a.c_TooLong) (.type "ValueError")=some true
 ki_TooLong_BadForm:PySem.W.kitOne K (.ref a.c_TooLong) (.ref a.c_BadForm)=some false
 ki_TooLong_TooLong:PySem.W.kitOne K (.ref a.c_TooLong) (.ref a.c_TooLong)=some true
 ki_TooLong_BadWord:PySem.W.kitOne K (.ref a.c_TooLong) (.ref a.c_BadWord)=some false
 ki_BadWord_ValueError:PySem.W.kitOne K (.ref a.c_BadWord) (.type "ValueError")=some true
 ki_BadWord_BadForm:PySem.W.kitOne K (.ref a.c_BadWord) (.ref a.c_BadForm)=some false
 ki_BadWord_TooLong:PySem.W.kitOne K (.ref a.c_BadWord) (.ref a.c_TooLong)=some false
 ki_BadWord_BadWord:PySem.W.kitOne K (.ref a.c_BadWord) (.ref a.c_BadWord)=some true
 m_LAST_LEAD:∃ t,mg "LAST_LEAD" = some (.int 4 t)
 m_LONGEST_TEXT:∃ t,mg "LONGEST_TEXT" = some (.int 60 t)
 m_MOST_SAYINGS:∃ t,mg "MOST_SAYINGS" = some (.int 40 t)
 m_MOST_WORDS:∃ t,mg "MOST_WORDS" = some (.int 400 t)
section
variable {P:Program} {w:World} {K:PySem.W.Frag} {mg:Str→Option Value} {base:Heap} {a:Adr}

def sp_l_cell_at (K:PySem.W.Frag) : Sp:=fun vs H Q _=>∃ (b:Addr) (ns:List Int) (k:Nat),vs=[.ref b,.int (k:Int)]∧SqL K H b (ns.map V.int)∧Q (.int (ns.getD k 0)) H
theorem sc_l_cell_at:FnScope ["script","k"] ["script","k"] (defScope s_l_cell_at):=⟨rfl,rfl,rfl,by decide +kernel,rfl,by decide +kernel,by decide +kernel⟩
theorem ok_l_cell_at (T:Txt P w K mg a) : FnOk P w K mg base CX0 1 a.f_l_cell_at a.fd_l_cell_at ["script","k"] (sp_l_cell_at K):=by
 have z_len:=T.z_len
 refine T.d_l_cell_at.fn.ok sc_l_cell_at (fun vs H Q E h=>?_) (fun cdv A outer s H vs Q E hr h=>?_)
 ·obtain ⟨b,ns,k,rfl,_⟩:=h
  rfl
 obtain ⟨b,ns,k,rfl,hS,q⟩:=h
 have hu:=Nat.lt_of_succ_lt (hu_of hr)
 refine ⟨_,(pss_cons (ps_if (pt_cmpR op_lt (pv 1) (pe_callB call_len_seq rfl z_len PySem.boot_len (pa_cons (pv 0) pa_nil)) (nomark _)) (pss_one (ps_ret (pe_ix ix_list (pv 0) (pv 1) (fun _ _=>rfl)))) pss_nil)
   (pss_one (ps_ret pe_int))),?_⟩
 refine ⟨_,rfl,_,rfl,_,_,rfl,.inl hS,_,_,rfl,rfl,_,rfl,?_⟩
 refine ite2 (fun c=>?_) (fun c=>?_)
 ·have hk:k < ns.length:=by
   have:=of_decide_eq_true c
   rw [List.length_map] at this
   omega
  refine ⟨_,rfl,_,rfl,_,_,_,_,rfl,rfl,hS,atI_nat (j:=k) (v:=.int (ns.getD k 0)) ?_,q⟩
  rw [List.getElem?_map,List.getElem?_eq_getElem hk,List.getD_eq_getElem?_getD,List.getElem?_eq_getElem hk]
  rfl
 ·have hk:ns.length≤k:=by
   refine Nat.le_of_not_lt fun hk=>c (decide_eq_true ?_)
   rw [List.length_map]
   omega
  have e:ns.getD k 0=0:=by rw [List.getD_eq_getElem?_getD,List.getElem?_eq_none hk]; rfl
  rw [e] at q
  exact q
def sp_l_copied (K:PySem.W.Frag) : Sp:=fun vs H Q _=>∃ (wq:Addr) (as fs:List Addr) (xs:List Wx),vs=[.ref wq]∧H wq=some (.lst (as.map V.ref))∧WxS H as fs xs∧xs.length≤500∧∀ lq bs gs H',Same H H'→H' lq=some (.lst (bs.map V.ref))→WxS H' bs gs xs→(∀ (i j:Nat) f,gs[i]? = some f→gs[j]? = some f→i=j)→(∀ f ∈ gs,H f=none∧f≠lq)→H lq=none→Q (.ref lq) H'
theorem sc_l_copied:FnScope ["words"] ["words"] (defScope s_l_copied):=⟨rfl,rfl,rfl,by decide +kernel,rfl,by decide +kernel,by decide +kernel⟩
theorem ok_l_copied (T:Txt P w K mg a) : FnOk P w K mg base CX0 1 a.f_l_copied a.fd_l_copied ["words"] (sp_l_copied K):=by
 have z_list:=T.z_list
 refine T.d_l_copied.fn.ok sc_l_copied (fun vs H Q E h=>?_) (fun cdv A outer s H vs Q E hr h=>?_)
 ·obtain ⟨wq,as,fs,xs,rfl,_⟩:=h
  rfl
 obtain ⟨wq,as,fs,xs,rfl,hwq,hws,l5,q⟩:=h
 have hu:=Nat.lt_of_succ_lt (hu_of hr)
 refine ⟨_,(pss_one (ps_ret (pe_lc rfl (lcok (caps:=[]) (js:=[]) (cap:=trivial)) (pi_list (pv 0)) (fun _ _ _ _=>pts_nil) (fun _ _ _ _=>(pe_tup (pa_cons (pe_ix (r:=rIxT K) ix_tup (pv 0) pe_int (fun _ _=>rfl)) (pa_cons (pe_ix (r:=rIxT K) ix_tup (pv 0) pe_int (fun _ _=>rfl)) (pa_cons (pe_ix (r:=rIxT K) ix_tup (pv 0) pe_int (fun _ _=>rfl)) (pa_cons (pe_callTy (r:=rList K) call_list_of rfl z_list PyProof.Rows.boot_list (pa_cons (pe_ix (r:=rIxT K) ix_tup (pv 0) pe_int (fun _ _=>rfl)) pa_nil)) pa_nil))))))))),?_⟩
 refine ⟨_,rfl,_,rfl,⟨_,SqL.of (hwq)⟩,lc_list (K:=K) (a:=wq) (xs:=as.map V.ref) (fun i ys H2=>Same H H2∧∃ bs gs:List Addr,ys=bs.map V.ref∧WxS H2 bs gs (xs.take i)∧(∀ (i j:Nat) f,gs[i]? = some f→gs[j]? = some f→i=j)∧(∀ f ∈ gs,H f=none)) ⟨Same.refl _,[],[],rfl,WxS.nil,(fun i j f e=>by simp at e),fun f hf=>by cases hf⟩ (fun i ys H2 _ g=>SqL.of (g.1 _ _ (hwq))) ?_ ?_ ?_⟩
 ·rintro i ys H2 hi ⟨s2,bs,gs,rfl,P,_⟩
  have bl:=P.l1
  rw [List.length_take] at bl
  exact szR (n:=500) (by omega) (by decide)
 ·rintro i y ys H2 hy ⟨s2,bs,gs,rfl,P,nd,fr⟩
  have hi:i < xs.length:=by rw [← hws.l1,← List.length_map (f:=V.ref)]; exact (List.getElem?_eq_some_iff.mp hy).1
  obtain ⟨a,f,x,f1,f2,f3,f4,f5⟩:=((hws).same s2).get hi
  rw [List.getElem?_map,f1] at hy
  cases hy
  have a1:=SqT.of (K:=K) f4.1
  refine yes_go ?_
  refine ⟨_,rfl,_,_,_,_,rfl,rfl,a1,rfl,_,rfl,_,_,_,_,rfl,rfl,a1,rfl,_,rfl,_,_,_,_,rfl,rfl,a1,rfl,_,rfl,_,_,_,_,rfl,rfl,a1,rfl,_,_,rfl,.inl (SqL.of f4.2),fun p1 hp1=>?_⟩
  have s3:=same_new hp1 (.lst (x.bs.map V.ref))
  have k3:(upd H2 p1 (.lst (x.bs.map V.ref))) p1=some (.lst (x.bs.map V.ref)):=upd_same
  generalize upd H2 p1 (.lst (x.bs.map V.ref))=H3 at s3 k3 ⊢
  refine ⟨le4,fun p2 hp2=>?_⟩
  have s4:=same_new hp2 (.tup [V.int x.lead,V.bl x.kept,V.ref x.sa,V.ref p1])
  have k4:wxAt (upd H3 p2 (.tup [V.int x.lead,V.bl x.kept,V.ref x.sa,V.ref p1])) p2 p1 x:=⟨upd_same,s4 _ _ k3⟩
  have ng:∀ f ∈ gs,f≠p1:=fun f hf e=>by
   obtain ⟨j,hj,rfl⟩:=List.getElem_of_mem hf
   obtain ⟨_,_,_,_,g2,_,g4,_⟩:=P.get (i:=j) (by rw [← P.l2]; exact hj)
   rw [List.getElem?_eq_getElem hj] at g2
   cases g2
   have:=g4.2
   rw [e,hp1] at this
   cases this
  refine ⟨s2.trans (s3.trans s4),bs++[p2],gs++[p1],refs_snoc _ _,?_,fun j j' f e1 e2=>?_,fun f hf=>?_⟩
  ·rw [List.take_add_one,f3]
   exact (P.same (s3.trans s4)).snoc k4
  ·rcases snoc_at e1 with ⟨k1,z1⟩ | ⟨k1,z1⟩
   ·rcases snoc_at e2 with ⟨k2,z2⟩ | ⟨k2,z2⟩
    ·exact nd j j' f k1 k2
    ·exact absurd k2 (ng f (List.mem_of_getElem? k1))
   ·rcases snoc_at e2 with ⟨k2,z2⟩ | ⟨k2,z2⟩
    ·exact absurd k1 (ng f (List.mem_of_getElem? k2))
    ·omega
  ·rcases List.mem_append.mp hf with hf | hf
   ·exact fr f hf
   ·rw [List.mem_singleton.mp hf]; exact s2.free hp1
 rintro ys H2 ⟨s2,bs,gs,rfl,P,nd,fr⟩ lq hlq
 rw [List.length_map,hws.l1,List.take_length] at P
 have s3:=same_new hlq (.lst (bs.map V.ref))
 have k3:(upd H2 lq (.lst (bs.map V.ref))) lq=some (.lst (bs.map V.ref)):=upd_same
 have P3:=P.same s3
 have nl:H lq=none:=s2.free hlq
 have ngl:∀ f ∈ gs,f≠lq:=fun f hf e=>by
  obtain ⟨j,hj,rfl⟩:=List.getElem_of_mem hf
  obtain ⟨_,_,_,_,g2,_,g4,_⟩:=P.get (i:=j) (by rw [← P.l2]; exact hj)
  rw [List.getElem?_eq_getElem hj] at g2
  cases g2
  have:=g4.2
  rw [e,hlq] at this
  cases this
 generalize upd H2 lq (.lst (bs.map V.ref))=H3 at s3 k3 P3 ⊢
 have t3:=s2.trans s3
 exact q lq bs gs H3 t3 k3 P3 nd (fun f hf=>⟨fr f hf,ngl f hf⟩) nl
def sp_l_is_form (K:PySem.W.Frag) : Sp:=fun vs H Q _=>∃ (fa:Addr) (F:Fr),vs=[.ref fa]∧H fa=some (.tup (frV F))∧∀ b:Bool,(b=true↔FrOk F)→Q (.bl b) H
theorem sc_l_is_form:FnScope ["form"] ["form"] (defScope s_l_is_form):=⟨rfl,rfl,rfl,by decide +kernel,rfl,by decide +kernel,by decide +kernel⟩
theorem ok_l_is_form (T:Txt P w K mg a) : FnOk P w K mg base CX0 1 a.f_l_is_form a.fd_l_is_form ["form"] (sp_l_is_form K):=by
 refine T.d_l_is_form.fn.ok sc_l_is_form (fun vs H Q E h=>?_) (fun cdv A outer s H vs Q E hr h=>?_)
 ·obtain ⟨fa,F,rfl,_⟩:=h
  rfl
 obtain ⟨fa,F,rfl,hf,q⟩:=h
 have hu:=Nat.lt_of_succ_lt (hu_of hr)
 refine ⟨_,(pss_cons (ps_if (PW.pt (pw_or (pt_cmpR op_lt (pe_ix ix_tup (pv 0) pe_int (fun _ _=>rfl)) pe_int (nomark _)) (pw_or (pt_cmpR op_gt (pe_ix ix_tup (pv 0) pe_int (fun _ _=>rfl)) pe_int (nomark _)) (pw_or (pt_cmpR op_lt (pe_ix ix_tup (pv 0) pe_int (fun _ _=>rfl)) pe_int (nomark _)) (pw_or (pt_cmpR op_gt (pe_ix ix_tup (pv 0) pe_int (fun _ _=>rfl)) pe_int (nomark _)) (pw_or (pt_cmpR op_lt (pe_ix ix_tup (pv 0) pe_int (fun _ _=>rfl)) pe_int (nomark _)) (pw_or1 (pt_cmpR op_gt (pe_ix ix_tup (pv 0) pe_int (fun _ _=>rfl)) pe_int (nomark _))))))))) (pss_one (ps_ret pe_bl)) pss_nil)
   (pss_one (ps_ret (pe_chain op_le op_le pe_int (pe_ix ix_tup (pv 0) pe_int (fun _ _=>rfl)) (pe_op op_pow pe_int pe_int))))),?_⟩
 have hf':=SqT.of (K:=K) hf
 refine ⟨_,rfl,_,_,_,_,rfl,rfl,hf',rfl,_,_,rfl,rfl,_,rfl,?_⟩
 refine orG (fun c=>?_) (fun c=>?_)
 ·have:=of_decide_eq_true c
  exact q false ⟨fun z=>absurd z (by decide),fun z=>by obtain ⟨⟨_,_⟩,⟨_,_⟩,_,_,_⟩:=z; omega⟩
 have c0l:¬ F.w < 1:=fun z=>c (decide_eq_true z)
 refine ⟨_,rfl,_,_,_,_,rfl,rfl,hf',rfl,_,_,rfl,rfl,_,rfl,?_⟩
 refine orG (fun c=>?_) (fun c=>?_)
 ·have:=of_decide_eq_true c
  exact q false ⟨fun z=>absurd z (by decide),fun z=>by obtain ⟨⟨_,_⟩,⟨_,_⟩,_,_,_⟩:=z; omega⟩
 have c0g:¬ F.w > 200:=fun z=>c (decide_eq_true z)
 refine ⟨_,rfl,_,_,_,_,rfl,rfl,hf',rfl,_,_,rfl,rfl,_,rfl,?_⟩
 refine orG (fun c=>?_) (fun c=>?_)
 ·have:=of_decide_eq_true c
  exact q false ⟨fun z=>absurd z (by decide),fun z=>by obtain ⟨⟨_,_⟩,⟨_,_⟩,_,_,_⟩:=z; omega⟩
 have c1l:¬ F.h < 1:=fun z=>c (decide_eq_true z)
 refine ⟨_,rfl,_,_,_,_,rfl,rfl,hf',rfl,_,_,rfl,rfl,_,rfl,?_⟩
 refine orG (fun c=>?_) (fun c=>?_)
 ·have:=of_decide_eq_true c
  exact q false ⟨fun z=>absurd z (by decide),fun z=>by obtain ⟨⟨_,_⟩,⟨_,_⟩,_,_,_⟩:=z; omega⟩
 have c1g:¬ F.h > 60:=fun z=>c (decide_eq_true z)
 refine ⟨_,rfl,_,_,_,_,rfl,rfl,hf',rfl,_,_,rfl,rfl,_,rfl,?_⟩
 refine orG (fun c=>?_) (fun c=>?_)
 ·have:=of_decide_eq_true c
  exact q false ⟨fun z=>absurd z (by decide),fun z=>by obtain ⟨⟨_,_⟩,⟨_,_⟩,_,_,_⟩:=z; omega⟩
 have c3l:¬ F.m < 1:=fun z=>c (decide_eq_true z)
 refine ⟨_,rfl,_,_,_,_,rfl,rfl,hf',rfl,_,_,rfl,rfl,_,rfl,?_⟩
 refine ite2 (fun c=>?_) (fun c=>?_)
 ·have:=of_decide_eq_true c
  exact q false ⟨fun z=>absurd z (by decide),fun z=>by obtain ⟨⟨_,_⟩,⟨_,_⟩,_,_,_⟩:=z; omega⟩
 have c3g:¬ F.m > 60:=fun z=>c (decide_eq_true z)
 dsimp only [tNext]
 refine ⟨_,rfl,_,_,_,_,rfl,rfl,hf',rfl,_,_,rfl,rfl,_,rfl,?_⟩
 refine ite2 (fun c=>?_) (fun c=>?_)
 ·have c2:0≤F.f:=of_decide_eq_true c
  refine ⟨_,_,rfl,rfl,⟨by decide,by decide,by decide⟩,_,_,rfl,rfl,q _ ?_⟩
  rw [p60c]
  exact ⟨fun z=>⟨⟨by omega,by omega⟩,⟨by omega,by omega⟩,⟨c2,of_decide_eq_true z⟩,by omega,by omega⟩,fun z=>decide_eq_true z.2.2.1.2⟩
 ·exact q false ⟨fun z=>absurd z (by decide),fun z=>absurd (decide_eq_true z.2.2.1.1) c⟩
def sp_l_is_saying (K:PySem.W.Frag) : Sp:=fun vs H Q _=>∃ (sa:Addr) (m:Int),vs=[.ref sa,.int m]∧IsS H sa∧∀ b:Bool,(b=true↔OkS m H sa)→Q (.bl b) H
theorem sc_l_is_saying:FnScope ["saying","many"] ["saying","many"] (defScope s_l_is_saying):=⟨rfl,rfl,rfl,by decide +kernel,rfl,by decide +kernel,by decide +kernel⟩
theorem ok_l_is_saying (T:Txt P w K mg a) : FnOk P w K mg base CX0 1 a.f_l_is_saying a.fd_l_is_saying ["saying","many"] (sp_l_is_saying K):=by
 have z_len:=T.z_len
 refine T.d_l_is_saying.fn.ok sc_l_is_saying (fun vs H Q E h=>?_) (fun cdv A outer s H vs Q E hr h=>?_)
 ·obtain ⟨sa,m,rfl,_⟩:=h
  rfl
 obtain ⟨sa,m,rfl,hs,q⟩:=h
 have hu:=Nat.lt_of_succ_lt (hu_of hr)
 refine ⟨_,(pss_cons (ps_if (pt_cmpR op_eq (pe_ix ix_tup (pv 0) pe_int (fun _ _=>rfl)) pe_str (nomark _)) (pss_one (ps_ret (pe_and (pe_cmpR op_ne (pe_ix ix_tup (pv 0) pe_int (fun _ _=>rfl)) pe_str (nomark _)) (pe_and (pe_cmpR op_le (pe_callB call_len_str rfl z_len PySem.boot_len (pa_cons (pe_ix ix_tup (pv 0) pe_int (fun _ _=>rfl)) pa_nil)) pe_int (nomark _)) (pe_one (pe_cmpR op_eq (pe_bm PySem.F.plainAttrs_str PySem.F.slot_str_find PySem.F.type_str_find mt_find (pe_ix ix_tup (pv 0) pe_int (fun _ _=>rfl)) (pa_cons pe_str pa_nil)) (pe_un un_neg pe_int) (nomark _))))))) pss_nil)
   (pss_one (ps_ret (pe_and (pe_cmpR op_ge (pe_ix ix_tup (pv 0) pe_int (fun _ _=>rfl)) pe_int (nomark _)) (pe_one (pe_cmpR op_lt (pe_ix ix_tup (pv 0) pe_int (fun _ _=>rfl)) (pv 1) (nomark _))))))),?_⟩
 obtain ⟨s,h0,sm⟩:=hs
 have q':=q (sgOk m s) (OkS.of h0).symm
 clear q
 cases s with
 | text l =>
  have h1:=SqT.of (K:=K) h0
  have sm':l.length≤300:=sm
  refine ⟨_,rfl,_,_,_,_,rfl,rfl,h1,rfl,rfl,_,rfl,?_⟩
  rw [decide_eq_true rfl]
  refine iteT ?_
  change Q (.bl (decide (l≠[]) && (decide (l.length≤60) && decide (32 ∉ l)))) H at q'
  refine ⟨_,rfl,_,_,_,_,rfl,rfl,h1,rfl,rfl,_,rfl,?_⟩
  rw [dstr]
  by_cases c1:l=[]
  ·rw [decide_eq_true c1]
   refine iteF ?_
   rw [decide_eq_false (fun z=>z c1)] at q'
   exact q'
  rw [decide_eq_false c1]
  refine iteT ?_
  rw [decide_eq_true c1,Bool.true_and] at q'
  refine ⟨_,rfl,_,_,_,_,rfl,rfl,h1,rfl,_,rfl,small (by rw [tx_len]; omega),_,_,rfl,rfl,_,rfl,?_⟩
  rw [tx_len]
  by_cases c2:l.length≤60
  ·rw [decide_eq_true (show ((l.length:Nat) : Int)≤60 by omega)]
   refine iteT ?_
   rw [decide_eq_true c2,Bool.true_and] at q'
   refine ⟨_,rfl,_,_,_,_,rfl,rfl,h1,rfl,rfl,_,_,rfl,rfl,_,rfl,rfl,?_⟩
   rw [blank_find]
   exact q'
  ·rw [decide_eq_false (show ¬ ((l.length:Nat) : Int)≤60 by omega)]
   refine iteF ?_
   rw [decide_eq_false c2,Bool.false_and] at q'
   exact q'
 | num k n =>
  have h1:=SqT.of (K:=K) h0
  refine ⟨_,rfl,_,_,_,_,rfl,rfl,h1,rfl,rfl,_,rfl,?_⟩
  rw [decide_eq_false (ne_num k)]
  refine iteF ?_
  dsimp only [tNext]
  change Q (.bl (decide (0≤n) && decide (n < m))) H at q'
  refine ⟨_,rfl,_,_,_,_,rfl,rfl,h1,rfl,_,_,rfl,rfl,_,rfl,?_⟩
  by_cases c1:0≤n
  ·rw [decide_eq_true c1,Bool.true_and] at q'
   rw [decide_eq_true (show n ≥ 0 from c1)]
   refine iteT ?_
   exact ⟨_,rfl,_,_,_,_,rfl,rfl,h1,rfl,_,rfl,_,_,rfl,rfl,q'⟩
  ·rw [decide_eq_false c1,Bool.false_and] at q'
   rw [decide_eq_false (show ¬ n ≥ 0 from c1)]
   refine iteF ?_
   exact q'
def sp_l_is_word (K:PySem.W.Frag) : Sp:=fun vs H Q _=>∃ (wa fo:Addr) (x:Wx) (m:Int),vs=[.ref wa,.int m]∧wxAt H wa fo x∧wxIn H x∧∀ b:Bool,(b=true↔wxOk m H x)→∀ H',Same H H'→Q (.bl b) H'
theorem sc_l_is_word:FnScope ["word","many"] ["word","many"] (defScope s_l_is_word):=⟨rfl,rfl,rfl,by decide +kernel,rfl,by decide +kernel,by decide +kernel⟩
theorem ok_l_is_word (T:Txt P w K mg a) : FnOk P w K mg base CX0 2 a.f_l_is_word a.fd_l_is_word ["word","many"] (sp_l_is_word K):=by
 have g_l_is_saying:=ok_l_is_saying (P:=P) (w:=w) (base:=base) T
 have d_l_is_saying:=T.d_l_is_saying
 have z_all:=T.z_all
 have z_len:=T.z_len
 refine T.d_l_is_word.fn.ok sc_l_is_word (fun vs H Q E h=>?_) (fun cdv A outer s H vs Q E hr h=>?_)
 ·obtain ⟨wa,fo,x,m,rfl,_⟩:=h
  rfl
 obtain ⟨wa,fo,x,m,rfl,ha,hx,q⟩:=h
 have hu:=Nat.lt_of_succ_lt (hu_of hr)
 refine ⟨_,(pss_cons (ps_if (PW.pt (pw_or (pt_cmpR op_lt (pe_ix ix_tup (pv 0) pe_int (fun _ _=>rfl)) pe_int (nomark _)) (pw_or (pt_cmpR op_gt (pe_ix ix_tup (pv 0) pe_int (fun _ _=>rfl)) pe_int (nomark _)) (pw_or1 (pt_cmpR op_gt (pe_callB call_len_seq rfl z_len PySem.boot_len (pa_cons (pe_ix ix_tup (pv 0) pe_int (fun _ _=>rfl)) pa_nil)) pe_int (nomark _)))))) (pss_one (ps_ret pe_bl)) pss_nil)
   (pss_one (ps_ret (pe_callB (call_all rfl) rfl z_all PyProof.Rows.boot_all (pa_cons (pe_lc rfl (lcok (caps:=["many"]) (js:=[1]) (cap:=⟨⟨rfl,.inl rfl,rfl,.inl rfl⟩,trivial⟩)) (pi_list (pe_op op_cat (pe_lst (pa_cons (pe_ix ix_tup (pv 0) pe_int (fun _ _=>rfl)) pa_nil)) (pe_ix ix_tup (pv 0) pe_int (fun _ _=>rfl)))) (fun _ _ _ _=>pts_nil) (fun _ _ _ _=>(pe_callD d_l_is_saying g_l_is_saying (hr.mono (by decide)) rfl (pa_cons (pv 0) (pa_cons (pv 1) pa_nil))))) pa_nil))))),?_⟩
 have h1:=SqT.of (K:=K) ha.1
 have l60:=hx.1
 refine ⟨_,rfl,_,_,_,_,rfl,rfl,h1,rfl,_,_,rfl,rfl,_,rfl,?_⟩
 refine orG (fun c=>?_) (fun c=>?_)
 ·have:=of_decide_eq_true c
  exact q false ⟨fun z=>absurd z (by decide),fun z=>by have:=z.1.1; omega⟩ _ (Same.refl _)
 have c1:¬ x.lead < 0:=fun z=>c (decide_eq_true z)
 refine ⟨_,rfl,_,_,_,_,rfl,rfl,h1,rfl,_,_,rfl,rfl,_,rfl,?_⟩
 refine orG (fun c=>?_) (fun c=>?_)
 ·have:=of_decide_eq_true c
  exact q false ⟨fun z=>absurd z (by decide),fun z=>by have:=z.1.2; omega⟩ _ (Same.refl _)
 have c2:¬ x.lead > 4:=fun z=>c (decide_eq_true z)
 refine ⟨_,rfl,_,_,_,_,rfl,rfl,h1,rfl,_,_,rfl,.inl (SqL.of ha.2),_,_,rfl,rfl,_,rfl,?_⟩
 rw [List.length_map]
 refine ite2 (fun c=>?_) (fun c=>?_)
 ·have:=of_decide_eq_true c
  exact q false ⟨fun z=>absurd z (by decide),fun z=>by have:=z.2.1; omega⟩ _ (Same.refl _)
 have c3:¬ ((x.bs.length:Nat) : Int) > 40:=fun z=>c (decide_eq_true z)
 dsimp only [tNext]
 have lsb:(x.bs.map V.ref).length=x.bs.length:=List.length_map ..
 refine ⟨_,rfl,_,_,_,_,rfl,rfl,h1,rfl,le1,fun p1 hp1=>?_⟩
 have s1:=same_new hp1 (.lst [V.ref x.sa])
 have k1:(upd H p1 (.lst [V.ref x.sa])) p1=some (.lst [V.ref x.sa]):=upd_same
 generalize upd H p1 (.lst [V.ref x.sa])=H1 at s1 k1 ⊢
 refine ⟨_,rfl,_,_,_,_,rfl,rfl,SqT.of (s1 _ _ ha.1),rfl,_,_,_,_,rfl,rfl,k1,s1 _ _ ha.2,(by rw [lsb]; exact small (by show 1+_≤_; omega)),fun p2 hp2=>?_⟩
 have ec:[V.ref x.sa]++x.bs.map V.ref=(x.sa :: x.bs).map V.ref:=rfl
 rw [ec]
 have s2:=same_new hp2 (.lst ((x.sa :: x.bs).map V.ref))
 have k2:(upd H1 p2 (.lst ((x.sa :: x.bs).map V.ref))) p2=some (.lst ((x.sa :: x.bs).map V.ref)):=upd_same
 generalize upd H1 p2 (.lst ((x.sa :: x.bs).map V.ref))=H2 at s2 k2 ⊢
 have t2:=s1.trans s2
 refine ⟨p2,rfl,⟨_,SqL.of k2⟩,lc_list (K:=K) (a:=p2) (xs:=(x.sa :: x.bs).map V.ref) (fun i ys H3=>H3=H2∧∃ bl:List Bool,ys=bl.map V.bl∧bl.length=i∧∀ (j:Nat) b y,bl[j]? = some b→(x.sa :: x.bs)[j]? = some y→(b=true↔OkS m H y)) ⟨rfl,[],rfl,rfl,fun j b y e=>by simp at e⟩ (fun i ys H3 _ g=>by rw [g.1]; exact SqL.of k2) ?_ ?_ ?_⟩
 ·rintro i ys H3 hi ⟨_,bl,rfl,bl_,_⟩
  rw [List.length_map] at hi ⊢
  rw [bl_]
  exact Nat.lt_of_lt_of_le (show i < 1000 by simp at hi; omega) (small (Nat.le_refl _))
 ·rintro i y ys H3 hy ⟨eH,bl,rfl,bl_,hb⟩
  rw [eH]
  rw [List.getElem?_map] at hy
  obtain ⟨b0,e1,rfl⟩:=Option.map_eq_some_iff.mp hy
  have is0:=hx.2 b0 (List.mem_of_getElem? e1)
  refine yes_go ?_
  refine ⟨_,rfl,_,rfl,b0,m,rfl,is0.same t2,fun b hb'=>⟨rfl,bl++[b],by simp,by simp [bl_],fun j b' y' e2 e3=>?_⟩⟩
  rcases snoc_at e2 with ⟨k1,z1⟩ | ⟨k1,z1⟩
  ·exact hb j b' y' k1 e3
  ·have:j=i:=by omega
   rw [this,e1] at e3
   cases e3
   rw [k1,hb',OkS.same is0 t2]
 rintro ys H3 ⟨eH,bl,rfl,bl_,hb⟩ p3 hp3
 rw [eH] at hp3 ⊢
 clear eH
 have s3:=same_new hp3 (.lst (bl.map V.bl))
 have k3:(upd H2 p3 (.lst (bl.map V.bl))) p3=some (.lst (bl.map V.bl)):=upd_same
 generalize upd H2 p3 (.lst (bl.map V.bl))=H4 at s3 k3 ⊢
 have t4:=t2.trans s3
 have hall:=all_iff (P:=fun y=>OkS m H y) (by rw [bl_,List.length_map]) hb
 exact ⟨p3,bl,rfl,SqL.of k3,q _ ⟨fun z=>⟨⟨by omega,by omega⟩,by omega,hall.mp z⟩,fun z=>hall.mpr z.2.2⟩ _ t4⟩
def sp_l_due (K:PySem.W.Frag) : Sp:=fun vs H Q _=>∃ (fa wq:Addr) (F:Fr) (as fs:List Addr) (xs:List Wx),vs=[.ref fa,.ref wq]∧H fa=some (.tup (frV F))∧H wq=some (.lst (as.map V.ref))∧WxS H as fs xs∧WxI H xs∧xs.length≤500∧∀ c H',c < 4→DueC H F xs c→Same H H'→Q (.str (dueS c)) H'
theorem sc_l_due:FnScope ["form","words","word"] ["form","words"] (defScope s_l_due):=⟨rfl,rfl,rfl,by decide +kernel,rfl,by decide +kernel,by decide +kernel⟩
theorem ok_l_due (T:Txt P w K mg a) : FnOk P w K mg base CX0 3 a.f_l_due a.fd_l_due ["form","words"] (sp_l_due K):=by
 have g_l_is_form:=ok_l_is_form (P:=P) (w:=w) (base:=base) T
 have d_l_is_form:=T.d_l_is_form
 have g_l_is_word:=ok_l_is_word (P:=P) (w:=w) (base:=base) T
 have d_l_is_word:=T.d_l_is_word
 have z_len:=T.z_len
 refine T.d_l_due.fn.ok sc_l_due (fun vs H Q E h=>?_) (fun cdv A outer s H vs Q E hr h=>?_)
 ·obtain ⟨fa,wq,F,as,fs,xs,rfl,_⟩:=h
  rfl
 obtain ⟨fa,wq,F,as,fs,xs,rfl,hf,hwq,hws,hwi,l5,q⟩:=h
 have hu:=Nat.lt_of_succ_lt (hu_of hr)
 refine ⟨_,(pss_cons (ps_if (pt_not (pt_val (pe_callD d_l_is_form g_l_is_form (hr.mono (by decide)) rfl (pa_cons (pv 0) pa_nil)) (fun _=>rfl))) (pss_one (ps_ret pe_str)) pss_nil)
   (pss_cons (ps_if (pt_cmpR op_gt (pe_callB call_len_seq rfl z_len PySem.boot_len (pa_cons (pv 1) pa_nil)) pe_int (nomark _)) (pss_one (ps_ret pe_str)) pss_nil)
   (pss_cons (ps_for PassesOwn.never rfl (pi_list (pv 1)) (pg_name (i:=2) sc_l_due.nd rfl (Or.inl rfl)) (pss_one (ps_if (pt_not (pt_val (pe_callD d_l_is_word g_l_is_word (hr.mono (by decide)) rfl (pa_cons (pv 2) (pa_cons (pe_callB call_len_seq rfl z_len PySem.boot_len (pa_cons (pv 1) pa_nil)) pa_nil))) (fun _=>rfl))) (pss_one (ps_ret pe_str)) pss_nil)))
   (pss_one (ps_ret pe_str))))),?_⟩
 have el:(as.map V.ref).length=xs.length:=by rw [List.length_map,hws.l1]
 refine ⟨_,rfl,fa,F,rfl,hf,fun b hb=>?_⟩
 refine ⟨_,rfl,?_⟩
 cases b with
 | false =>
  refine iteT ?_
  exact q 0 _ (by decide) (fun z=>absurd (hb.mpr z) (by decide)) (Same.refl _)
 | true =>
 have ok:=hb.mp rfl
 refine iteF ?_
 dsimp only [tNext]
 refine ⟨_,rfl,_,_,rfl,.inl (SqL.of hwq),_,_,rfl,rfl,_,rfl,?_⟩
 rw [el]
 refine ite2 (fun c=>?_) (fun c=>?_)
 ·have:=of_decide_eq_true c
  exact q 1 _ (by decide) ⟨ok,by omega⟩ (Same.refl _)
 have c4:xs.length≤400:=Nat.le_of_not_lt fun z=>c (decide_eq_true (by omega))
 dsimp only [tNext]
 refine ⟨_,rfl,wq,rfl,⟨_,SqL.of hwq⟩,for_list (K:=K) (a:=wq) (xs:=as.map V.ref) (fun i σ H2=>Same H H2∧(∃ v:Option V,σ=[some (.ref fa),some (.ref wq),v])∧∀ (j:Nat) x,j < i→xs[j]? = some x→wxOk xs.length H x) ⟨Same.refl _,⟨none,rfl⟩,fun j x h=>absurd h (Nat.not_lt_zero _)⟩ (fun i σ H2 _ g=>SqL.of (g.1 _ _ hwq)) ?_ ?_⟩
 ·rintro i y σ H2 hy ⟨s2,⟨v,rfl⟩,hk⟩
  have hi:i < xs.length:=by rw [← el]; exact (List.getElem?_eq_some_iff.mp hy).1
  obtain ⟨a,f,x,f1,f2,f3,f4,f5⟩:=(hws.same s2).get hi
  rw [List.getElem?_map,f1] at hy
  cases hy
  dsimp only [gName]
  have ix:=hwi x (List.mem_of_getElem? f3)
  refine ⟨_,rfl,_,rfl,_,_,rfl,.inl (SqL.of (s2 _ _ hwq)),?_⟩
  rw [el]
  refine ⟨a,f,x,xs.length,rfl,f4,ix.same s2,fun b hb H3 s3=>?_⟩
  refine ⟨_,rfl,?_⟩
  cases b with
  | false =>
   refine iteT ?_
   exact q 2 _ (by decide) ⟨ok,c4,x,List.mem_of_getElem? f3,fun z=>absurd (hb.mpr ((wxOk.same ix s2).mpr z)) (by decide)⟩ (s2.trans s3)
  | true =>
   refine iteF ?_
   refine ⟨s2.trans s3,⟨_,rfl⟩,fun j z hj ez=>?_⟩
   by_cases cj:j < i
   ·exact hk j z cj ez
   ·have:j=i:=by omega
    rw [this,f3] at ez
    cases ez
    exact (wxOk.same ix s2).mp (hb.mp rfl)
 rintro σ H1 ⟨s1,⟨v,rfl⟩,hk⟩
 exact q 3 _ (by decide) ⟨ok,c4,fun x hx=>by
  obtain ⟨j,hj,rfl⟩:=List.getElem_of_mem hx
  exact hk j _ (by rw [el]; exact hj) (List.getElem?_eq_getElem hj)⟩ s1
def mixed (c:Int) : Int:=(c+1) * 1357913579135791357 % 2305843009213693951
theorem mixed_in (c:Int) : 0≤mixed c∧mixed c < 2305843009213693951:=⟨Int.emod_nonneg _ (by (first | decide | (show (0:Int) < _; first | decide | omega))),Int.emod_lt_of_pos _ (by (first | decide | (show (0:Int) < _; first | decide | omega)))⟩
def sp_l_mixed:Sp:=fun vs H Q _=>∃ c:Int,vs=[.int c]∧Q (.int (mixed c)) H
theorem sc_l_mixed:FnScope ["cell"] ["cell"] (defScope s_l_mixed):=⟨rfl,rfl,rfl,by decide +kernel,rfl,by decide +kernel,by decide +kernel⟩
theorem ok_l_mixed (T:Txt P w K mg a) : FnOk P w K mg base CX0 1 a.f_l_mixed a.fd_l_mixed ["cell"] sp_l_mixed:=by
 refine T.d_l_mixed.fn.ok sc_l_mixed (fun vs H Q E h=>?_) (fun cdv A outer s H vs Q E hr h=>?_)
 ·obtain ⟨c,rfl,_⟩:=h
  rfl
 obtain ⟨c,rfl,q⟩:=h
 have hu:=Nat.lt_of_succ_lt (hu_of hr)
 refine ⟨_,(pss_one (ps_ret (pe_op op_mod (pe_op op_mul (pe_op op_add (pv 0) pe_int) pe_int) pe_int))),?_⟩
 exact ⟨_,rfl,_,_,rfl,rfl,_,_,rfl,rfl,.inr ⟨by decide,by decide⟩,_,_,rfl,rfl,(by (first | decide | (show (0:Int) < _; first | decide | omega))),q⟩
def sp_l_form (K:PySem.W.Frag) : Sp:=fun vs H Q _=>∃ (sa:Addr) (ns:List Int) (far:Int),vs=[.ref sa,.int far]∧SqL K H sa (ns.map V.int)∧ns.length≤63∧∀ fa F H',Same H H'→H' fa=some (.tup (frV F))→Q (.ref fa) H'
theorem sc_l_form:FnScope ["script","far","number","form","most","first","k","step"] ["script","far"] (defScope s_l_form):=⟨rfl,rfl,rfl,by decide +kernel,rfl,by decide +kernel,by decide +kernel⟩
theorem ok_l_form (T:Txt P w K mg a) : FnOk P w K mg base CX0 2 a.f_l_form a.fd_l_form ["script","far"] (sp_l_form K):=by
 have g_l_cell_at:=ok_l_cell_at (P:=P) (w:=w) (base:=base) T
 have d_l_cell_at:=T.d_l_cell_at
 have g_l_mixed:=ok_l_mixed (P:=P) (w:=w) (base:=base) T
 have d_l_mixed:=T.d_l_mixed
 have z_int:=T.z_int
 refine T.d_l_form.fn.ok sc_l_form (fun vs H Q E h=>?_) (fun cdv A outer s H vs Q E hr h=>?_)
 ·obtain ⟨sa,ns,far,rfl,_⟩:=h
  rfl
 obtain ⟨sa,ns,far,rfl,hS,h63,q⟩:=h
 have hu:=Nat.lt_of_succ_lt (hu_of hr)
 refine ⟨_,(pss_cons (ps_set (i:=2) sc_l_form.nd rfl (Or.inl rfl) (pe_callD d_l_mixed g_l_mixed (hr.mono (by decide)) rfl (pa_cons (pe_callD d_l_cell_at g_l_cell_at (hr.mono (by decide)) rfl (pa_cons (pv 0) (pa_cons pe_int pa_nil))) pa_nil)))
   (pss_cons (ps_set (i:=3) sc_l_form.nd rfl (Or.inl rfl) (pe_lst pa_nil))
   (pss_cons (ps_for PassesOwn.never rfl (pi_list (pe_lst (pa_cons pe_int (pa_cons pe_int (pa_cons pe_int pa_nil))))) (pg_name (i:=4) sc_l_form.nd rfl (Or.inl rfl)) (pss_cons (ps_expr (pe_bm PySem.F.plainAttrs_list PySem.F.slot_list_append PySem.F.type_list_append mt_append (pv 3) (pa_cons (pe_ix ix_list (pe_lst (pa_cons pe_int (pa_cons (pv 4) (pa_cons (pe_op op_add pe_int (pe_op op_mod (pe_op op_fdiv (pv 2) pe_int) (pv 4))) pa_nil)))) (pe_op op_mod (pv 2) pe_int) (fun _ _=>rfl)) pa_nil)))
   (pss_one (ps_set (i:=2) sc_l_form.nd rfl (Or.inl rfl) (pe_op op_fdiv (pv 2) pe_int)))))
   (pss_cons (ps_set (i:=5) sc_l_form.nd rfl (Or.inl rfl) (pe_ix ix_list (pe_lst (pa_cons pe_int (pa_cons (pe_op op_pow pe_int pe_int) (pa_cons (pe_op op_mod (pv 1) (pe_op op_add (pe_op op_pow pe_int pe_int) pe_int)) pa_nil)))) (pe_op op_mod (pv 2) pe_int) (fun _ _=>rfl)))
   (pss_cons (ps_set (i:=3) sc_l_form.nd rfl (Or.inl rfl) (pe_lst (pa_cons (pe_ix ix_list (pv 3) pe_int (fun _ _=>rfl)) (pa_cons (pe_ix ix_list (pv 3) pe_int (fun _ _=>rfl)) (pa_cons (pv 5) (pa_cons (pe_ix ix_list (pv 3) pe_int (fun _ _=>rfl)) pa_nil))))))
   (pss_cons (ps_if (pt_cmpR op_eq (pe_op op_mod (pe_op op_fdiv (pv 2) pe_int) pe_int) pe_int (nomark _)) (pss_cons (ps_set (i:=6) sc_l_form.nd rfl (Or.inl rfl) (pe_op op_mod (pe_op op_fdiv (pv 2) pe_int) pe_int))
   (pss_cons (ps_set (i:=7) sc_l_form.nd rfl (Or.inl rfl) (pe_ix ix_list (pe_lst (pa_cons pe_int (pa_cons (pe_op op_add pe_int (pe_op op_mod (pv 1) (pe_op op_pow pe_int pe_int))) pa_nil))) (pe_op op_mod (pe_op op_fdiv (pv 2) pe_int) pe_int) (fun _ _=>rfl)))
   (pss_one (ps_asg (pe_ix ix_list (pe_lst (pa_cons (pe_op op_add (pe_op op_sub pe_int (pv 7)) (pe_callTy call_int1 rfl z_int PyProof.Rows.boot_int (pa_cons (pe_cmpR op_ne (pv 6) pe_int (nomark _)) pa_nil))) (pa_cons (pe_op op_add (pe_ix ix_list (pe_lst (pa_cons pe_int (pa_cons pe_int (pa_cons (pe_op op_pow pe_int pe_int) (pa_cons pe_int pa_nil))))) (pv 6) (fun _ _=>rfl)) (pv 7)) pa_nil))) (pe_op op_mod (pe_op op_fdiv (pv 2) pe_int) pe_int) (fun _ _=>rfl)) (pg_sub (pv 3) (pv 6) set_list))))) pss_nil)
   (pss_one (ps_ret (pe_tup (pa_cons (pe_ix ix_list (pv 3) pe_int (fun _ _=>rfl)) (pa_cons (pe_ix ix_list (pv 3) pe_int (fun _ _=>rfl)) (pa_cons (pe_ix ix_list (pv 3) pe_int (fun _ _=>rfl)) (pa_cons (pe_ix ix_list (pv 3) pe_int (fun _ _=>rfl)) pa_nil))))))))))))),?_⟩
 refine ⟨_,rfl,_,_,0,rfl,hS,_,rfl,?_⟩
 dsimp only [gName]
 generalize mixed (ns.getD 0 0)=nm0
 refine ⟨Nat.zero_le _,fun p1 hp1=>?_⟩
 have s1:=same_new hp1 (.lst [])
 have k1:(upd H p1 (.lst [])) p1=some (.lst []):=upd_same
 generalize upd H p1 (.lst [])=H1 at s1 k1 ⊢
 dsimp only [gName]
 refine ⟨le3,fun p2 hp2=>?_⟩
 have n12:p2≠p1:=fun e=>by rw [e,k1] at hp2; cases hp2
 have s2:=same_new hp2 (.lst [V.int 200,V.int 60,V.int 60])
 have k2:(upd H1 p2 (.lst [V.int 200,V.int 60,V.int 60])) p2=some (.lst [V.int 200,V.int 60,V.int 60]):=upd_same
 have k1':=s2 _ _ k1
 generalize upd H1 p2 (.lst [V.int 200,V.int 60,V.int 60])=H2 at s2 k2 k1' ⊢
 have pw:(0:Int) < 10 ^ (60:Int).toNat:=by rw [p60c]; decide
 refine ⟨p2,rfl,⟨_,SqL.of k2⟩,for_list (K:=K) (a:=p2) (xs:=[V.int 200,V.int 60,V.int 60]) (fun i σ H3=>Same H H3∧∃ (nm:Int) (v4:Option V) (zs:List Int),σ=[some (.ref sa),some (.int far),some (.int nm),some (.ref p1),v4,none,none,none]∧H3 p1=some (.lst (zs.map V.int))∧zs.length=i∧H3 p2=some (.lst [V.int 200,V.int 60,V.int 60])) ⟨s1.trans s2,nm0,none,[],rfl,k1',rfl,k2⟩ (fun i σ H3 _ g=>by obtain ⟨_,_,_,_,_,_,_,g⟩:=g; exact SqL.of g) ?_ ?_⟩
 ·rintro i y σ H3 hy ⟨s3,nm,v4,zs,rfl,kz,lz,k3⟩
  have hi:i < 3:=(List.getElem?_eq_some_iff.mp hy).1
  obtain ⟨mo,rfl,mo1⟩ : ∃ mo:Int,y=V.int mo∧0 < mo:=by
   have:=List.mem_of_getElem? hy
   simp only [List.mem_cons,List.not_mem_nil,or_false] at this
   rcases this with rfl | rfl | rfl
   ·exact ⟨_,rfl,by decide⟩
   ·exact ⟨_,rfl,by decide⟩
   ·exact ⟨_,rfl,by decide⟩
  dsimp only [gName]
  refine ⟨_,rfl,.inl ⟨rfl,_,SqL.of kz⟩,_,rfl,_,rfl,_,_,rfl,rfl,⟨by decide,by decide⟩,_,rfl,_,_,rfl,rfl,mo1,_,_,rfl,rfl,le3,fun p3 hp3=>?_⟩
  obtain ⟨z,_,ez⟩:=pickI [1,mo,1+nm / 3 % mo] 3 nm rfl (by decide)
  have s4:=same_new hp3 (.lst ([1,mo,1+nm / 3 % mo].map V.int))
  have k4:(upd H3 p3 (.lst ([1,mo,1+nm / 3 % mo].map V.int))) p3=some (.lst ([1,mo,1+nm / 3 % mo].map V.int)):=upd_same
  have kz4:=s4 _ _ kz
  refine ⟨_,rfl,_,_,rfl,rfl,(by (first | decide | (show (0:Int) < _; first | decide | omega))),_,_,_,_,rfl,rfl,SqL.of k4,ez,_,_,_,rfl,rfl,kz4,?_,?_⟩
  ·rw [List.length_map]
   exact Nat.lt_of_lt_of_le (show _ < 1000 by omega) (small (Nat.le_refl _))
  refine ⟨_,rfl,_,_,rfl,rfl,⟨by decide,by decide⟩,?_⟩
  dsimp only [gName]
  refine ⟨(s3.trans s4).put hp1,_,_,zs++[z],rfl,by rw [upd_same,List.map_append]; rfl,by simp [lz],?_⟩
  rw [upd_ne n12]
  exact s4 _ _ k3
 rintro σ H3 ⟨s3,nm,v4,zs,rfl,kz,lz,k3⟩
 obtain ⟨a1,a2,a3,rfl⟩:=len3 lz
 refine ⟨_,_,rfl,rfl,⟨by decide,by decide,by decide⟩,_,rfl,_,_,rfl,rfl,⟨by decide,by decide,by decide⟩,_,_,rfl,rfl,_,_,rfl,rfl,(show (0:Int) < 10 ^ (60:Int).toNat+1 by rw [p60c]; decide),le3,fun p4 hp4=>?_⟩
 obtain ⟨fi,_,ef⟩:=pickI [0,10 ^ (60:Int).toNat,far % (10 ^ (60:Int).toNat+1)] 3 nm rfl (by decide)
 have s4:=same_new hp4 (.lst [V.int 0,V.int (10 ^ (60:Int).toNat),V.int (far % (10 ^ (60:Int).toNat+1))])
 have k4:(upd H3 p4 (.lst [V.int 0,V.int (10 ^ (60:Int).toNat),V.int (far % (10 ^ (60:Int).toNat+1))])) p4=some (.lst [V.int 0,V.int (10 ^ (60:Int).toNat),V.int (far % (10 ^ (60:Int).toNat+1))]):=upd_same
 refine ⟨_,rfl,_,_,rfl,rfl,(by (first | decide | (show (0:Int) < _; first | decide | omega))),_,_,_,_,rfl,rfl,SqL.of k4,ef,?_⟩
 generalize upd H3 p4 (.lst [V.int 0,V.int (10 ^ (60:Int).toNat),V.int (far % (10 ^ (60:Int).toNat+1))])=H4 at s4 ⊢
 clear k4
 dsimp only [gName]
 have kz4:=SqL.of (K:=K) (s4 _ _ kz)
 refine ⟨_,rfl,_,_,_,_,rfl,rfl,kz4,rfl,_,rfl,_,_,_,_,rfl,rfl,kz4,rfl,_,rfl,_,rfl,_,_,_,_,rfl,rfl,kz4,rfl,le4,fun p5 hp5=>?_⟩
 have s5:=same_new hp5 (.lst [V.int a1,V.int a2,V.int fi,V.int a3])
 have k5:(upd H4 p5 (.lst [V.int a1,V.int a2,V.int fi,V.int a3])) p5=some (.lst ([a1,a2,fi,a3].map V.int)):=upd_same
 have n5:H p5=none:=(s3.trans s4).free hp5
 generalize upd H4 p5 (.lst [V.int a1,V.int a2,V.int fi,V.int a3])=H5 at s5 k5 ⊢
 dsimp only [gName]
 have t5:=s3.trans (s4.trans s5)
 refine cut_seq (fun σ' H'=>Same H H'∧∃ (v6 v7:Option V) (zs:List Int),σ' = [some (.ref sa),some (.int far),some (.int nm),some (.ref p5),v4,some (.int fi),v6,v7]∧H' p5=some (.lst (zs.map V.int))∧zs.length=4) ?_ (fun key=>?_)
 ·rintro σ' H6 ⟨s6,v6,v7,zs,rfl,kz6,lz6⟩
  obtain ⟨w,h,f,m,rfl⟩:=len4 lz6
  have kk:=SqL.of (K:=K) kz6
  refine ⟨_,rfl,_,_,_,_,rfl,rfl,kk,rfl,_,rfl,_,_,_,_,rfl,rfl,kk,rfl,_,rfl,_,_,_,_,rfl,rfl,kk,rfl,_,rfl,_,_,_,_,rfl,rfl,kk,rfl,le4,fun p6 hp6=>?_⟩
  exact q p6 ⟨w,h,f,m⟩ _ (s6.trans (same_new hp6 _)) upd_same
 ·refine ⟨_,rfl,_,_,rfl,rfl,⟨by decide,by decide⟩,_,_,rfl,rfl,(by (first | decide | (show (0:Int) < _; first | decide | omega))),rfl,_,rfl,?_⟩
  refine ite2 (fun c=>?_) (fun c=>key _ _ ⟨t5,none,none,[a1,a2,fi,a3],rfl,k5,rfl⟩)
  refine ⟨_,rfl,_,_,rfl,rfl,⟨by decide,by decide⟩,_,_,rfl,rfl,(by (first | decide | (show (0:Int) < _; first | decide | omega))),?_⟩
  dsimp only [gName]
  have b1:=Int.emod_nonneg (nm / 12) (show (4:Int)≠0 by decide)
  have b2:=Int.emod_lt_of_pos (nm / 12) (show (0:Int) < 4 by decide)
  refine ⟨_,rfl,_,_,rfl,rfl,⟨by decide,by decide,by decide⟩,_,_,rfl,rfl,pw,_,_,rfl,rfl,le2,fun p7 hp7=>?_⟩
  obtain ⟨st,_,es⟩:=pickI [1,1+far % 10 ^ (60:Int).toNat] 2 (nm / 48) rfl (by decide)
  have s7:=same_new hp7 (.lst [V.int 1,V.int (1+far % 10 ^ (60:Int).toNat)])
  have k7:(upd H5 p7 (.lst [V.int 1,V.int (1+far % 10 ^ (60:Int).toNat)])) p7=some (.lst [V.int 1,V.int (1+far % 10 ^ (60:Int).toNat)]):=upd_same
  refine ⟨_,rfl,_,_,rfl,rfl,⟨by decide,by decide⟩,_,_,rfl,rfl,(by (first | decide | (show (0:Int) < _; first | decide | omega))),_,_,_,_,rfl,rfl,SqL.of k7,es,?_⟩
  generalize upd H5 p7 (.lst [V.int 1,V.int (1+far % 10 ^ (60:Int).toNat)])=H7 at s7 ⊢
  clear k7
  dsimp only [gName]
  obtain ⟨iv,eiv⟩ : ∃ iv:Int,iv=(if (!decide (V.int (nm / 12 % 4)=V.int 2))=true then 1 else 0):=⟨_,rfl⟩
  refine ⟨_,rfl,_,_,rfl,rfl,_,rfl,rfl,.inr ⟨_,rfl,?_⟩⟩
  rw [← eiv]
  refine ⟨_,_,rfl,rfl,_,_,rfl,rfl,⟨by decide,by decide,by decide⟩,le4,fun p8 hp8=>?_⟩
  obtain ⟨lm,_,el⟩:=pickI [200,60,10 ^ (60:Int).toNat,60] 4 (nm / 12) rfl (by decide)
  have s8:=same_new hp8 (.lst [V.int 200,V.int 60,V.int (10 ^ (60:Int).toNat),V.int 60])
  have k8:(upd H7 p8 (.lst [V.int 200,V.int 60,V.int (10 ^ (60:Int).toNat),V.int 60])) p8=some (.lst [V.int 200,V.int 60,V.int (10 ^ (60:Int).toNat),V.int 60]):=upd_same
  refine ⟨_,rfl,_,_,_,_,rfl,rfl,SqL.of k8,el,_,rfl,_,_,rfl,rfl,le2,fun p9 hp9=>?_⟩
  obtain ⟨nv,_,en⟩:=pickI [0 - st+iv,lm+st] 2 (nm / 96) rfl (by decide)
  have s9:=same_new hp9 (.lst [V.int (0 - st+iv),V.int (lm+st)])
  have k9:(upd (upd H7 p8 (.lst [V.int 200,V.int 60,V.int (10 ^ (60:Int).toNat),V.int 60])) p9 (.lst [V.int (0 - st+iv),V.int (lm+st)])) p9=some (.lst [V.int (0 - st+iv),V.int (lm+st)]):=upd_same
  have t9:=s7.trans (s8.trans s9)
  have k59:=t9 _ _ k5
  refine ⟨_,rfl,_,_,rfl,rfl,⟨by decide,by decide⟩,_,_,rfl,rfl,(by (first | decide | (show (0:Int) < _; first | decide | omega))),_,_,_,_,rfl,rfl,SqL.of k9,en,_,rfl,_,rfl,_,_,_,_,rfl,rfl,k59,ixN_in b1 (by rw [List.length_map]; exact b2),?_⟩
  rw [ints_set]
  exact key _ _ ⟨(t5.trans t9).put n5,_,_,[a1,a2,fi,a3].set (nm / 12 % 4).toNat nv,rfl,upd_same,by rw [List.length_set]; rfl⟩
def sp_check_number (C:Addr) : Sp:=fun vs H Q E=>∃ (n lo hi:Int),vs=[.int n,.int lo,.int hi]∧(lo.natAbs.log2 < 1920∧(toString lo:Str).length≤20000)∧(hi.natAbs.log2 < 1920∧(toString hi:Str).length≤20000)∧(¬ (lo≤n∧n≤hi)→E (.ref C) none H)∧((lo≤n∧n≤hi)→Q .non H)
theorem sc_check_number:FnScope ["number","least","most"] ["number","least","most"] (defScope s_check_number):=⟨rfl,rfl,rfl,by decide +kernel,rfl,by decide +kernel,by decide +kernel⟩
theorem ok_check_number (T:Txt P w K mg a) : FnOk P w K mg base (CXe P w) 1 a.f_check_number a.fd_check_number ["number","least","most"] (sp_check_number a.c_BadForm):=by
 have x_BadForm:=T.x_BadForm
 refine T.d_check_number.fn.okE sc_check_number (fun vs H Q E h=>?_) (fun cdv A outer s H vs Q E hr h=>?_)
 ·obtain ⟨n,lo,hi,rfl,_⟩:=h
  rfl
 obtain ⟨n,lo,hi,rfl,b1,b2,q1,q⟩:=h
 have hu:=Nat.lt_of_succ_lt (hu_of hr)
 refine ⟨_,(pss_one (ps_if (PW.pt (pw_or (pt_cmpR op_lt (pv 0) (pv 1) (nomark _)) (pw_or1 (pt_cmpR op_gt (pv 0) (pv 2) (nomark _))))) (pss_one (ps_raise rfl wish_cx x_BadForm rfl (pa_cons (pe_fstr (pj_cons pp_str (pj_cons (pp_intV (pv 1)) (pj_cons pp_str (pj_cons (pp_intV (pv 2)) pj_nil))))) pa_nil))) pss_nil)),?_⟩
 refine ⟨_,rfl,_,rfl,_,_,rfl,rfl,_,rfl,?_⟩
 refine orG (fun c=>?_) (fun c=>?_)
 ·have:=of_decide_eq_true c
  exact ⟨⟨trivial,⟨lo,rfl,b1⟩,trivial,⟨hi,rfl,b2⟩,trivial⟩,fun z=>⟨le1,q1 (by omega)⟩⟩
 have c1:¬ n < lo:=fun z=>c (decide_eq_true z)
 refine ⟨_,rfl,_,rfl,_,_,rfl,rfl,_,rfl,?_⟩
 refine ite2 (fun c=>?_) (fun c=>?_)
 ·have:=of_decide_eq_true c
  exact ⟨⟨trivial,⟨lo,rfl,b1⟩,trivial,⟨hi,rfl,b2⟩,trivial⟩,fun z=>⟨le1,q1 (by omega)⟩⟩
 ·have c2:¬ n > hi:=fun z=>c (decide_eq_true z)
  exact q (by omega)
theorem bn0:((0:Int).natAbs.log2 < 1920∧(toString (0:Int) : Str).length≤20000):=by decide +kernel
theorem bn1:((1:Int).natAbs.log2 < 1920∧(toString (1:Int) : Str).length≤20000):=by decide +kernel
theorem bn60:((60:Int).natAbs.log2 < 1920∧(toString (60:Int) : Str).length≤20000):=by decide +kernel
theorem bn200:((200:Int).natAbs.log2 < 1920∧(toString (200:Int) : Str).length≤20000):=by decide +kernel
theorem bn10:(((10:Int) ^ (60:Int).toNat).natAbs.log2 < 1920∧(toString ((10:Int) ^ (60:Int).toNat) : Str).length≤20000):=by decide +kernel

def sp_check_form (K:PySem.W.Frag) (C:Addr) : Sp:=fun vs H Q E=>∃ (fa:Addr) (F:Fr),vs=[.ref fa]∧H fa=some (.tup (frV F))∧(¬ FrOk F→E (.ref C) none H)∧(FrOk F→Q .non H)
theorem sc_check_form:FnScope ["form"] ["form"] (defScope s_check_form):=⟨rfl,rfl,rfl,by decide +kernel,rfl,by decide +kernel,by decide +kernel⟩
theorem ok_check_form (T:Txt P w K mg a) : FnOk P w K mg base (CXe P w) 2 a.f_check_form a.fd_check_form ["form"] (sp_check_form K a.c_BadForm):=by
 have g_check_number:=ok_check_number (P:=P) (w:=w) (base:=base) T
 have d_check_number:=T.d_check_number
 refine T.d_check_form.fn.okE sc_check_form (fun vs H Q E h=>?_) (fun cdv A outer s H vs Q E hr h=>?_)
 ·obtain ⟨fa,F,rfl,_⟩:=h
  rfl
 obtain ⟨fa,F,rfl,hf,q1,q⟩:=h
 have hu:=Nat.lt_of_succ_lt (hu_of hr)
 refine ⟨_,(pss_cons (ps_expr (pe_callX pass_cx d_check_number g_check_number (hr.mono (by decide)) rfl (pa_cons (pe_ix ix_tup (pv 0) pe_int (fun _ _=>rfl)) (pa_cons pe_int (pa_cons pe_int pa_nil)))))
   (pss_cons (ps_expr (pe_callX pass_cx d_check_number g_check_number (hr.mono (by decide)) rfl (pa_cons (pe_ix ix_tup (pv 0) pe_int (fun _ _=>rfl)) (pa_cons pe_int (pa_cons pe_int pa_nil)))))
   (pss_cons (ps_expr (pe_callX pass_cx d_check_number g_check_number (hr.mono (by decide)) rfl (pa_cons (pe_ix ix_tup (pv 0) pe_int (fun _ _=>rfl)) (pa_cons pe_int (pa_cons (pe_op op_pow pe_int pe_int) pa_nil)))))
   (pss_one (ps_expr (pe_callX pass_cx d_check_number g_check_number (hr.mono (by decide)) rfl (pa_cons (pe_ix ix_tup (pv 0) pe_int (fun _ _=>rfl)) (pa_cons pe_int (pa_cons pe_int pa_nil))))))))),?_⟩
 have hf':=SqT.of (K:=K) hf
 refine ⟨_,rfl,_,_,_,_,rfl,rfl,hf',rfl,_,_,_,rfl,bn1,bn200,fun c=>q1 (fun z=>c z.1),fun c1=>?_⟩
 refine ⟨_,rfl,_,_,_,_,rfl,rfl,hf',rfl,_,_,_,rfl,bn1,bn60,fun c=>q1 (fun z=>c z.2.1),fun c2=>?_⟩
 refine ⟨_,rfl,_,_,_,_,rfl,rfl,hf',rfl,_,_,rfl,rfl,⟨by decide,by decide,by decide⟩,_,_,_,rfl,bn0,bn10,fun c=>q1 (fun z=>c (by rw [p60c]; exact z.2.2.1)),fun c3=>?_⟩
 refine ⟨_,rfl,_,_,_,_,rfl,rfl,hf',rfl,_,_,_,rfl,bn1,bn60,fun c=>q1 (fun z=>c z.2.2.2),fun c4=>?_⟩
 exact q ⟨c1,c2,by rw [p60c] at c3; exact c3,c4⟩
def sp_l_form_refused (K:PySem.W.Frag) : Sp:=fun vs H Q _=>∃ (fa:Addr) (F:Fr),vs=[.ref fa]∧H fa=some (.tup (frV F))∧(¬ FrOk F→Q (.bl true) H)∧(FrOk F→Q .non H)
theorem sc_l_form_refused:FnScope ["form","found"] ["form"] (defScope s_l_form_refused):=⟨rfl,rfl,rfl,by decide +kernel,rfl,by decide +kernel,by decide +kernel⟩
theorem ok_l_form_refused (T:Txt P w K mg a) : FnOk P w K mg base CX0 3 a.f_l_form_refused a.fd_l_form_refused ["form"] (sp_l_form_refused K):=by
 have g_check_form:=ok_check_form (P:=P) (w:=w) (base:=base) T
 have d_check_form:=T.d_check_form
 have x_BadForm:=T.x_BadForm
 refine T.d_l_form_refused.fn.ok sc_l_form_refused (fun vs H Q E h=>?_) (fun cdv A outer s H vs Q E hr h=>?_)
 ·obtain ⟨fa,F,rfl,_⟩:=h
  rfl
 obtain ⟨fa,F,rfl,hf,q1,q⟩:=h
 have hu:=Nat.lt_of_succ_lt (hu_of hr)
 refine ⟨_,(pss_cons (ps_set (i:=1) sc_l_form_refused.nd rfl (Or.inl rfl) pe_bl)
   (pss_cons (ps_try_set (i:=1) sc_l_form_refused.nd rfl (Or.inl rfl) d_check_form g_check_form (hr.mono (by decide)) rfl (fun _=>(pa_cons (pv 0) pa_nil)) rfl x_BadForm ⟨rfl,rfl⟩ (fun _=>(pss_one (ps_set (i:=1) sc_l_form_refused.nd rfl (Or.inl rfl) pe_bl))))
   (pss_one (ps_ret (pv 1))))),?_⟩
 refine cut_seq (fun σ' H'=>H' = H∧σ' = [some (.ref fa),some (.bl false)]) ?_ (fun key=>key _ _ ⟨rfl,rfl⟩)
 rintro σ' H' ⟨eH,rfl⟩
 rw [eH]
 clear eH
 refine ⟨_,rfl,fa,F,rfl,hf,fun c=>⟨_,rfl,T.t_BadForm_BadForm,?_⟩,fun c=>?_⟩
 ·exact ⟨_,rfl,q1 c⟩
 ·exact ⟨_,rfl,q c⟩
def sp_is_saying (K:PySem.W.Frag) : Sp:=fun vs H Q _=>∃ (sa:Addr) (m:Int),vs=[.ref sa,.int m]∧IsS H sa∧∀ b:Bool,(b=true↔OkS m H sa)→Q (.bl b) H
theorem sc_is_saying:FnScope ["saying","many","text"] ["saying","many"] (defScope s_is_saying):=⟨rfl,rfl,rfl,by decide +kernel,rfl,by decide +kernel,by decide +kernel⟩
theorem ok_is_saying (T:Txt P w K mg a) : FnOk P w K mg base CX0 1 a.f_is_saying a.fd_is_saying ["saying","many"] (sp_is_saying K):=by
 have z_len:=T.z_len
 have m_LONGEST_TEXT:=T.m_LONGEST_TEXT
 obtain ⟨t_LONGEST_TEXT,m_LONGEST_TEXT⟩:=m_LONGEST_TEXT
 refine T.d_is_saying.fn.ok sc_is_saying (fun vs H Q E h=>?_) (fun cdv A outer s H vs Q E hr h=>?_)
 ·obtain ⟨sa,m,rfl,_⟩:=h
  rfl
 obtain ⟨sa,m,rfl,hs,q⟩:=h
 have hu:=Nat.lt_of_succ_lt (hu_of hr)
 refine ⟨_,(pss_cons (ps_if (pt_cmpR op_eq (pe_ix ix_tup (pv 0) pe_int (fun _ _=>rfl)) pe_str (nomark _)) (pss_cons (ps_set (i:=2) sc_is_saying.nd rfl (Or.inl rfl) (pe_ix ix_tup (pv 0) pe_int (fun _ _=>rfl)))
   (pss_one (ps_ret (pe_and (pe_cmpR op_ne (pv 2) pe_str (nomark _)) (pe_and (pe_cmpR op_le (pe_callB call_len_str rfl z_len PySem.boot_len (pa_cons (pv 2) pa_nil)) (pe_glob (v:=.int 60) rfl m_LONGEST_TEXT ⟨_,rfl⟩) (nomark _)) (pe_one (pe_cmpR op_notin_str pe_str (pv 2) (by with_unfolding_all rfl)))))))) pss_nil)
   (pss_one (ps_ret (pe_chain op_le op_lt pe_int (pe_ix ix_tup (pv 0) pe_int (fun _ _=>rfl)) (pv 1))))),?_⟩
 obtain ⟨s,h0,sm⟩:=hs
 have q':=q (sgOk m s) (OkS.of h0).symm
 clear q
 cases s with
 | text l =>
  have h1:=SqT.of (K:=K) h0
  have sm':l.length≤300:=sm
  refine ⟨_,rfl,_,_,_,_,rfl,rfl,h1,rfl,rfl,_,rfl,?_⟩
  rw [decide_eq_true rfl]
  refine iteT ?_
  change Q (.bl (decide (l≠[]) && (decide (l.length≤60) && decide (32 ∉ l)))) H at q'
  refine ⟨_,rfl,_,_,_,_,rfl,rfl,h1,rfl,?_⟩
  dsimp only [gName]
  refine ⟨_,rfl,rfl,_,rfl,?_⟩
  rw [dstr]
  by_cases c1:l=[]
  ·rw [decide_eq_true c1]
   refine iteF ?_
   rw [decide_eq_false (fun z=>z c1)] at q'
   exact q'
  rw [decide_eq_false c1]
  refine iteT ?_
  rw [decide_eq_true c1,Bool.true_and] at q'
  refine ⟨_,rfl,_,rfl,small (by rw [tx_len]; omega),_,_,rfl,rfl,_,rfl,?_⟩
  rw [tx_len]
  by_cases c2:l.length≤60
  ·rw [decide_eq_true (show ((l.length:Nat) : Int)≤60 by omega)]
   refine iteT ?_
   rw [decide_eq_true c2,Bool.true_and] at q'
   refine ⟨_,rfl,_,_,rfl,rfl,?_⟩
   rw [blank_in,← decide_not]
   exact q'
  ·rw [decide_eq_false (show ¬ ((l.length:Nat) : Int)≤60 by omega)]
   refine iteF ?_
   rw [decide_eq_false c2,Bool.false_and] at q'
   exact q'
 | num k n =>
  have h1:=SqT.of (K:=K) h0
  refine ⟨_,rfl,_,_,_,_,rfl,rfl,h1,rfl,rfl,_,rfl,?_⟩
  rw [decide_eq_false (ne_num k)]
  refine iteF ?_
  dsimp only [tNext]
  change Q (.bl (decide (0≤n) && decide (n < m))) H at q'
  refine ⟨_,rfl,_,_,_,_,rfl,rfl,h1,rfl,_,_,rfl,rfl,_,rfl,?_⟩
  by_cases c1:0≤n
  ·rw [decide_eq_true c1,Bool.true_and] at q'
   rw [decide_eq_true c1]
   refine iteT ?_
   exact ⟨_,rfl,_,_,rfl,rfl,q'⟩
  ·rw [decide_eq_false c1,Bool.false_and] at q'
   rw [decide_eq_false c1]
   refine iteF ?_
   exact q'
def sp_check_word (K:PySem.W.Frag) (C:Addr) : Sp:=fun vs H Q E=>∃ (wa fo:Addr) (x:Wx) (m:Int),vs=[.ref wa,.int m]∧wxAt H wa fo x∧wxIn H x∧(¬ wxOk m H x→∀ H',Same H H'→E (.ref C) none H')∧(wxOk m H x→∀ H',Same H H'→Q .non H')
theorem sc_check_word:FnScope ["word","many"] ["word","many"] (defScope s_check_word):=⟨rfl,rfl,rfl,by decide +kernel,rfl,by decide +kernel,by decide +kernel⟩
theorem ok_check_word (T:Txt P w K mg a) : FnOk P w K mg base (CXe P w) 2 a.f_check_word a.fd_check_word ["word","many"] (sp_check_word K a.c_BadWord):=by
 have g_is_saying:=ok_is_saying (P:=P) (w:=w) (base:=base) T
 have d_is_saying:=T.d_is_saying
 have z_all:=T.z_all
 have z_len:=T.z_len
 have x_BadWord:=T.x_BadWord
 have m_LAST_LEAD:=T.m_LAST_LEAD
 have m_MOST_SAYINGS:=T.m_MOST_SAYINGS
 obtain ⟨t_LAST_LEAD,m_LAST_LEAD⟩:=m_LAST_LEAD
 obtain ⟨t_MOST_SAYINGS,m_MOST_SAYINGS⟩:=m_MOST_SAYINGS
 refine T.d_check_word.fn.okE sc_check_word (fun vs H Q E h=>?_) (fun cdv A outer s H vs Q E hr h=>?_)
 ·obtain ⟨wa,fo,x,m,rfl,_⟩:=h
  rfl
 obtain ⟨wa,fo,x,m,rfl,ha,hx,q1,q⟩:=h
 have hu:=Nat.lt_of_succ_lt (hu_of hr)
 refine ⟨_,(pss_cons (ps_if (PW.pt (pw_or (pt_cmpR op_lt (pe_ix ix_tup (pv 0) pe_int (fun _ _=>rfl)) pe_int (nomark _)) (pw_or1 (pt_cmpR op_gt (pe_ix ix_tup (pv 0) pe_int (fun _ _=>rfl)) (pe_glob (v:=.int 4) rfl m_LAST_LEAD ⟨_,rfl⟩) (nomark _))))) (pss_one (ps_raise rfl wish_cx x_BadWord rfl (pa_cons pe_str pa_nil))) pss_nil)
   (pss_cons (ps_if (pt_cmpR op_gt (pe_callB call_len_seq rfl z_len PySem.boot_len (pa_cons (pe_ix ix_tup (pv 0) pe_int (fun _ _=>rfl)) pa_nil)) (pe_glob (v:=.int 40) rfl m_MOST_SAYINGS ⟨_,rfl⟩) (nomark _)) (pss_one (ps_raise rfl wish_cx x_BadWord rfl (pa_cons (pe_fstr (pj_cons pp_str (pj_cons (pp_int (pe_glob (v:=.int 40) rfl m_MOST_SAYINGS ⟨_,rfl⟩)) (pj_cons pp_str pj_nil)))) pa_nil))) pss_nil)
   (pss_one (ps_if (pt_not (pt_val (pe_callB (call_all rfl) rfl z_all PyProof.Rows.boot_all (pa_cons (pe_lc rfl (lcok (caps:=["many"]) (js:=[1]) (cap:=⟨⟨rfl,.inl rfl,rfl,.inl rfl⟩,trivial⟩)) (pi_list (pe_op op_cat (pe_lst (pa_cons (pe_ix ix_tup (pv 0) pe_int (fun _ _=>rfl)) pa_nil)) (pe_ix ix_tup (pv 0) pe_int (fun _ _=>rfl)))) (fun _ _ _ _=>pts_nil) (fun _ _ _ _=>(pe_callD d_is_saying g_is_saying (hr.mono (by decide)) rfl (pa_cons (pv 0) (pa_cons (pv 1) pa_nil))))) pa_nil)) (fun _=>rfl))) (pss_one (ps_raise rfl wish_cx x_BadWord rfl (pa_cons pe_str pa_nil))) pss_nil)))),?_⟩
 have h1:=SqT.of (K:=K) ha.1
 have l60:=hx.1
 refine ⟨_,rfl,_,_,_,_,rfl,rfl,h1,rfl,_,_,rfl,rfl,_,rfl,?_⟩
 refine orG (fun c=>?_) (fun c=>?_)
 ·have:=of_decide_eq_true c
  exact ⟨le1,q1 (fun z=>by have:=z.1.1; omega) _ (Same.refl _)⟩
 have c1:¬ x.lead < 0:=fun z=>c (decide_eq_true z)
 refine ⟨_,rfl,_,_,_,_,rfl,rfl,h1,rfl,_,_,rfl,rfl,_,rfl,?_⟩
 refine ite2 (fun c=>?_) (fun c=>?_)
 ·have:=of_decide_eq_true c
  exact ⟨le1,q1 (fun z=>by have:=z.1.2; omega) _ (Same.refl _)⟩
 have c2:¬ x.lead > 4:=fun z=>c (decide_eq_true z)
 dsimp only [tNext]
 refine ⟨_,rfl,_,_,_,_,rfl,rfl,h1,rfl,_,_,rfl,.inl (SqL.of ha.2),_,_,rfl,rfl,_,rfl,?_⟩
 rw [List.length_map]
 refine ite2 (fun c=>?_) (fun c=>?_)
 ·have:=of_decide_eq_true c
  exact ⟨⟨trivial,trivial,trivial,trivial⟩,fun z=>⟨le1,q1 (fun z=>by have:=z.2.1; omega) _ (Same.refl _)⟩⟩
 have c3:¬ ((x.bs.length:Nat) : Int) > 40:=fun z=>c (decide_eq_true z)
 dsimp only [tNext]
 have lsb:(x.bs.map V.ref).length=x.bs.length:=List.length_map ..
 refine ⟨_,rfl,_,_,_,_,rfl,rfl,h1,rfl,le1,fun p1 hp1=>?_⟩
 have s1:=same_new hp1 (.lst [V.ref x.sa])
 have k1:(upd H p1 (.lst [V.ref x.sa])) p1=some (.lst [V.ref x.sa]):=upd_same
 generalize upd H p1 (.lst [V.ref x.sa])=H1 at s1 k1 ⊢
 refine ⟨_,rfl,_,_,_,_,rfl,rfl,SqT.of (s1 _ _ ha.1),rfl,_,_,_,_,rfl,rfl,k1,s1 _ _ ha.2,(by rw [lsb]; exact small (by show 1+_≤_; omega)),fun p2 hp2=>?_⟩
 have ec:[V.ref x.sa]++x.bs.map V.ref=(x.sa :: x.bs).map V.ref:=rfl
 rw [ec]
 have s2:=same_new hp2 (.lst ((x.sa :: x.bs).map V.ref))
 have k2:(upd H1 p2 (.lst ((x.sa :: x.bs).map V.ref))) p2=some (.lst ((x.sa :: x.bs).map V.ref)):=upd_same
 generalize upd H1 p2 (.lst ((x.sa :: x.bs).map V.ref))=H2 at s2 k2 ⊢
 have t2:=s1.trans s2
 refine ⟨p2,rfl,⟨_,SqL.of k2⟩,lc_list (K:=K) (a:=p2) (xs:=(x.sa :: x.bs).map V.ref) (fun i ys H3=>H3=H2∧∃ bl:List Bool,ys=bl.map V.bl∧bl.length=i∧∀ (j:Nat) b y,bl[j]? = some b→(x.sa :: x.bs)[j]? = some y→(b=true↔OkS m H y)) ⟨rfl,[],rfl,rfl,fun j b y e=>by simp at e⟩ (fun i ys H3 _ g=>by rw [g.1]; exact SqL.of k2) ?_ ?_ ?_⟩
 ·rintro i ys H3 hi ⟨_,bl,rfl,bl_,_⟩
  rw [List.length_map] at hi ⊢
  rw [bl_]
  exact Nat.lt_of_lt_of_le (show i < 1000 by simp at hi; omega) (small (Nat.le_refl _))
 ·rintro i y ys H3 hy ⟨eH,bl,rfl,bl_,hb⟩
  rw [eH]
  rw [List.getElem?_map] at hy
  obtain ⟨b0,e1,rfl⟩:=Option.map_eq_some_iff.mp hy
  have is0:=hx.2 b0 (List.mem_of_getElem? e1)
  refine yes_go ?_
  refine ⟨_,rfl,_,rfl,b0,m,rfl,is0.same t2,fun b hb'=>⟨rfl,bl++[b],by simp,by simp [bl_],fun j b' y' e2 e3=>?_⟩⟩
  rcases snoc_at e2 with ⟨k1,z1⟩ | ⟨k1,z1⟩
  ·exact hb j b' y' k1 e3
  ·have:j=i:=by omega
   rw [this,e1] at e3
   cases e3
   rw [k1,hb',OkS.same is0 t2]
 rintro ys H3 ⟨eH,bl,rfl,bl_,hb⟩ p3 hp3
 rw [eH] at hp3 ⊢
 clear eH
 have s3:=same_new hp3 (.lst (bl.map V.bl))
 have k3:(upd H2 p3 (.lst (bl.map V.bl))) p3=some (.lst (bl.map V.bl)):=upd_same
 generalize upd H2 p3 (.lst (bl.map V.bl))=H4 at s3 k3 ⊢
 have t4:=t2.trans s3
 have hall:=all_iff (P:=fun y=>OkS m H y) (by rw [bl_,List.length_map]) hb
 refine ⟨p3,bl,rfl,SqL.of k3,_,rfl,?_⟩
 cases hc:bl.all id with
 | false =>
  rw [hc] at hall
  refine iteT ?_
  exact ⟨le1,q1 (fun z=>absurd (hall.mpr z.2.2) (by decide)) _ t4⟩
 | true =>
  rw [hc] at hall
  refine iteF ?_
  exact q ⟨⟨by omega,by omega⟩,by omega,hall.mp rfl⟩ _ t4
def sp_book_of (K:PySem.W.Frag) (C1 C2 C3:Addr) : Sp:=fun vs H Q E=>∃ (fa wq:Addr) (F:Fr) (as fs:List Addr) (xs:List Wx),vs=[.ref fa,.ref wq]∧H fa=some (.tup (frV F))∧H wq=some (.lst (as.map V.ref))∧WxS H as fs xs∧WxI H xs∧xs.length≤500∧(DueC H F xs 0→∀ H',Same H H'→E (.ref C1) none H')∧(DueC H F xs 1→∀ H',Same H H'→E (.ref C2) none H')∧(DueC H F xs 2→∀ H',Same H H'→E (.ref C3) none H')∧(DueC H F xs 3→∀ q lq bs gs H',Same H H'→H' q=some (.tup [.ref fa,.ref lq])→H' lq=some (.lst (bs.map V.ref))→WxS H' bs gs xs→(∀ (i j:Nat) f,gs[i]? = some f→gs[j]? = some f→i=j)→(∀ f ∈ gs,H f=none∧f≠lq)→H lq=none→Q (.ref q) H')
theorem sc_book_of:FnScope ["form","words","word"] ["form","words"] (defScope s_book_of):=⟨rfl,rfl,rfl,by decide +kernel,rfl,by decide +kernel,by decide +kernel⟩
theorem ok_book_of (T:Txt P w K mg a) : FnOk P w K mg base (CXe P w) 3 a.f_book_of a.fd_book_of ["form","words"] (sp_book_of K a.c_BadForm a.c_TooLong a.c_BadWord):=by
 have g_check_form:=ok_check_form (P:=P) (w:=w) (base:=base) T
 have d_check_form:=T.d_check_form
 have g_check_word:=ok_check_word (P:=P) (w:=w) (base:=base) T
 have d_check_word:=T.d_check_word
 have z_len:=T.z_len
 have z_list:=T.z_list
 have x_TooLong:=T.x_TooLong
 have m_MOST_WORDS:=T.m_MOST_WORDS
 obtain ⟨t_MOST_WORDS,m_MOST_WORDS⟩:=m_MOST_WORDS
 refine T.d_book_of.fn.okE sc_book_of (fun vs H Q E h=>?_) (fun cdv A outer s H vs Q E hr h=>?_)
 ·obtain ⟨fa,wq,F,as,fs,xs,rfl,_⟩:=h
  rfl
 obtain ⟨fa,wq,F,as,fs,xs,rfl,hf,hwq,hws,hwi,l5,q1,q2,q3,q⟩:=h
 have hu:=Nat.lt_of_succ_lt (hu_of hr)
 refine ⟨_,(pss_cons (ps_expr (pe_callX pass_cx d_check_form g_check_form (hr.mono (by decide)) rfl (pa_cons (pv 0) pa_nil)))
   (pss_cons (ps_if (pt_cmpR op_gt (pe_callB call_len_seq rfl z_len PySem.boot_len (pa_cons (pv 1) pa_nil)) (pe_glob (v:=.int 400) rfl m_MOST_WORDS ⟨_,rfl⟩) (nomark _)) (pss_one (ps_raise rfl wish_cx x_TooLong rfl (pa_cons (pe_fstr (pj_cons pp_str (pj_cons (pp_int (pe_glob (v:=.int 400) rfl m_MOST_WORDS ⟨_,rfl⟩)) (pj_cons pp_str pj_nil)))) pa_nil))) pss_nil)
   (pss_cons (ps_for PassesOwn.leaving rfl (pi_list (pv 1)) (pg_name (i:=2) sc_book_of.nd rfl (Or.inl rfl)) (pss_one (ps_expr (pe_callX pass_cx d_check_word g_check_word (hr.mono (by decide)) rfl (pa_cons (pv 2) (pa_cons (pe_callB call_len_seq rfl z_len PySem.boot_len (pa_cons (pv 1) pa_nil)) pa_nil))))))
   (pss_one (ps_ret (pe_tup (pa_cons (pv 0) (pa_cons (pe_lc rfl (lcok (caps:=[]) (js:=[]) (cap:=trivial)) (pi_list (pv 1)) (fun _ _ _ _=>pts_nil) (fun _ _ _ _=>(pe_tup (pa_cons (pe_ix (r:=rIxT K) ix_tup (pv 0) pe_int (fun _ _=>rfl)) (pa_cons (pe_ix (r:=rIxT K) ix_tup (pv 0) pe_int (fun _ _=>rfl)) (pa_cons (pe_ix (r:=rIxT K) ix_tup (pv 0) pe_int (fun _ _=>rfl)) (pa_cons (pe_callTy (r:=rList K) call_list_of rfl z_list PyProof.Rows.boot_list (pa_cons (pe_ix (r:=rIxT K) ix_tup (pv 0) pe_int (fun _ _=>rfl)) pa_nil)) pa_nil))))))) pa_nil)))))))),?_⟩
 have el:(as.map V.ref).length=xs.length:=by rw [List.length_map,hws.l1]
 refine ⟨_,rfl,fa,F,rfl,hf,fun c=>q1 c _ (Same.refl _),fun ok=>?_⟩
 refine ⟨_,rfl,_,_,rfl,.inl (SqL.of hwq),_,_,rfl,rfl,_,rfl,?_⟩
 rw [el]
 refine ite2 (fun c=>?_) (fun c=>?_)
 ·have:=of_decide_eq_true c
  exact ⟨⟨trivial,trivial,trivial,trivial⟩,fun z=>⟨le1,q2 ⟨ok,by omega⟩ _ (Same.refl _)⟩⟩
 have c4:xs.length≤400:=Nat.le_of_not_lt fun z=>c (decide_eq_true (by omega))
 dsimp only [tNext]
 refine ⟨_,rfl,wq,rfl,⟨_,SqL.of hwq⟩,for_list (K:=K) (a:=wq) (xs:=as.map V.ref) (fun i σ H2=>Same H H2∧(∃ v:Option V,σ=[some (.ref fa),some (.ref wq),v])∧∀ (j:Nat) x,j < i→xs[j]? = some x→wxOk xs.length H x) ⟨Same.refl _,⟨none,rfl⟩,fun j x h=>absurd h (Nat.not_lt_zero _)⟩ (fun i σ H2 _ g=>SqL.of (g.1 _ _ hwq)) ?_ ?_⟩
 ·rintro i y σ H2 hy ⟨s2,⟨v,rfl⟩,hk⟩
  have hi:i < xs.length:=by rw [← el]; exact (List.getElem?_eq_some_iff.mp hy).1
  obtain ⟨a,f,x,f1,f2,f3,f4,f5⟩:=(hws.same s2).get hi
  rw [List.getElem?_map,f1] at hy
  cases hy
  dsimp only [gName]
  have ix:=hwi x (List.mem_of_getElem? f3)
  refine ⟨_,rfl,_,rfl,_,_,rfl,.inl (SqL.of (s2 _ _ hwq)),?_⟩
  rw [el]
  refine ⟨a,f,x,xs.length,rfl,f4,ix.same s2,fun c H3 s3=>q3 ⟨ok,c4,x,List.mem_of_getElem? f3,fun z=>c ((wxOk.same ix s2).mpr z)⟩ _ (s2.trans s3),fun c H3 s3=>?_⟩
  refine ⟨s2.trans s3,⟨_,rfl⟩,fun j z hj ez=>?_⟩
  by_cases cj:j < i
  ·exact hk j z cj ez
  ·have:j=i:=by omega
   rw [this,f3] at ez
   cases ez
   exact (wxOk.same ix s2).mp c
 rintro σ H1 ⟨s1,⟨v,rfl⟩,hk⟩
 have due:DueC H F xs 3:=⟨ok,c4,fun x hx=>by
  obtain ⟨j,hj,rfl⟩:=List.getElem_of_mem hx
  exact hk j _ (by rw [el]; exact hj) (List.getElem?_eq_getElem hj)⟩
 refine ⟨_,rfl,_,rfl,_,rfl,⟨_,SqL.of (s1 _ _ hwq)⟩,lc_list (K:=K) (a:=wq) (xs:=as.map V.ref) (fun i ys H2=>Same H1 H2∧∃ bs gs:List Addr,ys=bs.map V.ref∧WxS H2 bs gs (xs.take i)∧(∀ (i j:Nat) f,gs[i]? = some f→gs[j]? = some f→i=j)∧(∀ f ∈ gs,H1 f=none)) ⟨Same.refl _,[],[],rfl,WxS.nil,(fun i j f e=>by simp at e),fun f hf=>by cases hf⟩ (fun i ys H2 _ g=>SqL.of (g.1 _ _ (s1 _ _ hwq))) ?_ ?_ ?_⟩
 ·rintro i ys H2 hi ⟨s2,bs,gs,rfl,P,_⟩
  have bl:=P.l1
  rw [List.length_take] at bl
  exact szR (n:=500) (by omega) (by decide)
 ·rintro i y ys H2 hy ⟨s2,bs,gs,rfl,P,nd,fr⟩
  have hi:i < xs.length:=by rw [← hws.l1,← List.length_map (f:=V.ref)]; exact (List.getElem?_eq_some_iff.mp hy).1
  obtain ⟨a,f,x,f1,f2,f3,f4,f5⟩:=((hws.same s1).same s2).get hi
  rw [List.getElem?_map,f1] at hy
  cases hy
  have a1:=SqT.of (K:=K) f4.1
  refine yes_go ?_
  refine ⟨_,rfl,_,_,_,_,rfl,rfl,a1,rfl,_,rfl,_,_,_,_,rfl,rfl,a1,rfl,_,rfl,_,_,_,_,rfl,rfl,a1,rfl,_,rfl,_,_,_,_,rfl,rfl,a1,rfl,_,_,rfl,.inl (SqL.of f4.2),fun p1 hp1=>?_⟩
  have s3:=same_new hp1 (.lst (x.bs.map V.ref))
  have k3:(upd H2 p1 (.lst (x.bs.map V.ref))) p1=some (.lst (x.bs.map V.ref)):=upd_same
  generalize upd H2 p1 (.lst (x.bs.map V.ref))=H3 at s3 k3 ⊢
  refine ⟨le4,fun p2 hp2=>?_⟩
  have s4:=same_new hp2 (.tup [V.int x.lead,V.bl x.kept,V.ref x.sa,V.ref p1])
  have k4:wxAt (upd H3 p2 (.tup [V.int x.lead,V.bl x.kept,V.ref x.sa,V.ref p1])) p2 p1 x:=⟨upd_same,s4 _ _ k3⟩
  have ng:∀ f ∈ gs,f≠p1:=fun f hf e=>by
   obtain ⟨j,hj,rfl⟩:=List.getElem_of_mem hf
   obtain ⟨_,_,_,_,g2,_,g4,_⟩:=P.get (i:=j) (by rw [← P.l2]; exact hj)
   rw [List.getElem?_eq_getElem hj] at g2
   cases g2
   have:=g4.2
   rw [e,hp1] at this
   cases this
  refine ⟨s2.trans (s3.trans s4),bs++[p2],gs++[p1],refs_snoc _ _,?_,fun j j' f e1 e2=>?_,fun f hf=>?_⟩
  ·rw [List.take_add_one,f3]
   exact (P.same (s3.trans s4)).snoc k4
  ·rcases snoc_at e1 with ⟨k1,z1⟩ | ⟨k1,z1⟩
   ·rcases snoc_at e2 with ⟨k2,z2⟩ | ⟨k2,z2⟩
    ·exact nd j j' f k1 k2
    ·exact absurd k2 (ng f (List.mem_of_getElem? k1))
   ·rcases snoc_at e2 with ⟨k2,z2⟩ | ⟨k2,z2⟩
    ·exact absurd k1 (ng f (List.mem_of_getElem? k2))
    ·omega
  ·rcases List.mem_append.mp hf with hf | hf
   ·exact fr f hf
   ·rw [List.mem_singleton.mp hf]; exact s2.free hp1
 rintro ys H2 ⟨s2,bs,gs,rfl,P,nd,fr⟩ lq hlq
 rw [List.length_map,hws.l1,List.take_length] at P
 have s3:=same_new hlq (.lst (bs.map V.ref))
 have k3:(upd H2 lq (.lst (bs.map V.ref))) lq=some (.lst (bs.map V.ref)):=upd_same
 have P3:=P.same s3
 have nl:H1 lq=none:=s2.free hlq
 have ngl:∀ f ∈ gs,f≠lq:=fun f hf e=>by
  obtain ⟨j,hj,rfl⟩:=List.getElem_of_mem hf
  obtain ⟨_,_,_,_,g2,_,g4,_⟩:=P.get (i:=j) (by rw [← P.l2]; exact hj)
  rw [List.getElem?_eq_getElem hj] at g2
  cases g2
  have:=g4.2
  rw [e,hlq] at this
  cases this
 generalize upd H2 lq (.lst (bs.map V.ref))=H3 at s3 k3 P3 ⊢
 have t3:=s2.trans s3
 refine ⟨le2,fun q0 hq0=>?_⟩
 have s4:=same_new hq0 (.tup [V.ref fa,V.ref lq])
 exact q due q0 lq bs gs _ (s1.trans (t3.trans s4)) upd_same (s4 _ _ k3) (P3.same s4) nd (fun f hf=>⟨s1.free (fr f hf),ngl f hf⟩) (s1.free nl)
def sp_l_refused (K:PySem.W.Frag) : Sp:=fun vs H Q _=>∃ (fa wq:Addr) (F:Fr) (as fs:List Addr) (xs:List Wx) (c:Nat),vs=[.ref fa,.ref wq]∧H fa=some (.tup (frV F))∧H wq=some (.lst (as.map V.ref))∧WxS H as fs xs∧WxI H xs∧xs.length≤500∧c < 3∧DueC H F xs c∧∀ p H',Same H H'→H' p=some (.lst [.bl true,.bl (decide (c=0)),.bl (decide (c=1)),.bl (decide (c=2))])→Q (.ref p) H'
theorem sc_l_refused:FnScope ["form","words","kinds","e"] ["form","words"] (defScope s_l_refused):=⟨rfl,rfl,rfl,by decide +kernel,rfl,by decide +kernel,by decide +kernel⟩
theorem ok_l_refused (T:Txt P w K mg a) : FnOk P w K mg base CX0 4 a.f_l_refused a.fd_l_refused ["form","words"] (sp_l_refused K):=by
 have g_book_of:=ok_book_of (P:=P) (w:=w) (base:=base) T
 have d_book_of:=T.d_book_of
 have z_ValueError:=T.z_ValueError
 have z_isinstance:=T.z_isinstance
 have x_BadForm:=T.x_BadForm
 have x_BadWord:=T.x_BadWord
 have x_TooLong:=T.x_TooLong
 have x_TrueleafError:=T.x_TrueleafError
 refine T.d_l_refused.fn.ok sc_l_refused (fun vs H Q E h=>?_) (fun cdv A outer s H vs Q E hr h=>?_)
 ·obtain ⟨fa,wq,F,as,fs,xs,c,rfl,_⟩:=h
  rfl
 obtain ⟨fa,wq,F,as,fs,xs,c,rfl,hf,hwq,hws,hwi,l5,hc,hd,q⟩:=h
 have hu:=Nat.lt_of_succ_lt (hu_of hr)
 refine ⟨_,(pss_cons (ps_set (i:=2) sc_l_refused.nd rfl (Or.inl rfl) pe_non)
   (pss_cons (ps_try_as (i:=3) sc_l_refused.nd rfl rfl d_book_of g_book_of (hr.mono (by decide)) rfl (fun _=>(pa_cons (pv 0) (pa_cons (pv 1) pa_nil))) rfl x_TrueleafError ⟨rfl,rfl⟩ (fun _=>(pss_one (ps_set (i:=2) sc_l_refused.nd rfl (Or.inl rfl) (pe_lst (pa_cons (pe_callB (r:=rIsiX K) call_isiX rfl z_isinstance PyProof.Rows.boot_isinstance (pa_cons (pv 3) (pa_cons (pe_bltn (v:=.ty "ValueError") rfl z_ValueError boot_ValueError rfl) pa_nil))) (pa_cons (pe_callB (r:=rIsiX K) call_isiX rfl z_isinstance PyProof.Rows.boot_isinstance (pa_cons (pv 3) (pa_cons (pe_glob (v:=.ref a.c_BadForm) rfl x_BadForm.mg rfl) pa_nil))) (pa_cons (pe_callB (r:=rIsiX K) call_isiX rfl z_isinstance PyProof.Rows.boot_isinstance (pa_cons (pv 3) (pa_cons (pe_glob (v:=.ref a.c_TooLong) rfl x_TooLong.mg rfl) pa_nil))) (pa_cons (pe_callB (r:=rIsiX K) call_isiX rfl z_isinstance PyProof.Rows.boot_isinstance (pa_cons (pv 3) (pa_cons (pe_glob (v:=.ref a.c_BadWord) rfl x_BadWord.mg rfl) pa_nil))) pa_nil)))))))))
   (pss_one (ps_ret (pv 2))))),?_⟩
 have hc4:c < 4:=by omega
 refine cut_seq (fun σ' H'=>H' = H∧σ' = [some (.ref fa),some (.ref wq),some .non,none]) ?_ (fun key=>key _ _ ⟨rfl,rfl⟩)
 rintro σ' H' ⟨eH,rfl⟩
 rw [eH]
 clear eH
 refine ⟨_,rfl,_,rfl,fa,wq,F,as,fs,xs,rfl,hf,hwq,hws,hwi,l5,fun d H1 s1=>⟨_,rfl,T.t_BadForm_TrueleafError,fun x hx=>?_⟩,fun d H1 s1=>⟨_,rfl,T.t_TooLong_TrueleafError,fun x hx=>?_⟩,fun d H1 s1=>⟨_,rfl,T.t_BadWord_TrueleafError,fun x hx=>?_⟩,fun d=>absurd (due_uniq hc4 (by decide) hd d) (by omega)⟩
 ·have e:=due_uniq hc4 (by decide) hd d
  subst e
  have s5:=same_new hx (excO x a.c_BadForm)
  have k5:(upd H1 x (excO x a.c_BadForm)) x=some (excO x a.c_BadForm):=upd_same
  generalize upd H1 x (excO x a.c_BadForm)=H5 at s5 k5 ⊢
  refine ⟨_,rfl,x,a.c_BadForm,_,true,rfl,k5,T.lk_BadForm,.inr ⟨_,rfl,T.ki_BadForm_ValueError⟩,_,rfl,x,a.c_BadForm,_,true,rfl,k5,T.lk_BadForm,.inl ⟨_,rfl,T.ki_BadForm_BadForm⟩,_,rfl,x,a.c_BadForm,_,false,rfl,k5,T.lk_BadForm,.inl ⟨_,rfl,T.ki_BadForm_TooLong⟩,_,rfl,x,a.c_BadForm,_,false,rfl,k5,T.lk_BadForm,.inl ⟨_,rfl,T.ki_BadForm_BadWord⟩,le4,fun p hp=>?_⟩
  exact ⟨_,rfl,q p _ (s1.trans (s5.trans (same_new hp _))) upd_same⟩
 ·have e:=due_uniq hc4 (by decide) hd d
  subst e
  have s5:=same_new hx (excO x a.c_TooLong)
  have k5:(upd H1 x (excO x a.c_TooLong)) x=some (excO x a.c_TooLong):=upd_same
  generalize upd H1 x (excO x a.c_TooLong)=H5 at s5 k5 ⊢
  refine ⟨_,rfl,x,a.c_TooLong,_,true,rfl,k5,T.lk_TooLong,.inr ⟨_,rfl,T.ki_TooLong_ValueError⟩,_,rfl,x,a.c_TooLong,_,false,rfl,k5,T.lk_TooLong,.inl ⟨_,rfl,T.ki_TooLong_BadForm⟩,_,rfl,x,a.c_TooLong,_,true,rfl,k5,T.lk_TooLong,.inl ⟨_,rfl,T.ki_TooLong_TooLong⟩,_,rfl,x,a.c_TooLong,_,false,rfl,k5,T.lk_TooLong,.inl ⟨_,rfl,T.ki_TooLong_BadWord⟩,le4,fun p hp=>?_⟩
  exact ⟨_,rfl,q p _ (s1.trans (s5.trans (same_new hp _))) upd_same⟩
 ·have e:=due_uniq hc4 (by decide) hd d
  subst e
  have s5:=same_new hx (excO x a.c_BadWord)
  have k5:(upd H1 x (excO x a.c_BadWord)) x=some (excO x a.c_BadWord):=upd_same
  generalize upd H1 x (excO x a.c_BadWord)=H5 at s5 k5 ⊢
  refine ⟨_,rfl,x,a.c_BadWord,_,true,rfl,k5,T.lk_BadWord,.inr ⟨_,rfl,T.ki_BadWord_ValueError⟩,_,rfl,x,a.c_BadWord,_,false,rfl,k5,T.lk_BadWord,.inl ⟨_,rfl,T.ki_BadWord_BadForm⟩,_,rfl,x,a.c_BadWord,_,false,rfl,k5,T.lk_BadWord,.inl ⟨_,rfl,T.ki_BadWord_TooLong⟩,_,rfl,x,a.c_BadWord,_,true,rfl,k5,T.lk_BadWord,.inl ⟨_,rfl,T.ki_BadWord_BadWord⟩,le4,fun p hp=>?_⟩
  exact ⟨_,rfl,q p _ (s1.trans (s5.trans (same_new hp _))) upd_same⟩

def sp_l_whole:Sp:=fun vs H Q _=>∃ i:Int,vs=[.int i]∧Q (.bl true) H
theorem sc_l_whole:FnScope ["found"] ["found"] (defScope s_l_whole):=⟨rfl,rfl,rfl,by decide +kernel,rfl,by decide +kernel,by decide +kernel⟩
theorem ok_l_whole (T:Txt P w K mg a) : FnOk P w K mg base CX0 1 a.f_l_whole a.fd_l_whole ["found"] sp_l_whole:=by
 have z_bool:=T.z_bool
 have z_int:=T.z_int
 have z_isinstance:=T.z_isinstance
 refine T.d_l_whole.fn.ok sc_l_whole (fun vs H Q E h=>?_) (fun cdv A outer s H vs Q E hr h=>?_)
 ·obtain ⟨i,rfl,_⟩:=h
  rfl
 obtain ⟨i,rfl,q⟩:=h
 have hu:=Nat.lt_of_succ_lt (hu_of hr)
 refine ⟨_,(pss_one (ps_ret (pe_and (pe_callB call_isi rfl z_isinstance PyProof.Rows.boot_isinstance (pa_cons (pv 0) (pa_cons (pe_bltn (v:=.ty "int") rfl z_int PyProof.Rows.boot_int rfl) pa_nil))) (pe_one (pe_not (pe_callB call_isi rfl z_isinstance PyProof.Rows.boot_isinstance (pa_cons (pv 0) (pa_cons (pe_bltn (v:=.ty "bool") rfl z_bool PyProof.Rows.boot_bool rfl) pa_nil)))))))),?_⟩
 refine ⟨_,rfl,_,"int",true,rfl,(by (first | decide | (show (0:Int) < _; first | decide | omega))),rfl,_,rfl,?_⟩
 refine iteT ?_
 exact ⟨_,rfl,_,"bool",false,rfl,(by (first | decide | (show (0:Int) < _; first | decide | omega))),rfl,_,rfl,q⟩
def sp_l_saying_kinds (K:PySem.W.Frag) : Sp:=fun vs H Q _=>∃ (sa:Addr),vs=[.ref sa]∧IsS H sa∧Q (.bl true) H
theorem sc_l_saying_kinds:FnScope ["saying"] ["saying"] (defScope s_l_saying_kinds):=⟨rfl,rfl,rfl,by decide +kernel,rfl,by decide +kernel,by decide +kernel⟩
theorem ok_l_saying_kinds (T:Txt P w K mg a) : FnOk P w K mg base CX0 2 a.f_l_saying_kinds a.fd_l_saying_kinds ["saying"] (sp_l_saying_kinds K):=by
 have g_l_whole:=ok_l_whole (P:=P) (w:=w) (base:=base) T
 have d_l_whole:=T.d_l_whole
 have z_isinstance:=T.z_isinstance
 have z_len:=T.z_len
 have z_str:=T.z_str
 have z_tuple:=T.z_tuple
 refine T.d_l_saying_kinds.fn.ok sc_l_saying_kinds (fun vs H Q E h=>?_) (fun cdv A outer s H vs Q E hr h=>?_)
 ·obtain ⟨sa,rfl,_⟩:=h
  rfl
 obtain ⟨sa,rfl,hs,q⟩:=h
 have hu:=Nat.lt_of_succ_lt (hu_of hr)
 refine ⟨_,(pss_cons (ps_if (PW.pt (pw_or (pt_not (pt_val (pe_callB call_isi rfl z_isinstance PyProof.Rows.boot_isinstance (pa_cons (pv 0) (pa_cons (pe_bltn (v:=.ty "tuple") rfl z_tuple PyProof.Rows.boot_tuple rfl) pa_nil))) (fun _=>rfl))) (pw_or (pt_cmpR op_ne (pe_callB call_len_seq rfl z_len PySem.boot_len (pa_cons (pv 0) pa_nil)) pe_int (nomark _)) (pw_or1 (pt_not (pt_val (pe_callB call_isi rfl z_isinstance PyProof.Rows.boot_isinstance (pa_cons (pe_ix ix_tup (pv 0) pe_int (fun _ _=>rfl)) (pa_cons (pe_bltn (v:=.ty "str") rfl z_str PyProof.Rows.boot_str rfl) pa_nil))) (fun _=>rfl))))))) (pss_one (ps_ret pe_bl)) pss_nil)
   (pss_one (ps_ret (pe_or (pe_callB call_isi rfl z_isinstance PyProof.Rows.boot_isinstance (pa_cons (pe_ix ix_tup (pv 0) pe_int (fun _ _=>rfl)) (pa_cons (pe_bltn (v:=.ty "str") rfl z_str PyProof.Rows.boot_str rfl) pa_nil))) (pe_one (pe_callD d_l_whole g_l_whole (hr.mono (by decide)) rfl (pa_cons (pe_ix ix_tup (pv 0) pe_int (fun _ _=>rfl)) pa_nil))))))),?_⟩
 obtain ⟨s,h0,sm⟩:=hs
 have h1:=SqT.of (K:=K) h0
 cases s with
 | text l =>
  refine ⟨_,rfl,_,"tuple",true,rfl,(by decide),.inr ⟨⟨_,h1⟩,rfl⟩,_,rfl,?_⟩
  refine iteF ?_
  refine ⟨_,rfl,_,_,rfl,.inr h1,rfl,_,rfl,?_⟩
  refine iteF ?_
  refine ⟨_,rfl,_,_,_,_,rfl,rfl,h1,rfl,_,"str",true,rfl,(by decide),rfl,_,rfl,?_⟩
  refine iteF ?_
  dsimp only [tNext]
  refine ⟨_,rfl,_,_,_,_,rfl,rfl,h1,rfl,_,"str",true,rfl,(by decide),rfl,_,rfl,?_⟩
  refine iteT ?_
  exact q
 | num k n =>
  refine ⟨_,rfl,_,"tuple",true,rfl,(by decide),.inr ⟨⟨_,h1⟩,rfl⟩,_,rfl,?_⟩
  refine iteF ?_
  refine ⟨_,rfl,_,_,rfl,.inr h1,rfl,_,rfl,?_⟩
  refine iteF ?_
  refine ⟨_,rfl,_,_,_,_,rfl,rfl,h1,rfl,_,"str",true,rfl,(by decide),rfl,_,rfl,?_⟩
  refine iteF ?_
  dsimp only [tNext]
  refine ⟨_,rfl,_,_,_,_,rfl,rfl,h1,rfl,_,"str",false,rfl,(by decide),rfl,_,rfl,?_⟩
  refine iteF ?_
  exact ⟨_,rfl,_,_,_,_,rfl,rfl,h1,rfl,n,rfl,q⟩
def sp_l_word_kinds (K:PySem.W.Frag) : Sp:=fun vs H Q _=>∃ (wa fo:Addr) (x:Wx),vs=[.ref wa]∧wxAt H wa fo x∧wxIn H x∧∀ H',Same H H'→Q (.bl true) H'
theorem sc_l_word_kinds:FnScope ["word"] ["word"] (defScope s_l_word_kinds):=⟨rfl,rfl,rfl,by decide +kernel,rfl,by decide +kernel,by decide +kernel⟩
theorem ok_l_word_kinds (T:Txt P w K mg a) : FnOk P w K mg base CX0 3 a.f_l_word_kinds a.fd_l_word_kinds ["word"] (sp_l_word_kinds K):=by
 have g_l_saying_kinds:=ok_l_saying_kinds (P:=P) (w:=w) (base:=base) T
 have d_l_saying_kinds:=T.d_l_saying_kinds
 have g_l_whole:=ok_l_whole (P:=P) (w:=w) (base:=base) T
 have d_l_whole:=T.d_l_whole
 have z_all:=T.z_all
 have z_bool:=T.z_bool
 have z_isinstance:=T.z_isinstance
 have z_len:=T.z_len
 have z_list:=T.z_list
 have z_tuple:=T.z_tuple
 refine T.d_l_word_kinds.fn.ok sc_l_word_kinds (fun vs H Q E h=>?_) (fun cdv A outer s H vs Q E hr h=>?_)
 ·obtain ⟨wa,fo,x,rfl,_⟩:=h
  rfl
 obtain ⟨wa,fo,x,rfl,ha,hx,q⟩:=h
 have hu:=Nat.lt_of_succ_lt (hu_of hr)
 refine ⟨_,(pss_cons (ps_if (PW.pt (pw_or (pt_not (pt_val (pe_callB call_isi rfl z_isinstance PyProof.Rows.boot_isinstance (pa_cons (pv 0) (pa_cons (pe_bltn (v:=.ty "tuple") rfl z_tuple PyProof.Rows.boot_tuple rfl) pa_nil))) (fun _=>rfl))) (pw_or (pt_cmpR op_ne (pe_callB call_len_seq rfl z_len PySem.boot_len (pa_cons (pv 0) pa_nil)) pe_int (nomark _)) (pw_or (pt_not (pt_val (pe_callD d_l_whole g_l_whole (hr.mono (by decide)) rfl (pa_cons (pe_ix ix_tup (pv 0) pe_int (fun _ _=>rfl)) pa_nil)) (fun _=>rfl))) (pw_or1 (pt_not (pt_val (pe_callB call_isi rfl z_isinstance PyProof.Rows.boot_isinstance (pa_cons (pe_ix ix_tup (pv 0) pe_int (fun _ _=>rfl)) (pa_cons (pe_bltn (v:=.ty "bool") rfl z_bool PyProof.Rows.boot_bool rfl) pa_nil))) (fun _=>rfl)))))))) (pss_one (ps_ret pe_bl)) pss_nil)
   (pss_cons (ps_if (pt_not (pt_val (pe_callB call_isi rfl z_isinstance PyProof.Rows.boot_isinstance (pa_cons (pe_ix ix_tup (pv 0) pe_int (fun _ _=>rfl)) (pa_cons (pe_bltn (v:=.ty "list") rfl z_list PyProof.Rows.boot_list rfl) pa_nil))) (fun _=>rfl))) (pss_one (ps_ret pe_bl)) pss_nil)
   (pss_one (ps_ret (pe_callB (call_all rfl) rfl z_all PyProof.Rows.boot_all (pa_cons (pe_lc rfl (lcok (caps:=[]) (js:=[]) (cap:=trivial)) (pi_list (pe_op op_cat (pe_lst (pa_cons (pe_ix ix_tup (pv 0) pe_int (fun _ _=>rfl)) pa_nil)) (pe_ix ix_tup (pv 0) pe_int (fun _ _=>rfl)))) (fun _ _ _ _=>pts_nil) (fun _ _ _ _=>(pe_callD d_l_saying_kinds g_l_saying_kinds (hr.mono (by decide)) rfl (pa_cons (pv 0) pa_nil)))) pa_nil)))))),?_⟩
 have h1:=SqT.of (K:=K) ha.1
 have l60:=hx.1
 have lsb:(x.bs.map V.ref).length=x.bs.length:=List.length_map ..
 refine ⟨_,rfl,_,"tuple",true,rfl,(by decide),.inr ⟨⟨_,h1⟩,rfl⟩,_,rfl,?_⟩
 refine iteF ?_
 refine ⟨_,rfl,_,_,rfl,.inr h1,rfl,_,rfl,?_⟩
 refine iteF ?_
 refine ⟨_,rfl,_,_,_,_,rfl,rfl,h1,rfl,_,rfl,_,rfl,?_⟩
 refine iteF ?_
 refine ⟨_,rfl,_,_,_,_,rfl,rfl,h1,rfl,_,"bool",true,rfl,(by decide),rfl,_,rfl,?_⟩
 refine iteF ?_
 dsimp only [tNext]
 refine ⟨_,rfl,_,_,_,_,rfl,rfl,h1,rfl,_,"list",true,rfl,(by decide),.inl ⟨⟨_,SqL.of ha.2⟩,rfl⟩,_,rfl,?_⟩
 refine iteF ?_
 dsimp only [tNext]
 refine ⟨_,rfl,_,_,_,_,rfl,rfl,h1,rfl,le1,fun p1 hp1=>?_⟩
 have s1:=same_new hp1 (.lst [V.ref x.sa])
 have k1:(upd H p1 (.lst [V.ref x.sa])) p1=some (.lst [V.ref x.sa]):=upd_same
 generalize upd H p1 (.lst [V.ref x.sa])=H1 at s1 k1 ⊢
 refine ⟨_,rfl,_,_,_,_,rfl,rfl,SqT.of (s1 _ _ ha.1),rfl,_,_,_,_,rfl,rfl,k1,s1 _ _ ha.2,(by rw [lsb]; exact small (by show 1+_≤_; omega)),fun p2 hp2=>?_⟩
 have ec:[V.ref x.sa]++x.bs.map V.ref=(x.sa :: x.bs).map V.ref:=rfl
 rw [ec]
 have s2:=same_new hp2 (.lst ((x.sa :: x.bs).map V.ref))
 have k2:(upd H1 p2 (.lst ((x.sa :: x.bs).map V.ref))) p2=some (.lst ((x.sa :: x.bs).map V.ref)):=upd_same
 generalize upd H1 p2 (.lst ((x.sa :: x.bs).map V.ref))=H2 at s2 k2 ⊢
 have t2:=s1.trans s2
 refine ⟨p2,rfl,⟨_,SqL.of (K:=K) k2⟩,lc_list (K:=K) (a:=p2) (xs:=(x.sa :: x.bs).map V.ref) (fun i ys G=>Same H2 G∧ys=(List.replicate i true).map V.bl) ⟨Same.refl _,rfl⟩ (fun i ys G _ g=>g.1.seq (SqL.of (K:=K) k2)) ?_ ?_ ?_⟩
 ·rintro i ys G hi ⟨_,rfl⟩
  rw [List.length_map,List.length_replicate]
  exact Nat.lt_of_lt_of_le (show i < 1000 by rw [List.length_map] at hi; simp at hi; omega) (small (Nat.le_refl _))
 ·rintro i y ys G hy ⟨sG,rfl⟩
  refine yes_go ?_
  rw [List.getElem?_map] at hy
  obtain ⟨b0,e1,rfl⟩:=Option.map_eq_some_iff.mp hy
  exact ⟨_,rfl,b0,rfl,(hx.2 b0 (List.mem_of_getElem? e1)).same (t2.trans sG),sG,rep_snoc i⟩
 rintro ys G1 ⟨sG1,rfl⟩ pg1 hpg1
 have sh1:=same_new hpg1 (.lst ((List.replicate ((x.sa :: x.bs).map V.ref).length true).map V.bl))
 have kh1:(upd G1 pg1 (.lst ((List.replicate ((x.sa :: x.bs).map V.ref).length true).map V.bl))) pg1=some (.lst ((List.replicate ((x.sa :: x.bs).map V.ref).length true).map V.bl)):=upd_same
 generalize upd G1 pg1 (.lst ((List.replicate ((x.sa :: x.bs).map V.ref).length true).map V.bl))=L1 at sh1 kh1 ⊢
 have tg1:=sG1.trans sh1
 refine ⟨pg1,_,rfl,SqL.of kh1,?_⟩
 rw [all_rep]
 exact q _ (t2.trans tg1)
def sp_l_is_book (K:PySem.W.Frag) : Sp:=fun vs H Q _=>∃ (q0 fa wq lq:Addr) (F:Fr) (bs gs as fs:List Addr) (xs:List Wx),vs=[.ref q0,.ref fa,.ref wq]∧H q0=some (.tup [.ref fa,.ref lq])∧H lq=some (.lst (bs.map V.ref))∧WxS H bs gs xs∧H wq=some (.lst (as.map V.ref))∧WxS H as fs xs∧WxI H xs∧H fa=some (.tup (frV F))∧xs.length≤500∧∀ H',Same H H'→Q (.bl true) H'
theorem sc_l_is_book:FnScope ["found","form","words"] ["found","form","words"] (defScope s_l_is_book):=⟨rfl,rfl,rfl,by decide +kernel,rfl,by decide +kernel,by decide +kernel⟩
theorem ok_l_is_book (T:Txt P w K mg a) : FnOk P w K mg base CX0 4 a.f_l_is_book a.fd_l_is_book ["found","form","words"] (sp_l_is_book K):=by
 have g_l_whole:=ok_l_whole (P:=P) (w:=w) (base:=base) T
 have d_l_whole:=T.d_l_whole
 have g_l_word_kinds:=ok_l_word_kinds (P:=P) (w:=w) (base:=base) T
 have d_l_word_kinds:=T.d_l_word_kinds
 have z_all:=T.z_all
 have z_isinstance:=T.z_isinstance
 have z_len:=T.z_len
 have z_list:=T.z_list
 have z_tuple:=T.z_tuple
 refine T.d_l_is_book.fn.ok sc_l_is_book (fun vs H Q E h=>?_) (fun cdv A outer s H vs Q E hr h=>?_)
 ·obtain ⟨q0,fa,wq,lq,F,bs,gs,as,fs,xs,rfl,_⟩:=h
  rfl
 obtain ⟨q0,fa,wq,lq,F,bs,gs,as,fs,xs,rfl,hq,hlq,hP,hwq,hws,hwi,hf,l5,q⟩:=h
 have hu:=Nat.lt_of_succ_lt (hu_of hr)
 refine ⟨_,(pss_cons (ps_if (PW.pt (pw_or (pt_not (pt_val (pe_callB call_isi rfl z_isinstance PyProof.Rows.boot_isinstance (pa_cons (pv 0) (pa_cons (pe_bltn (v:=.ty "tuple") rfl z_tuple PyProof.Rows.boot_tuple rfl) pa_nil))) (fun _=>rfl))) (pw_or (pt_cmpR op_ne (pe_callB call_len_seq rfl z_len PySem.boot_len (pa_cons (pv 0) pa_nil)) pe_int (nomark _)) (pw_or1 (pt_not (pt_val (pe_callB call_isi rfl z_isinstance PyProof.Rows.boot_isinstance (pa_cons (pe_ix ix_tup (pv 0) pe_int (fun _ _=>rfl)) (pa_cons (pe_bltn (v:=.ty "tuple") rfl z_tuple PyProof.Rows.boot_tuple rfl) pa_nil))) (fun _=>rfl))))))) (pss_one (ps_ret pe_bl)) pss_nil)
   (pss_cons (ps_if (PW.pt (pw_or (pt_not (pt_val (pe_callB call_isi rfl z_isinstance PyProof.Rows.boot_isinstance (pa_cons (pe_ix ix_tup (pv 0) pe_int (fun _ _=>rfl)) (pa_cons (pe_bltn (v:=.ty "list") rfl z_list PyProof.Rows.boot_list rfl) pa_nil))) (fun _=>rfl))) (pw_or1 (pt_not (pt_val (pe_callB (call_all rfl) rfl z_all PyProof.Rows.boot_all (pa_cons (pe_lc rfl (lcok (caps:=[]) (js:=[]) (cap:=trivial)) (pi_tup (pe_ix ix_tup (pv 0) pe_int (fun _ _=>rfl))) (fun _ _ _ _=>pts_nil) (fun _ _ _ _=>(pe_callD d_l_whole g_l_whole (hr.mono (by decide)) rfl (pa_cons (pv 0) pa_nil)))) pa_nil)) (fun _=>rfl)))))) (pss_one (ps_ret pe_bl)) pss_nil)
   (pss_one (ps_ret (pe_and (pe_callB (call_all rfl) rfl z_all PyProof.Rows.boot_all (pa_cons (pe_lc rfl (lcok (caps:=[]) (js:=[]) (cap:=trivial)) (pi_list (pe_ix ix_tup (pv 0) pe_int (fun _ _=>rfl))) (fun _ _ _ _=>pts_nil) (fun _ _ _ _=>(pe_callD d_l_word_kinds g_l_word_kinds (hr.mono (by decide)) rfl (pa_cons (pv 0) pa_nil)))) pa_nil)) (pe_one (pe_cmpR (op_eqQ (hu100 hr)) (pv 0) (pe_tup (pa_cons (pv 1) (pa_cons (pv 2) pa_nil))) (nomark _)))))))),?_⟩
 have h1:=SqT.of (K:=K) hq
 have hf':=SqT.of (K:=K) hf
 have el:(bs.map V.ref).length=xs.length:=by rw [List.length_map,hP.l1]
 refine ⟨_,rfl,_,"tuple",true,rfl,(by decide),.inr ⟨⟨_,h1⟩,rfl⟩,_,rfl,?_⟩
 refine iteF ?_
 refine ⟨_,rfl,_,_,rfl,.inr h1,rfl,_,rfl,?_⟩
 refine iteF ?_
 refine ⟨_,rfl,_,_,_,_,rfl,rfl,h1,rfl,_,"tuple",true,rfl,(by decide),.inr ⟨⟨_,hf'⟩,rfl⟩,_,rfl,?_⟩
 refine iteF ?_
 dsimp only [tNext]
 refine ⟨_,rfl,_,_,_,_,rfl,rfl,h1,rfl,_,"list",true,rfl,(by decide),.inl ⟨⟨_,SqL.of hlq⟩,rfl⟩,_,rfl,?_⟩
 refine iteF ?_
 refine ⟨_,rfl,_,_,_,_,rfl,rfl,h1,rfl,fa,rfl,⟨_,hf'⟩,lc_tup (K:=K) (a:=fa) (xs:=frV F) (fun i ys G=>Same H G∧ys=(List.replicate i true).map V.bl) ⟨Same.refl _,rfl⟩ (fun i ys G _ g=>g.1.tup (hf')) ?_ ?_ ?_⟩
 ·rintro i ys G hi ⟨_,rfl⟩
  rw [List.length_map,List.length_replicate]
  exact Nat.lt_of_lt_of_le (show i < 1000 from Nat.lt_trans hi (by show 4 < 1000; decide)) (small (Nat.le_refl _))
 ·rintro i y ys G hy ⟨sG,rfl⟩
  refine yes_go ?_
  obtain ⟨n,rfl⟩:=frV_at hy
  exact ⟨_,rfl,n,rfl,sG,rep_snoc i⟩
 rintro ys G1 ⟨sG1,rfl⟩ pg1 hpg1
 have sh1:=same_new hpg1 (.lst ((List.replicate (frV F).length true).map V.bl))
 have kh1:(upd G1 pg1 (.lst ((List.replicate (frV F).length true).map V.bl))) pg1=some (.lst ((List.replicate (frV F).length true).map V.bl)):=upd_same
 generalize upd G1 pg1 (.lst ((List.replicate (frV F).length true).map V.bl))=L1 at sh1 kh1 ⊢
 have tg1:=sG1.trans sh1
 refine ⟨pg1,_,rfl,SqL.of kh1,_,rfl,?_⟩
 rw [all_rep]
 refine iteF ?_
 dsimp only [tNext]
 refine ⟨_,rfl,_,_,_,_,rfl,rfl,SqT.of (tg1 _ _ hq),rfl,lq,rfl,⟨_,SqL.of (K:=K) (tg1 _ _ hlq)⟩,lc_list (K:=K) (a:=lq) (xs:=bs.map V.ref) (fun i ys G=>Same L1 G∧ys=(List.replicate i true).map V.bl) ⟨Same.refl _,rfl⟩ (fun i ys G _ g=>g.1.seq (SqL.of (K:=K) (tg1 _ _ hlq))) ?_ ?_ ?_⟩
 ·rintro i ys G hi ⟨_,rfl⟩
  rw [List.length_map,List.length_replicate]
  exact Nat.lt_of_lt_of_le (show i < 1000 by rw [el] at hi; omega) (small (Nat.le_refl _))
 ·rintro i y ys G hy ⟨sG,rfl⟩
  refine yes_go ?_
  have hi:i < xs.length:=by rw [← el]; exact (List.getElem?_eq_some_iff.mp hy).1
  obtain ⟨b,f,x,f1,f2,f3,f4,f5⟩:=(hP.same (tg1.trans sG)).get hi
  rw [List.getElem?_map,f1] at hy
  cases hy
  exact ⟨_,rfl,b,f,x,rfl,f4,(hwi x (List.mem_of_getElem? f3)).same (tg1.trans sG),fun G' sG'=>⟨sG.trans sG',rep_snoc i⟩⟩
 rintro ys G2 ⟨sG2,rfl⟩ pg2 hpg2
 have sh2:=same_new hpg2 (.lst ((List.replicate (bs.map V.ref).length true).map V.bl))
 have kh2:(upd G2 pg2 (.lst ((List.replicate (bs.map V.ref).length true).map V.bl))) pg2=some (.lst ((List.replicate (bs.map V.ref).length true).map V.bl)):=upd_same
 generalize upd G2 pg2 (.lst ((List.replicate (bs.map V.ref).length true).map V.bl))=L2 at sh2 kh2 ⊢
 have tg2:=sG2.trans sh2
 refine ⟨pg2,_,rfl,SqL.of kh2,_,rfl,?_⟩
 rw [all_rep]
 refine iteT ?_
 have tt:=tg1.trans tg2
 refine ⟨_,rfl,_,rfl,_,rfl,le2,fun p1 hp1=>?_⟩
 have s9:=same_new hp1 (.tup [V.ref fa,V.ref wq])
 have t9:=tt.trans s9
 exact ⟨3,q0,p1,_,_,by decide,rfl,rfl,.inr ⟨SqT.of (t9 _ _ hq),SqT.of upd_same⟩,rfl,bx_dq (t9 _ _ hlq) (t9 _ _ hwq) (hP.same t9) (hws.same t9),q _ t9⟩
def sp_l_told_apart (K:PySem.W.Frag) : Sp:=fun vs H Q _=>∃ (fa wq:Addr) (F:Fr) (as fs:List Addr) (xs:List Wx) (k:Nat),vs=[.ref fa,.ref wq,.int (k:Int)]∧H fa=some (.tup (frV F))∧H wq=some (.lst (as.map V.ref))∧WxS H as fs xs∧WxI H xs∧xs.length≤500∧DueC H F xs 3∧k < xs.length∧∀ H',Q (.bl true) H'
theorem sc_l_told_apart:FnScope ["form","words","at","handed","found"] ["form","words","at"] (defScope s_l_told_apart):=⟨rfl,rfl,rfl,by decide +kernel,rfl,by decide +kernel,by decide +kernel⟩
theorem ok_l_told_apart (T:Txt P w K mg a) : FnOk P w K mg base CX0 5 a.f_l_told_apart a.fd_l_told_apart ["form","words","at"] (sp_l_told_apart K):=by
 have g_l_copied:=ok_l_copied (P:=P) (w:=w) (base:=base) T
 have d_l_copied:=T.d_l_copied
 have g_l_is_book:=ok_l_is_book (P:=P) (w:=w) (base:=base) T
 have d_l_is_book:=T.d_l_is_book
 have g_book_of:=ok_book_of (P:=P) (w:=w) (base:=base) T
 have d_book_of:=T.d_book_of
 refine T.d_l_told_apart.fn.ok sc_l_told_apart (fun vs H Q E h=>?_) (fun cdv A outer s H vs Q E hr h=>?_)
 ·obtain ⟨fa,wq,F,as,fs,xs,k,rfl,_⟩:=h
  rfl
 obtain ⟨fa,wq,F,as,fs,xs,k,rfl,hf,hwq,hws,hwi,l5,due,hk,q⟩:=h
 have hu:=Nat.lt_of_succ_lt (hu_of hr)
 refine ⟨_,(pss_cons (ps_set (i:=3) sc_l_told_apart.nd rfl (Or.inl rfl) (pe_callD d_l_copied g_l_copied (hr.mono (by decide)) rfl (pa_cons (pv 1) pa_nil)))
   (pss_cons (ps_set (i:=4) sc_l_told_apart.nd rfl (Or.inl rfl) (pe_callX pass_never d_book_of g_book_of (hr.mono (by decide)) rfl (pa_cons (pv 0) (pa_cons (pv 3) pa_nil))))
   (pss_cons (ps_if (PW.pt (pw_or (pt_not (pt_val (pe_callD d_l_is_book g_l_is_book (hr.mono (by decide)) rfl (pa_cons (pv 4) (pa_cons (pv 0) (pa_cons (pv 1) pa_nil)))) (fun _=>rfl))) (pw_or1 (pt_cmpR (op_neQ (hu100 hr)) (pv 3) (pv 1) (nomark _))))) (pss_one (ps_ret pe_bl)) pss_nil)
   (pss_cons (ps_expr (pe_bm PySem.F.plainAttrs_list PySem.F.slot_list_append PySem.F.type_list_append mt_append (pe_ix ix_tup (pe_ix ix_list (pe_ix ix_tup (pv 4) pe_int (fun _ _=>rfl)) (pv 2) (fun _ _=>rfl)) pe_int (fun _ _=>rfl)) (pa_cons (pe_tup (pa_cons pe_str (pa_cons pe_str pa_nil))) pa_nil)))
   (pss_cons (ps_if (PW.pt (pw_or (pt_cmpR (op_neQ (hu100 hr)) (pv 3) (pv 1) (nomark _)) (pw_or (pt_cmpR (op_neQ (hu100 hr)) (pe_slice sl_list (pe_ix ix_tup (pv 4) pe_int (fun _ _=>rfl)) po_none (po_some (pv 2))) (pe_slice sl_list (pv 1) po_none (po_some (pv 2))) (nomark _)) (pw_or1 (pt_cmpR (op_neQ (hu100 hr)) (pe_slice sl_list (pe_ix ix_tup (pv 4) pe_int (fun _ _=>rfl)) (po_some (pe_op op_add (pv 2) pe_int)) po_none) (pe_slice sl_list (pv 1) (po_some (pe_op op_add (pv 2) pe_int)) po_none) (nomark _)))))) (pss_one (ps_ret pe_bl)) pss_nil)
   (pss_cons (ps_if (pt_cmpR (op_neQ (hu100 hr)) (pe_slice sl_list (pe_ix ix_tup (pe_ix ix_list (pe_ix ix_tup (pv 4) pe_int (fun _ _=>rfl)) (pv 2) (fun _ _=>rfl)) pe_int (fun _ _=>rfl)) po_none (po_some (pe_un un_neg pe_int))) (pe_ix ix_tup (pe_ix ix_list (pv 1) (pv 2) (fun _ _=>rfl)) pe_int (fun _ _=>rfl)) (nomark _)) (pss_one (ps_ret pe_bl)) pss_nil)
   (pss_cons (ps_expr (pe_bm0 PySem.F.plainAttrs_list PySem.F.slot_list_clear PySem.F.type_list_clear mt_clear (pe_ix ix_tup (pv 4) pe_int (fun _ _=>rfl))))
   (pss_cons (ps_set (i:=4) sc_l_told_apart.nd rfl (Or.inl rfl) (pe_callX pass_never d_book_of g_book_of (hr.mono (by decide)) rfl (pa_cons (pv 0) (pa_cons (pv 3) pa_nil))))
   (pss_cons (ps_if (PW.pt (pw_or (pt_cmpR (op_neQ (hu100 hr)) (pv 3) (pv 1) (nomark _)) (pw_or1 (pt_not (pt_val (pe_callD d_l_is_book g_l_is_book (hr.mono (by decide)) rfl (pa_cons (pv 4) (pa_cons (pv 0) (pa_cons (pv 1) pa_nil)))) (fun _=>rfl)))))) (pss_one (ps_ret pe_bl)) pss_nil)
   (pss_cons (ps_expr (pe_bm PySem.F.plainAttrs_list PySem.F.slot_list_append PySem.F.type_list_append mt_append (pe_ix ix_tup (pe_ix ix_list (pv 3) (pv 2) (fun _ _=>rfl)) pe_int (fun _ _=>rfl)) (pa_cons (pe_tup (pa_cons pe_str (pa_cons pe_str pa_nil))) pa_nil)))
   (pss_one (ps_ret (pe_cmpR (op_eqQ (hu100 hr)) (pv 4) (pe_tup (pa_cons (pv 0) (pa_cons (pv 1) pa_nil))) (nomark _)))))))))))))),?_⟩
 refine ⟨_,rfl,wq,as,fs,xs,rfl,hwq,hws,l5,fun hq hb hg H1 s1 khq hP nd1 fr1 nl1=>?_⟩
 dsimp only [gName]
 have due1:=DueC.same hwi s1 3 due
 refine ⟨_,rfl,_,rfl,fa,hq,F,hb,hg,xs,rfl,s1 _ _ hf,khq,hP,hwi.same s1,l5,fun d=>absurd (due_uniq (by decide) (by decide) d due1) (by decide),fun d=>absurd (due_uniq (by decide) (by decide) d due1) (by decide),fun d=>absurd (due_uniq (by decide) (by decide) d due1) (by decide),fun _ q0 lq bs gs H2 s2 kq klq P2 nd2 fr2 nl2=>?_⟩
 dsimp only [gName]
 have t2:=s1.trans s2
 refine ⟨_,rfl,_,rfl,_,rfl,q0,fa,wq,lq,F,bs,gs,as,fs,xs,rfl,kq,klq,P2,t2 _ _ hwq,hws.same t2,hwi.same t2,t2 _ _ hf,l5,fun H3 s3=>?_⟩
 refine ⟨_,rfl,?_⟩
 refine iteF ?_
 have t3:=s2.trans s3
 have dq1:=wxs_dq (K:=K) (hP.same t3) (hws.same (s1.trans t3))
 refine ⟨_,rfl,_,rfl,2,hq,wq,_,_,by decide,rfl,rfl,.inl ⟨SqL.of (t3 _ _ khq),SqL.of ((s1.trans t3) _ _ hwq)⟩,dq1.1,dq1.2,_,rfl,?_⟩
 refine iteF ?_
 dsimp only [tNext]
 obtain ⟨b,f,x,f1,f2,f3,f4,f5⟩:=(P2.same s3).get hk
 have fm:=fr2 f (List.mem_of_getElem? f2)
 have x60:=(hwi x (List.mem_of_getElem? f3)).1
 refine ⟨_,rfl,_,_,_,_,rfl,rfl,SqT.of (s3 _ _ kq),rfl,_,rfl,_,_,_,_,rfl,rfl,SqL.of (s3 _ _ klq),f5,_,_,_,_,rfl,rfl,SqT.of f4.1,rfl,.inl ⟨rfl,_,SqL.of f4.2⟩,le2,fun p1 hp1=>?_⟩
 have s4:=same_new hp1 (.tup [V.str (PySem.Str.ofString "text"),V.str (PySem.Str.ofString "-")])
 generalize upd H3 p1 (.tup [V.str (PySem.Str.ofString "text"),V.str (PySem.Str.ofString "-")])=H4 at s4 ⊢
 have g4:=f4.same s4
 refine ⟨_,_,_,rfl,rfl,g4.2,szR (n:=100) x60 (by decide),?_⟩
 have t5:Same H1 (upd H4 f (.lst (x.bs.map V.ref++[V.ref p1]))):=(t3.trans s4).put fm.1
 have kq5:(upd H4 f (.lst (x.bs.map V.ref++[V.ref p1]))) q0=some (.tup [V.ref fa,V.ref lq]):=by
  have z:=(s3.trans s4) _ _ kq
  rw [upd_ne (fun e=>by rw [e,g4.2] at z; cases z)]
  exact z
 have klq5:(upd H4 f (.lst (x.bs.map V.ref++[V.ref p1]))) lq=some (.lst (bs.map V.ref)):=by
  rw [upd_ne (Ne.symm fm.2)]
  exact (s3.trans s4) _ _ klq
 have kb5:(upd H4 f (.lst (x.bs.map V.ref++[V.ref p1]))) b=some (.tup [.int x.lead,.bl x.kept,.ref x.sa,.ref f]):=by
  rw [upd_ne (fun e=>by have z:=g4.1; rw [e,g4.2] at z; cases z)]
  exact g4.1
 have kf5:(upd H4 f (.lst (x.bs.map V.ref++[V.ref p1]))) f=some (.lst (x.bs.map V.ref++[V.ref p1])):=upd_same
 have P5:∀ (j:Nat) b' f' x',j≠k→bs[j]? = some b'→gs[j]? = some f'→xs[j]? = some x'→wxAt (upd H4 f (.lst (x.bs.map V.ref++[V.ref p1]))) b' f' x':=fun j b' f' x' hj e1 e2 e3=>((P2.at' j b' f' x' e1 e2 e3).same (s3.trans s4)).put g4.2 (fun e=>hj (nd2 j k f (by rw [← e]; exact e2) f2))
 generalize upd H4 f (.lst (x.bs.map V.ref++[V.ref p1]))=H5 at t5 kq5 klq5 kb5 kf5 P5 ⊢
 have dq2:=wxs_dq (K:=K) (hP.same t5) (hws.same (s1.trans t5))
 refine ⟨_,rfl,_,rfl,2,hq,wq,_,_,by decide,rfl,rfl,.inl ⟨SqL.of (t5 _ _ khq),SqL.of ((s1.trans t5) _ _ hwq)⟩,dq2.1,dq2.2,_,rfl,?_⟩
 refine iteF ?_
 refine ⟨_,rfl,_,_,_,_,rfl,rfl,SqT.of kq5,rfl,_,rfl,_,rfl,_,_,rfl,SqL.of klq5,fun p2 hp2=>?_⟩
 rw [cutV_map,L2.cut_to]
 have s6:=same_new hp2 (.lst ((bs.take k).map V.ref))
 have k6:(upd H5 p2 (.lst ((bs.take k).map V.ref))) p2=some (.lst ((bs.take k).map V.ref)):=upd_same
 generalize upd H5 p2 (.lst ((bs.take k).map V.ref))=H6 at s6 k6 ⊢
 refine ⟨_,rfl,_,rfl,_,rfl,_,_,rfl,SqL.of ((s1.trans (t5.trans s6)) _ _ hwq),fun p3 hp3=>?_⟩
 rw [cutV_map,L2.cut_to]
 have s7:=same_new hp3 (.lst ((as.take k).map V.ref))
 have k7:(upd H6 p3 (.lst ((as.take k).map V.ref))) p3=some (.lst ((as.take k).map V.ref)):=upd_same
 generalize upd H6 p3 (.lst ((as.take k).map V.ref))=H7 at s7 k7 ⊢
 have s57:=s6.trans s7
 have dt:=take_dq (K:=K) P2.l1 P2.l2 (fun j b' f' x' hj e1 e2 e3=>(P5 j b' f' x' hj e1 e2 e3).same s57) (hws.same (s1.trans (t5.trans s57)))
 refine ⟨2,p2,p3,_,_,by decide,rfl,rfl,.inl ⟨SqL.of (s7 _ _ k6),SqL.of k7⟩,dt.1,dt.2,_,rfl,?_⟩
 refine iteF ?_
 refine ⟨_,rfl,_,_,_,_,rfl,rfl,SqT.of (s57 _ _ kq5),rfl,_,rfl,_,_,rfl,rfl,_,rfl,_,_,rfl,SqL.of (s57 _ _ klq5),fun p4 hp4=>?_⟩
 rw [cutV_map,show (k:Int)+1=((k+1:Nat) : Int) from rfl,cut_fr]
 have s8:=same_new hp4 (.lst ((bs.drop (k+1)).map V.ref))
 have k8:(upd H7 p4 (.lst ((bs.drop (k+1)).map V.ref))) p4=some (.lst ((bs.drop (k+1)).map V.ref)):=upd_same
 generalize upd H7 p4 (.lst ((bs.drop (k+1)).map V.ref))=H8 at s8 k8 ⊢
 have s58:=s57.trans s8
 refine ⟨_,rfl,_,rfl,_,_,rfl,rfl,_,rfl,_,_,rfl,SqL.of ((s1.trans (t5.trans s58)) _ _ hwq),fun p5 hp5=>?_⟩
 rw [cutV_map,show (k:Int)+1=((k+1:Nat) : Int) from rfl,cut_fr]
 have s9:=same_new hp5 (.lst ((as.drop (k+1)).map V.ref))
 have k9:(upd H8 p5 (.lst ((as.drop (k+1)).map V.ref))) p5=some (.lst ((as.drop (k+1)).map V.ref)):=upd_same
 generalize upd H8 p5 (.lst ((as.drop (k+1)).map V.ref))=H9 at s9 k9 ⊢
 have s59:=s58.trans s9
 have dd:=drop_dq (K:=K) P2.l1 P2.l2 (fun j b' f' x' hj e1 e2 e3=>(P5 j b' f' x' hj e1 e2 e3).same s59) (hws.same (s1.trans (t5.trans s59)))
 refine ⟨2,p4,p5,_,_,by decide,rfl,rfl,.inl ⟨SqL.of (s9 _ _ k8),SqL.of k9⟩,dd.1,dd.2,_,rfl,?_⟩
 refine iteF ?_
 dsimp only [tNext]
 obtain ⟨wa,wf,x',w1,w2,w3,w4,w5⟩:=(hws.same (s1.trans (t5.trans s59))).get hk
 rw [f3] at w3
 cases w3
 refine ⟨_,rfl,_,_,_,_,rfl,rfl,SqT.of (s59 _ _ kq5),rfl,_,rfl,_,_,_,_,rfl,rfl,SqL.of (s59 _ _ klq5),f5,_,_,_,_,rfl,rfl,SqT.of (s59 _ _ kb5),rfl,_,rfl,_,rfl,_,_,rfl,SqL.of (s59 _ _ kf5),fun p6 hp6=>?_⟩
 have ecut:cutV (x.bs.map V.ref++[V.ref p1]) none (some (-1))=x.bs.map V.ref:=by
  rw [refs_snoc,cutV_map,cut_last,List.dropLast_concat]
 rw [ecut]
 have s10:=same_new hp6 (.lst (x.bs.map V.ref))
 have k10:(upd H9 p6 (.lst (x.bs.map V.ref))) p6=some (.lst (x.bs.map V.ref)):=upd_same
 generalize upd H9 p6 (.lst (x.bs.map V.ref))=H10 at s10 k10 ⊢
 have sA:=s59.trans s10
 have w4':=w4.same s10
 refine ⟨_,rfl,_,rfl,_,_,_,_,rfl,rfl,SqL.of ((s1.trans (t5.trans sA)) _ _ hwq),w5,_,_,_,_,rfl,rfl,SqT.of w4'.1,rfl,0,p6,wf,_,_,by decide,rfl,rfl,.inl ⟨SqL.of k10,SqL.of w4'.2⟩,rfl,refs_dq _,_,rfl,?_⟩
 refine iteF ?_
 dsimp only [tNext]
 have tA:=t5.trans sA
 refine ⟨_,rfl,_,_,_,_,rfl,rfl,SqT.of (sA _ _ kq5),rfl,.inl ⟨rfl,_,SqL.of (sA _ _ klq5)⟩,lq,_,rfl,rfl,sA _ _ klq5,?_⟩
 have tB:Same H1 (upd H10 lq (.lst [])):=tA.put nl2
 generalize upd H10 lq (.lst [])=H11 at tB ⊢
 clear dq1 dq2 dt dd k10 w4' w4 w5 ecut k9 k8 k7 k6 P5 kf5 kb5 klq5 kq5 sA s10 s59 s9 s58 s8 s57 s7 s6
 have due2:=DueC.same hwi (s1.trans tB) 3 due
 refine ⟨_,rfl,_,rfl,fa,hq,F,hb,hg,xs,rfl,(s1.trans tB) _ _ hf,tB _ _ khq,hP.same tB,hwi.same (s1.trans tB),l5,fun d=>absurd (due_uniq (by decide) (by decide) d due2) (by decide),fun d=>absurd (due_uniq (by decide) (by decide) d due2) (by decide),fun d=>absurd (due_uniq (by decide) (by decide) d due2) (by decide),fun _ q2 lr cs gt H12 s12 kq2 klr P12 nd12 fr12 nl12=>?_⟩
 dsimp only [gName]
 have tC:=tB.trans s12
 have dq3:=wxs_dq (K:=K) (hP.same tC) (hws.same (s1.trans tC))
 refine ⟨_,rfl,_,rfl,2,hq,wq,_,_,by decide,rfl,rfl,.inl ⟨SqL.of (tC _ _ khq),SqL.of ((s1.trans tC) _ _ hwq)⟩,dq3.1,dq3.2,_,rfl,?_⟩
 refine iteF ?_
 have tD:=s1.trans tC
 refine ⟨_,rfl,_,rfl,_,rfl,q2,fa,wq,lr,F,cs,gt,as,fs,xs,rfl,kq2,klr,P12,tD _ _ hwq,hws.same tD,hwi.same tD,tD _ _ hf,l5,fun H13 s13=>?_⟩
 refine ⟨_,rfl,?_⟩
 refine iteF ?_
 dsimp only [tNext]
 have tE:=tC.trans s13
 obtain ⟨hb',hf',x',w1,w2,w3,w4,w5⟩:=(hP.same tE).get hk
 rw [f3] at w3
 cases w3
 have hm:=fr1 hf' (List.mem_of_getElem? w2)
 refine ⟨_,rfl,_,rfl,_,_,_,_,rfl,rfl,SqL.of (tE _ _ khq),w5,_,_,_,_,rfl,rfl,SqT.of w4.1,rfl,.inl ⟨rfl,_,SqL.of w4.2⟩,le2,fun p7 hp7=>?_⟩
 have s14:=same_new hp7 (.tup [V.str (PySem.Str.ofString "text"),V.str (PySem.Str.ofString "-")])
 generalize upd H13 p7 (.tup [V.str (PySem.Str.ofString "text"),V.str (PySem.Str.ofString "-")])=H14 at s14 ⊢
 have w6:=w4.same s14
 refine ⟨_,_,_,rfl,rfl,w6.2,szR (n:=100) x60 (by decide),?_⟩
 have sF:=s13.trans s14
 have hB:H11 hf' = some (.lst (x.bs.map V.ref)):=by
  obtain ⟨hb2,hf2,x2,v1,v2,v3,v4,v5⟩:=(hP.same tB).get hk
  rw [w2] at v2
  cases v2
  rw [f3] at v3
  cases v3
  exact v4.2
 have tG:Same H (upd H14 hf' (.lst (x.bs.map V.ref++[V.ref p7]))):=(s1.trans (tE.trans s14)).put hm.1
 have kq3:(upd H14 hf' (.lst (x.bs.map V.ref++[V.ref p7]))) q2=some (.tup [V.ref fa,V.ref lr]):=by
  have z:=sF _ _ kq2
  rw [upd_ne (fun e=>by rw [e,w6.2] at z; cases z)]
  exact z
 have klr3:(upd H14 hf' (.lst (x.bs.map V.ref++[V.ref p7]))) lr=some (.lst (cs.map V.ref)):=by
  rw [upd_ne (fun e=>by rw [e,hB] at nl12; cases nl12)]
  exact sF _ _ klr
 have P3:=(P12.same sF).put (o:=.lst (x.bs.map V.ref++[V.ref p7])) w6.2 (fun g hg2 e=>by have z:=(fr12 g hg2).1; rw [e,hB] at z; cases z)
 generalize upd H14 hf' (.lst (x.bs.map V.ref++[V.ref p7]))=H15 at tG kq3 klr3 P3 ⊢
 refine ⟨_,rfl,_,rfl,_,rfl,le2,fun p8 hp8=>?_⟩
 have s16:=same_new hp8 (.tup [V.ref fa,V.ref wq])
 exact ⟨3,q2,p8,_,_,by decide,rfl,rfl,.inr ⟨SqT.of (s16 _ _ kq3),SqT.of upd_same⟩,rfl,bx_dq (s16 _ _ klr3) ((tG.trans s16) _ _ hwq) (P3.same s16) (hws.same (tG.trans s16)),q _⟩
theorem csome:(PySem.Str.ofString "!\"#$&'()*+,-./0123456789:;<=>?@ABCDEFGHIJKLMNOPQRSTUVWXYZ[\\]^_")++(PySem.Str.ofString "`abcdefghijklmnopqrstuvwxyz{|}~")=tx sgns:=by decide +kernel
theorem lsome:(PySem.Str.ofString "!\"#$&'()*+,-./0123456789:;<=>?@ABCDEFGHIJKLMNOPQRSTUVWXYZ[\\]^_").length+(PySem.Str.ofString "`abcdefghijklmnopqrstuvwxyz{|}~").length≤1000:=by decide +kernel
theorem ce:(PySem.Str.ofString "")=tx []:=by decide +kernel
theorem at_sgn (k:Int) : ∃ c,atI (tx sgns).cps.toList (k % 93)=some c∧33≤c∧c < 127:=by
 have b1:=Int.emod_nonneg k (show (93:Int)≠0 by decide)
 have b2:=Int.emod_lt_of_pos k (show (0:Int) < 93 by decide)
 obtain ⟨d,hd⟩:=Int.eq_ofNat_of_zero_le b1
 rw [hd]
 have hd2:d < 93:=by omega
 have hl:d < sgns.length:=hd2
 refine ⟨sgns.getD d 0,?_,sgn_in d hd2⟩
 refine atI_nat ?_
 show (sgns.toArray.toList)[d]? = _
 rw [List.getD_eq_getElem?_getD,List.getElem?_eq_getElem hl]
 rfl
def sp_l_signs:Sp:=fun vs H Q _=>∃ n size:Int,vs=[.int n,.int size]∧1≤size∧size≤100∧∀ (l:List Nat) (H':Hp),Same H H'→1≤l.length→l.length≤100→(∀ c ∈ l,33≤c∧c < 127)→Q (.str (tx l)) H'
theorem sc_l_signs:FnScope ["number","size","some","step"] ["number","size"] (defScope s_l_signs):=⟨rfl,rfl,rfl,by decide +kernel,rfl,by decide +kernel,by decide +kernel⟩
theorem ok_l_signs (T:Txt P w K mg a) : FnOk P w K mg base CX0 1 a.f_l_signs a.fd_l_signs ["number","size"] sp_l_signs:=by
 have z_range:=T.z_range
 refine T.d_l_signs.fn.ok sc_l_signs (fun vs H Q E h=>?_) (fun cdv A outer s H vs Q E hr h=>?_)
 ·obtain ⟨n,size,rfl,_⟩:=h
  rfl
 obtain ⟨n,size,rfl,z1,z2,q⟩:=h
 have hu:=Nat.lt_of_succ_lt (hu_of hr)
 refine ⟨_,(pss_cons (ps_set (i:=2) sc_l_signs.nd rfl (Or.inr rfl) pe_str)
   (pss_cons (ps_set (i:=2) sc_l_signs.nd rfl (Or.inr rfl) (pe_op op_add_str (pv 2) pe_str))
   (pss_cons (ps_set (i:=3) sc_l_signs.nd rfl (Or.inr rfl) (pe_op op_add pe_int (pe_op op_mod (pe_op op_fdiv (pv 0) pe_int) pe_int)))
   (pss_one (ps_ret (pe_bm PySem.F.plainAttrs_str PySem.F.slot_str_join PySem.F.type_str_join mt_join pe_str (pa_cons (pe_lc rfl (lcok (caps:=["number","some","step"]) (js:=[0,2,3]) (cap:=⟨⟨rfl,.inl rfl,rfl,.inl rfl⟩,⟨⟨rfl,.inl rfl,rfl,.inl rfl⟩,⟨⟨rfl,.inl rfl,rfl,.inl rfl⟩,trivial⟩⟩⟩)) (pi_range1 rfl z_range (pa_cons (pv 1) pa_nil)) (fun _ _ _ _=>pts_nil) (fun _ _ _ _=>(pe_ix ix_str (pv 2) (pe_op op_mod (pe_op op_add (pv 1) (pe_op op_mul (pv 0) (pv 3))) pe_int) (fun _ _=>rfl)))) pa_nil))))))),?_⟩
 refine ⟨_,rfl,_,_,rfl,rfl,small lsome,?_⟩
 rw [csome]
 refine ⟨_,rfl,_,_,rfl,rfl,⟨by decide,by decide⟩,_,_,rfl,rfl,(by (first | decide | (show (0:Int) < _; first | decide | omega))),_,_,rfl,rfl,?_⟩
 have b1:=Int.emod_nonneg (n / 93) (show (92:Int)≠0 by decide)
 have b2:=Int.emod_lt_of_pos (n / 93) (show (0:Int) < 92 by decide)
 obtain ⟨k,hk⟩:=Int.eq_ofNat_of_zero_le (show 0≤size by omega)
 subst hk
 refine ⟨rfl,_,rfl,_,rfl,(by omega),(by omega),lc_range (fun i ys H'=>H' = H∧∃ cs:List Nat,cs.length=i∧(∀ d ∈ cs,33≤d∧d < 127)∧ys=cs.map fun d=>V.str (tx [d])) ⟨rfl,[],rfl,by simp,rfl⟩ ?_ ?_ ?_⟩
 ·rintro i ys H' hi ⟨_,cs,hl,_,rfl⟩
  rw [List.length_map,hl]
  exact Nat.lt_of_lt_of_le (show i < 1000 by simp at hi; omega) (small (Nat.le_refl _))
 ·rintro i ys H' hi ⟨rfl,cs,hl,hd,rfl⟩
  refine yes_go ?_
  have hi':i < 100:=by simp at hi; omega
  obtain ⟨c,ec,hc⟩:=at_sgn (n+(0+(i:Int)) * (1+n / 93 % 92))
  refine ⟨_,rfl,_,rfl,_,rfl,_,rfl,_,_,rfl,rfl,.inl ⟨by omega,by omega⟩,_,_,rfl,rfl,_,_,rfl,rfl,(by (first | decide | (show (0:Int) < _; first | decide | omega))),_,_,_,rfl,rfl,small (by rw [tx_len]; decide),ec,rfl,cs++[c],by simp [hl],?_,by simp⟩
  intro e he
  rcases List.mem_append.mp he with he | he
  ·exact hd e he
  ·rw [List.mem_singleton.mp he]; exact hc
 ·rintro ys H' ⟨rfl,cs,hl,hd,rfl⟩ p hp
  have hl':cs.length=k:=by rw [hl]; simp
  have g1:Same H' (upd H' p (.lst (cs.map fun d=>V.str (tx [d])))):=same_new hp _
  refine ⟨_,p,cs.map (fun d=>tx [d]),rfl,rfl,SqL.of (by rw [upd_same,List.map_map]; rfl),by decide,by rw [sum_one,List.length_map]; omega,?_⟩
  have ej:Txt.join (PySem.Str.ofString "") (cs.map fun d=>tx [d])=tx cs:=by
   have:=join_tx [] (cs.map fun d=>[d])
   rw [List.map_map,join_one] at this
   rw [ce]
   exact this
  rw [ej]
  exact q _ _ g1 (by omega) (by omega) hd
theorem cbl:(PySem.Str.ofString " ")=tx [32]:=by decide +kernel
theorem cemp:(PySem.Str.ofString "")=tx []:=by decide +kernel
def sp_l_odd_saying (K:PySem.W.Frag) : Sp:=fun vs H Q _=>∃ (n m far:Int),vs=[.int n,.int m,.int far]∧∀ q H',Same H H'→IsS H' q→Q (.ref q) H'
theorem sc_l_odd_saying:FnScope ["number","many","far","kind","text","at","point"] ["number","many","far"] (defScope s_l_odd_saying):=⟨rfl,rfl,rfl,by decide +kernel,rfl,by decide +kernel,by decide +kernel⟩
theorem ok_l_odd_saying (T:Txt P w K mg a) : FnOk P w K mg base CX0 2 a.f_l_odd_saying a.fd_l_odd_saying ["number","many","far"] (sp_l_odd_saying K):=by
 have g_l_signs:=ok_l_signs (P:=P) (w:=w) (base:=base) T
 have d_l_signs:=T.d_l_signs
 have z_len:=T.z_len
 refine T.d_l_odd_saying.fn.ok sc_l_odd_saying (fun vs H Q E h=>?_) (fun cdv A outer s H vs Q E hr h=>?_)
 ·obtain ⟨n,m,far,rfl,_⟩:=h
  rfl
 obtain ⟨n,m,far,rfl,q⟩:=h
 have hu:=Nat.lt_of_succ_lt (hu_of hr)
 refine ⟨_,(pss_cons (ps_set (i:=3) sc_l_odd_saying.nd rfl (Or.inl rfl) (pe_op op_mod (pv 0) pe_int))
   (pss_cons (ps_set (i:=0) sc_l_odd_saying.nd rfl (Or.inl rfl) (pe_op op_fdiv (pv 0) pe_int))
   (pss_cons (ps_if (pt_cmpR op_lt (pv 3) pe_int (nomark _)) (pss_one (ps_ret (pe_tup (pa_cons pe_str (pa_cons (pe_ix ix_list (pe_lst (pa_cons pe_str (pa_cons (pe_callD d_l_signs g_l_signs (hr.mono (by decide)) rfl (pa_cons (pe_op op_fdiv (pv 0) pe_int) (pa_cons (pe_op op_add pe_int (pe_op op_mod (pv 0) pe_int)) pa_nil))) pa_nil))) (pv 3) (fun _ _=>rfl)) pa_nil))))) pss_nil)
   (pss_cons (ps_if (pt_cmpR op_eq (pv 3) pe_int (nomark _)) (pss_cons (ps_set (i:=4) sc_l_odd_saying.nd rfl (Or.inl rfl) (pe_callD d_l_signs g_l_signs (hr.mono (by decide)) rfl (pa_cons (pe_op op_fdiv (pv 0) pe_int) (pa_cons (pe_op op_add pe_int (pe_op op_mod (pv 0) pe_int)) pa_nil))))
   (pss_cons (ps_set (i:=5) sc_l_odd_saying.nd rfl (Or.inl rfl) (pe_op op_mod (pe_op op_fdiv (pv 0) pe_int) (pe_op op_add (pe_callB call_len_str rfl z_len PySem.boot_len (pa_cons (pv 4) pa_nil)) pe_int)))
   (pss_one (ps_ret (pe_tup (pa_cons pe_str (pa_cons (pe_op op_add_str (pe_op op_add_str (pe_slice sl_str (pv 4) po_none (po_some (pv 5))) pe_str) (pe_slice sl_str (pv 4) (po_some (pv 5)) po_none)) pa_nil))))))) pss_nil)
   (pss_cons (ps_if (pt_cmpR op_eq (pv 3) pe_int (nomark _)) (pss_one (ps_ret (pe_tup (pa_cons pe_str (pa_cons (pe_callD d_l_signs g_l_signs (hr.mono (by decide)) rfl (pa_cons (pv 0) (pa_cons pe_int pa_nil))) pa_nil))))) pss_nil)
   (pss_cons (ps_set (i:=6) sc_l_odd_saying.nd rfl (Or.inl rfl) (pe_ix ix_list (pe_lst (pa_cons (pe_op op_sub (pv 1) pe_int) (pa_cons (pv 1) (pa_cons (pe_un un_neg pe_int) (pa_cons (pe_op op_add (pv 1) (pe_op op_mod (pv 2) (pe_op op_pow pe_int pe_int))) (pa_cons (pe_op op_sub (pe_un un_neg pe_int) (pe_op op_mod (pv 2) (pe_op op_pow pe_int pe_int))) pa_nil)))))) (pe_op op_mod (pv 0) pe_int) (fun _ _=>rfl)))
   (pss_one (ps_ret (pe_tup (pa_cons (pe_ix ix_list (pe_lst (pa_cons pe_str (pa_cons pe_str pa_nil))) (pe_op op_mod (pv 3) pe_int) (fun _ _=>rfl)) (pa_cons (pv 6) pa_nil))))))))))),?_⟩
 refine ⟨_,rfl,_,_,rfl,rfl,(by (first | decide | (show (0:Int) < _; first | decide | omega))),?_⟩
 dsimp only [gName]
 have d1:=Int.emod_nonneg n (show (8:Int)≠0 by decide)
 refine ⟨_,rfl,_,_,rfl,rfl,⟨by decide,by decide⟩,?_⟩
 dsimp only [gName]
 generalize n / 8=z
 generalize n % 8=kd at d1 ⊢
 refine ⟨_,rfl,_,_,rfl,rfl,_,rfl,?_⟩
 refine ite2 (fun c=>?_) (fun c=>?_)
 ·have c1:kd < 2:=of_decide_eq_true c
  have b1:=Int.emod_nonneg z (show (20:Int)≠0 by decide)
  have b2:=Int.emod_lt_of_pos z (show (0:Int) < 20 by decide)
  refine ⟨_,rfl,_,_,rfl,rfl,⟨by decide,by decide⟩,_,rfl,_,_,rfl,rfl,(by (first | decide | (show (0:Int) < _; first | decide | omega))),_,_,rfl,rfl,_,_,rfl,(by omega),(by omega),fun l H1 s1 l1 l2 _=>?_⟩
  refine ⟨le2,fun p1 hp1=>?_⟩
  rw [cemp]
  have s2:=same_new hp1 (.lst [V.str (tx []),V.str (tx l)])
  have k2:(upd H1 p1 (.lst [V.str (tx []),V.str (tx l)])) p1=some (.lst [V.str (tx []),V.str (tx l)]):=upd_same
  generalize upd H1 p1 (.lst [V.str (tx []),V.str (tx l)])=H2 at s2 k2 ⊢
  obtain ⟨w,ew,lw⟩ : ∃ w:List Nat,atI [V.str (tx []),V.str (tx l)] kd=some (V.str (tx w))∧w.length≤300:=by
   have:kd=0∨kd=1:=by omega
   rcases this with e | e
   ·exact ⟨[],by rw [e]; rfl,by simp⟩
   ·exact ⟨l,by rw [e]; rfl,by omega⟩
  refine ⟨_,rfl,_,_,_,_,rfl,rfl,SqL.of k2,ew,le2,fun p2 hp2=>?_⟩
  exact q p2 _ (s1.trans (s2.trans (same_new hp2 _))) ⟨.text w,upd_same,lw⟩
 have c1:¬ kd < 2:=fun z=>c (decide_eq_true z)
 dsimp only [tNext]
 refine ⟨_,rfl,rfl,_,rfl,?_⟩
 refine ite2 (fun c=>?_) (fun c=>?_)
 ·have b1:=Int.emod_nonneg z (show (59:Int)≠0 by decide)
  have b2:=Int.emod_lt_of_pos z (show (0:Int) < 59 by decide)
  refine ⟨_,rfl,_,_,rfl,rfl,⟨by decide,by decide⟩,_,rfl,_,_,rfl,rfl,(by (first | decide | (show (0:Int) < _; first | decide | omega))),_,_,rfl,rfl,_,_,rfl,(by omega),(by omega),fun l H1 s1 l1 l2 _=>?_⟩
  dsimp only [gName]
  refine ⟨_,rfl,_,_,rfl,rfl,⟨by decide,by decide⟩,_,rfl,_,rfl,small (by rw [tx_len]; omega),_,_,rfl,rfl,_,_,rfl,rfl,(by rw [tx_len]; omega),?_⟩
  dsimp only [gName]
  generalize z / 60 % (((tx l).length:Nat)+1)=at0
  have la:∀ lo hi:Option Int,(cutL l lo hi).length≤100:=fun lo hi=>by
   unfold cutL
   rw [List.length_take,List.length_drop]
   omega
  have la1:=la none (some at0)
  have la2:=la (some at0) none
  refine ⟨_,rfl,_,rfl,_,rfl,_,rfl,small (by rw [tx_len]; omega),?_⟩
  rw [slice_tx,cbl]
  refine ⟨_,_,rfl,rfl,small (by rw [tx_len,tx_len]; simp; omega),?_⟩
  rw [tx_app]
  refine ⟨_,rfl,_,rfl,_,rfl,_,rfl,small (by rw [tx_len]; omega),?_⟩
  rw [slice_tx]
  refine ⟨_,_,rfl,rfl,small (by rw [tx_len,tx_len]; simp; omega),?_⟩
  rw [tx_app]
  refine ⟨le2,fun p3 hp3=>?_⟩
  exact q p3 _ (s1.trans (same_new hp3 _)) ⟨.text _,upd_same,(by show List.length _≤300; simp; omega)⟩
 dsimp only [tNext]
 refine ⟨_,rfl,rfl,_,rfl,?_⟩
 refine ite2 (fun c=>?_) (fun c=>?_)
 ·refine ⟨_,rfl,_,_,rfl,(by decide),(by decide),fun l H1 s1 l1 l2 _=>?_⟩
  refine ⟨le2,fun p1 hp1=>?_⟩
  exact q p1 _ (s1.trans (same_new hp1 _)) ⟨.text l,upd_same,(by show l.length≤300; omega)⟩
 dsimp only [tNext]
 have pw:(0:Int) < 10 ^ (60:Int).toNat:=by rw [p60c]; decide
 refine ⟨_,rfl,_,_,rfl,rfl,_,rfl,_,rfl,_,rfl,_,rfl,_,_,rfl,rfl,⟨by decide,by decide,by decide⟩,_,_,rfl,rfl,pw,_,_,rfl,rfl,_,rfl,_,rfl,_,_,rfl,rfl,⟨by decide,by decide,by decide⟩,_,_,rfl,rfl,pw,_,_,rfl,rfl,(show (5:Nat)≤sizeLine by decide),fun p5 hp5=>?_⟩
 obtain ⟨v,hv,ev⟩:=pick [V.int (m - 1),V.int m,V.int (-1),V.int (m+far % 10 ^ (60:Int).toNat),V.int (-1 - far % 10 ^ (60:Int).toNat)] 5 z rfl (by decide)
 obtain ⟨y,rfl⟩ : ∃ y:Int,v=V.int y:=by
  simp only [List.mem_cons,List.not_mem_nil,or_false] at hv
  rcases hv with rfl | rfl | rfl | rfl | rfl <;> exact ⟨_,rfl⟩
 have s5:=same_new hp5 (.lst [V.int (m - 1),V.int m,V.int (-1),V.int (m+far % 10 ^ (60:Int).toNat),V.int (-1 - far % 10 ^ (60:Int).toNat)])
 have k5:(upd H p5 (.lst [V.int (m - 1),V.int m,V.int (-1),V.int (m+far % 10 ^ (60:Int).toNat),V.int (-1 - far % 10 ^ (60:Int).toNat)])) p5=some (.lst [V.int (m - 1),V.int m,V.int (-1),V.int (m+far % 10 ^ (60:Int).toNat),V.int (-1 - far % 10 ^ (60:Int).toNat)]):=upd_same
 refine ⟨_,rfl,_,_,rfl,rfl,(by (first | decide | (show (0:Int) < _; first | decide | omega))),_,_,_,_,rfl,rfl,SqL.of k5,ev,?_⟩
 generalize upd H p5 (.lst [V.int (m - 1),V.int m,V.int (-1),V.int (m+far % 10 ^ (60:Int).toNat),V.int (-1 - far % 10 ^ (60:Int).toNat)])=H5 at s5 ⊢
 dsimp only [gName]
 refine ⟨le2,fun p6 hp6=>?_⟩
 obtain ⟨b,eb⟩ : ∃ b:Bool,atI [V.str (PySem.Str.ofString "page"),V.str (PySem.Str.ofString "row")] (kd % 2)=some (V.str (if b then PySem.Str.ofString "page" else PySem.Str.ofString "row")):=by
  have:kd % 2=0∨kd % 2=1:=by omega
  rcases this with e | e
  ·exact ⟨true,by rw [e]; rfl⟩
  ·exact ⟨false,by rw [e]; rfl⟩
 have s6:=same_new hp6 (.lst [V.str (PySem.Str.ofString "page"),V.str (PySem.Str.ofString "row")])
 have k6:(upd H5 p6 (.lst [V.str (PySem.Str.ofString "page"),V.str (PySem.Str.ofString "row")])) p6=some (.lst [V.str (PySem.Str.ofString "page"),V.str (PySem.Str.ofString "row")]):=upd_same
 generalize upd H5 p6 (.lst [V.str (PySem.Str.ofString "page"),V.str (PySem.Str.ofString "row")])=H6 at s6 k6 ⊢
 refine ⟨_,rfl,_,_,rfl,rfl,(by (first | decide | (show (0:Int) < _; first | decide | omega))),_,_,_,_,rfl,rfl,SqL.of k6,eb,_,rfl,le2,fun p7 hp7=>?_⟩
 exact q p7 _ (s5.trans (s6.trans (same_new hp7 _))) ⟨.num b y,upd_same,trivial⟩
def sp_l_odd_word (K:PySem.W.Frag) : Sp:=fun vs H Q _=>∃ (wa0 fo0:Addr) (x0:Wx) (n m far:Int),vs=[.ref wa0,.int n,.int m,.int far]∧wxAt H wa0 fo0 x0∧wxIn H x0∧x0.bs.length≤3∧∀ wa fo x H',Same H H'→wxAt H' wa fo x→wxIn H' x→(fo=fo0∨H fo=none)→Q (.ref wa) H'
theorem sc_l_odd_word:FnScope ["word","number","many","far","lead","kept","saying","foot","kind","at"] ["word","number","many","far"] (defScope s_l_odd_word):=⟨rfl,rfl,rfl,by decide +kernel,rfl,by decide +kernel,by decide +kernel⟩
theorem ok_l_odd_word (T:Txt P w K mg a) : FnOk P w K mg base CX0 3 a.f_l_odd_word a.fd_l_odd_word ["word","number","many","far"] (sp_l_odd_word K):=by
 have g_l_odd_saying:=ok_l_odd_saying (P:=P) (w:=w) (base:=base) T
 have d_l_odd_saying:=T.d_l_odd_saying
 have z_len:=T.z_len
 refine T.d_l_odd_word.fn.ok sc_l_odd_word (fun vs H Q E h=>?_) (fun cdv A outer s H vs Q E hr h=>?_)
 ·obtain ⟨wa0,fo0,x0,n,m,far,rfl,_⟩:=h
  rfl
 obtain ⟨wa0,fo0,x0,n,m,far,rfl,h0,hi0,l3,q⟩:=h
 have hu:=Nat.lt_of_succ_lt (hu_of hr)
 refine ⟨_,(pss_cons (ps_asg (pv 0) (pg_tup rfl (pgs_cons (pg_name (i:=4) sc_l_odd_word.nd rfl (Or.inl rfl)) (pgs_cons (pg_name (i:=5) sc_l_odd_word.nd rfl (Or.inl rfl)) (pgs_cons (pg_name (i:=6) sc_l_odd_word.nd rfl (Or.inl rfl)) (pgs_cons (pg_name (i:=7) sc_l_odd_word.nd rfl (Or.inl rfl)) pgs_nil))))))
   (pss_cons (ps_set (i:=8) sc_l_odd_word.nd rfl (Or.inl rfl) (pe_op op_mod (pv 1) pe_int))
   (pss_cons (ps_set (i:=1) sc_l_odd_word.nd rfl (Or.inl rfl) (pe_op op_fdiv (pv 1) pe_int))
   (pss_cons (ps_if (pt_cmpR op_lt (pv 8) pe_int (nomark _)) (pss_one (ps_ret (pv 0))) pss_nil)
   (pss_cons (ps_if (pt_cmpR op_lt (pv 8) pe_int (nomark _)) (pss_one (ps_ret (pe_tup (pa_cons (pe_ix ix_list (pe_lst (pa_cons (pe_un un_neg pe_int) (pa_cons pe_int (pa_cons (pe_op op_add pe_int (pe_op op_mod (pv 3) (pe_op op_pow pe_int pe_int))) (pa_cons (pe_op op_sub (pe_un un_neg pe_int) (pe_op op_mod (pv 3) (pe_op op_pow pe_int pe_int))) pa_nil))))) (pe_op op_mod (pv 1) pe_int) (fun _ _=>rfl)) (pa_cons (pv 5) (pa_cons (pv 6) (pa_cons (pv 7) pa_nil))))))) pss_nil)
   (pss_cons (ps_if (pt_cmpR op_lt (pv 8) pe_int (nomark _)) (pss_one (ps_ret (pe_tup (pa_cons (pv 4) (pa_cons (pv 5) (pa_cons (pe_callD d_l_odd_saying g_l_odd_saying (hr.mono (by decide)) rfl (pa_cons (pv 1) (pa_cons (pv 2) (pa_cons (pv 3) pa_nil)))) (pa_cons (pv 7) pa_nil))))))) pss_nil)
   (pss_cons (ps_if (pt_cmpR op_lt (pv 8) pe_int (nomark _)) (pss_cons (ps_set (i:=7) sc_l_odd_word.nd rfl (Or.inl rfl) (pe_op op_cat (pv 7) (pe_op op_rep (pe_lst (pa_cons (pv 6) pa_nil)) (pe_op op_mod (pe_op op_fdiv (pv 1) pe_int) pe_int))))
   (pss_cons (ps_set (i:=9) sc_l_odd_word.nd rfl (Or.inl rfl) (pe_op op_mod (pv 1) (pe_op op_add (pe_callB call_len_seq rfl z_len PySem.boot_len (pa_cons (pv 7) pa_nil)) pe_int)))
   (pss_one (ps_ret (pe_tup (pa_cons (pv 4) (pa_cons (pv 5) (pa_cons (pv 6) (pa_cons (pe_op op_cat (pe_op op_cat (pe_slice sl_list (pv 7) po_none (po_some (pv 9))) (pe_lst (pa_cons (pe_callD d_l_odd_saying g_l_odd_saying (hr.mono (by decide)) rfl (pa_cons (pe_op op_fdiv (pv 1) pe_int) (pa_cons (pv 2) (pa_cons (pv 3) pa_nil)))) pa_nil))) (pe_slice sl_list (pv 7) (po_some (pv 9)) po_none)) pa_nil))))))))) pss_nil)
   (pss_one (ps_ret (pe_tup (pa_cons (pv 4) (pa_cons (pv 5) (pa_cons (pv 6) (pa_cons (pe_op op_rep (pe_lst (pa_cons (pv 6) pa_nil)) (pe_op op_add pe_int (pe_op op_mod (pv 8) pe_int))) pa_nil)))))))))))))),?_⟩
 have h1:=SqT.of (K:=K) h0.1
 refine ⟨_,rfl,wa0,_,rfl,h1,rfl,_,_,rfl,_,_,rfl,_,_,rfl,_,_,rfl,rfl,?_⟩
 dsimp only [gName]
 refine ⟨_,rfl,_,_,rfl,rfl,(by (first | decide | (show (0:Int) < _; first | decide | omega))),?_⟩
 dsimp only [gName]
 refine ⟨_,rfl,_,_,rfl,rfl,⟨by decide,by decide⟩,?_⟩
 dsimp only [gName]
 have d1:=Int.emod_nonneg n (show (16:Int)≠0 by decide)
 generalize n / 16=z
 generalize n % 16=kd at d1 ⊢
 refine ⟨_,rfl,_,_,rfl,rfl,_,rfl,?_⟩
 refine ite2 (fun c=>?_) (fun c=>?_)
 ·exact ⟨_,rfl,q wa0 fo0 x0 _ (Same.refl _) h0 hi0 (.inl rfl)⟩
 dsimp only [tNext]
 refine ⟨_,rfl,_,_,rfl,rfl,_,rfl,?_⟩
 refine ite2 (fun c=>?_) (fun c=>?_)
 ·have pw:(0:Int) < 10 ^ (60:Int).toNat:=by rw [p60c]; decide
  refine ⟨_,rfl,_,rfl,_,_,rfl,rfl,⟨by decide,by decide,by decide⟩,_,_,rfl,rfl,pw,_,_,rfl,rfl,_,rfl,_,rfl,_,_,rfl,rfl,⟨by decide,by decide,by decide⟩,_,_,rfl,rfl,pw,_,_,rfl,rfl,le4,fun p1 hp1=>?_⟩
  obtain ⟨v,hv,ev⟩:=pick [V.int (-1),V.int 5,V.int (5+far % 10 ^ (60:Int).toNat),V.int (-1 - far % 10 ^ (60:Int).toNat)] 4 z rfl (by decide)
  obtain ⟨y,rfl⟩ : ∃ y:Int,v=V.int y:=by
   simp only [List.mem_cons,List.not_mem_nil,or_false] at hv
   rcases hv with rfl | rfl | rfl | rfl <;> exact ⟨_,rfl⟩
  have s5:=same_new hp1 (.lst [V.int (-1),V.int 5,V.int (5+far % 10 ^ (60:Int).toNat),V.int (-1 - far % 10 ^ (60:Int).toNat)])
  have k5:(upd H p1 (.lst [V.int (-1),V.int 5,V.int (5+far % 10 ^ (60:Int).toNat),V.int (-1 - far % 10 ^ (60:Int).toNat)])) p1=some (.lst [V.int (-1),V.int 5,V.int (5+far % 10 ^ (60:Int).toNat),V.int (-1 - far % 10 ^ (60:Int).toNat)]):=upd_same
  refine ⟨_,rfl,_,_,rfl,rfl,(by (first | decide | (show (0:Int) < _; first | decide | omega))),_,_,_,_,rfl,rfl,SqL.of k5,ev,_,rfl,_,rfl,_,rfl,le4,fun p2 hp2=>?_⟩
  have s6:=same_new hp2 (.tup [V.int y,V.bl x0.kept,V.ref x0.sa,V.ref fo0])
  exact q p2 fo0 ⟨y,x0.kept,x0.sa,x0.bs⟩ _ (s5.trans s6) ⟨upd_same,(s5.trans s6) _ _ h0.2⟩ ⟨hi0.1,(hi0.same (s5.trans s6)).2⟩ (.inl rfl)
 dsimp only [tNext]
 refine ⟨_,rfl,_,_,rfl,rfl,_,rfl,?_⟩
 refine ite2 (fun c=>?_) (fun c=>?_)
 ·refine ⟨_,rfl,_,rfl,_,rfl,_,rfl,_,rfl,z,m,far,rfl,fun sb H1 s1 ib=>?_⟩
  refine ⟨_,rfl,le4,fun p3 hp3=>?_⟩
  have s2:=same_new hp3 (.tup [V.int x0.lead,V.bl x0.kept,V.ref sb,V.ref fo0])
  have t2:=s1.trans s2
  refine q p3 fo0 ⟨x0.lead,x0.kept,sb,x0.bs⟩ _ t2 ⟨upd_same,t2 _ _ h0.2⟩ ⟨hi0.1,fun b hb=>?_⟩ (.inl rfl)
  rcases List.mem_cons.mp hb with h | h
  ·rw [h]; exact ib.same s2
  ·exact (hi0.2 b (List.mem_cons_of_mem _ h)).same t2
 dsimp only [tNext]
 refine ⟨_,rfl,_,_,rfl,rfl,_,rfl,?_⟩
 refine ite2 (fun c=>?_) (fun c=>?_)
 ·have e1:=Int.emod_nonneg (z / 40) (show (37:Int)≠0 by decide)
  have e2:=Int.emod_lt_of_pos (z / 40) (show (0:Int) < 37 by decide)
  refine ⟨_,rfl,_,rfl,le1,fun p4 hp4=>?_⟩
  have s4:=same_new hp4 (.lst [V.ref x0.sa])
  have k4:(upd H p4 (.lst [V.ref x0.sa])) p4=some (.lst [V.ref x0.sa]):=upd_same
  generalize upd H p4 (.lst [V.ref x0.sa])=H4 at s4 k4 ⊢
  refine ⟨_,rfl,_,_,rfl,rfl,⟨by decide,by decide⟩,_,_,rfl,rfl,(by (first | decide | (show (0:Int) < _; first | decide | omega))),_,_,_,rfl,rfl,k4,(by omega),(by omega),(by rw [List.length_singleton]; exact small (by omega)),fun p5 hp5=>?_⟩
  rw [ref_rep]
  have s5:=same_new hp5 (.lst ((List.replicate (z / 40 % 37).toNat x0.sa).map V.ref))
  have k5:(upd H4 p5 (.lst ((List.replicate (z / 40 % 37).toNat x0.sa).map V.ref))) p5=some (.lst ((List.replicate (z / 40 % 37).toNat x0.sa).map V.ref)):=upd_same
  have lr:(List.replicate (z / 40 % 37).toNat x0.sa).length≤36:=by rw [List.length_replicate]; omega
  have mr:∀ b ∈ List.replicate (z / 40 % 37).toNat x0.sa,b=x0.sa:=fun b hb=>List.eq_of_mem_replicate hb
  generalize List.replicate (z / 40 % 37).toNat x0.sa=rr at s5 k5 lr mr ⊢
  generalize upd H4 p5 (.lst (rr.map V.ref))=H5 at s5 k5 ⊢
  have t5:=s4.trans s5
  refine ⟨_,_,_,_,rfl,rfl,t5 _ _ h0.2,k5,(by rw [List.length_map,List.length_map]; exact small (by omega)),fun p6 hp6=>?_⟩
  rw [← List.map_append]
  have s6:=same_new hp6 (.lst ((x0.bs++rr).map V.ref))
  have k6:(upd H5 p6 (.lst ((x0.bs++rr).map V.ref))) p6=some (.lst ((x0.bs++rr).map V.ref)):=upd_same
  have lc:(x0.bs++rr).length≤39:=by rw [List.length_append]; omega
  have ms:∀ b ∈ x0.bs++rr,b ∈ x0.sa :: x0.bs:=fun b hb=>by
   rcases List.mem_append.mp hb with h | h
   ·exact List.mem_cons_of_mem _ h
   ·rw [mr b h]; exact List.mem_cons_self
  generalize x0.bs++rr=cc at s6 k6 lc ms ⊢
  generalize upd H5 p6 (.lst (cc.map V.ref))=H6 at s6 k6 ⊢
  dsimp only [gName]
  have t6:=t5.trans s6
  refine ⟨_,rfl,_,rfl,_,_,rfl,.inl (SqL.of k6),_,_,rfl,rfl,_,_,rfl,rfl,(by omega),?_⟩
  dsimp only [gName]
  generalize z % ((((cc.map V.ref).length:Nat) : Int)+1)=at0
  refine ⟨_,rfl,_,rfl,_,rfl,_,rfl,_,rfl,_,rfl,_,_,rfl,SqL.of k6,fun p7 hp7=>?_⟩
  rw [cutV_map]
  have lcut:∀ lo hi:Option Int,(cutL cc lo hi).length≤39∧∀ b ∈ cutL cc lo hi,b ∈ cc:=fun lo hi=>by
   unfold cutL
   refine ⟨by rw [List.length_take,List.length_drop]; omega,fun b hb=>List.mem_of_mem_drop (List.mem_of_mem_take hb)⟩
  have c1:=lcut none (some at0)
  have c2:=lcut (some at0) none
  generalize cutL cc none (some at0)=ca at c1 ⊢
  have s7:=same_new hp7 (.lst (ca.map V.ref))
  have k7:(upd H6 p7 (.lst (ca.map V.ref))) p7=some (.lst (ca.map V.ref)):=upd_same
  generalize upd H6 p7 (.lst (ca.map V.ref))=H7 at s7 k7 ⊢
  refine ⟨_,rfl,_,_,rfl,rfl,⟨by decide,by decide⟩,_,rfl,_,rfl,_,m,far,rfl,fun sb H8 s8 ib=>?_⟩
  refine ⟨le1,fun p8 hp8=>?_⟩
  have s9:=same_new hp8 (.lst [V.ref sb])
  have k9:(upd H8 p8 (.lst [V.ref sb])) p8=some (.lst [V.ref sb]):=upd_same
  generalize upd H8 p8 (.lst [V.ref sb])=H9 at s9 k9 ⊢
  refine ⟨_,_,_,_,rfl,rfl,(s8.trans s9) _ _ k7,k9,(by rw [List.length_map]; exact small (by show _+1≤_; omega)),fun p9 hp9=>?_⟩
  rw [refs_snoc]
  have s10:=same_new hp9 (.lst ((ca++[sb]).map V.ref))
  have k10:(upd H9 p9 (.lst ((ca++[sb]).map V.ref))) p9=some (.lst ((ca++[sb]).map V.ref)):=upd_same
  generalize upd H9 p9 (.lst ((ca++[sb]).map V.ref))=H10 at s10 k10 ⊢
  have u10:=s7.trans (s8.trans (s9.trans s10))
  refine ⟨_,rfl,_,rfl,_,rfl,_,_,rfl,SqL.of (u10 _ _ k6),fun p10 hp10=>?_⟩
  rw [cutV_map]
  generalize cutL cc (some at0) none=cb at c2 ⊢
  have s11:=same_new hp10 (.lst (cb.map V.ref))
  have k11:(upd H10 p10 (.lst (cb.map V.ref))) p10=some (.lst (cb.map V.ref)):=upd_same
  generalize upd H10 p10 (.lst (cb.map V.ref))=H11 at s11 k11 ⊢
  refine ⟨_,_,_,_,rfl,rfl,s11 _ _ k10,k11,(by rw [List.length_map,List.length_map,List.length_append]; exact small (by show _+1+_≤_; omega)),fun p11 hp11=>?_⟩
  rw [← List.map_append]
  have s12:=same_new hp11 (.lst ((ca++[sb]++cb).map V.ref))
  have k12:(upd H11 p11 (.lst ((ca++[sb]++cb).map V.ref))) p11=some (.lst ((ca++[sb]++cb).map V.ref)):=upd_same
  generalize upd H11 p11 (.lst ((ca++[sb]++cb).map V.ref))=H12 at s12 k12 ⊢
  refine ⟨le4,fun p12 hp12=>?_⟩
  have s13:=same_new hp12 (.tup [V.int x0.lead,V.bl x0.kept,V.ref x0.sa,V.ref p11])
  have tz:=t6.trans (u10.trans (s11.trans (s12.trans s13)))
  have tb:=s9.trans (s10.trans (s11.trans (s12.trans s13)))
  refine q p12 p11 ⟨x0.lead,x0.kept,x0.sa,ca++[sb]++cb⟩ _ tz ⟨upd_same,s13 _ _ k12⟩ ⟨by show (ca++[sb]++cb).length≤100; rw [List.length_append,List.length_append]; show _+1+_≤100; omega,fun b hb=>?_⟩ (.inr ((t6.trans (u10.trans s11)).free hp11))
  rcases List.mem_cons.mp hb with h | h
  ·rw [h]; exact (hi0.2 x0.sa List.mem_cons_self).same tz
  ·rcases List.mem_append.mp h with h | h
   ·rcases List.mem_append.mp h with h | h
    ·exact (hi0.2 b (ms b (c1.2 b h))).same tz
    ·rw [List.mem_singleton.mp h]; exact ib.same tb
   ·exact (hi0.2 b (ms b (c2.2 b h))).same tz
 dsimp only [tNext]
 have e1:=Int.emod_nonneg kd (show (2:Int)≠0 by decide)
 have e2:=Int.emod_lt_of_pos kd (show (0:Int) < 2 by decide)
 refine ⟨_,rfl,_,rfl,_,rfl,_,rfl,le1,fun p13 hp13=>?_⟩
 have s4:=same_new hp13 (.lst [V.ref x0.sa])
 have k4:(upd H p13 (.lst [V.ref x0.sa])) p13=some (.lst [V.ref x0.sa]):=upd_same
 generalize upd H p13 (.lst [V.ref x0.sa])=H4 at s4 k4 ⊢
 refine ⟨_,rfl,_,_,rfl,rfl,(by (first | decide | (show (0:Int) < _; first | decide | omega))),_,_,rfl,rfl,_,_,_,rfl,rfl,k4,(by omega),(by omega),(by rw [List.length_singleton]; exact small (by omega)),fun p14 hp14=>?_⟩
 rw [ref_rep]
 have s5:=same_new hp14 (.lst ((List.replicate (40+kd % 2).toNat x0.sa).map V.ref))
 have k5:(upd H4 p14 (.lst ((List.replicate (40+kd % 2).toNat x0.sa).map V.ref))) p14=some (.lst ((List.replicate (40+kd % 2).toNat x0.sa).map V.ref)):=upd_same
 generalize upd H4 p14 (.lst ((List.replicate (40+kd % 2).toNat x0.sa).map V.ref))=H5 at s5 k5 ⊢
 refine ⟨le4,fun p15 hp15=>?_⟩
 have s6:=same_new hp15 (.tup [V.int x0.lead,V.bl x0.kept,V.ref x0.sa,V.ref p14])
 have t6:=s4.trans (s5.trans s6)
 refine q p15 p14 ⟨x0.lead,x0.kept,x0.sa,List.replicate (40+kd % 2).toNat x0.sa⟩ _ t6 ⟨upd_same,s6 _ _ k5⟩ ⟨by show (List.replicate _ _).length≤100; rw [List.length_replicate]; omega,fun b hb=>?_⟩ (.inr (s4.free hp14))
 rcases List.mem_cons.mp hb with h | h
 ·rw [h]; exact (hi0.2 x0.sa List.mem_cons_self).same t6
 ·rw [List.eq_of_mem_replicate h]; exact (hi0.2 x0.sa List.mem_cons_self).same t6
def sp_l_saying (K:PySem.W.Frag) : Sp:=fun vs H Q _=>∃ (n m:Int),vs=[.int n,.int m]∧1≤m∧∀ q H',Same H H'→IsS H' q→Q (.ref q) H'
theorem sc_l_saying:FnScope ["number","many","kind"] ["number","many"] (defScope s_l_saying):=⟨rfl,rfl,rfl,by decide +kernel,rfl,by decide +kernel,by decide +kernel⟩
theorem ok_l_saying (T:Txt P w K mg a) : FnOk P w K mg base CX0 2 a.f_l_saying a.fd_l_saying ["number","many"] (sp_l_saying K):=by
 have g_l_signs:=ok_l_signs (P:=P) (w:=w) (base:=base) T
 have d_l_signs:=T.d_l_signs
 refine T.d_l_saying.fn.ok sc_l_saying (fun vs H Q E h=>?_) (fun cdv A outer s H vs Q E hr h=>?_)
 ·obtain ⟨n,m,rfl,_⟩:=h
  rfl
 obtain ⟨n,m,rfl,m1,q⟩:=h
 have hu:=Nat.lt_of_succ_lt (hu_of hr)
 refine ⟨_,(pss_cons (ps_set (i:=2) sc_l_saying.nd rfl (Or.inl rfl) (pe_op op_mod (pv 0) pe_int))
   (pss_cons (ps_if (pt_cmpR op_eq (pv 2) pe_int (nomark _)) (pss_one (ps_ret (pe_tup (pa_cons pe_str (pa_cons (pe_op op_mod (pe_op op_fdiv (pv 0) pe_int) (pv 1)) pa_nil))))) pss_nil)
   (pss_cons (ps_if (pt_cmpR op_eq (pv 2) pe_int (nomark _)) (pss_one (ps_ret (pe_tup (pa_cons pe_str (pa_cons (pe_op op_mod (pe_op op_fdiv (pv 0) pe_int) (pv 1)) pa_nil))))) pss_nil)
   (pss_one (ps_ret (pe_tup (pa_cons pe_str (pa_cons (pe_callD d_l_signs g_l_signs (hr.mono (by decide)) rfl (pa_cons (pe_op op_fdiv (pv 0) pe_int) (pa_cons (pe_op op_add pe_int (pe_op op_mod (pe_op op_fdiv (pv 0) pe_int) pe_int)) pa_nil))) pa_nil)))))))),?_⟩
 refine ⟨_,rfl,_,_,rfl,rfl,(by (first | decide | (show (0:Int) < _; first | decide | omega))),?_⟩
 dsimp only [gName]
 refine ⟨_,rfl,rfl,_,rfl,?_⟩
 refine ite2 (fun c=>?_) (fun c=>?_)
 ·refine ⟨_,rfl,_,_,rfl,rfl,⟨by decide,by decide⟩,_,rfl,_,_,rfl,rfl,(by omega),le2,fun p1 hp1=>?_⟩
  exact q p1 _ (same_new hp1 _) ⟨.num true (n / 4 % m),upd_same,trivial⟩
 dsimp only [tNext]
 refine ⟨_,rfl,rfl,_,rfl,?_⟩
 refine ite2 (fun c=>?_) (fun c=>?_)
 ·refine ⟨_,rfl,_,_,rfl,rfl,⟨by decide,by decide⟩,_,rfl,_,_,rfl,rfl,(by omega),le2,fun p1 hp1=>?_⟩
  exact q p1 _ (same_new hp1 _) ⟨.num false (n / 4 % m),upd_same,trivial⟩
 dsimp only [tNext]
 have b1:=Int.emod_nonneg (n / 4) (show (4:Int)≠0 by decide)
 have b2:=Int.emod_lt_of_pos (n / 4) (show (0:Int) < 4 by decide)
 refine ⟨_,rfl,_,_,rfl,rfl,⟨by decide,by decide⟩,_,rfl,_,_,rfl,rfl,⟨by decide,by decide⟩,_,_,rfl,rfl,(by (first | decide | (show (0:Int) < _; first | decide | omega))),_,_,rfl,rfl,_,_,rfl,(by omega),(by omega),fun l H1 s1 l1 l2 _=>?_⟩
 refine ⟨le2,fun p1 hp1=>?_⟩
 exact q p1 _ (s1.trans (same_new hp1 _)) ⟨.text l,upd_same,(by show l.length≤300; omega)⟩
def sp_l_word (K:PySem.W.Frag) : Sp:=fun vs H Q _=>∃ (n m:Int),vs=[.int n,.int m]∧(0≤n∧n < 2305843009213693951)∧1≤m∧∀ wa fo x H',Same H H'→wxAt H' wa fo x→wxIn H' x→x.bs.length≤3→H fo=none→Q (.ref wa) H'
theorem sc_l_word:FnScope ["number","many","size","foot"] ["number","many"] (defScope s_l_word):=⟨rfl,rfl,rfl,by decide +kernel,rfl,by decide +kernel,by decide +kernel⟩
theorem ok_l_word (T:Txt P w K mg a) : FnOk P w K mg base CX0 3 a.f_l_word a.fd_l_word ["number","many"] (sp_l_word K):=by
 have g_l_mixed:=ok_l_mixed (P:=P) (w:=w) (base:=base) T
 have d_l_mixed:=T.d_l_mixed
 have g_l_saying:=ok_l_saying (P:=P) (w:=w) (base:=base) T
 have d_l_saying:=T.d_l_saying
 have z_range:=T.z_range
 refine T.d_l_word.fn.ok sc_l_word (fun vs H Q E h=>?_) (fun cdv A outer s H vs Q E hr h=>?_)
 ·obtain ⟨n,m,rfl,_⟩:=h
  rfl
 obtain ⟨n,m,rfl,nn,m1,q⟩:=h
 have hu:=Nat.lt_of_succ_lt (hu_of hr)
 refine ⟨_,(pss_cons (@ps_pick _ 2 _ _ _ _ _ _ _ _ _ sc_l_word.nd rfl (Or.inl rfl) (CL.int (CL.int (CL.int (CL.int (CL.int (CL.int CL.nil)))))) (pe_op op_mod (pe_op op_fdiv (pv 0) pe_int) pe_int) (fun _ _=>rfl) (by first | exact .inl rfl | exact .inr rfl))
   (pss_cons (ps_lc (k:=3) rfl (lcok (caps:=["number","many"]) (js:=[0,1]) (cap:=⟨⟨rfl,.inl rfl,rfl,.inl rfl⟩,⟨⟨rfl,.inl rfl,rfl,.inl rfl⟩,trivial⟩⟩)) (pi_range1 rfl z_range (pa_cons (pv 2) pa_nil)) (fun _ _ _ _=>pts_nil) (fun _ _ _ _=>(pe_callD d_l_saying g_l_saying (hr.mono (by decide)) rfl (pa_cons (pe_callD d_l_mixed g_l_mixed (hr.mono (by decide)) rfl (pa_cons (pe_op op_mul (pe_op op_fdiv (pv 1) pe_int) (pe_op op_add (pe_op op_add (pe_op op_mul (pv 0) (pv 0)) (pe_op op_mul pe_int (pv 0))) pe_int)) pa_nil)) (pa_cons (pv 2) pa_nil)))) sc_l_word.nd rfl rfl)
   (pss_one (ps_ret (pe_tup (pa_cons (pe_op op_mod (pv 0) pe_int) (pa_cons (pe_cmpR op_eq (pe_op op_mod (pe_op op_fdiv (pv 0) pe_int) pe_int) pe_int (nomark _)) (pa_cons (pe_callD d_l_saying g_l_saying (hr.mono (by decide)) rfl (pa_cons (pe_op op_fdiv (pv 0) pe_int) (pa_cons (pv 1) pa_nil))) (pa_cons (pv 3) pa_nil))))))))),?_⟩
 have b1:=Int.emod_nonneg (n / 10) (show (6:Int)≠0 by decide)
 obtain ⟨v,hv,ev⟩:=pick [V.int 0,V.int 0,V.int 0,V.int 1,V.int 2,V.int 3] 6 (n / 10) rfl (by decide)
 obtain ⟨sz,rfl,z3⟩ : ∃ sz:Nat,v=V.int (sz:Int)∧sz≤3:=by
  simp only [List.mem_cons,List.not_mem_nil,or_false] at hv
  rcases hv with rfl | rfl | rfl | rfl | rfl | rfl
  ·exact ⟨0,rfl,by decide⟩
  ·exact ⟨0,rfl,by decide⟩
  ·exact ⟨0,rfl,by decide⟩
  ·exact ⟨1,rfl,by decide⟩
  ·exact ⟨2,rfl,by decide⟩
  ·exact ⟨3,rfl,by decide⟩
 refine ⟨by decide,fun p1 hp1=>?_⟩
 have s1:=same_new hp1 (.lst [V.int 0,V.int 0,V.int 0,V.int 1,V.int 2,V.int 3])
 have k1:(upd H p1 (.lst [V.int 0,V.int 0,V.int 0,V.int 1,V.int 2,V.int 3])) p1=some (.lst [V.int 0,V.int 0,V.int 0,V.int 1,V.int 2,V.int 3]):=upd_same
 generalize upd H p1 (.lst [V.int 0,V.int 0,V.int 0,V.int 1,V.int 2,V.int 3])=H1 at s1 k1 ⊢
 refine ⟨_,rfl,_,_,rfl,rfl,⟨by decide,by decide⟩,_,_,rfl,rfl,(by (first | decide | (show (0:Int) < _; first | decide | omega))),_,_,_,_,rfl,rfl,SqL.of k1,ev,?_⟩
 dsimp only [gName]
 refine ⟨_,rfl,_,rfl,(by omega),(by omega),?_⟩
 refine lc_range (fun j ys H2=>Same H1 H2∧∃ bs:List Addr,ys=bs.map V.ref∧bs.length=j∧∀ b ∈ bs,IsS H2 b) ⟨Same.refl _,[],rfl,rfl,fun b hb=>by cases hb⟩ ?_ ?_ ?_
 ·rintro j ys H2 hj ⟨_,bs,rfl,lj,_⟩
  rw [List.length_map,lj]
  exact Nat.lt_of_lt_of_le (show j < 1000 by omega) (small (Nat.le_refl _))
 ·rintro j ys H2 hj ⟨s2,bs,rfl,lj,hb⟩
  refine yes_go ?_
  refine ⟨_,rfl,_,_,rfl,rfl,⟨by decide,by decide⟩,_,rfl,_,rfl,_,_,rfl,rfl,.inl ⟨by omega,by omega⟩,_,rfl,_,_,rfl,rfl,.inl ⟨by decide,by decide⟩,_,_,rfl,rfl,_,_,rfl,rfl,_,_,rfl,rfl,.inl ⟨by omega,by omega⟩,_,rfl,_,rfl,_,m,rfl,m1,fun b H3 s3 ib=>?_⟩
  refine ⟨s2.trans s3,bs++[b],refs_snoc _ _,by simp [lj],fun b' hb'=>?_⟩
  rcases List.mem_append.mp hb' with h | h
  ·exact (hb b' h).same s3
  ·rw [List.mem_singleton.mp h]; exact ib
 rintro ys H2 ⟨s2,bs,rfl,lj,hb⟩ fo hfo
 have s3:=same_new hfo (.lst (bs.map V.ref))
 have k3:(upd H2 fo (.lst (bs.map V.ref))) fo=some (.lst (bs.map V.ref)):=upd_same
 generalize upd H2 fo (.lst (bs.map V.ref))=H3 at s3 k3 ⊢
 dsimp only [gName]
 refine ⟨_,rfl,_,_,rfl,rfl,(by (first | decide | (show (0:Int) < _; first | decide | omega))),_,rfl,_,_,rfl,rfl,⟨by decide,by decide⟩,_,_,rfl,rfl,(by (first | decide | (show (0:Int) < _; first | decide | omega))),rfl,_,rfl,_,_,rfl,rfl,⟨by decide,by decide⟩,_,rfl,_,m,rfl,m1,fun b0 H4 s4 ib=>?_⟩
 refine ⟨_,rfl,le4,fun p2 hp2=>?_⟩
 have s5:=same_new hp2 (.tup [V.int (n % 5),V.bl (decide (V.int (n / 5 % 2)=V.int 1)),V.ref b0,V.ref fo])
 refine q p2 fo ⟨n % 5,decide (V.int (n / 5 % 2)=V.int 1),b0,bs⟩ _ (s1.trans (s2.trans (s3.trans (s4.trans s5)))) ⟨upd_same,s5 _ _ (s4 _ _ k3)⟩ ⟨by show bs.length≤100; omega,fun b hb'=>?_⟩ (by show bs.length≤3; omega) ((s1.trans s2).free hfo)
 rcases List.mem_cons.mp hb' with h | h
 ·rw [h]; exact ib.same s5
 ·exact (hb b h).same (s3.trans (s4.trans s5))
def sp_l_words (K:PySem.W.Frag) : Sp:=fun vs H Q _=>∃ (sa:Addr) (ns:List Int) (far:Int),vs=[.ref sa,.int far]∧SqL K H sa (ns.map V.int)∧ns.length≤63∧∀ wq as fs xs H',Same H H'→H' wq=some (.lst (as.map V.ref))→WxS H' as fs xs→WxI H' xs→xs.length≤500→Q (.ref wq) H'
theorem sc_l_words:FnScope ["script","far","cells","number","many","found","k","at"] ["script","far"] (defScope s_l_words):=⟨rfl,rfl,rfl,by decide +kernel,rfl,by decide +kernel,by decide +kernel⟩
theorem ok_l_words (T:Txt P w K mg a) : FnOk P w K mg base CX0 4 a.f_l_words a.fd_l_words ["script","far"] (sp_l_words K):=by
 have g_l_cell_at:=ok_l_cell_at (P:=P) (w:=w) (base:=base) T
 have d_l_cell_at:=T.d_l_cell_at
 have g_l_mixed:=ok_l_mixed (P:=P) (w:=w) (base:=base) T
 have d_l_mixed:=T.d_l_mixed
 have g_l_odd_word:=ok_l_odd_word (P:=P) (w:=w) (base:=base) T
 have d_l_odd_word:=T.d_l_odd_word
 have g_l_word:=ok_l_word (P:=P) (w:=w) (base:=base) T
 have d_l_word:=T.d_l_word
 have z_len:=T.z_len
 have z_max:=T.z_max
 have z_min:=T.z_min
 have z_range:=T.z_range
 refine T.d_l_words.fn.ok sc_l_words (fun vs H Q E h=>?_) (fun cdv A outer s H vs Q E hr h=>?_)
 ·obtain ⟨sa,ns,far,rfl,_⟩:=h
  rfl
 obtain ⟨sa,ns,far,rfl,hS,h63,q⟩:=h
 have hu:=Nat.lt_of_succ_lt (hu_of hr)
 refine ⟨_,(pss_cons (ps_set (i:=2) sc_l_words.nd rfl (Or.inl rfl) (pe_slice sl_list (pv 0) (po_some pe_int) (po_some pe_int)))
   (pss_cons (ps_set (i:=3) sc_l_words.nd rfl (Or.inl rfl) (pe_callD d_l_mixed g_l_mixed (hr.mono (by decide)) rfl (pa_cons (pe_callD d_l_cell_at g_l_cell_at (hr.mono (by decide)) rfl (pa_cons (pv 0) (pa_cons pe_int pa_nil))) pa_nil)))
   (pss_cons (ps_set (i:=4) sc_l_words.nd rfl (Or.inl rfl) (pe_callB call_len_seq rfl z_len PySem.boot_len (pa_cons (pv 2) pa_nil)))
   (pss_cons (ps_if (pt_cmpR op_eq (pe_op op_mod (pv 3) pe_int) pe_int (nomark _)) (pss_one (ps_set (i:=4) sc_l_words.nd rfl (Or.inl rfl) pe_int)) pss_nil)
   (pss_cons (ps_if (pt_cmpR op_eq (pe_op op_mod (pv 3) pe_int) pe_int (nomark _)) (pss_one (ps_set (i:=4) sc_l_words.nd rfl (Or.inl rfl) (pe_op op_add pe_int (pe_op op_mod (pe_op op_fdiv (pv 3) pe_int) pe_int)))) pss_nil)
   (pss_cons (ps_set (i:=5) sc_l_words.nd rfl (Or.inr rfl) (pe_lst pa_nil))
   (pss_cons (ps_for PassesOwn.never rfl (pi_range1 rfl z_range (pa_cons (pe_callB (call_min2 rfl) rfl z_min PyProof.Rows.boot_min (pa_cons (pv 4) (pa_cons (pe_callB (call_max2 rfl) rfl z_max PyProof.Rows.boot_max (pa_cons pe_int (pa_cons (pe_callB call_len_seq rfl z_len PySem.boot_len (pa_cons (pv 2) pa_nil)) pa_nil))) pa_nil))) pa_nil)) (pg_name (i:=6) sc_l_words.nd rfl (Or.inl rfl)) (pss_one (ps_expr (pe_bm PySem.F.plainAttrs_list PySem.F.slot_list_append PySem.F.type_list_append mt_append (pv 5) (pa_cons (pe_callD d_l_word g_l_word (hr.mono (by decide)) rfl (pa_cons (pe_callD d_l_mixed g_l_mixed (hr.mono (by decide)) rfl (pa_cons (pe_callD d_l_cell_at g_l_cell_at (hr.mono (by decide)) rfl (pa_cons (pv 0) (pa_cons (pe_op op_add (pv 6) pe_int) pa_nil))) pa_nil)) (pa_cons (pv 4) pa_nil))) pa_nil)))))
   (pss_cons (ps_if (pt_cmpR (op_eqNil hu) (pv 5) (pe_lst pa_nil) (nomark _)) (pss_one (ps_ret (pv 5))) pss_nil)
   (pss_cons (ps_set (i:=5) sc_l_words.nd rfl (Or.inr rfl) (pe_lc rfl (lcok (caps:=["found"]) (js:=[5]) (cap:=⟨⟨rfl,.inl rfl,rfl,.inl rfl⟩,trivial⟩)) (pi_range1 rfl z_range (pa_cons (pv 4) pa_nil)) (fun _ _ _ _=>pts_nil) (fun _ _ _ _=>(pe_ix (r:=rIxL K) ix_list (pv 1) (pe_op op_mod (pv 0) (pe_callB (r:=rLen K) call_len_seq rfl z_len PySem.boot_len (pa_cons (pv 1) pa_nil))) (fun _ _=>rfl)))))
   (pss_cons (ps_set (i:=7) sc_l_words.nd rfl (Or.inl rfl) (pe_op op_mod (pe_op op_fdiv (pv 3) pe_int) (pv 4)))
   (pss_cons (ps_asg (pe_callD d_l_odd_word g_l_odd_word (hr.mono (by decide)) rfl (pa_cons (pe_ix ix_list (pv 5) (pv 7) (fun _ _=>rfl)) (pa_cons (pe_op op_fdiv (pv 3) pe_int) (pa_cons (pv 4) (pa_cons (pv 1) pa_nil))))) (pg_sub (pv 5) (pv 7) set_list))
   (pss_one (ps_ret (pv 5)))))))))))))),?_⟩
 refine ⟨_,rfl,_,rfl,_,rfl,_,_,rfl,hS,fun p1 hp1=>?_⟩
 rw [cutV_map]
 have cl:(cutL ns (some 3) (some 43)).length≤63:=by
  unfold cutL
  rw [List.length_take,List.length_drop]
  omega
 generalize cutL ns (some 3) (some 43)=cs at cl ⊢
 have s1:=same_new hp1 (.lst (cs.map V.int))
 have k1:(upd H p1 (.lst (cs.map V.int))) p1=some (.lst (cs.map V.int)):=upd_same
 generalize upd H p1 (.lst (cs.map V.int))=H1 at s1 k1 ⊢
 dsimp only [gName]
 refine ⟨_,rfl,_,_,1,rfl,s1.seq hS,_,rfl,?_⟩
 dsimp only [gName]
 generalize mixed (ns.getD 1 0)=nm
 refine ⟨_,rfl,_,_,rfl,.inl (SqL.of k1),?_⟩
 dsimp only [gName]
 rw [List.length_map]
 refine cut_seq (fun σ' H'=>H' = H1∧∃ m:Nat,σ' = [some (.ref sa),some (.int far),some (.ref p1),some (.int nm),some (.int (m:Int)),none,none,none]∧m≤403) ?_ (fun key=>?_)
 rotate_left
 ·refine ⟨_,rfl,_,_,rfl,rfl,(by (first | decide | (show (0:Int) < _; first | decide | omega))),rfl,_,rfl,?_⟩
  refine ite2 (fun c=>?_) (fun c=>?_)
  ·exact key _ _ ⟨rfl,400,rfl,by decide⟩
  ·exact key _ _ ⟨rfl,cs.length,rfl,by omega⟩
 rintro σ' H' ⟨eH,m0,rfl,lm0⟩
 rw [eH]
 clear eH
 refine cut_seq (fun σ' H'=>H' = H1∧∃ m:Nat,σ' = [some (.ref sa),some (.int far),some (.ref p1),some (.int nm),some (.int (m:Int)),none,none,none]∧m≤403) ?_ (fun key=>?_)
 rotate_left
 ·refine ⟨_,rfl,_,_,rfl,rfl,(by (first | decide | (show (0:Int) < _; first | decide | omega))),rfl,_,rfl,?_⟩
  refine ite2 (fun c=>?_) (fun c=>?_)
  ·have b1:=Int.emod_nonneg (nm / 16) (show (3:Int)≠0 by decide)
   have b2:=Int.emod_lt_of_pos (nm / 16) (show (0:Int) < 3 by decide)
   refine ⟨_,rfl,_,_,rfl,rfl,⟨by decide,by decide⟩,_,_,rfl,rfl,(by (first | decide | (show (0:Int) < _; first | decide | omega))),_,_,rfl,rfl,?_⟩
   obtain ⟨y,ey⟩:=Int.eq_ofNat_of_zero_le (show 0≤401+nm / 16 % 3 by omega)
   dsimp only [gName]
   rw [ey]
   exact key _ _ ⟨rfl,y,rfl,by omega⟩
  ·exact key _ _ ⟨rfl,m0,rfl,lm0⟩
 clear lm0 m0
 rintro σ' H' ⟨eH,m,rfl,lm⟩
 rw [eH]
 clear eH
 refine ⟨Nat.zero_le _,fun p2 hp2=>?_⟩
 have s2:=same_new hp2 (.lst [])
 have k2:(upd H1 p2 (.lst [])) p2=some (.lst []):=upd_same
 have n20:H p2=none:=s1.free hp2
 generalize upd H1 p2 (.lst [])=H2 at s2 k2 ⊢
 dsimp only [gName]
 have t2:=s1.trans s2
 refine ⟨_,rfl,_,rfl,_,_,rfl,.inl (SqL.of (s2 _ _ k1)),_,_,rfl,_,_,rfl,?_⟩
 rw [List.length_map]
 obtain ⟨r,er,r1,r2⟩ : ∃ r:Nat,(if (if (cs.length:Int) > 1 then (cs.length:Int) else 1) < (m:Int) then (if (cs.length:Int) > 1 then (cs.length:Int) else 1) else (m:Int))=(r:Int)∧r≤403∧(0 < m→0 < r):=by
  by_cases c1:(cs.length:Int) > 1
  ·rw [if_pos c1]
   by_cases c2:(cs.length:Int) < (m:Int)
   ·rw [if_pos c2]; exact ⟨cs.length,rfl,by omega,by omega⟩
   ·rw [if_neg c2]; exact ⟨m,rfl,lm,fun z=>z⟩
  ·rw [if_neg c1]
   by_cases c2:(1:Int) < (m:Int)
   ·rw [if_pos c2]; exact ⟨1,rfl,by omega,by omega⟩
   ·rw [if_neg c2]; exact ⟨m,rfl,lm,fun z=>z⟩
 rw [er]
 refine ⟨_,rfl,(by omega),(by omega),for_range (fun i σ H3=>Same H H3∧∃ (v6:Option V) (as fs:List Addr) (xs:List Wx),σ=[some (.ref sa),some (.int far),some (.ref p1),some (.int nm),some (.int (m:Int)),some (.ref p2),v6,none]∧H3 p2=some (.lst (as.map V.ref))∧WxS H3 as fs xs∧(∀ f ∈ fs,f≠p2)∧WxI H3 xs∧(∀ x ∈ xs,x.bs.length≤3)∧xs.length=i) ⟨t2,none,[],[],[],rfl,k2,WxS.nil,(fun f hf=>by cases hf),(fun x hx=>by cases hx),(fun x hx=>by cases hx),rfl⟩ ?_ ?_⟩
 ·rintro i σ H3 hi ⟨s3,v6,as,fs,xs,rfl,kp,P,nf,I,b3,el⟩
  have hi':i < 403:=by omega
  rw [Int.zero_add]
  dsimp only [gName]
  have mi:=mixed_in (ns.getD (i+3) 0)
  refine ⟨_,rfl,.inl ⟨rfl,_,SqL.of kp⟩,_,rfl,_,rfl,_,_,rfl,rfl,_,_,i+3,rfl,s3.seq hS,_,rfl,_,rfl,_,m,rfl,mi,(by omega),fun wa fo x H4 s4 hw hwi x3 nfo=>?_⟩
  have kp4:=s4 _ _ kp
  have nfp:fo≠p2:=fun e=>by rw [e,kp] at nfo; cases nfo
  refine ⟨_,_,_,rfl,rfl,kp4,szR (n:=403) (by rw [P.l1,el]; omega) (by decide),?_⟩
  refine ⟨(s3.trans s4).put n20,_,as++[wa],fs++[fo],xs++[x],rfl,by rw [upd_same,refs_snoc],((P.same s4).snoc hw).put kp4 (fun f hf=>?_),fun f hf=>?_,WxI.put (fun y hy=>?_) kp4,fun y hy=>?_,by simp [el]⟩
  ·rcases List.mem_append.mp hf with h | h
   ·exact nf f h
   ·rw [List.mem_singleton.mp h]; exact nfp
  ·rcases List.mem_append.mp hf with h | h
   ·exact nf f h
   ·rw [List.mem_singleton.mp h]; exact nfp
  ·rcases List.mem_append.mp hy with h | h
   ·exact (I y h).same s4
   ·rw [List.mem_singleton.mp h]; exact hwi
  ·rcases List.mem_append.mp hy with h | h
   ·exact b3 y h
   ·rw [List.mem_singleton.mp h]; exact x3
 rintro σ H3 ⟨s3,v6,as,fs,xs,rfl,kp,P,nf,I,b3,el⟩
 have el':xs.length=r:=by omega
 refine ⟨_,rfl,Nat.zero_le _,fun p3 hp3=>?_⟩
 have s4:=same_new hp3 (.lst [])
 have k4:(upd H3 p3 (.lst [])) p3=some (.lst []):=upd_same
 generalize upd H3 p3 (.lst [])=H4 at s4 k4 ⊢
 refine ⟨p2,p3,_,rfl,rfl,SqL.of (s4 _ _ kp),SqL.of k4,_,rfl,?_⟩
 by_cases x0:xs.length=0
 ·have xe:xs=[]:=List.length_eq_zero_iff.mp x0
  have ae:as=[]:=List.length_eq_zero_iff.mp (by rw [P.l1]; exact x0)
  subst xe
  subst ae
  refine iteT ?_
  exact ⟨_,rfl,q p2 [] fs [] H4 (s3.trans s4) (s4 _ _ kp) (P.same s4) (I.same s4) (Nat.zero_le _)⟩
 have la:(as.map V.ref).length=xs.length:=by rw [List.length_map,P.l1]
 have ne:(as.map V.ref).isEmpty=false:=by
  cases as with
  | nil=>exact absurd P.l1.symm x0
  | cons a as=>rfl
 rw [ne]
 refine iteF ?_
 dsimp only [tNext]
 have m1:0 < m:=by
  refine Nat.pos_of_ne_zero fun z=>?_
  subst z
  have er':r=0:=by
   by_cases c1:(if (cs.length:Int) > 1 then (cs.length:Int) else 1) < ((0:Nat) : Int)
   ·exfalso
    by_cases c2:(cs.length:Int) > 1
    ·rw [if_pos c2] at c1; omega
    ·rw [if_neg c2] at c1; omega
   ·rw [if_neg c1] at er
    omega
  omega
 have t4:=s3.trans s4
 refine ⟨_,rfl,_,rfl,(by omega),(by omega),?_⟩
 refine lc_range (fun j ys H5=>H5=H4∧∃ (bs gs:List Addr) (zs:List Wx),ys=bs.map V.ref∧WxS H4 bs gs zs∧zs.length=j∧(∀ x ∈ zs,x ∈ xs)∧∀ f ∈ gs,f ∈ fs) ⟨rfl,[],[],[],rfl,WxS.nil,rfl,(fun x hx=>by cases hx),fun f hf=>by cases hf⟩ ?_ ?_ ?_
 ·rintro j ys H5 hj ⟨_,bs,gs,zs,rfl,P5,lj,_⟩
  exact szR (n:=403) (by rw [P5.l1,lj]; omega) (by decide)
 ·rintro j ys H5 hj ⟨eH,bs,gs,zs,rfl,P5,lj,hz,hg⟩
  rw [eH]
  refine yes_go ?_
  have b1:=Int.emod_nonneg (0+(j:Int)) (show ((xs.length:Nat) : Int)≠0 by omega)
  have b2:=Int.emod_lt_of_pos (0+(j:Int)) (show (0:Int) < ((xs.length:Nat) : Int) by omega)
  obtain ⟨k,ek⟩:=Int.eq_ofNat_of_zero_le b1
  obtain ⟨a,f,x,f1,f2,f3,f4,f5⟩:=(P.same s4).get (i:=k) (by omega)
  refine ⟨_,rfl,_,rfl,_,rfl,_,_,rfl,.inl (SqL.of (s4 _ _ kp)),_,_,rfl,rfl,(by rw [la]; omega),_,_,_,_,rfl,rfl,SqL.of (s4 _ _ kp),(by rw [la,ek]; exact f5),?_⟩
  refine ⟨rfl,bs++[a],gs++[f],zs++[x],refs_snoc _ _,P5.snoc f4,by simp [lj],fun y hy=>?_,fun g hg'=>?_⟩
  ·rcases List.mem_append.mp hy with h | h
   ·exact hz y h
   ·rw [List.mem_singleton.mp h]; exact List.mem_of_getElem? f3
  ·rcases List.mem_append.mp hg' with h | h
   ·exact hg g h
   ·rw [List.mem_singleton.mp h]; exact List.mem_of_getElem? f2
 rintro ys H5' ⟨eH,bs,gs,zs,rfl,P5,lj,hz,hg⟩ p4 hp4
 rw [eH] at hp4 ⊢
 clear eH
 have s5:=same_new hp4 (.lst (bs.map V.ref))
 have k5:(upd H4 p4 (.lst (bs.map V.ref))) p4=some (.lst (bs.map V.ref)):=upd_same
 generalize upd H4 p4 (.lst (bs.map V.ref))=H5 at s5 k5 ⊢
 dsimp only [gName]
 have t5:=t4.trans s5
 have lj':zs.length=m:=by omega
 have b1:=Int.emod_nonneg (nm / 48) (show (m:Int)≠0 by omega)
 have b2:=Int.emod_lt_of_pos (nm / 48) (show (0:Int) < (m:Int) by omega)
 obtain ⟨k,ek⟩:=Int.eq_ofNat_of_zero_le b1
 refine ⟨_,rfl,_,_,rfl,rfl,⟨by decide,by decide⟩,_,rfl,_,_,rfl,rfl,(by omega),?_⟩
 dsimp only [gName]
 rw [ek]
 obtain ⟨a,f,x,f1,f2,f3,f4,f5⟩:=(P5.same s5).get (i:=k) (by omega)
 have xin:=hz x (List.mem_of_getElem? f3)
 have gn:∀ g ∈ gs,H4 g≠none:=fun g hg' z=>by
  obtain ⟨j,hj,rfl⟩:=List.getElem_of_mem hg'
  obtain ⟨_,_,_,_,g2,_,g4,_⟩:=P5.get (i:=j) (by rw [← P5.l2]; exact hj)
  rw [List.getElem?_eq_getElem hj] at g2
  cases g2
  rw [g4.2] at z
  cases z
 refine ⟨_,rfl,_,rfl,_,_,_,_,rfl,rfl,SqL.of k5,f5,_,rfl,_,_,rfl,rfl,⟨by decide,by decide⟩,_,rfl,_,rfl,a,f,x,_,m,far,rfl,f4,(I x xin).same (s4.trans s5),b3 x xin,fun wa fo y H6 s6 hw hwi hfo=>?_⟩
 have k6:=s6 _ _ k5
 have n4:∀ g ∈ gs,g≠p4:=fun g hg' e=>gn g hg' (by rw [e]; exact hp4)
 have nfo:fo≠p4:=fun e=>by
  rcases hfo with h | h
  ·rw [e] at h; exact n4 f (List.mem_of_getElem? f2) h.symm
  ·rw [e,k5] at h; cases h
 refine ⟨_,rfl,_,rfl,_,_,_,_,rfl,rfl,k6,ixN_in (by omega) (by rw [List.length_map,P5.l1]; omega),?_⟩
 rw [refs_set]
 refine ⟨_,rfl,q p4 _ _ _ _ ((t5.trans s6).put (t4.free hp4)) upd_same ((((P5.same s5).same s6).set hw).put k6 (fun g hg'=>?_)) (WxI.put (fun y' hy=>?_) k6) (by rw [List.length_set]; omega)⟩
 ·rcases memSet hg' with h | h
  ·exact n4 g h
  ·rw [h]; exact nfo
 ·rcases memSet hy with h | h
  ·exact (I y' (hz y' h)).same (s4.trans (s5.trans s6))
  ·rw [h]; exact hwi
theorem sc_law:FnScope ["script","far","form","words","due","refused","found"] ["script"] (defScope s_law):=⟨rfl,rfl,rfl,by decide +kernel,rfl,by decide +kernel,by decide +kernel⟩
theorem ok_law (T:Txt P w K mg a) : FnOk P w K mg base CX0 6 a.f_law a.fd_law ["script"] (sp_law K):=by
 have g_l_cell_at:=ok_l_cell_at (P:=P) (w:=w) (base:=base) T
 have d_l_cell_at:=T.d_l_cell_at
 have g_l_copied:=ok_l_copied (P:=P) (w:=w) (base:=base) T
 have d_l_copied:=T.d_l_copied
 have g_l_due:=ok_l_due (P:=P) (w:=w) (base:=base) T
 have d_l_due:=T.d_l_due
 have g_l_form:=ok_l_form (P:=P) (w:=w) (base:=base) T
 have d_l_form:=T.d_l_form
 have g_l_form_refused:=ok_l_form_refused (P:=P) (w:=w) (base:=base) T
 have d_l_form_refused:=T.d_l_form_refused
 have g_l_mixed:=ok_l_mixed (P:=P) (w:=w) (base:=base) T
 have d_l_mixed:=T.d_l_mixed
 have g_l_refused:=ok_l_refused (P:=P) (w:=w) (base:=base) T
 have d_l_refused:=T.d_l_refused
 have g_l_told_apart:=ok_l_told_apart (P:=P) (w:=w) (base:=base) T
 have d_l_told_apart:=T.d_l_told_apart
 have g_l_words:=ok_l_words (P:=P) (w:=w) (base:=base) T
 have d_l_words:=T.d_l_words
 have g_book_of:=ok_book_of (P:=P) (w:=w) (base:=base) T
 have d_book_of:=T.d_book_of
 have z_isinstance:=T.z_isinstance
 have z_len:=T.z_len
 have z_tuple:=T.z_tuple
 refine T.d_law.fn.ok sc_law (fun vs H Q E h=>?_) (fun cdv A outer s H vs Q E hr h=>?_)
 ·obtain ⟨a,ns,rfl,_⟩:=h
  rfl
 obtain ⟨sa,ns,rfl,hS,h63,q⟩:=h
 have hu:=Nat.lt_of_succ_lt (hu_of hr)
 refine ⟨_,(pss_cons (ps_set (i:=1) sc_law.nd rfl (Or.inl rfl) (pe_callD d_l_cell_at g_l_cell_at (hr.mono (by decide)) rfl (pa_cons (pv 0) (pa_cons pe_int pa_nil))))
   (pss_cons (ps_set (i:=2) sc_law.nd rfl (Or.inl rfl) (pe_callD d_l_form g_l_form (hr.mono (by decide)) rfl (pa_cons (pv 0) (pa_cons (pv 1) pa_nil))))
   (pss_cons (ps_set (i:=3) sc_law.nd rfl (Or.inl rfl) (pe_callD d_l_words g_l_words (hr.mono (by decide)) rfl (pa_cons (pv 0) (pa_cons (pv 1) pa_nil))))
   (pss_cons (ps_set (i:=4) sc_law.nd rfl (Or.inl rfl) (pe_callD d_l_due g_l_due (hr.mono (by decide)) rfl (pa_cons (pv 2) (pa_cons (pv 3) pa_nil))))
   (pss_cons (ps_set (i:=5) sc_law.nd rfl (Or.inl rfl) (pe_callD d_l_form_refused g_l_form_refused (hr.mono (by decide)) rfl (pa_cons (pv 2) pa_nil)))
   (pss_cons (ps_if (PW.pt (pw_or (PW.pt (pw_and (pt_cmpR op_eq (pv 4) pe_str (nomark _)) (pw_and1 (pt_cmpR op_notT (pv 5) pe_bl (nomark _))))) (pw_or1 (PW.pt (pw_and (pt_cmpR op_ne (pv 4) pe_str (nomark _)) (pw_and1 (pt_cmpR op_notN (pv 5) pe_non (nomark _)))))))) (pss_one (ps_ret pe_bl)) pss_nil)
   (pss_cons (ps_if (pt_cmpR op_ne (pv 4) pe_str (nomark _)) (pss_one (ps_ret (pe_cmpR (op_eqL hu) (pe_callD d_l_refused g_l_refused (hr.mono (by decide)) rfl (pa_cons (pv 2) (pa_cons (pe_callD d_l_copied g_l_copied (hr.mono (by decide)) rfl (pa_cons (pv 3) pa_nil)) pa_nil))) (pe_lst (pa_cons pe_bl (pa_cons (pe_cmpR op_eq (pv 4) pe_str (nomark _)) (pa_cons (pe_cmpR op_eq (pv 4) pe_str (nomark _)) (pa_cons (pe_cmpR op_eq (pv 4) pe_str (nomark _)) pa_nil))))) (nomark _)))) pss_nil)
   (pss_cons (ps_if (pt_cmpR (op_eqNil hu) (pv 3) (pe_lst pa_nil) (nomark _)) (pss_cons (ps_set (i:=6) sc_law.nd rfl (Or.inl rfl) (pe_callX pass_never d_book_of g_book_of (hr.mono (by decide)) rfl (pa_cons (pv 2) (pa_cons (pe_lst pa_nil) pa_nil))))
   (pss_one (ps_ret (pe_and (pe_callB call_isi rfl z_isinstance PyProof.Rows.boot_isinstance (pa_cons (pe_ix ix_tup (pv 6) pe_int (fun _ _=>rfl)) (pa_cons (pe_bltn (v:=.ty "tuple") rfl z_tuple PyProof.Rows.boot_tuple rfl) pa_nil))) (pe_one (pe_cmpR (op_eqQ (hu100 hr)) (pv 6) (pe_tup (pa_cons (pv 2) (pa_cons (pe_lst pa_nil) pa_nil))) (nomark _))))))) pss_nil)
   (pss_one (ps_ret (pe_callD d_l_told_apart g_l_told_apart (hr.mono (by decide)) rfl (pa_cons (pv 2) (pa_cons (pv 3) (pa_cons (pe_op op_mod (pe_callD d_l_mixed g_l_mixed (hr.mono (by decide)) rfl (pa_cons (pv 1) pa_nil)) (pe_callB call_len_seq rfl z_len PySem.boot_len (pa_cons (pv 3) pa_nil))) pa_nil)))))))))))))),?_⟩
 refine ⟨_,rfl,_,_,2,rfl,hS,?_⟩
 dsimp only [gName]
 refine ⟨_,rfl,_,rfl,sa,ns,ns.getD 2 0,rfl,hS,h63,fun fa F H1 s1 hf1=>?_⟩
 dsimp only [gName]
 refine ⟨_,rfl,_,rfl,sa,ns,ns.getD 2 0,rfl,s1.seq hS,h63,fun wq as fs xs H2 s2 hwq hws hwi l5=>?_⟩
 dsimp only [gName]
 have hf:=s2 _ _ hf1
 obtain ⟨c,hc,hd⟩:=due_ex H2 F xs
 refine ⟨_,rfl,_,rfl,fa,wq,F,as,fs,xs,rfl,hf,hwq,hws,hwi,l5,fun c' H3 hc' hd' s3=>?_⟩
 have ec:c=c':=(due_uniq hc' hc hd' hd).symm
 subst ec
 clear hc' hd'
 dsimp only [gName]
 refine cut_seq (fun σ' H'=>H' = H3∧∃ v:V,(c=0→v = .bl true)∧(c≠0→v = .non)∧σ' = [some (.ref sa),some (.int (ns.getD 2 0)),some (.ref fa),some (.ref wq),some (.str (dueS c)),some (v),none]) ?_ (fun key=>?_)
 rotate_left
 ·refine ⟨_,rfl,fa,F,rfl,s3 _ _ hf,fun nok=>?_,fun ok=>?_⟩
  ·exact key _ _ ⟨rfl,_,fun _=>rfl,fun z=>absurd (due_uniq hc (by decide) hd (d:=0) nok) z,rfl⟩
  ·exact key _ _ ⟨rfl,_,fun z=>by rw [z] at hd; exact absurd ok hd,fun _=>rfl,rfl⟩
 rintro σ' H' ⟨eH,v,v0,v1,rfl⟩
 rw [eH]
 clear eH
 refine cut_seq (fun σ' H'=>H' = H3∧σ' = [some (.ref sa),some (.int (ns.getD 2 0)),some (.ref fa),some (.ref wq),some (.str (dueS c)),some (v),none]) ?_ (fun key=>?_)
 rotate_left
 ·by_cases c0:c=0
  ·have ev:=v0 c0
   subst c0
   subst ev
   refine ⟨_,rfl,rfl,_,rfl,?_⟩
   rw [decide_eq_true (show V.str (dueS 0)=V.str (PySem.Str.ofString "form") from rfl)]
   refine iteT ?_
   refine ⟨_,rfl,rfl,.inr rfl,_,rfl,?_⟩
   rw [decide_eq_true rfl]
   refine iteF ?_
   refine ⟨_,rfl,rfl,_,rfl,?_⟩
   rw [decide_eq_true (show V.str (dueS 0)=V.str (PySem.Str.ofString "form") from rfl)]
   refine iteF ?_
   exact key _ _ ⟨rfl,rfl⟩
  ·have ev:=v1 c0
   subst ev
   have nf:¬ V.str (dueS c)=V.str (PySem.Str.ofString "form"):=by
    match c,hc,c0 with
    | 1,_,_=>exact fun z=>absurd (V.str.inj z) (by decide +kernel)
    | 2,_,_=>exact fun z=>absurd (V.str.inj z) (by decide +kernel)
    | 3,_,_=>exact fun z=>absurd (V.str.inj z) (by decide +kernel)
    | 0,_,z=>exact absurd rfl z
   refine ⟨_,rfl,rfl,_,rfl,?_⟩
   rw [decide_eq_false nf]
   refine iteF ?_
   refine ⟨_,rfl,rfl,_,rfl,?_⟩
   rw [decide_eq_false nf]
   refine iteT ?_
   refine ⟨_,rfl,rfl,_,rfl,?_⟩
   rw [decide_eq_true rfl]
   refine iteF ?_
   exact key _ _ ⟨rfl,rfl⟩
 rintro σ' H' ⟨eH,rfl⟩
 rw [eH]
 clear eH
 match c,hc,hd,v0,v1 with
 | 0,_,hd,_,_ =>
  refine ⟨_,rfl,rfl,_,rfl,?_⟩
  rw [decide_eq_false (show ¬ V.str (dueS 0)=V.str (PySem.Str.ofString "good") from fun z=>absurd (V.str.inj z) (by decide +kernel))]
  refine iteT ?_
  refine ⟨_,rfl,_,rfl,wq,as,fs,xs,rfl,s3 _ _ hwq,hws.same s3,l5,fun lq bs gs H5 s5 klq P5 _ _ _=>?_⟩
  have t5:=s3.trans s5
  refine ⟨fa,lq,F,bs,gs,xs,0,rfl,t5 _ _ hf,klq,P5,hwi.same t5,l5,by decide,DueC.same hwi t5 0 hd,fun p H6 s6 kp=>?_⟩
  refine ⟨_,rfl,rfl,_,rfl,rfl,_,rfl,rfl,le4,fun p1 hp1=>?_⟩
  have e:eqVs [V.bl true,V.bl (decide (0=0)),V.bl (decide (0=1)),V.bl (decide (0=2))] [V.bl true,V.bl (decide (V.str (dueS 0)=V.str (PySem.Str.ofString "form"))),V.bl (decide (V.str (dueS 0)=V.str (PySem.Str.ofString "long"))),V.bl (decide (V.str (dueS 0)=V.str (PySem.Str.ofString "word")))]=true:=by decide +kernel
  refine ⟨p,p1,_,_,rfl,rfl,SqL.of ((same_new hp1 _) _ _ kp),SqL.of upd_same,rfl,rfl,?_⟩
  rw [if_neg (by decide),e]
  exact q _
 | 1,_,hd,_,_ =>
  refine ⟨_,rfl,rfl,_,rfl,?_⟩
  rw [decide_eq_false (show ¬ V.str (dueS 1)=V.str (PySem.Str.ofString "good") from fun z=>absurd (V.str.inj z) (by decide +kernel))]
  refine iteT ?_
  refine ⟨_,rfl,_,rfl,wq,as,fs,xs,rfl,s3 _ _ hwq,hws.same s3,l5,fun lq bs gs H5 s5 klq P5 _ _ _=>?_⟩
  have t5:=s3.trans s5
  refine ⟨fa,lq,F,bs,gs,xs,1,rfl,t5 _ _ hf,klq,P5,hwi.same t5,l5,by decide,DueC.same hwi t5 1 hd,fun p H6 s6 kp=>?_⟩
  refine ⟨_,rfl,rfl,_,rfl,rfl,_,rfl,rfl,le4,fun p1 hp1=>?_⟩
  have e:eqVs [V.bl true,V.bl (decide (1=0)),V.bl (decide (1=1)),V.bl (decide (1=2))] [V.bl true,V.bl (decide (V.str (dueS 1)=V.str (PySem.Str.ofString "form"))),V.bl (decide (V.str (dueS 1)=V.str (PySem.Str.ofString "long"))),V.bl (decide (V.str (dueS 1)=V.str (PySem.Str.ofString "word")))]=true:=by decide +kernel
  refine ⟨p,p1,_,_,rfl,rfl,SqL.of ((same_new hp1 _) _ _ kp),SqL.of upd_same,rfl,rfl,?_⟩
  rw [if_neg (by decide),e]
  exact q _
 | 2,_,hd,_,_ =>
  refine ⟨_,rfl,rfl,_,rfl,?_⟩
  rw [decide_eq_false (show ¬ V.str (dueS 2)=V.str (PySem.Str.ofString "good") from fun z=>absurd (V.str.inj z) (by decide +kernel))]
  refine iteT ?_
  refine ⟨_,rfl,_,rfl,wq,as,fs,xs,rfl,s3 _ _ hwq,hws.same s3,l5,fun lq bs gs H5 s5 klq P5 _ _ _=>?_⟩
  have t5:=s3.trans s5
  refine ⟨fa,lq,F,bs,gs,xs,2,rfl,t5 _ _ hf,klq,P5,hwi.same t5,l5,by decide,DueC.same hwi t5 2 hd,fun p H6 s6 kp=>?_⟩
  refine ⟨_,rfl,rfl,_,rfl,rfl,_,rfl,rfl,le4,fun p1 hp1=>?_⟩
  have e:eqVs [V.bl true,V.bl (decide (2=0)),V.bl (decide (2=1)),V.bl (decide (2=2))] [V.bl true,V.bl (decide (V.str (dueS 2)=V.str (PySem.Str.ofString "form"))),V.bl (decide (V.str (dueS 2)=V.str (PySem.Str.ofString "long"))),V.bl (decide (V.str (dueS 2)=V.str (PySem.Str.ofString "word")))]=true:=by decide +kernel
  refine ⟨p,p1,_,_,rfl,rfl,SqL.of ((same_new hp1 _) _ _ kp),SqL.of upd_same,rfl,rfl,?_⟩
  rw [if_neg (by decide),e]
  exact q _
 | 3,_,hd,_,_ =>
  refine ⟨_,rfl,rfl,_,rfl,?_⟩
  rw [decide_eq_true (show V.str (dueS 3)=V.str (PySem.Str.ofString "good") from rfl)]
  refine iteF ?_
  dsimp only [tNext]
  refine ⟨_,rfl,Nat.zero_le _,fun p2 hp2=>?_⟩
  have s4:=same_new hp2 (.lst [])
  have k4:(upd H3 p2 (.lst [])) p2=some (.lst []):=upd_same
  generalize upd H3 p2 (.lst [])=H4 at s4 k4 ⊢
  have t4:=s3.trans s4
  refine ⟨wq,p2,_,rfl,rfl,SqL.of (t4 _ _ hwq),SqL.of k4,_,rfl,?_⟩
  cases xs with
  | nil =>
   have ea:as=[]:=List.length_eq_zero_iff.mp hws.l1
   subst ea
   refine iteT ?_
   refine ⟨_,rfl,Nat.zero_le _,fun p3 hp3=>?_⟩
   have s5:=same_new hp3 (.lst [])
   have k5:(upd H4 p3 (.lst [])) p3=some (.lst []):=upd_same
   generalize upd H4 p3 (.lst [])=H5 at s5 k5 ⊢
   have t5:=t4.trans s5
   have due5:=DueC.same hwi t5 3 hd
   refine ⟨fa,p3,F,[],[],[],rfl,t5 _ _ hf,k5,WxS.nil,(fun x hx=>by cases hx),Nat.zero_le _,fun d=>absurd (due_uniq (by decide) (by decide) d due5) (by decide),fun d=>absurd (due_uniq (by decide) (by decide) d due5) (by decide),fun d=>absurd (due_uniq (by decide) (by decide) d due5) (by decide),fun _ q0 lq bs gs H6 s6 kq klq P6 _ _ _=>?_⟩
   dsimp only [gName]
   have eb:bs=[]:=List.length_eq_zero_iff.mp P6.l1
   subst eb
   refine ⟨_,rfl,_,_,_,_,rfl,rfl,SqT.of kq,rfl,_,"tuple",true,rfl,(by decide),.inr ⟨⟨_,SqT.of ((t5.trans s6) _ _ hf)⟩,rfl⟩,_,rfl,?_⟩
   refine iteT ?_
   refine ⟨_,rfl,_,rfl,Nat.zero_le _,fun p4 hp4=>?_⟩
   have s7:=same_new hp4 (.lst [])
   have k7:(upd H6 p4 (.lst [])) p4=some (.lst []):=upd_same
   generalize upd H6 p4 (.lst [])=H7 at s7 k7 ⊢
   refine ⟨le2,fun p5 hp5=>?_⟩
   have s8:=same_new hp5 (.tup [V.ref fa,V.ref p4])
   exact ⟨3,q0,p5,_,_,by decide,rfl,rfl,.inr ⟨SqT.of ((s7.trans s8) _ _ kq),SqT.of upd_same⟩,rfl,bx_dq (as:=[]) (bs:=[]) (fs:=[]) (gs:=[]) (xs:=[]) ((s7.trans s8) _ _ klq) (s8 _ _ k7) WxS.nil WxS.nil,q _⟩
  | cons x0 xt =>
   have la:=hws.l1
   have la':(as.map V.ref).length=(x0 :: xt).length:=by rw [List.length_map,la]
   have ne:(as.map V.ref).isEmpty=false:=by
    cases as with
    | nil=>cases la
    | cons a as=>rfl
   rw [ne]
   refine iteF ?_
   dsimp only [tNext]
   have b1:=Int.emod_nonneg (mixed (ns.getD 2 0)) (show (((x0 :: xt).length:Nat) : Int)≠0 by rw [List.length_cons]; omega)
   have b2:=Int.emod_lt_of_pos (mixed (ns.getD 2 0)) (show (0:Int) < (((x0 :: xt).length:Nat) : Int) by rw [List.length_cons]; omega)
   obtain ⟨k,ek⟩:=Int.eq_ofNat_of_zero_le b1
   refine ⟨_,rfl,_,rfl,_,rfl,_,rfl,_,rfl,_,_,rfl,.inl (SqL.of (t4 _ _ hwq)),_,_,rfl,rfl,(by rw [la',List.length_cons]; omega),?_⟩
   show sp_l_told_apart K [V.ref fa,V.ref wq,V.int (mixed (ns.getD 2 0) % (((as.map V.ref).length:Nat) : Int))] H4 Q E0
   rw [la',ek]
   exact ⟨fa,wq,F,as,fs,x0 :: xt,k,rfl,t4 _ _ hf,t4 _ _ hwq,hws.same t4,hwi.same t4,l5,DueC.same hwi t4 3 hd,by omega,fun H'=>q H'⟩
end
noncomputable abbrev fdA (n:Str) (s:Stmt) (d kV dc pm:Value) (an:Option Addr) (cd ct:Value) : FuncData:=PySem.W.fnOf n n (defArgs s) (defBody s) (defScope s) d kV dc pm an cd ct
abbrev Na (K:PySem.W.Frag) (n:Str) (f:Addr) : Prop:=PySem.W.nsIn K mainGlobals n=some (some (.ref f))
abbrev Lk (K:PySem.W.Frag) (f:Addr) (n:Str) (s:Stmt) (d oc:Value) (od:Option Addr) (sl:Array (Option Value)) (kV dc pm:Value) (an:Option Addr) (cd ct:Value) : Prop:=K.lookup f=some ⟨oc,od,.func (fdA n s d kV dc pm an cd ct),sl⟩
abbrev Cd (K:PySem.W.Frag) (c:Value) (n:Str) : Prop:=PySem.W.codeIn K c n=true
abbrev Kp (K:PySem.W.Frag) (f:Addr) : Prop:=PySem.W.keepIn K (.ref f)=true
abbrev Zn (K:PySem.W.Frag) (n:Str) : Prop:=PySem.W.nsIn K mainGlobals n=some none
theorem us1 {us:List Value} (h:us.length=1) : ∃ a0,us=[a0]:=by
 match us,h with
 | [a0],_=>exact ⟨a0,rfl⟩
theorem us2 {us:List Value} (h:us.length=2) : ∃ a0 a1,us=[a0,a1]:=by
 match us,h with
 | [a0,a1],_=>exact ⟨a0,a1,rfl⟩
theorem us3 {us:List Value} (h:us.length=3) : ∃ a0 a1 a2,us=[a0,a1,a2]:=by
 match us,h with
 | [a0,a1,a2],_=>exact ⟨a0,a1,a2,rfl⟩
theorem us4 {us:List Value} (h:us.length=4) : ∃ a0 a1 a2 a3,us=[a0,a1,a2,a3]:=by
 match us,h with
 | [a0,a1,a2,a3],_=>exact ⟨a0,a1,a2,a3,rfl⟩
theorem txt_mk {P:Program} {w:World} {K:PySem.W.Frag} {h:Heap} {mg:Str→Option Value} (X:K.In h) (G:h.Ns mainGlobals mg)
  {od0 an0 od1 an1 od2 an2 od3 an3 od4 an4 od5 an5 od6 an6 od7 an7 od8 an8 od9 an9 od10 an10 od11 an11 od12 an12 od13 an13 od14 an14 od15 an15 od16 an16 od17 an17 od18 an18 od19 an19 od20 an20 od21 an21 od22 an22 od23 an23 od24 an24 od25 an25 od26 an26:Option Addr} {sl0 sl1 sl2 sl3 sl4 sl5 sl6 sl7 sl8 sl9 sl10 sl11 sl12 sl13 sl14 sl15 sl16 sl17 sl18 sl19 sl20 sl21 sl22 sl23 sl24 sl25 sl26:Array (Option Value)} {oc0 kV0 dc0 pm0 cd0 ct0 oc1 kV1 dc1 pm1 cd1 ct1 oc2 kV2 dc2 pm2 cd2 ct2 oc3 kV3 dc3 pm3 cd3 ct3 oc4 kV4 dc4 pm4 cd4 ct4 oc5 kV5 dc5 pm5 cd5 ct5 oc6 kV6 dc6 pm6 cd6 ct6 oc7 kV7 dc7 pm7 cd7 ct7 oc8 kV8 dc8 pm8 cd8 ct8 oc9 kV9 dc9 pm9 cd9 ct9 oc10 kV10 dc10 pm10 cd10 ct10 oc11 kV11 dc11 pm11 cd11 ct11 oc12 kV12 dc12 pm12 cd12 ct12 oc13 kV13 dc13 pm13 cd13 ct13 oc14 kV14 dc14 pm14 cd14 ct14 oc15 kV15 dc15 pm15 cd15 ct15 oc16 kV16 dc16 pm16 cd16 ct16 oc17 kV17 dc17 pm17 cd17 ct17 oc18 kV18 dc18 pm18 cd18 ct18 oc19 kV19 dc19 pm19 cd19 ct19 oc20 kV20 dc20 pm20 cd20 ct20 oc21 kV21 dc21 pm21 cd21 ct21 oc22 kV22 dc22 pm22 cd22 ct22 oc23 kV23 dc23 pm23 cd23 ct23 oc24 kV24 dc24 pm24 cd24 ct24 oc25 kV25 dc25 pm25 cd25 ct25 oc26 kV26 dc26 pm26 cd26 ct26:Value} {f0 f1 f2 f3 f4 f5 f6 f7 f8 f9 f10 f11 f12 f13 f14 f15 f16 f17 f18 f19 f20 f21 f22 f23 f24 f25 f26:Addr}
  (a0:Na K "_law_cell_at" f0) (l0:Lk K f0 "_law_cell_at" s_l_cell_at .none oc0 od0 sl0 kV0 dc0 pm0 an0 cd0 ct0) (c0:Cd K cd0 "_law_cell_at") (k0:Kp K f0)
  (a1:Na K "_law_copied" f1) (l1:Lk K f1 "_law_copied" s_l_copied .none oc1 od1 sl1 kV1 dc1 pm1 an1 cd1 ct1) (c1:Cd K cd1 "_law_copied") (k1:Kp K f1)
  (a2:Na K "_law_is_form" f2) (l2:Lk K f2 "_law_is_form" s_l_is_form .none oc2 od2 sl2 kV2 dc2 pm2 an2 cd2 ct2) (c2:Cd K cd2 "_law_is_form") (k2:Kp K f2)
  (a3:Na K "_law_is_saying" f3) (l3:Lk K f3 "_law_is_saying" s_l_is_saying .none oc3 od3 sl3 kV3 dc3 pm3 an3 cd3 ct3) (c3:Cd K cd3 "_law_is_saying") (k3:Kp K f3)
  (a4:Na K "_law_is_word" f4) (l4:Lk K f4 "_law_is_word" s_l_is_word .none oc4 od4 sl4 kV4 dc4 pm4 an4 cd4 ct4) (c4:Cd K cd4 "_law_is_word") (k4:Kp K f4)
  (a5:Na K "_law_due" f5) (l5:Lk K f5 "_law_due" s_l_due .none oc5 od5 sl5 kV5 dc5 pm5 an5 cd5 ct5) (c5:Cd K cd5 "_law_due") (k5:Kp K f5)
  (a6:Na K "_law_mixed" f6) (l6:Lk K f6 "_law_mixed" s_l_mixed .none oc6 od6 sl6 kV6 dc6 pm6 an6 cd6 ct6) (c6:Cd K cd6 "_law_mixed") (k6:Kp K f6)
  (a7:Na K "_law_form" f7) (l7:Lk K f7 "_law_form" s_l_form .none oc7 od7 sl7 kV7 dc7 pm7 an7 cd7 ct7) (c7:Cd K cd7 "_law_form") (k7:Kp K f7)
  (a8:Na K "check_number" f8) (l8:Lk K f8 "check_number" s_check_number .none oc8 od8 sl8 kV8 dc8 pm8 an8 cd8 ct8) (c8:Cd K cd8 "check_number") (k8:Kp K f8)
  (a9:Na K "check_form" f9) (l9:Lk K f9 "check_form" s_check_form .none oc9 od9 sl9 kV9 dc9 pm9 an9 cd9 ct9) (c9:Cd K cd9 "check_form") (k9:Kp K f9)
  (a10:Na K "_law_form_refused" f10) (l10:Lk K f10 "_law_form_refused" s_l_form_refused .none oc10 od10 sl10 kV10 dc10 pm10 an10 cd10 ct10) (c10:Cd K cd10 "_law_form_refused") (k10:Kp K f10)
  (a11:Na K "is_saying" f11) (l11:Lk K f11 "is_saying" s_is_saying .none oc11 od11 sl11 kV11 dc11 pm11 an11 cd11 ct11) (c11:Cd K cd11 "is_saying") (k11:Kp K f11)
  (a12:Na K "check_word" f12) (l12:Lk K f12 "check_word" s_check_word .none oc12 od12 sl12 kV12 dc12 pm12 an12 cd12 ct12) (c12:Cd K cd12 "check_word") (k12:Kp K f12)
  (a13:Na K "book_of" f13) (l13:Lk K f13 "book_of" s_book_of .none oc13 od13 sl13 kV13 dc13 pm13 an13 cd13 ct13) (c13:Cd K cd13 "book_of") (k13:Kp K f13)
  (a14:Na K "_law_refused" f14) (l14:Lk K f14 "_law_refused" s_l_refused .none oc14 od14 sl14 kV14 dc14 pm14 an14 cd14 ct14) (c14:Cd K cd14 "_law_refused") (k14:Kp K f14)
  (a15:Na K "_law_whole" f15) (l15:Lk K f15 "_law_whole" s_l_whole .none oc15 od15 sl15 kV15 dc15 pm15 an15 cd15 ct15) (c15:Cd K cd15 "_law_whole") (k15:Kp K f15)
  (a16:Na K "_law_saying_kinds" f16) (l16:Lk K f16 "_law_saying_kinds" s_l_saying_kinds .none oc16 od16 sl16 kV16 dc16 pm16 an16 cd16 ct16) (c16:Cd K cd16 "_law_saying_kinds") (k16:Kp K f16)
  (a17:Na K "_law_word_kinds" f17) (l17:Lk K f17 "_law_word_kinds" s_l_word_kinds .none oc17 od17 sl17 kV17 dc17 pm17 an17 cd17 ct17) (c17:Cd K cd17 "_law_word_kinds") (k17:Kp K f17)
  (a18:Na K "_law_is_book" f18) (l18:Lk K f18 "_law_is_book" s_l_is_book .none oc18 od18 sl18 kV18 dc18 pm18 an18 cd18 ct18) (c18:Cd K cd18 "_law_is_book") (k18:Kp K f18)
  (a19:Na K "_law_told_apart" f19) (l19:Lk K f19 "_law_told_apart" s_l_told_apart .none oc19 od19 sl19 kV19 dc19 pm19 an19 cd19 ct19) (c19:Cd K cd19 "_law_told_apart") (k19:Kp K f19)
  (a20:Na K "_law_signs" f20) (l20:Lk K f20 "_law_signs" s_l_signs .none oc20 od20 sl20 kV20 dc20 pm20 an20 cd20 ct20) (c20:Cd K cd20 "_law_signs") (k20:Kp K f20)
  (a21:Na K "_law_odd_saying" f21) (l21:Lk K f21 "_law_odd_saying" s_l_odd_saying .none oc21 od21 sl21 kV21 dc21 pm21 an21 cd21 ct21) (c21:Cd K cd21 "_law_odd_saying") (k21:Kp K f21)
  (a22:Na K "_law_odd_word" f22) (l22:Lk K f22 "_law_odd_word" s_l_odd_word .none oc22 od22 sl22 kV22 dc22 pm22 an22 cd22 ct22) (c22:Cd K cd22 "_law_odd_word") (k22:Kp K f22)
  (a23:Na K "_law_saying" f23) (l23:Lk K f23 "_law_saying" s_l_saying .none oc23 od23 sl23 kV23 dc23 pm23 an23 cd23 ct23) (c23:Cd K cd23 "_law_saying") (k23:Kp K f23)
  (a24:Na K "_law_word" f24) (l24:Lk K f24 "_law_word" s_l_word .none oc24 od24 sl24 kV24 dc24 pm24 an24 cd24 ct24) (c24:Cd K cd24 "_law_word") (k24:Kp K f24)
  (a25:Na K "_law_words" f25) (l25:Lk K f25 "_law_words" s_l_words .none oc25 od25 sl25 kV25 dc25 pm25 an25 cd25 ct25) (c25:Cd K cd25 "_law_words") (k25:Kp K f25)
  (a26:Na K "law" f26) (l26:Lk K f26 "law" s_law .none oc26 od26 sl26 kV26 dc26 pm26 an26 cd26 ct26) (c26:Cd K cd26 "law") (k26:Kp K f26)
  (z_ValueError:Zn K "ValueError")
  (z_all:Zn K "all")
  (z_bool:Zn K "bool")
  (z_int:Zn K "int")
  (z_isinstance:Zn K "isinstance")
  (z_len:Zn K "len")
  (z_list:Zn K "list")
  (z_max:Zn K "max")
  (z_min:Zn K "min")
  (z_range:Zn K "range")
  (z_str:Zn K "str")
  (z_tuple:Zn K "tuple")
  {c_BadForm:Addr} (m_BadForm:PySem.W.nsIn K mainGlobals "BadForm" = some (some (.ref c_BadForm))) (e_BadForm:PySem.W.excIn K c_BadForm veTail "ValueError.__new__" = true)
  {c_BadWord:Addr} (m_BadWord:PySem.W.nsIn K mainGlobals "BadWord" = some (some (.ref c_BadWord))) (e_BadWord:PySem.W.excIn K c_BadWord veTail "ValueError.__new__" = true)
  {c_TooLong:Addr} (m_TooLong:PySem.W.nsIn K mainGlobals "TooLong" = some (some (.ref c_TooLong))) (e_TooLong:PySem.W.excIn K c_TooLong veTail "ValueError.__new__" = true)
  {c_TrueleafError:Addr} (m_TrueleafError:PySem.W.nsIn K mainGlobals "TrueleafError" = some (some (.ref c_TrueleafError))) (e_TrueleafError:PySem.W.excIn K c_TrueleafError veTail "ValueError.__new__" = true)
  (t_BadForm_BadForm:Takes K c_BadForm c_BadForm)
  (t_BadForm_TrueleafError:Takes K c_BadForm c_TrueleafError)
  (t_TooLong_TrueleafError:Takes K c_TooLong c_TrueleafError)
  (t_BadWord_TrueleafError:Takes K c_BadWord c_TrueleafError)
  (lk_BadForm:excLk K c_BadForm=true)
  (lk_TooLong:excLk K c_TooLong=true)
  (lk_BadWord:excLk K c_BadWord=true)
  (ki_BadForm_ValueError:PySem.W.kitOne K (.ref c_BadForm) (.type "ValueError")=some true)
  (ki_BadForm_BadForm:PySem.W.kitOne K (.ref c_BadForm) (.ref c_BadForm)=some true)
  (ki_BadForm_TooLong:PySem.W.kitOne K (.ref c_BadForm) (.ref c_TooLong)=some false)
  (ki_BadForm_BadWord:PySem.W.kitOne K (.ref c_BadForm) (.ref c_BadWord)=some false)
  (ki_TooLong_ValueError:PySem.W.kitOne K (.ref c_TooLong) (.type "ValueError")=some true)
  (ki_TooLong_BadForm:PySem.W.kitOne K (.ref c_TooLong) (.ref c_BadForm)=some false)
  (ki_TooLong_TooLong:PySem.W.kitOne K (.ref c_TooLong) (.ref c_TooLong)=some true)
  (ki_TooLong_BadWord:PySem.W.kitOne K (.ref c_TooLong) (.ref c_BadWord)=some false)
  (ki_BadWord_ValueError:PySem.W.kitOne K (.ref c_BadWord) (.type "ValueError")=some true)
  (ki_BadWord_BadForm:PySem.W.kitOne K (.ref c_BadWord) (.ref c_BadForm)=some false)
  (ki_BadWord_TooLong:PySem.W.kitOne K (.ref c_BadWord) (.ref c_TooLong)=some false)
  (ki_BadWord_BadWord:PySem.W.kitOne K (.ref c_BadWord) (.ref c_BadWord)=some true)
  {t_LAST_LEAD:Tok} (m_LAST_LEAD:PySem.W.nsIn K mainGlobals "LAST_LEAD" = some (some (.int 4 t_LAST_LEAD)))
  {t_LONGEST_TEXT:Tok} (m_LONGEST_TEXT:PySem.W.nsIn K mainGlobals "LONGEST_TEXT" = some (some (.int 60 t_LONGEST_TEXT)))
  {t_MOST_SAYINGS:Tok} (m_MOST_SAYINGS:PySem.W.nsIn K mainGlobals "MOST_SAYINGS" = some (some (.int 40 t_MOST_SAYINGS)))
  {t_MOST_WORDS:Tok} (m_MOST_WORDS:PySem.W.nsIn K mainGlobals "MOST_WORDS" = some (some (.int 400 t_MOST_WORDS))) :
  ∃ a:Adr,Txt P w K mg a:=by
 refine ⟨{ f_l_cell_at:=f0,fd_l_cell_at:=fdA "_law_cell_at" s_l_cell_at .none kV0 dc0 pm0 an0 cd0 ct0,f_l_copied:=f1,fd_l_copied:=fdA "_law_copied" s_l_copied .none kV1 dc1 pm1 an1 cd1 ct1,f_l_is_form:=f2,fd_l_is_form:=fdA "_law_is_form" s_l_is_form .none kV2 dc2 pm2 an2 cd2 ct2,f_l_is_saying:=f3,fd_l_is_saying:=fdA "_law_is_saying" s_l_is_saying .none kV3 dc3 pm3 an3 cd3 ct3,f_l_is_word:=f4,fd_l_is_word:=fdA "_law_is_word" s_l_is_word .none kV4 dc4 pm4 an4 cd4 ct4,f_l_due:=f5,fd_l_due:=fdA "_law_due" s_l_due .none kV5 dc5 pm5 an5 cd5 ct5,f_l_mixed:=f6,fd_l_mixed:=fdA "_law_mixed" s_l_mixed .none kV6 dc6 pm6 an6 cd6 ct6,f_l_form:=f7,fd_l_form:=fdA "_law_form" s_l_form .none kV7 dc7 pm7 an7 cd7 ct7,f_check_number:=f8,fd_check_number:=fdA "check_number" s_check_number .none kV8 dc8 pm8 an8 cd8 ct8,f_check_form:=f9,fd_check_form:=fdA "check_form" s_check_form .none kV9 dc9 pm9 an9 cd9 ct9,f_l_form_refused:=f10,fd_l_form_refused:=fdA "_law_form_refused" s_l_form_refused .none kV10 dc10 pm10 an10 cd10 ct10,f_is_saying:=f11,fd_is_saying:=fdA "is_saying" s_is_saying .none kV11 dc11 pm11 an11 cd11 ct11,f_check_word:=f12,fd_check_word:=fdA "check_word" s_check_word .none kV12 dc12 pm12 an12 cd12 ct12,f_book_of:=f13,fd_book_of:=fdA "book_of" s_book_of .none kV13 dc13 pm13 an13 cd13 ct13,f_l_refused:=f14,fd_l_refused:=fdA "_law_refused" s_l_refused .none kV14 dc14 pm14 an14 cd14 ct14,f_l_whole:=f15,fd_l_whole:=fdA "_law_whole" s_l_whole .none kV15 dc15 pm15 an15 cd15 ct15,f_l_saying_kinds:=f16,fd_l_saying_kinds:=fdA "_law_saying_kinds" s_l_saying_kinds .none kV16 dc16 pm16 an16 cd16 ct16,f_l_word_kinds:=f17,fd_l_word_kinds:=fdA "_law_word_kinds" s_l_word_kinds .none kV17 dc17 pm17 an17 cd17 ct17,f_l_is_book:=f18,fd_l_is_book:=fdA "_law_is_book" s_l_is_book .none kV18 dc18 pm18 an18 cd18 ct18,f_l_told_apart:=f19,fd_l_told_apart:=fdA "_law_told_apart" s_l_told_apart .none kV19 dc19 pm19 an19 cd19 ct19,f_l_signs:=f20,fd_l_signs:=fdA "_law_signs" s_l_signs .none kV20 dc20 pm20 an20 cd20 ct20,f_l_odd_saying:=f21,fd_l_odd_saying:=fdA "_law_odd_saying" s_l_odd_saying .none kV21 dc21 pm21 an21 cd21 ct21,f_l_odd_word:=f22,fd_l_odd_word:=fdA "_law_odd_word" s_l_odd_word .none kV22 dc22 pm22 an22 cd22 ct22,f_l_saying:=f23,fd_l_saying:=fdA "_law_saying" s_l_saying .none kV23 dc23 pm23 an23 cd23 ct23,f_l_word:=f24,fd_l_word:=fdA "_law_word" s_l_word .none kV24 dc24 pm24 an24 cd24 ct24,f_l_words:=f25,fd_l_words:=fdA "_law_words" s_l_words .none kV25 dc25 pm25 an25 cd25 ct25,f_law:=f26,fd_law:=fdA "law" s_law .none kV26 dc26 pm26 an26 cd26 ct26,c_BadForm:=c_BadForm,c_BadWord:=c_BadWord,c_TooLong:=c_TooLong,c_TrueleafError:=c_TrueleafError },{
  d_l_cell_at:=defok_mk X G a0 l0 c0 k0 fun _ _ _ _ _ _ us hl=>by obtain ⟨_,⟨_,rfl⟩⟩:=us2 hl; rfl,
  d_l_copied:=defok_mk X G a1 l1 c1 k1 fun _ _ _ _ _ _ us hl=>by obtain ⟨_,rfl⟩:=us1 hl; rfl,
  d_l_is_form:=defok_mk X G a2 l2 c2 k2 fun _ _ _ _ _ _ us hl=>by obtain ⟨_,rfl⟩:=us1 hl; rfl,
  d_l_is_saying:=defok_mk X G a3 l3 c3 k3 fun _ _ _ _ _ _ us hl=>by obtain ⟨_,⟨_,rfl⟩⟩:=us2 hl; rfl,
  d_l_is_word:=defok_mk X G a4 l4 c4 k4 fun _ _ _ _ _ _ us hl=>by obtain ⟨_,⟨_,rfl⟩⟩:=us2 hl; rfl,
  d_l_due:=defok_mk X G a5 l5 c5 k5 fun _ _ _ _ _ _ us hl=>by obtain ⟨_,⟨_,rfl⟩⟩:=us2 hl; rfl,
  d_l_mixed:=defok_mk X G a6 l6 c6 k6 fun _ _ _ _ _ _ us hl=>by obtain ⟨_,rfl⟩:=us1 hl; rfl,
  d_l_form:=defok_mk X G a7 l7 c7 k7 fun _ _ _ _ _ _ us hl=>by obtain ⟨_,⟨_,rfl⟩⟩:=us2 hl; rfl,
  d_check_number:=defok_mk X G a8 l8 c8 k8 fun _ _ _ _ _ _ us hl=>by obtain ⟨_,⟨_,⟨_,rfl⟩⟩⟩:=us3 hl; rfl,
  d_check_form:=defok_mk X G a9 l9 c9 k9 fun _ _ _ _ _ _ us hl=>by obtain ⟨_,rfl⟩:=us1 hl; rfl,
  d_l_form_refused:=defok_mk X G a10 l10 c10 k10 fun _ _ _ _ _ _ us hl=>by obtain ⟨_,rfl⟩:=us1 hl; rfl,
  d_is_saying:=defok_mk X G a11 l11 c11 k11 fun _ _ _ _ _ _ us hl=>by obtain ⟨_,⟨_,rfl⟩⟩:=us2 hl; rfl,
  d_check_word:=defok_mk X G a12 l12 c12 k12 fun _ _ _ _ _ _ us hl=>by obtain ⟨_,⟨_,rfl⟩⟩:=us2 hl; rfl,
  d_book_of:=defok_mk X G a13 l13 c13 k13 fun _ _ _ _ _ _ us hl=>by obtain ⟨_,⟨_,rfl⟩⟩:=us2 hl; rfl,
  d_l_refused:=defok_mk X G a14 l14 c14 k14 fun _ _ _ _ _ _ us hl=>by obtain ⟨_,⟨_,rfl⟩⟩:=us2 hl; rfl,
  d_l_whole:=defok_mk X G a15 l15 c15 k15 fun _ _ _ _ _ _ us hl=>by obtain ⟨_,rfl⟩:=us1 hl; rfl,
  d_l_saying_kinds:=defok_mk X G a16 l16 c16 k16 fun _ _ _ _ _ _ us hl=>by obtain ⟨_,rfl⟩:=us1 hl; rfl,
  d_l_word_kinds:=defok_mk X G a17 l17 c17 k17 fun _ _ _ _ _ _ us hl=>by obtain ⟨_,rfl⟩:=us1 hl; rfl,
  d_l_is_book:=defok_mk X G a18 l18 c18 k18 fun _ _ _ _ _ _ us hl=>by obtain ⟨_,⟨_,⟨_,rfl⟩⟩⟩:=us3 hl; rfl,
  d_l_told_apart:=defok_mk X G a19 l19 c19 k19 fun _ _ _ _ _ _ us hl=>by obtain ⟨_,⟨_,⟨_,rfl⟩⟩⟩:=us3 hl; rfl,
  d_l_signs:=defok_mk X G a20 l20 c20 k20 fun _ _ _ _ _ _ us hl=>by obtain ⟨_,⟨_,rfl⟩⟩:=us2 hl; rfl,
  d_l_odd_saying:=defok_mk X G a21 l21 c21 k21 fun _ _ _ _ _ _ us hl=>by obtain ⟨_,⟨_,⟨_,rfl⟩⟩⟩:=us3 hl; rfl,
  d_l_odd_word:=defok_mk X G a22 l22 c22 k22 fun _ _ _ _ _ _ us hl=>by obtain ⟨_,⟨_,⟨_,⟨_,rfl⟩⟩⟩⟩:=us4 hl; rfl,
  d_l_saying:=defok_mk X G a23 l23 c23 k23 fun _ _ _ _ _ _ us hl=>by obtain ⟨_,⟨_,rfl⟩⟩:=us2 hl; rfl,
  d_l_word:=defok_mk X G a24 l24 c24 k24 fun _ _ _ _ _ _ us hl=>by obtain ⟨_,⟨_,rfl⟩⟩:=us2 hl; rfl,
  d_l_words:=defok_mk X G a25 l25 c25 k25 fun _ _ _ _ _ _ us hl=>by obtain ⟨_,⟨_,rfl⟩⟩:=us2 hl; rfl,
  d_law:=defok_mk X G a26 l26 c26 k26 fun _ _ _ _ _ _ us hl=>by obtain ⟨_,rfl⟩:=us1 hl; rfl,
  z_ValueError:=PySem.W.mg_none_of X G z_ValueError,
  z_all:=PySem.W.mg_none_of X G z_all,
  z_bool:=PySem.W.mg_none_of X G z_bool,
  z_int:=PySem.W.mg_none_of X G z_int,
  z_isinstance:=PySem.W.mg_none_of X G z_isinstance,
  z_len:=PySem.W.mg_none_of X G z_len,
  z_list:=PySem.W.mg_none_of X G z_list,
  z_max:=PySem.W.mg_none_of X G z_max,
  z_min:=PySem.W.mg_none_of X G z_min,
  z_range:=PySem.W.mg_none_of X G z_range,
  z_str:=PySem.W.mg_none_of X G z_str,
  z_tuple:=PySem.W.mg_none_of X G z_tuple,
  x_BadForm:=⟨PySem.W.mg_of X G m_BadForm,e_BadForm⟩,
  x_BadWord:=⟨PySem.W.mg_of X G m_BadWord,e_BadWord⟩,
  x_TooLong:=⟨PySem.W.mg_of X G m_TooLong,e_TooLong⟩,
  x_TrueleafError:=⟨PySem.W.mg_of X G m_TrueleafError,e_TrueleafError⟩,
  t_BadForm_BadForm:=t_BadForm_BadForm,
  t_BadForm_TrueleafError:=t_BadForm_TrueleafError,
  t_TooLong_TrueleafError:=t_TooLong_TrueleafError,
  t_BadWord_TrueleafError:=t_BadWord_TrueleafError,
  lk_BadForm:=lk_BadForm,
  lk_TooLong:=lk_TooLong,
  lk_BadWord:=lk_BadWord,
  ki_BadForm_ValueError:=ki_BadForm_ValueError,
  ki_BadForm_BadForm:=ki_BadForm_BadForm,
  ki_BadForm_TooLong:=ki_BadForm_TooLong,
  ki_BadForm_BadWord:=ki_BadForm_BadWord,
  ki_TooLong_ValueError:=ki_TooLong_ValueError,
  ki_TooLong_BadForm:=ki_TooLong_BadForm,
  ki_TooLong_TooLong:=ki_TooLong_TooLong,
  ki_TooLong_BadWord:=ki_TooLong_BadWord,
  ki_BadWord_ValueError:=ki_BadWord_ValueError,
  ki_BadWord_BadForm:=ki_BadWord_BadForm,
  ki_BadWord_TooLong:=ki_BadWord_TooLong,
  ki_BadWord_BadWord:=ki_BadWord_BadWord,
  m_LAST_LEAD:=⟨t_LAST_LEAD,PySem.W.mg_of X G m_LAST_LEAD⟩,
  m_LONGEST_TEXT:=⟨t_LONGEST_TEXT,PySem.W.mg_of X G m_LONGEST_TEXT⟩,
  m_MOST_SAYINGS:=⟨t_MOST_SAYINGS,PySem.W.mg_of X G m_MOST_SAYINGS⟩,
  m_MOST_WORDS:=⟨t_MOST_WORDS,PySem.W.mg_of X G m_MOST_WORDS⟩ }⟩
theorem walk {l:PySem.W.OpenLaw} {q:Program} {loose:List Str} {XP:(Str→Option Value)→Heap→Prop} {YP:World→Heap→Prop} {d:DefRec} {K:Params→PySem.W.Frag} (hn:l.most=some 63) (hdf:d.params.defaults=[]) (hnm:d.name = "law")
  (hY:∀ (w:World) (h:Heap),YP w h→(K w.params).In h)
  (F:∀ (w:World) (mg:Str→Option Value) (h:Heap),(K w.params).In h→h.Ns mainGlobals mg→∃ a:Adr,Txt l.prog w (K w.params) mg a) :
  PySem.W.WalkO q loose XP YP l.row.toRowW d [] (fun f vs=>PySem.call f vs):=
 L2.walk_of (n:=63) (k:=6) (x := "script") (CX:=fun _=>CX0) (sp:=fun w=>sp_law (K w.params)) hn (by decide) hdf ⟨rfl,by decide,by decide⟩ hY (fun w mg fa h KX G hmg=>by
  obtain ⟨a,T⟩:=F w mg h KX G
  have e0:=hmg.symm.trans (hnm ▸ T.d_law.mg)
  cases e0
  refine ⟨a.fd_law,fun s u=>.of_eq (T.d_law.ba [u] rfl),fun base _ _=>ok_law T⟩) (fun _ _ a ns hl _ hS=>⟨a,ns,rfl,hS,hl,fun _=>rfl⟩) fun _ _ _ _ _ z=>z
end K27
open PySem PySem.W PyProof.Rows
set_option maxRecDepth 100000 in
set_option maxHeartbeats 0 in
theorem PySem.Challenge.cw_trueleaf_k27_books_made_or_refused_holds : PySem.Challenge.rw_trueleaf_k27_books_made_or_refused.Holds := by
 w_on; o_law
 refine holds_open (q:=K27.vw) (loose:=K27.ls) (Xt:=K27.xt) (XP:=XL K27.vw []) (Yf:=Hook.obs K27.hk) (Ya:=Hook.val K27.hk) (YP:=InK K27.kk) K27.left
  (Hook.of K27.hk) (Hook.keeps K27.hk) (fun s e=>xl_of s (Bool.and_eq_true_iff.mp e).1) XL.keeps (by rfl) (by rfl) (by rfl)
  (fun s e=>recFacts_of (Bool.and_eq_true_iff.mp e).2) (by rfl) (by assumption) (by decide +kernel) ⟨rfl,rfl,rfl,rfl,rfl,by decide +kernel⟩ ?hw ?hc
 (case hw=>w_witness2)
 k_fill
 refine K27.walk (l:=PySem.Challenge.rw_trueleaf_k27_books_made_or_refused) rfl rfl rfl (fun w h Y=>Y) ?F
 case F =>
  intro w mg h KX G
  refine' K27.txt_mk KX G ?a0 ?l0 ?c0 ?k0 ?a1 ?l1 ?c1 ?k1 ?a2 ?l2 ?c2 ?k2 ?a3 ?l3 ?c3 ?k3 ?a4 ?l4 ?c4 ?k4 ?a5 ?l5 ?c5 ?k5 ?a6 ?l6 ?c6 ?k6 ?a7 ?l7 ?c7 ?k7 ?a8 ?l8 ?c8 ?k8 ?a9 ?l9 ?c9 ?k9 ?a10 ?l10 ?c10 ?k10 ?a11 ?l11 ?c11 ?k11 ?a12 ?l12 ?c12 ?k12 ?a13 ?l13 ?c13 ?k13 ?a14 ?l14 ?c14 ?k14 ?a15 ?l15 ?c15 ?k15 ?a16 ?l16 ?c16 ?k16 ?a17 ?l17 ?c17 ?k17 ?a18 ?l18 ?c18 ?k18 ?a19 ?l19 ?c19 ?k19 ?a20 ?l20 ?c20 ?k20 ?a21 ?l21 ?c21 ?k21 ?a22 ?l22 ?c22 ?k22 ?a23 ?l23 ?c23 ?k23 ?a24 ?l24 ?c24 ?k24 ?a25 ?l25 ?c25 ?k25 ?a26 ?l26 ?c26 ?k26 ?z_ValueError ?z_all ?z_bool ?z_int ?z_isinstance ?z_len ?z_list ?z_max ?z_min ?z_range ?z_str ?z_tuple ?m_BadForm ?e_BadForm ?m_BadWord ?e_BadWord ?m_TooLong ?e_TooLong ?m_TrueleafError ?e_TrueleafError ?t_BadForm_BadForm ?t_BadForm_TrueleafError ?t_TooLong_TrueleafError ?t_BadWord_TrueleafError ?lk_BadForm ?lk_TooLong ?lk_BadWord ?ki_BadForm_ValueError ?ki_BadForm_BadForm ?ki_BadForm_TooLong ?ki_BadForm_BadWord ?ki_TooLong_ValueError ?ki_TooLong_BadForm ?ki_TooLong_TooLong ?ki_TooLong_BadWord ?ki_BadWord_ValueError ?ki_BadWord_BadForm ?ki_BadWord_TooLong ?ki_BadWord_BadWord ?m_LAST_LEAD ?m_LONGEST_TEXT ?m_MOST_SAYINGS ?m_MOST_WORDS
  (case a0 | l0 | c0 | k0 | a1 | l1 | c1 | k1 | a2 | l2 | c2 | k2 | a3 | l3 | c3 | k3 | a4 | l4 | c4 | k4 | a5 | l5 | c5 | k5 | a6 | l6 | c6 | k6 | a7 | l7 | c7 | k7 | a8 | l8 | c8 | k8 | a9 | l9 | c9 | k9 | a10 | l10 | c10 | k10 | a11 | l11 | c11 | k11 | a12 | l12 | c12 | k12 | a13 | l13 | c13 | k13 | a14 | l14 | c14 | k14 | a15 | l15 | c15 | k15 | a16 | l16 | c16 | k16 | a17 | l17 | c17 | k17 | a18 | l18 | c18 | k18 | a19 | l19 | c19 | k19 | a20 | l20 | c20 | k20 | a21 | l21 | c21 | k21 | a22 | l22 | c22 | k22 | a23 | l23 | c23 | k23 | a24 | l24 | c24 | k24 | a25 | l25 | c25 | k25 | a26 | l26 | c26 | k26 | z_ValueError | z_all | z_bool | z_int | z_isinstance | z_len | z_list | z_max | z_min | z_range | z_str | z_tuple | m_BadForm=>(first | k_is | (delta K27.Na; k_is) | (delta K27.Lk K27.fdA; k_is) | (delta K27.Cd; k_is) | (delta K27.Kp; k_is) | (delta K27.Zn; k_is)))
  (case e_BadForm=>k_exc)
  (case m_BadWord=>(first | k_is | (delta K27.Na; k_is) | (delta K27.Lk K27.fdA; k_is) | (delta K27.Cd; k_is) | (delta K27.Kp; k_is) | (delta K27.Zn; k_is)))
  (case e_BadWord=>k_exc)
  (case m_TooLong=>(first | k_is | (delta K27.Na; k_is) | (delta K27.Lk K27.fdA; k_is) | (delta K27.Cd; k_is) | (delta K27.Kp; k_is) | (delta K27.Zn; k_is)))
  (case e_TooLong=>k_exc)
  (case m_TrueleafError=>(first | k_is | (delta K27.Na; k_is) | (delta K27.Lk K27.fdA; k_is) | (delta K27.Cd; k_is) | (delta K27.Kp; k_is) | (delta K27.Zn; k_is)))
  (case e_TrueleafError=>k_exc)
  (case t_BadForm_BadForm=>((show PySem.W.exmOne _ _ _=some true); kts_exm))
  (case t_BadForm_TrueleafError=>((show PySem.W.exmOne _ _ _=some true); kts_exm))
  (case t_TooLong_TrueleafError=>((show PySem.W.exmOne _ _ _=some true); kts_exm))
  (case t_BadWord_TrueleafError=>((show PySem.W.exmOne _ _ _=some true); kts_exm))
  (case lk_BadForm=>kernel_rfl)
  (case lk_TooLong=>kernel_rfl)
  (case lk_BadWord=>kernel_rfl)
  (case ki_BadForm_ValueError=>kernel_rfl)
  (case ki_BadForm_BadForm=>kernel_rfl)
  (case ki_BadForm_TooLong=>kernel_rfl)
  (case ki_BadForm_BadWord=>kernel_rfl)
  (case ki_TooLong_ValueError=>kernel_rfl)
  (case ki_TooLong_BadForm=>kernel_rfl)
  (case ki_TooLong_TooLong=>kernel_rfl)
  (case ki_TooLong_BadWord=>kernel_rfl)
  (case ki_BadWord_ValueError=>kernel_rfl)
  (case ki_BadWord_BadForm=>kernel_rfl)
  (case ki_BadWord_TooLong=>kernel_rfl)
  (case ki_BadWord_BadWord=>kernel_rfl)
  (case m_LAST_LEAD | m_LONGEST_TEXT | m_MOST_SAYINGS | m_MOST_WORDS=>(first | k_is | (delta K27.Na; k_is) | (delta K27.Lk K27.fdA; k_is) | (delta K27.Cd; k_is) | (delta K27.Kp; k_is) | (delta K27.Zn; k_is)))
