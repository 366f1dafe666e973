import PyProof.Rows.All
import Wide.All
import OpenK.AllK
import Wide.FinOn
import Lean
import PyProof.EqAt
import PyProof.EqKinds
import PyProof.TupleCall
import PyProof.NeKinds
import KE.LcSums
import PyProof.ExcBaseAll.ValueError
import KE.KTryMore
import KE.RegKTryMore
import PyProof.StrLawsRepr
import PyProof.ReprStr
import PyProof.EnumMake
import PyProof.EnumFor
import KE.KEqDict
import PyProof.Rows.Range3
import PyProof.SumWalkG
import PyProof.ZipIter
import KE.KDictOf
import PyProof.IsiH_list
import PyProof.RaisesAny
import PyProof.SumWalkG
import KE.KIsAll
import PyProof.ExcArgsOwn
import PyProof.ExcAttrAll.ValueError
import PyProof.RulesAs
import PyProof.NsDelKeeps
import PyProof.Rows.TupAdd
import KE.KDictList
import PyProof.Rows.SortStr
import PyProof.Rows.SortWalk
import PyProof.DictIter
import PyProof.DictItemsLoops
import PyProof.DictValues
import PyProof.DictWalks
import PySem.Challenge.RW_trueleaf_k60_feet_hung
set_option Elab.async false
set_option linter.all false
set_option maxRecDepth 100000
set_option maxHeartbeats 4000000
namespace L2
open PySem
def ci (s:Stmt) : Arguments:=match s with
 | .FunctionDef _ a _ _ _ _ _ _ _ _=>a
 | _=>{ posonlyargs:=[],args:=[],vararg:=none,kwonlyargs:=[],kw_defaults:=[],kwarg:=none,defaults:=[] }
def bX (s:Stmt) : List Stmt:=match s with
 | .FunctionDef _ _ b _ _ _ _ _ _ _=>b
 | _=>[]
def av (s:Stmt) : Scope:=match s with
 | .FunctionDef _ _ _ _ _ _ sc _ _ _=>sc
 | _=>{ kind:=.function,names:=[],isGenerator:=false,isCoroutine:=false }

end L2
namespace K60
open PySem PySem.W L2 PyProof.Rows
noncomputable def top (i:Nat) : Stmt:=PySem.Challenge.pw_trueleaf_k60_feet_hung.main.body.getD i (.Pass ⟨0,0,0,0⟩)
noncomputable def bi (i j:Nat) : Stmt:=match top i with | .ClassDef _ _ _ b ..=>b.getD j (.Pass ⟨0,0,0,0⟩) | _=>.Pass ⟨0,0,0,0⟩
set_option maxHeartbeats 0 in
theorem wsL:PySem.Challenge.rw_trueleaf_k60_feet_hung.wellSaid=true:=by kernel_rfl
set_option maxHeartbeats 0 in
theorem wsR:PySem.Challenge.rw_trueleaf_k60_feet_hung.row.wellSaid=true:=by kernel_rfl
noncomputable abbrev os (s:String) : Str:=Str.ofString s
noncomputable abbrev kh (P:Params) (s:Str) : Int:=PyData.keyHash P s
noncomputable abbrev fO (n:String) (i:Nat) (d:Value) (m:String) (k:Nat) (r:Addr) : Obj:=⟨.type "function",none,.func (fnOf (os n) (os n) (ci (top i)) (bX (top i)) (av (top i)) d .none .none (.str (os m) k) none (.ref r) .none),#[]⟩
noncomputable abbrev sv (s:String) (k:Nat) : Value:=.str (os s) k
noncomputable abbrev dE (P:Params) (s:String) (k:Nat) (v:Value) : DictEntry:=⟨kh P (os s),.str (os s) k,v⟩
noncomputable abbrev cV (n q:String) (a b c:Nat) (l1 l2 l5:Int) (r0:Addr) (m:Int) (r1:Addr) (v0 v1 v2 v3:Value) (x y:Int) (d:Nat) : Obj:=⟨.type "code",none,.fields #[.str (os n) a,.str (os q) b,.str (os "/claim/cut.py") c,.int l1 0,.int l2 0,.int 0 0,.int 0 0,.int l5 0,.ref r0,.bool true,.int m 0,.ref r1,v0,v1,v2,v3,.int x 0,.int y 0,.str (os "/claim/cut.py") d],#[]⟩
noncomputable abbrev fM (n q:String) (s:Stmt) (d:Value) (m:String) (k:Nat) (r:Addr) : Obj:=⟨.type "function",none,.func (fnOf (os n) (os q) (ci s) (bX s) (av s) d .none .none (.str (os m) k) none (.ref r) .none),#[]⟩
noncomputable abbrev gA (n q:String) (s:Stmt) : Obj:=⟨.none,none,.func (FuncData.mk (os n) (os q) (ci s) (FuncBody.stmts (bX s)) (av s) 0 [] .none .none .none .none none .none .none 0),#[]⟩
noncomputable def kk:Params→Frag:=fun P=>(nat_lit 2,⟨(.none),none,.dict ([]).toArray 0,#[]⟩) ::
 (nat_lit 3,⟨(.type "dict"),none,.dict (List.toArray (dE P "__name__" 165 (sv "law_trueleaf_k60_feet_hung" 818) :: dE P "__doc__" 166 (.none) :: dE P "__package__" 167 (.none) :: dE P "__loader__" 168 (.builtin "__main__.__loader__#opaque") :: dE P "__spec__" 169 (.none) :: dE P "__annotations__" 170 (.ref 6) :: dE P "__builtins__" 171 (.ref 4) :: dE P "__file__" 173 (sv "/claim/cut.py" 172) :: dE P "__cached__" 174 (.none) :: dE P "TrueleafError" 206 (.ref 24) :: dE P "BadRow" 222 (.ref 37) :: dE P "TooLong" 238 (.ref 49) :: dE P "BadCall" 254 (.ref 61) :: dE P "Deep" 270 (.ref 73) :: dE P "NoShort" 286 (.ref 85) :: dE P "BadWord" 302 (.ref 97) :: dE P "Twice" 318 (.ref 109) :: dE P "NoFoot" 334 (.ref 121) :: dE P "NoMark" 350 (.ref 133) :: dE P "MOST_WORDS_books" 352 (.int 400 351) :: dE P "LONGEST_TEXT" 354 (.int 60 353) :: dE P "LETTERS" 358 (sv "abcdefghijklmnopqrstuvwxyz" 357) :: dE P "FIGURES" 360 (sv "0123456789" 359) :: dE P "LONGEST_NAME" 362 (.int 12 361) :: dE P "KINDS" 378 (.ref 136) :: dE P "words_in" 384 (.ref 141) :: dE P "is_name" 390 (.ref 146) :: dE P "figures_of" 397 (.ref 153) :: dE P "kind_of" 406 (.ref 160) :: dE P "numbers_of" 414 (.ref 165) :: dE P "MOST_DEEP" 418 (.int 20 417) :: dE P "tree_of" 429 (.ref 173) :: dE P "copied" 435 (.ref 178) :: dE P "opens_call" 442 (.ref 185) :: dE P "with_closed" 452 (.ref 192) :: dE P "node_of" 461 (.ref 199) :: dE P "looks_like_place" 468 (.ref 206) :: dE P "MOST_WORDS_shorts" 472 (.int 400 471) :: dE P "MOST_CALLS" 474 (.int 400 473) :: dE P "MOST_CALLS_OF_SHORT" 476 (.int 60 475) :: dE P "size_of" 486 (.ref 214) :: dE P "new_short" 499 (.ref 221) :: dE P "put_out" 509 (.ref 228) :: dE P "by_name" 515 (.ref 233) :: dE P "short_called" 525 (.ref 240) :: dE P "size_among" 541 (.ref 247) :: dE P "sum_of_rows" 547 (.ref 252) :: dE P "words_out" 553 (.ref 257) :: dE P "ALONE" 559 (.ref 258) :: dE P "HEADS" 563 (.ref 259) :: dE P "MOST_FOOT_WORDS" 565 (.int 39 564) :: dE P "read_rows" 574 (.ref 266) :: dE P "Reader" 662 (.ref 328) :: dE P "is_figure" 669 (.ref 339) :: dE P "LEAPS" 678 (.ref 340) :: dE P "POINTING" 682 (.ref 341) :: dE P "set_words" 688 (.ref 346) :: dE P "Setter" 817 (.ref 432) :: dE P "_law_cell_at" 827 (.ref 443) :: dE P "_law_draw" 837 (.ref 450) :: dE P "_law_alike" 846 (.ref 457) :: dE P "_law_sign_by" 855 (.ref 464) :: dE P "_law_is_name" 863 (.ref 471) :: dE P "_law_form" 871 (.ref 478) :: dE P "_law_name" 877 (.ref 483) :: dE P "_law_plain_by" 883 (.ref 488) :: dE P "_law_written" 891 (.ref 495) :: dE P "_law_word" 905 (.ref 502) :: dE P "_law_rows" 918 (.ref 509) :: dE P "_law_named" 924 (.ref 514) :: dE P "_law_text" 930 (.ref 519) :: dE P "_law_said" 942 (.ref 526) :: dE P "_law_marked" 954 (.ref 533) :: dE P "_law_shape" 963 (.ref 540) :: dE P "_law_feet" 969 (.ref 545) :: dE P "_law_holds" 975 (.ref 550) :: dE P "_law_spaced" 988 (.ref 557) :: dE P "law" 994 (.ref 562) :: [])) 78,#[]⟩) ::
 (nat_lit 15,⟨(.type "tuple"),none,(.seq #[.type "ValueError"]),#[]⟩) ::
 (nat_lit 22,⟨(.type "tuple"),none,(.seq #[]),#[]⟩) ::
 (nat_lit 23,⟨(.type "dict"),none,.dict (List.toArray (dE P "__module__" 196 (sv "trueleaf.errors" 187) :: dE P "__firstlineno__" 200 (.int 2 199) :: dE P "__static_attributes__" 201 (.ref 22) :: dE P "__weakref__" 203 (.ref 25) :: dE P "__doc__" 204 (.none) :: [])) 3,#[]⟩) ::
 (nat_lit 24,⟨(.type "type"),none,(.cls (PySem.ClassData.mk (os "TrueleafError") [.type "ValueError"] [.ref 24,.type "ValueError",.type "Exception",.type "BaseException",.type "object"] 23 (os "TrueleafError") true [] [.ref 37,.ref 49,.ref 61,.ref 73,.ref 85,.ref 97,.ref 109,.ref 121,.ref 133] false none false)),#[Option.some (.ref 15),none,Option.some (sv "TrueleafError" 189),Option.some (sv "TrueleafError" 197),Option.some (.builtin "ValueError.__new__"),Option.some (.bool true)]⟩) ::
 (nat_lit 25,⟨(.type "getset_descriptor"),none,(.fields #[sv "__weakref__" 202,.ref 24,.builtin "ExceptionGroup.__weakref__",.none]),#[]⟩) ::
 (nat_lit 28,⟨(.type "tuple"),none,(.seq #[.ref 24]),#[]⟩) ::
 (nat_lit 35,⟨(.type "tuple"),none,(.seq #[]),#[]⟩) ::
 (nat_lit 36,⟨(.type "dict"),none,.dict (List.toArray (dE P "__module__" 214 (sv "trueleaf.errors" 187) :: dE P "__firstlineno__" 218 (.int 4 217) :: dE P "__static_attributes__" 219 (.ref 35) :: dE P "__doc__" 220 (.none) :: [])) 2,#[]⟩) ::
 (nat_lit 37,⟨(.type "type"),none,(.cls (PySem.ClassData.mk (os "BadRow") [.ref 24] [.ref 37,.ref 24,.type "ValueError",.type "Exception",.type "BaseException",.type "object"] 36 (os "BadRow") true [] [] false none false)),#[Option.some (.ref 28),none,Option.some (sv "BadRow" 207),Option.some (sv "BadRow" 215),Option.some (.builtin "ValueError.__new__"),Option.some (.bool true)]⟩) ::
 (nat_lit 40,⟨(.type "tuple"),none,(.seq #[.ref 24]),#[]⟩) ::
 (nat_lit 47,⟨(.type "tuple"),none,(.seq #[]),#[]⟩) ::
 (nat_lit 48,⟨(.type "dict"),none,.dict (List.toArray (dE P "__module__" 230 (sv "trueleaf.errors" 187) :: dE P "__firstlineno__" 234 (.int 6 233) :: dE P "__static_attributes__" 235 (.ref 47) :: dE P "__doc__" 236 (.none) :: [])) 2,#[]⟩) ::
 (nat_lit 49,⟨(.type "type"),none,(.cls (PySem.ClassData.mk (os "TooLong") [.ref 24] [.ref 49,.ref 24,.type "ValueError",.type "Exception",.type "BaseException",.type "object"] 48 (os "TooLong") true [] [] false none false)),#[Option.some (.ref 40),none,Option.some (sv "TooLong" 223),Option.some (sv "TooLong" 231),Option.some (.builtin "ValueError.__new__"),Option.some (.bool true)]⟩) ::
 (nat_lit 52,⟨(.type "tuple"),none,(.seq #[.ref 24]),#[]⟩) ::
 (nat_lit 59,⟨(.type "tuple"),none,(.seq #[]),#[]⟩) ::
 (nat_lit 60,⟨(.type "dict"),none,.dict (List.toArray (dE P "__module__" 246 (sv "trueleaf.errors" 187) :: dE P "__firstlineno__" 250 (.int 8 249) :: dE P "__static_attributes__" 251 (.ref 59) :: dE P "__doc__" 252 (.none) :: [])) 2,#[]⟩) ::
 (nat_lit 61,⟨(.type "type"),none,(.cls (PySem.ClassData.mk (os "BadCall") [.ref 24] [.ref 61,.ref 24,.type "ValueError",.type "Exception",.type "BaseException",.type "object"] 60 (os "BadCall") true [] [] false none false)),#[Option.some (.ref 52),none,Option.some (sv "BadCall" 239),Option.some (sv "BadCall" 247),Option.some (.builtin "ValueError.__new__"),Option.some (.bool true)]⟩) ::
 (nat_lit 64,⟨(.type "tuple"),none,(.seq #[.ref 24]),#[]⟩) ::
 (nat_lit 71,⟨(.type "tuple"),none,(.seq #[]),#[]⟩) ::
 (nat_lit 72,⟨(.type "dict"),none,.dict (List.toArray (dE P "__module__" 262 (sv "trueleaf.errors" 187) :: dE P "__firstlineno__" 266 (.int 10 265) :: dE P "__static_attributes__" 267 (.ref 71) :: dE P "__doc__" 268 (.none) :: [])) 2,#[]⟩) ::
 (nat_lit 73,⟨(.type "type"),none,(.cls (PySem.ClassData.mk (os "Deep") [.ref 24] [.ref 73,.ref 24,.type "ValueError",.type "Exception",.type "BaseException",.type "object"] 72 (os "Deep") true [] [] false none false)),#[Option.some (.ref 64),none,Option.some (sv "Deep" 255),Option.some (sv "Deep" 263),Option.some (.builtin "ValueError.__new__"),Option.some (.bool true)]⟩) ::
 (nat_lit 76,⟨(.type "tuple"),none,(.seq #[.ref 24]),#[]⟩) ::
 (nat_lit 83,⟨(.type "tuple"),none,(.seq #[]),#[]⟩) ::
 (nat_lit 84,⟨(.type "dict"),none,.dict (List.toArray (dE P "__module__" 278 (sv "trueleaf.errors" 187) :: dE P "__firstlineno__" 282 (.int 12 281) :: dE P "__static_attributes__" 283 (.ref 83) :: dE P "__doc__" 284 (.none) :: [])) 2,#[]⟩) ::
 (nat_lit 85,⟨(.type "type"),none,(.cls (PySem.ClassData.mk (os "NoShort") [.ref 24] [.ref 85,.ref 24,.type "ValueError",.type "Exception",.type "BaseException",.type "object"] 84 (os "NoShort") true [] [] false none false)),#[Option.some (.ref 76),none,Option.some (sv "NoShort" 271),Option.some (sv "NoShort" 279),Option.some (.builtin "ValueError.__new__"),Option.some (.bool true)]⟩) ::
 (nat_lit 88,⟨(.type "tuple"),none,(.seq #[.ref 24]),#[]⟩) ::
 (nat_lit 95,⟨(.type "tuple"),none,(.seq #[]),#[]⟩) ::
 (nat_lit 96,⟨(.type "dict"),none,.dict (List.toArray (dE P "__module__" 294 (sv "trueleaf.errors" 187) :: dE P "__firstlineno__" 298 (.int 14 297) :: dE P "__static_attributes__" 299 (.ref 95) :: dE P "__doc__" 300 (.none) :: [])) 2,#[]⟩) ::
 (nat_lit 97,⟨(.type "type"),none,(.cls (PySem.ClassData.mk (os "BadWord") [.ref 24] [.ref 97,.ref 24,.type "ValueError",.type "Exception",.type "BaseException",.type "object"] 96 (os "BadWord") true [] [] false none false)),#[Option.some (.ref 88),none,Option.some (sv "BadWord" 287),Option.some (sv "BadWord" 295),Option.some (.builtin "ValueError.__new__"),Option.some (.bool true)]⟩) ::
 (nat_lit 100,⟨(.type "tuple"),none,(.seq #[.ref 24]),#[]⟩) ::
 (nat_lit 107,⟨(.type "tuple"),none,(.seq #[]),#[]⟩) ::
 (nat_lit 108,⟨(.type "dict"),none,.dict (List.toArray (dE P "__module__" 310 (sv "trueleaf.errors" 187) :: dE P "__firstlineno__" 314 (.int 16 313) :: dE P "__static_attributes__" 315 (.ref 107) :: dE P "__doc__" 316 (.none) :: [])) 2,#[]⟩) ::
 (nat_lit 109,⟨(.type "type"),none,(.cls (PySem.ClassData.mk (os "Twice") [.ref 24] [.ref 109,.ref 24,.type "ValueError",.type "Exception",.type "BaseException",.type "object"] 108 (os "Twice") true [] [] false none false)),#[Option.some (.ref 100),none,Option.some (sv "Twice" 303),Option.some (sv "Twice" 311),Option.some (.builtin "ValueError.__new__"),Option.some (.bool true)]⟩) ::
 (nat_lit 112,⟨(.type "tuple"),none,(.seq #[.ref 24]),#[]⟩) ::
 (nat_lit 119,⟨(.type "tuple"),none,(.seq #[]),#[]⟩) ::
 (nat_lit 120,⟨(.type "dict"),none,.dict (List.toArray (dE P "__module__" 326 (sv "trueleaf.errors" 187) :: dE P "__firstlineno__" 330 (.int 18 329) :: dE P "__static_attributes__" 331 (.ref 119) :: dE P "__doc__" 332 (.none) :: [])) 2,#[]⟩) ::
 (nat_lit 121,⟨(.type "type"),none,(.cls (PySem.ClassData.mk (os "NoFoot") [.ref 24] [.ref 121,.ref 24,.type "ValueError",.type "Exception",.type "BaseException",.type "object"] 120 (os "NoFoot") true [] [] false none false)),#[Option.some (.ref 112),none,Option.some (sv "NoFoot" 319),Option.some (sv "NoFoot" 327),Option.some (.builtin "ValueError.__new__"),Option.some (.bool true)]⟩) ::
 (nat_lit 124,⟨(.type "tuple"),none,(.seq #[.ref 24]),#[]⟩) ::
 (nat_lit 131,⟨(.type "tuple"),none,(.seq #[]),#[]⟩) ::
 (nat_lit 132,⟨(.type "dict"),none,.dict (List.toArray (dE P "__module__" 342 (sv "trueleaf.errors" 187) :: dE P "__firstlineno__" 346 (.int 20 345) :: dE P "__static_attributes__" 347 (.ref 131) :: dE P "__doc__" 348 (.none) :: [])) 2,#[]⟩) ::
 (nat_lit 133,⟨(.type "type"),none,(.cls (PySem.ClassData.mk (os "NoMark") [.ref 24] [.ref 133,.ref 24,.type "ValueError",.type "Exception",.type "BaseException",.type "object"] 132 (os "NoMark") true [] [] false none false)),#[Option.some (.ref 124),none,Option.some (sv "NoMark" 335),Option.some (sv "NoMark" 343),Option.some (.builtin "ValueError.__new__"),Option.some (.bool true)]⟩) ::
 (nat_lit 136,⟨(.type "dict"),none,.dict (List.toArray (dE P "#" 363 (sv "mark" 364) :: dE P "@" 365 (sv "number" 366) :: dE P "&" 367 (sv "page" 368) :: dE P "^" 369 (sv "row" 370) :: dE P "~" 371 (sv "foot" 372) :: [])) 5,#[]⟩) ::
 (nat_lit 140,cV "words_in" "words_in" 379 380 381 29 1 3 137 181 138 .none .none .none (.ref 139) 382 29 383) ::
 (nat_lit 141,fO "words_in" 18 (.none) "trueleaf.signs" 355 140) ::
 (nat_lit 145,cV "is_name" "is_name" 385 386 387 31 1 3 142 181 143 .none .none .none (.ref 144) 388 31 389) ::
 (nat_lit 146,fO "is_name" 19 (.none) "trueleaf.signs" 355 145) ::
 (nat_lit 152,cV "figures_of" "figures_of" 391 392 393 35 1 3 147 181 148 .none (.ref 149) (.ref 150) (.ref 151) 395 35 396) ::
 (nat_lit 153,fO "figures_of" 20 (.none) "trueleaf.signs" 355 152) ::
 (nat_lit 159,cV "kind_of" "kind_of" 398 399 400 37 1 3 154 181 155 .none (.ref 156) (.ref 157) (.ref 158) 404 37 405) ::
 (nat_lit 160,fO "kind_of" 21 (.none) "trueleaf.signs" 355 159) ::
 (nat_lit 164,cV "numbers_of" "numbers_of" 409 410 411 46 1 3 161 181 162 .none .none .none (.ref 163) 412 46 413) ::
 (nat_lit 165,fO "numbers_of" 23 (.none) "trueleaf.heads" 407 164) ::
 (nat_lit 166,⟨(.type "tuple"),none,(.seq #[.none]),#[]⟩) ::
 (nat_lit 172,cV "tree_of" "tree_of" 419 420 421 55 2 3 167 181 168 .none (.ref 169) (.ref 170) (.ref 171) 427 55 428) ::
 (nat_lit 173,fO "tree_of" 26 (.ref 166) "trueleaf.trees" 415 172) ::
 (nat_lit 177,cV "copied" "copied" 430 431 432 74 1 3 174 181 175 .none .none .none (.ref 176) 433 74 434) ::
 (nat_lit 178,fO "copied" 27 (.none) "trueleaf.trees" 415 177) ::
 (nat_lit 184,cV "opens_call" "opens_call" 436 437 438 82 1 3 179 181 180 .none (.ref 181) (.ref 182) (.ref 183) 440 82 441) ::
 (nat_lit 185,fO "opens_call" 28 (.none) "trueleaf.trees" 415 184) ::
 (nat_lit 191,cV "with_closed" "with_closed" 443 444 445 84 2 3 186 181 187 .none (.ref 188) (.ref 189) (.ref 190) 450 84 451) ::
 (nat_lit 192,fO "with_closed" 29 (.none) "trueleaf.trees" 415 191) ::
 (nat_lit 198,cV "node_of" "node_of" 453 454 455 91 2 3 193 181 194 .none (.ref 195) (.ref 196) (.ref 197) 459 91 460) ::
 (nat_lit 199,fO "node_of" 30 (.none) "trueleaf.trees" 415 198) ::
 (nat_lit 205,cV "looks_like_place" "looks_like_place" 462 463 464 98 1 3 200 181 201 .none (.ref 202) (.ref 203) (.ref 204) 466 98 467) ::
 (nat_lit 206,fO "looks_like_place" 31 (.none) "trueleaf.trees" 415 205) ::
 (nat_lit 207,⟨(.type "tuple"),none,(.seq #[.int 0 477]),#[]⟩) ::
 (nat_lit 213,cV "size_of" "size_of" 478 479 480 104 3 3 208 181 209 .none (.ref 210) (.ref 211) (.ref 212) 484 104 485) ::
 (nat_lit 214,fO "size_of" 36 (.ref 207) "trueleaf.shorts" 469 213) ::
 (nat_lit 220,cV "new_short" "new_short" 487 488 489 106 4 3 215 181 216 .none (.ref 217) (.ref 218) (.ref 219) 497 106 498) ::
 (nat_lit 221,fO "new_short" 37 (.none) "trueleaf.shorts" 469 220) ::
 (nat_lit 227,cV "put_out" "put_out" 500 501 502 115 2 3 222 181 223 .none (.ref 224) (.ref 225) (.ref 226) 507 115 508) ::
 (nat_lit 228,fO "put_out" 38 (.none) "trueleaf.shorts" 469 227) ::
 (nat_lit 232,cV "by_name" "by_name" 510 511 512 121 1 3 229 181 230 .none .none .none (.ref 231) 513 121 514) ::
 (nat_lit 233,fO "by_name" 39 (.none) "trueleaf.shorts" 469 232) ::
 (nat_lit 239,cV "short_called" "short_called" 516 517 518 123 2 3 234 181 235 .none (.ref 236) (.ref 237) (.ref 238) 523 123 524) ::
 (nat_lit 240,fO "short_called" 40 (.none) "trueleaf.shorts" 469 239) ::
 (nat_lit 246,cV "size_among" "size_among" 526 527 528 131 3 3 241 181 242 .none (.ref 243) (.ref 244) (.ref 245) 539 131 540) ::
 (nat_lit 247,fO "size_among" 41 (.none) "trueleaf.shorts" 469 246) ::
 (nat_lit 251,cV "sum_of_rows" "sum_of_rows" 542 543 544 148 3 3 248 181 249 .none .none .none (.ref 250) 545 148 546) ::
 (nat_lit 252,fO "sum_of_rows" 42 (.none) "trueleaf.shorts" 469 251) ::
 (nat_lit 256,cV "words_out" "words_out" 548 549 550 150 3 3 253 181 254 .none .none .none (.ref 255) 551 150 552) ::
 (nat_lit 257,fO "words_out" 43 (.none) "trueleaf.shorts" 469 256) ::
 (nat_lit 258,⟨(.type "tuple"),none,(.seq #[sv ".page" 556,sv ".odd" 557,sv ".list" 558]),#[]⟩) ::
 (nat_lit 259,⟨(.type "tuple"),none,(.seq #[sv "=" 560,sv "==" 561,sv "===" 562]),#[]⟩) ::
 (nat_lit 265,cV "read_rows" "read_rows" 566 567 568 165 1 3 260 181 261 .none (.ref 262) (.ref 263) (.ref 264) 572 165 573) ::
 (nat_lit 266,fO "read_rows" 48 (.none) "trueleaf.reading" 554 265) ::
 (nat_lit 279,cV "__init__" "Reader.__init__" 587 588 589 172 1 3 274 181 275 .none (.ref 276) (.ref 277) (.ref 278) 591 172 592) ::
 (nat_lit 280,fM "__init__" "Reader.__init__" (bi 49 0) (.none) "trueleaf.reading" 554 279) ::
 (nat_lit 286,cV "read_row" "Reader.read_row" 594 595 596 178 2 3 281 181 282 .none (.ref 283) (.ref 284) (.ref 285) 600 178 601) ::
 (nat_lit 287,fM "read_row" "Reader.read_row" (bi 49 1) (.none) "trueleaf.reading" 554 286) ::
 (nat_lit 291,cV "read_let" "Reader.read_let" 603 604 605 196 2 3 288 181 289 .none .none .none (.ref 290) 606 196 607) ::
 (nat_lit 292,fM "read_let" "Reader.read_let" (bi 49 2) (.none) "trueleaf.reading" 554 291) ::
 (nat_lit 298,cV "read_foot" "Reader.read_foot" 609 610 611 205 2 3 293 181 294 .none (.ref 295) (.ref 296) (.ref 297) 616 205 617) ::
 (nat_lit 299,fM "read_foot" "Reader.read_foot" (bi 49 3) (.none) "trueleaf.reading" 554 298) ::
 (nat_lit 305,cV "read_alone" "Reader.read_alone" 619 620 621 216 2 3 300 181 301 .none (.ref 302) (.ref 303) (.ref 304) 625 216 626) ::
 (nat_lit 306,fM "read_alone" "Reader.read_alone" (bi 49 4) (.none) "trueleaf.reading" 554 305) ::
 (nat_lit 312,cV "read_words" "Reader.read_words" 628 629 630 222 2 3 307 181 308 .none (.ref 309) (.ref 310) (.ref 311) 634 222 635) ::
 (nat_lit 313,fM "read_words" "Reader.read_words" (bi 49 5) (.none) "trueleaf.reading" 554 312) ::
 (nat_lit 319,cV "add_thing" "Reader.add_thing" 637 638 639 230 2 3 314 181 315 .none (.ref 316) (.ref 317) (.ref 318) 642 230 643) ::
 (nat_lit 320,fM "add_thing" "Reader.add_thing" (bi 49 6) (.none) "trueleaf.reading" 554 319) ::
 (nat_lit 324,cV "words_out" "Reader.words_out" 645 646 647 234 3 3 321 181 322 .none .none .none (.ref 323) 648 234 649) ::
 (nat_lit 325,fM "words_out" "Reader.words_out" (bi 49 7) (.none) "trueleaf.reading" 554 324) ::
 (nat_lit 326,⟨(.type "tuple"),none,(.seq #[sv "feet" 651,sv "going_on" 652,sv "shorts" 653,sv "things" 654]),#[]⟩) ::
 (nat_lit 327,⟨(.type "dict"),none,.dict (List.toArray (dE P "__module__" 582 (sv "trueleaf.reading" 554) :: dE P "__firstlineno__" 586 (.int 170 585) :: dE P "__init__" 593 (.ref 280) :: dE P "read_row" 602 (.ref 287) :: dE P "read_let" 608 (.ref 292) :: dE P "read_foot" 618 (.ref 299) :: dE P "read_alone" 627 (.ref 306) :: dE P "read_words" 636 (.ref 313) :: dE P "add_thing" 644 (.ref 320) :: dE P "words_out" 650 (.ref 325) :: dE P "__static_attributes__" 655 (.ref 326) :: dE P "__dict__" 657 (.ref 329) :: dE P "__weakref__" 659 (.ref 330) :: dE P "__doc__" 660 (.none) :: [])) 4,#[]⟩) ::
 (nat_lit 328,⟨(.type "type"),none,(.cls (PySem.ClassData.mk (os "Reader") [.type "object"] [.ref 328,.type "object"] 327 (os "Reader") true [] [] false none false)),#[none,none,Option.some (sv "Reader" 575),Option.some (sv "Reader" 583),Option.some (.builtin "object.__new__"),Option.some (.bool true)]⟩) ::
 (nat_lit 329,⟨(.type "getset_descriptor"),none,(.fields #[sv "__dict__" 656,.ref 328,.builtin "function.__dict__",.builtin "function.__dict__#set"]),#[]⟩) ::
 (nat_lit 330,⟨(.type "getset_descriptor"),none,(.fields #[sv "__weakref__" 658,.ref 328,.builtin "ExceptionGroup.__weakref__",.none]),#[]⟩) ::
 (nat_lit 338,cV "is_figure" "is_figure" 663 664 665 242 1 3 333 181 334 .none (.ref 335) (.ref 336) (.ref 337) 667 242 668) ::
 (nat_lit 339,fO "is_figure" 50 (.none) "trueleaf.reading" 554 338) ::
 (nat_lit 340,⟨(.type "dict"),none,.dict (List.toArray (dE P "page" 672 (.int 3 673) :: dE P "odd" 674 (.int 4 675) :: [])) 2,#[]⟩) ::
 (nat_lit 341,⟨(.type "tuple"),none,(.seq #[sv "number" 679,sv "page" 680,sv "row" 681]),#[]⟩) ::
 (nat_lit 345,cV "set_words" "set_words" 683 684 685 247 2 3 342 181 343 .none .none .none (.ref 344) 686 247 687) ::
 (nat_lit 346,fO "set_words" 54 (.none) "trueleaf.setting" 670 345) ::
 (nat_lit 357,cV "__init__" "Setter.__init__" 701 702 703 257 3 3 354 181 355 .none .none .none (.ref 356) 704 257 705) ::
 (nat_lit 358,fM "__init__" "Setter.__init__" (bi 55 0) (.none) "trueleaf.setting" 670 357) ::
 (nat_lit 364,cV "set_thing" "Setter.set_thing" 707 708 709 268 2 3 359 181 360 .none (.ref 361) (.ref 362) (.ref 363) 713 268 714) ::
 (nat_lit 365,fM "set_thing" "Setter.set_thing" (bi 55 1) (.none) "trueleaf.setting" 670 364) ::
 (nat_lit 371,cV "set_head" "Setter.set_head" 716 717 718 281 2 3 366 181 367 .none (.ref 368) (.ref 369) (.ref 370) 722 281 723) ::
 (nat_lit 372,fM "set_head" "Setter.set_head" (bi 55 2) (.none) "trueleaf.setting" 670 371) ::
 (nat_lit 376,cV "set_list" "Setter.set_list" 725 726 727 286 1 3 373 181 374 .none .none .none (.ref 375) 728 286 729) ::
 (nat_lit 377,fM "set_list" "Setter.set_list" (bi 55 3) (.none) "trueleaf.setting" 670 376) ::
 (nat_lit 383,cV "set_run" "Setter.set_run" 731 732 733 293 4 3 378 181 379 .none (.ref 380) (.ref 381) (.ref 382) 739 293 740) ::
 (nat_lit 384,fM "set_run" "Setter.set_run" (bi 55 4) (.none) "trueleaf.setting" 670 383) ::
 (nat_lit 390,cV "set_mark" "Setter.set_mark" 742 743 744 302 2 3 385 181 386 .none (.ref 387) (.ref 388) (.ref 389) 747 302 748) ::
 (nat_lit 391,fM "set_mark" "Setter.set_mark" (bi 55 5) (.none) "trueleaf.setting" 670 390) ::
 (nat_lit 397,cV "set_word" "Setter.set_word" 750 751 752 307 3 3 392 181 393 .none (.ref 394) (.ref 395) (.ref 396) 757 307 758) ::
 (nat_lit 398,fM "set_word" "Setter.set_word" (bi 55 6) (.none) "trueleaf.setting" 670 397) ::
 (nat_lit 404,cV "next_foot" "Setter.next_foot" 760 761 762 319 2 3 399 181 400 .none (.ref 401) (.ref 402) (.ref 403) 765 319 766) ::
 (nat_lit 405,fM "next_foot" "Setter.next_foot" (bi 55 7) (.none) "trueleaf.setting" 670 404) ::
 (nat_lit 409,cV "check_marks" "Setter.check_marks" 768 769 770 325 1 3 406 181 407 .none .none .none (.ref 408) 771 325 772) ::
 (nat_lit 410,fM "check_marks" "Setter.check_marks" (bi 55 8) (.none) "trueleaf.setting" 670 409) ::
 (nat_lit 414,cV "words_told" "Setter.words_told" 774 775 776 336 1 3 411 181 412 .none .none .none (.ref 413) 777 336 778) ::
 (nat_lit 415,fM "words_told" "Setter.words_told" (bi 55 9) (.none) "trueleaf.setting" 670 414) ::
 (nat_lit 421,cV "saying_of" "Setter.saying_of" 780 781 782 342 2 3 416 181 417 .none (.ref 418) (.ref 419) (.ref 420) 787 342 788) ::
 (nat_lit 422,fM "saying_of" "Setter.saying_of" (bi 55 10) (.none) "trueleaf.setting" 670 421) ::
 (nat_lit 428,cV "number_at" "Setter.number_at" 790 791 792 353 2 3 423 181 424 .none (.ref 425) (.ref 426) (.ref 427) 798 353 799) ::
 (nat_lit 429,fM "number_at" "Setter.number_at" (bi 55 11) (.none) "trueleaf.setting" 670 428) ::
 (nat_lit 430,⟨(.type "tuple"),none,(.seq #[sv "behind_head" 801,sv "feet" 802,sv "feet_set" 803,sv "heads" 804,sv "leap" 805,sv "marks" 806,sv "numbers" 807,sv "titles" 808,sv "words" 809]),#[]⟩) ::
 (nat_lit 431,⟨(.type "dict"),none,.dict (List.toArray (dE P "__module__" 696 (sv "trueleaf.setting" 670) :: dE P "__firstlineno__" 700 (.int 255 699) :: dE P "__init__" 706 (.ref 358) :: dE P "set_thing" 715 (.ref 365) :: dE P "set_head" 724 (.ref 372) :: dE P "set_list" 730 (.ref 377) :: dE P "set_run" 741 (.ref 384) :: dE P "set_mark" 749 (.ref 391) :: dE P "set_word" 759 (.ref 398) :: dE P "next_foot" 767 (.ref 405) :: dE P "check_marks" 773 (.ref 410) :: dE P "words_told" 779 (.ref 415) :: dE P "saying_of" 789 (.ref 422) :: dE P "number_at" 800 (.ref 429) :: dE P "__static_attributes__" 810 (.ref 430) :: dE P "__dict__" 812 (.ref 433) :: dE P "__weakref__" 814 (.ref 434) :: dE P "__doc__" 815 (.none) :: [])) 4,#[]⟩) ::
 (nat_lit 432,⟨(.type "type"),none,(.cls (PySem.ClassData.mk (os "Setter") [.type "object"] [.ref 432,.type "object"] 431 (os "Setter") true [] [] false none false)),#[none,none,Option.some (sv "Setter" 689),Option.some (sv "Setter" 697),Option.some (.builtin "object.__new__"),Option.some (.bool true)]⟩) ::
 (nat_lit 433,⟨(.type "getset_descriptor"),none,(.fields #[sv "__dict__" 811,.ref 432,.builtin "function.__dict__",.builtin "function.__dict__#set"]),#[]⟩) ::
 (nat_lit 434,⟨(.type "getset_descriptor"),none,(.fields #[sv "__weakref__" 813,.ref 432,.builtin "ExceptionGroup.__weakref__",.none]),#[]⟩) ::
 (nat_lit 442,cV "_law_cell_at" "_law_cell_at" 820 821 822 360 2 3 437 181 438 .none (.ref 439) (.ref 440) (.ref 441) 825 360 826) ::
 (nat_lit 443,fO "_law_cell_at" 57 (.none) "law_trueleaf_k60_feet_hung" 818 442) ::
 (nat_lit 449,cV "_law_draw" "_law_draw" 828 829 830 364 3 3 444 181 445 .none (.ref 446) (.ref 447) (.ref 448) 835 364 836) ::
 (nat_lit 450,fO "_law_draw" 58 (.none) "law_trueleaf_k60_feet_hung" 818 449) ::
 (nat_lit 456,cV "_law_alike" "_law_alike" 838 839 840 367 2 3 451 181 452 .none (.ref 453) (.ref 454) (.ref 455) 844 367 845) ::
 (nat_lit 457,fO "_law_alike" 59 (.none) "law_trueleaf_k60_feet_hung" 818 456) ::
 (nat_lit 463,cV "_law_sign_by" "_law_sign_by" 847 848 849 385 2 3 458 181 459 .none (.ref 460) (.ref 461) (.ref 462) 853 385 854) ::
 (nat_lit 464,fO "_law_sign_by" 60 (.none) "law_trueleaf_k60_feet_hung" 818 463) ::
 (nat_lit 470,cV "_law_is_name" "_law_is_name" 856 857 858 388 1 3 465 181 466 .none (.ref 467) (.ref 468) (.ref 469) 861 388 862) ::
 (nat_lit 471,fO "_law_is_name" 61 (.none) "law_trueleaf_k60_feet_hung" 818 470) ::
 (nat_lit 477,cV "_law_form" "_law_form" 864 865 866 395 1 3 472 181 473 .none (.ref 474) (.ref 475) (.ref 476) 869 395 870) ::
 (nat_lit 478,fO "_law_form" 62 (.none) "law_trueleaf_k60_feet_hung" 818 477) ::
 (nat_lit 482,cV "_law_name" "_law_name" 872 873 874 398 2 3 479 181 480 .none .none .none (.ref 481) 875 398 876) ::
 (nat_lit 483,fO "_law_name" 63 (.none) "law_trueleaf_k60_feet_hung" 818 482) ::
 (nat_lit 487,cV "_law_plain_by" "_law_plain_by" 878 879 880 404 1 3 484 181 485 .none .none .none (.ref 486) 881 404 882) ::
 (nat_lit 488,fO "_law_plain_by" 64 (.none) "law_trueleaf_k60_feet_hung" 818 487) ::
 (nat_lit 494,cV "_law_written" "_law_written" 884 885 886 412 2 3 489 181 490 .none (.ref 491) (.ref 492) (.ref 493) 889 412 890) ::
 (nat_lit 495,fO "_law_written" 65 (.none) "law_trueleaf_k60_feet_hung" 818 494) ::
 (nat_lit 501,cV "_law_word" "_law_word" 892 893 894 418 6 3 496 181 497 .none (.ref 498) (.ref 499) (.ref 500) 903 418 904) ::
 (nat_lit 502,fO "_law_word" 66 (.none) "law_trueleaf_k60_feet_hung" 818 501) ::
 (nat_lit 508,cV "_law_rows" "_law_rows" 906 907 908 430 3 3 503 181 504 .none (.ref 505) (.ref 506) (.ref 507) 916 430 917) ::
 (nat_lit 509,fO "_law_rows" 67 (.none) "law_trueleaf_k60_feet_hung" 818 508) ::
 (nat_lit 513,cV "_law_named" "_law_named" 919 920 921 446 2 3 510 181 511 .none .none .none (.ref 512) 922 446 923) ::
 (nat_lit 514,fO "_law_named" 68 (.none) "law_trueleaf_k60_feet_hung" 818 513) ::
 (nat_lit 518,cV "_law_text" "_law_text" 925 926 927 465 3 3 515 181 516 .none .none .none (.ref 517) 928 465 929) ::
 (nat_lit 519,fO "_law_text" 69 (.none) "law_trueleaf_k60_feet_hung" 818 518) ::
 (nat_lit 525,cV "_law_said" "_law_said" 931 932 933 472 4 3 520 181 521 .none (.ref 522) (.ref 523) (.ref 524) 940 472 941) ::
 (nat_lit 526,fO "_law_said" 70 (.none) "law_trueleaf_k60_feet_hung" 818 525) ::
 (nat_lit 532,cV "_law_marked" "_law_marked" 943 944 945 486 2 3 527 181 528 .none (.ref 529) (.ref 530) (.ref 531) 952 486 953) ::
 (nat_lit 533,fO "_law_marked" 71 (.none) "law_trueleaf_k60_feet_hung" 818 532) ::
 (nat_lit 539,cV "_law_shape" "_law_shape" 955 956 957 497 2 3 534 181 535 .none (.ref 536) (.ref 537) (.ref 538) 961 497 962) ::
 (nat_lit 540,fO "_law_shape" 72 (.none) "law_trueleaf_k60_feet_hung" 818 539) ::
 (nat_lit 544,cV "_law_feet" "_law_feet" 964 965 966 506 3 3 541 181 542 .none .none .none (.ref 543) 967 506 968) ::
 (nat_lit 545,fO "_law_feet" 73 (.none) "law_trueleaf_k60_feet_hung" 818 544) ::
 (nat_lit 549,cV "_law_holds" "_law_holds" 970 971 972 517 4 3 546 181 547 .none .none .none (.ref 548) 973 517 974) ::
 (nat_lit 550,fO "_law_holds" 74 (.none) "law_trueleaf_k60_feet_hung" 818 549) ::
 (nat_lit 556,cV "_law_spaced" "_law_spaced" 976 977 978 521 2 3 551 181 552 .none (.ref 553) (.ref 554) (.ref 555) 986 521 987) ::
 (nat_lit 557,fO "_law_spaced" 75 (.none) "law_trueleaf_k60_feet_hung" 818 556) ::
 (nat_lit 561,cV "law" "law" 989 990 991 530 1 3 558 181 559 .none .none .none (.ref 560) 992 530 993) ::
 (nat_lit 562,fO "law" 76 (.none) "law_trueleaf_k60_feet_hung" 818 561) :: []
noncomputable def vw:Program:={ PySem.Challenge.pw_trueleaf_k60_feet_hung with main:={ PySem.Challenge.pw_trueleaf_k60_feet_hung.main with body:=top 1 :: top 2 :: top 3 :: top 4 :: top 5 :: top 6 :: top 7 :: top 8 :: top 9 :: top 10 :: top 11 :: top 12 :: top 14 :: top 15 :: top 16 :: top 17 :: top 18 :: top 19 :: top 20 :: top 21 :: top 23 :: top 25 :: top 27 :: top 28 :: top 29 :: top 30 :: top 31 :: top 33 :: top 34 :: top 35 :: top 37 :: top 38 :: top 39 :: top 40 :: top 41 :: top 42 :: top 43 :: top 45 :: top 46 :: top 47 :: top 48 :: top 49 :: top 50 :: top 52 :: top 53 :: top 54 :: top 55 :: top 57 :: top 58 :: top 59 :: top 60 :: top 61 :: top 62 :: top 63 :: top 64 :: top 65 :: top 66 :: top 67 :: top 68 :: top 69 :: top 70 :: top 71 :: top 72 :: top 73 :: top 74 :: top 75 :: top 76 :: [] } }
noncomputable abbrev ls:List Str:=[os "KINDS",os "tree_of",os "size_of",os "LEAPS"]
noncomputable abbrev hk:Hook:=kHook kk (nat_lit 2 :: nat_lit 3 :: nat_lit 15 :: nat_lit 22 :: nat_lit 23 :: nat_lit 24 :: nat_lit 25 :: nat_lit 28 :: nat_lit 35 :: nat_lit 36 :: nat_lit 37 :: nat_lit 40 :: nat_lit 47 :: nat_lit 48 :: nat_lit 49 :: nat_lit 52 :: nat_lit 59 :: nat_lit 60 :: nat_lit 61 :: nat_lit 64 :: nat_lit 71 :: nat_lit 72 :: nat_lit 73 :: nat_lit 76 :: nat_lit 83 :: nat_lit 84 :: nat_lit 85 :: nat_lit 88 :: nat_lit 95 :: nat_lit 96 :: nat_lit 97 :: nat_lit 100 :: nat_lit 107 :: nat_lit 108 :: nat_lit 109 :: nat_lit 112 :: nat_lit 119 :: nat_lit 120 :: nat_lit 121 :: nat_lit 124 :: nat_lit 131 :: nat_lit 132 :: nat_lit 133 :: nat_lit 136 :: nat_lit 140 :: nat_lit 141 :: nat_lit 145 :: nat_lit 146 :: nat_lit 152 :: nat_lit 153 :: nat_lit 159 :: nat_lit 160 :: nat_lit 164 :: nat_lit 165 :: nat_lit 166 :: nat_lit 172 :: nat_lit 173 :: nat_lit 177 :: nat_lit 178 :: nat_lit 184 :: nat_lit 185 :: nat_lit 191 :: nat_lit 192 :: nat_lit 198 :: nat_lit 199 :: nat_lit 205 :: nat_lit 206 :: nat_lit 207 :: nat_lit 213 :: nat_lit 214 :: nat_lit 220 :: nat_lit 221 :: nat_lit 227 :: nat_lit 228 :: nat_lit 232 :: nat_lit 233 :: nat_lit 239 :: nat_lit 240 :: nat_lit 246 :: nat_lit 247 :: nat_lit 251 :: nat_lit 252 :: nat_lit 256 :: nat_lit 257 :: nat_lit 258 :: nat_lit 259 :: nat_lit 265 :: nat_lit 266 :: nat_lit 279 :: nat_lit 280 :: nat_lit 286 :: nat_lit 287 :: nat_lit 291 :: nat_lit 292 :: nat_lit 298 :: nat_lit 299 :: nat_lit 305 :: nat_lit 306 :: nat_lit 312 :: nat_lit 313 :: nat_lit 319 :: nat_lit 320 :: nat_lit 324 :: nat_lit 325 :: nat_lit 326 :: nat_lit 327 :: nat_lit 328 :: nat_lit 329 :: nat_lit 330 :: nat_lit 338 :: nat_lit 339 :: nat_lit 340 :: nat_lit 341 :: nat_lit 345 :: nat_lit 346 :: nat_lit 357 :: nat_lit 358 :: nat_lit 364 :: nat_lit 365 :: nat_lit 371 :: nat_lit 372 :: nat_lit 376 :: nat_lit 377 :: nat_lit 383 :: nat_lit 384 :: nat_lit 390 :: nat_lit 391 :: nat_lit 397 :: nat_lit 398 :: nat_lit 404 :: nat_lit 405 :: nat_lit 409 :: nat_lit 410 :: nat_lit 414 :: nat_lit 415 :: nat_lit 421 :: nat_lit 422 :: nat_lit 428 :: nat_lit 429 :: nat_lit 430 :: nat_lit 431 :: nat_lit 432 :: nat_lit 433 :: nat_lit 434 :: nat_lit 442 :: nat_lit 443 :: nat_lit 449 :: nat_lit 450 :: nat_lit 456 :: nat_lit 457 :: nat_lit 463 :: nat_lit 464 :: nat_lit 470 :: nat_lit 471 :: nat_lit 477 :: nat_lit 478 :: nat_lit 482 :: nat_lit 483 :: nat_lit 487 :: nat_lit 488 :: nat_lit 494 :: nat_lit 495 :: nat_lit 501 :: nat_lit 502 :: nat_lit 508 :: nat_lit 509 :: nat_lit 513 :: nat_lit 514 :: nat_lit 518 :: nat_lit 519 :: nat_lit 525 :: nat_lit 526 :: nat_lit 532 :: nat_lit 533 :: nat_lit 539 :: nat_lit 540 :: nat_lit 544 :: nat_lit 545 :: nat_lit 549 :: nat_lit 550 :: nat_lit 556 :: nat_lit 557 :: nat_lit 561 :: nat_lit 562 :: []) (fun _=>by kernel_rfl)
noncomputable abbrev rr:RowW:=OpenRow.toRowW (OpenLaw.row PySem.Challenge.rw_trueleaf_k60_feet_hung)
noncomputable abbrev xt:Shared→Bool:=fun s=>xlAt vw [] s && recOk (RowW.records rr) s
noncomputable def Ci:List (Addr × Obj)→Nat→Obj
 | [],_=>⟨.none,none,.fields #[],#[]⟩
 | x :: _,0=>x.2
 | _ :: t,n+1=>Ci t n
noncomputable abbrev am (P:Params) (i:Nat) : Obj:=Ci (kk P) i
noncomputable def DC (P:Params) (t:List DictEntry) : List DictEntry:=dE P "__name__" 165 (sv "trueleaf.errors" 187) :: dE P "__doc__" 166 (.none) :: dE P "__package__" 167 (.none) :: dE P "__loader__" 168 (.builtin "__main__.__loader__#opaque") :: dE P "__spec__" 169 (.none) :: dE P "__annotations__" 170 (.ref 6) :: dE P "__builtins__" 171 (.ref 4) :: dE P "__file__" 173 (sv "/claim/cut.py" 172) :: t
noncomputable def DE (P:Params) (t:List DictEntry) : List DictEntry:=dE P "__cached__" 174 (.none) :: dE P "TrueleafError" 206 (.ref 24) :: dE P "BadRow" 222 (.ref 37) :: dE P "TooLong" 238 (.ref 49) :: dE P "BadCall" 254 (.ref 61) :: dE P "Deep" 270 (.ref 73) :: dE P "NoShort" 286 (.ref 85) :: t
noncomputable def Cj (P:Params) : Obj:=⟨(.type "dict"),none,.dict (List.toArray (DC P (DE P []))) 15,#[]⟩
noncomputable def DF (P:Params) (t:List DictEntry) : List DictEntry:=dE P "__name__" 165 (sv "trueleaf.trees" 415) :: dE P "__doc__" 166 (.none) :: dE P "__package__" 167 (.none) :: dE P "__loader__" 168 (.builtin "__main__.__loader__#opaque") :: dE P "__spec__" 169 (.none) :: dE P "__annotations__" 170 (.ref 6) :: dE P "__builtins__" 171 (.ref 4) :: dE P "__file__" 173 (sv "/claim/cut.py" 172) :: t
noncomputable def Bj (P:Params) (t:List DictEntry) : List DictEntry:=dE P "__cached__" 174 (.none) :: dE P "TrueleafError" 206 (.ref 24) :: dE P "BadRow" 222 (.ref 37) :: dE P "TooLong" 238 (.ref 49) :: dE P "BadCall" 254 (.ref 61) :: dE P "Deep" 270 (.ref 73) :: dE P "NoShort" 286 (.ref 85) :: dE P "BadWord" 302 (.ref 97) :: t
noncomputable def Bk (P:Params) (t:List DictEntry) : List DictEntry:=dE P "Twice" 318 (.ref 109) :: dE P "NoFoot" 334 (.ref 121) :: dE P "NoMark" 350 (.ref 133) :: dE P "MOST_WORDS_books" 352 (.int 400 351) :: dE P "LONGEST_TEXT" 354 (.int 60 353) :: dE P "LETTERS" 358 (sv "abcdefghijklmnopqrstuvwxyz" 357) :: dE P "FIGURES" 360 (sv "0123456789" 359) :: dE P "LONGEST_NAME" 362 (.int 12 361) :: t
noncomputable def Bl (P:Params) (t:List DictEntry) : List DictEntry:=dE P "KINDS" 378 (.ref 136) :: dE P "words_in" 384 (.ref 141) :: dE P "is_name" 390 (.ref 146) :: dE P "figures_of" 397 (.ref 153) :: dE P "kind_of" 406 (.ref 160) :: dE P "numbers_of" 414 (.ref 165) :: dE P "MOST_DEEP" 418 (.int 20 417) :: dE P "tree_of" 429 (.ref 173) :: t
noncomputable def Ck (P:Params) : Obj:=⟨(.type "dict"),none,.dict (List.toArray (DF P (Bj P (Bk P (Bl P []))))) 32,#[]⟩
noncomputable def DG (P:Params) (t:List DictEntry) : List DictEntry:=dE P "__name__" 165 (sv "trueleaf.setting" 670) :: dE P "__doc__" 166 (.none) :: dE P "__package__" 167 (.none) :: dE P "__loader__" 168 (.builtin "__main__.__loader__#opaque") :: dE P "__spec__" 169 (.none) :: dE P "__annotations__" 170 (.ref 6) :: dE P "__builtins__" 171 (.ref 4) :: dE P "__file__" 173 (sv "/claim/cut.py" 172) :: t
noncomputable def DI (P:Params) (t:List DictEntry) : List DictEntry:=dE P "copied" 435 (.ref 178) :: dE P "opens_call" 442 (.ref 185) :: dE P "with_closed" 452 (.ref 192) :: dE P "node_of" 461 (.ref 199) :: dE P "looks_like_place" 468 (.ref 206) :: dE P "MOST_WORDS_shorts" 472 (.int 400 471) :: dE P "MOST_CALLS" 474 (.int 400 473) :: dE P "MOST_CALLS_OF_SHORT" 476 (.int 60 475) :: t
noncomputable def DJ (P:Params) (t:List DictEntry) : List DictEntry:=dE P "size_of" 486 (.ref 214) :: dE P "new_short" 499 (.ref 221) :: dE P "put_out" 509 (.ref 228) :: dE P "by_name" 515 (.ref 233) :: dE P "short_called" 525 (.ref 240) :: dE P "size_among" 541 (.ref 247) :: dE P "sum_of_rows" 547 (.ref 252) :: dE P "words_out" 553 (.ref 257) :: t
noncomputable def DK (P:Params) (t:List DictEntry) : List DictEntry:=dE P "ALONE" 559 (.ref 258) :: dE P "HEADS" 563 (.ref 259) :: dE P "MOST_FOOT_WORDS" 565 (.int 39 564) :: dE P "read_rows" 574 (.ref 266) :: dE P "Reader" 662 (.ref 328) :: dE P "is_figure" 669 (.ref 339) :: dE P "LEAPS" 678 (.ref 340) :: dE P "POINTING" 682 (.ref 341) :: t
noncomputable def Cl (P:Params) (t:List DictEntry) : List DictEntry:=dE P "set_words" 688 (.ref 346) :: dE P "Setter" 817 (.ref 432) :: t
noncomputable def Cm (P:Params) : Obj:=⟨(.type "dict"),none,.dict (List.toArray (DG P (Bj P (Bk P (Bl P (DI P (DJ P (DK P (Cl P []))))))))) 58,#[]⟩
noncomputable def xv (P:Params) : Obj:=⟨(.none),none,(.fields #[]),#[]⟩
noncomputable def Bx (P:Params) : Obj:=⟨(.none),none,(.fields #[.int 2 0,.int 0 0,.ref 20,.int 4 0,.int 0 0,.ref 33,.int 6 0,.int 0 0,.ref 45,.int 8 0,.int 0 0,.ref 57,.int 10 0,.int 0 0,.ref 69,.int 12 0,.int 0 0,.ref 81]),#[]⟩
noncomputable def By (P:Params) : Obj:=⟨(.none),none,(.fields #[.int 2 0,.int 0 0,.ref 20,.int 4 0,.int 0 0,.ref 33,.int 6 0,.int 0 0,.ref 45,.int 8 0,.int 0 0,.ref 57,.int 10 0,.int 0 0,.ref 69,.int 12 0,.int 0 0,.ref 81,.int 14 0,.int 0 0,.ref 93,.int 16 0,.int 0 0,.ref 105,.int 18 0,.int 0 0,.ref 117,.int 20 0,.int 0 0,.ref 129,.int 29 0,.int 0 0,.ref 140,.int 31 0,.int 0 0,.ref 145,.int 35 0,.int 0 0,.ref 152,.int 37 0,.int 0 0,.ref 159,.int 46 0,.int 0 0,.ref 164,.int 55 0,.int 0 0,.ref 172]),#[]⟩
noncomputable def Bz (P:Params) : Obj:=⟨(.none),none,(.fields #[.int 2 0,.int 0 0,.ref 20,.int 4 0,.int 0 0,.ref 33,.int 6 0,.int 0 0,.ref 45,.int 8 0,.int 0 0,.ref 57,.int 10 0,.int 0 0,.ref 69,.int 12 0,.int 0 0,.ref 81,.int 14 0,.int 0 0,.ref 93,.int 16 0,.int 0 0,.ref 105,.int 18 0,.int 0 0,.ref 117,.int 20 0,.int 0 0,.ref 129,.int 29 0,.int 0 0,.ref 140,.int 31 0,.int 0 0,.ref 145,.int 35 0,.int 0 0,.ref 152,.int 37 0,.int 0 0,.ref 159,.int 46 0,.int 0 0,.ref 164,.int 55 0,.int 0 0,.ref 172,.int 74 0,.int 0 0,.ref 177,.int 82 0,.int 0 0,.ref 184,.int 84 0,.int 0 0,.ref 191,.int 91 0,.int 0 0,.ref 198,.int 98 0,.int 0 0,.ref 205,.int 104 0,.int 0 0,.ref 213,.int 106 0,.int 0 0,.ref 220,.int 115 0,.int 0 0,.ref 227,.int 121 0,.int 0 0,.ref 232,.int 123 0,.int 0 0,.ref 239,.int 131 0,.int 0 0,.ref 246,.int 148 0,.int 0 0,.ref 251,.int 150 0,.int 0 0,.ref 256,.int 165 0,.int 0 0,.ref 265,.int 170 0,.int 0 0,.ref 272,.int 242 0,.int 0 0,.ref 338,.int 247 0,.int 0 0,.ref 345,.int 255 0,.int 0 0,.ref 352]),#[]⟩
noncomputable def xw (P:Params) : Obj:=⟨(.none),none,(.fields #[.int 2 0,.int 0 0,.ref 20,.int 4 0,.int 0 0,.ref 33,.int 6 0,.int 0 0,.ref 45,.int 8 0,.int 0 0,.ref 57,.int 10 0,.int 0 0,.ref 69,.int 12 0,.int 0 0,.ref 81,.int 14 0,.int 0 0,.ref 93,.int 16 0,.int 0 0,.ref 105,.int 18 0,.int 0 0,.ref 117,.int 20 0,.int 0 0,.ref 129,.int 29 0,.int 0 0,.ref 140,.int 31 0,.int 0 0,.ref 145,.int 35 0,.int 0 0,.ref 152,.int 37 0,.int 0 0,.ref 159,.int 46 0,.int 0 0,.ref 164,.int 55 0,.int 0 0,.ref 172,.int 74 0,.int 0 0,.ref 177,.int 82 0,.int 0 0,.ref 184,.int 84 0,.int 0 0,.ref 191,.int 91 0,.int 0 0,.ref 198,.int 98 0,.int 0 0,.ref 205,.int 104 0,.int 0 0,.ref 213,.int 106 0,.int 0 0,.ref 220,.int 115 0,.int 0 0,.ref 227,.int 121 0,.int 0 0,.ref 232,.int 123 0,.int 0 0,.ref 239,.int 131 0,.int 0 0,.ref 246,.int 148 0,.int 0 0,.ref 251,.int 150 0,.int 0 0,.ref 256,.int 165 0,.int 0 0,.ref 265,.int 170 0,.int 0 0,.ref 272,.int 242 0,.int 0 0,.ref 338,.int 247 0,.int 0 0,.ref 345,.int 255 0,.int 0 0,.ref 352,.int 360 0,.int 0 0,.ref 442,.int 364 0,.int 0 0,.ref 449,.int 367 0,.int 0 0,.ref 456,.int 385 0,.int 0 0,.ref 463,.int 388 0,.int 0 0,.ref 470,.int 395 0,.int 0 0,.ref 477,.int 398 0,.int 0 0,.ref 482,.int 404 0,.int 0 0,.ref 487,.int 412 0,.int 0 0,.ref 494,.int 418 0,.int 0 0,.ref 501,.int 430 0,.int 0 0,.ref 508,.int 446 0,.int 0 0,.ref 513,.int 465 0,.int 0 0,.ref 518,.int 472 0,.int 0 0,.ref 525,.int 486 0,.int 0 0,.ref 532,.int 497 0,.int 0 0,.ref 539,.int 506 0,.int 0 0,.ref 544,.int 517 0,.int 0 0,.ref 549,.int 521 0,.int 0 0,.ref 556,.int 530 0,.int 0 0,.ref 561]),#[]⟩
noncomputable def BA (P:Params) : Obj:=⟨(.type "type"),none,(.cls (PySem.ClassData.mk (os "TrueleafError") [.type "ValueError"] [.ref 24,.type "ValueError",.type "Exception",.type "BaseException",.type "object"] 23 (os "TrueleafError") true [] [.ref 37,.ref 49,.ref 61,.ref 73,.ref 85] false none false)),#[Option.some (.ref 15),none,Option.some (sv "TrueleafError" 189),Option.some (sv "TrueleafError" 197),Option.some (.builtin "ValueError.__new__"),Option.some (.bool true)]⟩
noncomputable abbrev aw:Obj:=⟨(.type "tuple"),none,(.seq #[]),#[]⟩
noncomputable abbrev im:Obj:=⟨(.type "builtin_function_or_method"),none,(.fields #[.builtin "type.__prepare__",.type "type"]),#[]⟩
noncomputable abbrev aL:Obj:=⟨(.none),none,(.fields #[]),#[]⟩
noncomputable def mQ (P:Params) (x3:Obj) (x12:Obj) (t:List Obj) : List Obj:=boot_o_0 P :: boot_o_1 P :: boot_o_2 P :: x3 :: boot_o_4 P :: boot_o_5 P :: boot_o_6 P :: boot_o_7 P :: boot_o_8 P :: boot_o_9 P :: boot_o_10 P :: aw :: x12 :: ⟨(.type "code"),none,(.fields #[sv "<module>" 182,sv "<module>" 183,sv "/claim/cut.py" 184,.int 1 0,.int 0 0,.int 0 0,.int 0 0,.int 0 0,.ref 11,.bool false,.int 181 0,.ref 12,.none,.none,.none,.none,.int 185 0,.int 1 0,sv "/claim/cut.py" 186]),#[]⟩ :: ⟨(.type "frame"),none,(.plain),#[Option.some (.ref 13),Option.some (.ref 3),Option.some (.ref 3),none,Option.some (sv "__main__" 164),none,Option.some (.ref 0)]⟩ :: t
noncomputable def sf (P:Params) (x24:Obj) (t:List Obj) : List Obj:=am P 2 :: im :: ⟨(.type "dict"),none,.dict (List.toArray (dE P "__module__" 196 (sv "trueleaf.errors" 187) :: dE P "__qualname__" 198 (sv "TrueleafError" 197) :: dE P "__firstlineno__" 200 (.int 2 199) :: dE P "__static_attributes__" 201 (.ref 22) :: [])) 4,#[]⟩ :: aw :: aL :: ⟨(.type "code"),none,(.fields #[sv "TrueleafError" 191,sv "TrueleafError" 192,sv "/claim/cut.py" 193,.int 2 0,.int 0 0,.int 0 0,.int 0 0,.int 0 0,.ref 18,.bool false,.int 181 0,.ref 19,.none,.none,.none,.none,.int 194 0,.int 2 0,sv "/claim/cut.py" 195]),#[]⟩ :: ⟨(.type "frame"),none,(.plain),#[Option.some (.ref 20),Option.some (.ref 3),Option.some (.ref 17),none,Option.some (sv "trueleaf.errors" 187),none,Option.some (.ref 0)]⟩ :: am P 3 :: am P 4 :: x24 :: am P 6 :: ⟨(.type "super"),none,(.fields #[.ref 24,.ref 24,.ref 24]),#[]⟩ :: ⟨(.type "builtin_function_or_method"),none,(.fields #[.builtin "object.__init_subclass__",.ref 24]),#[]⟩ :: am P 7 :: im :: ⟨(.type "dict"),none,.dict (List.toArray (dE P "__module__" 214 (sv "trueleaf.errors" 187) :: dE P "__qualname__" 216 (sv "BadRow" 215) :: dE P "__firstlineno__" 218 (.int 4 217) :: dE P "__static_attributes__" 219 (.ref 35) :: [])) 4,#[]⟩ :: t
noncomputable def sh (P:Params) (t:List Obj) : List Obj:=aw :: aL :: ⟨(.type "code"),none,(.fields #[sv "BadRow" 209,sv "BadRow" 210,sv "/claim/cut.py" 211,.int 4 0,.int 0 0,.int 0 0,.int 0 0,.int 0 0,.ref 31,.bool false,.int 181 0,.ref 32,.none,.none,.none,.none,.int 212 0,.int 4 0,sv "/claim/cut.py" 213]),#[]⟩ :: ⟨(.type "frame"),none,(.plain),#[Option.some (.ref 33),Option.some (.ref 3),Option.some (.ref 30),none,Option.some (sv "trueleaf.errors" 187),none,Option.some (.ref 0)]⟩ :: am P 8 :: am P 9 :: am P 10 :: ⟨(.type "super"),none,(.fields #[.ref 37,.ref 37,.ref 37]),#[]⟩ :: ⟨(.type "builtin_function_or_method"),none,(.fields #[.builtin "object.__init_subclass__",.ref 37]),#[]⟩ :: am P 11 :: im :: ⟨(.type "dict"),none,.dict (List.toArray (dE P "__module__" 230 (sv "trueleaf.errors" 187) :: dE P "__qualname__" 232 (sv "TooLong" 231) :: dE P "__firstlineno__" 234 (.int 6 233) :: dE P "__static_attributes__" 235 (.ref 47) :: [])) 4,#[]⟩ :: aw :: aL :: ⟨(.type "code"),none,(.fields #[sv "TooLong" 225,sv "TooLong" 226,sv "/claim/cut.py" 227,.int 6 0,.int 0 0,.int 0 0,.int 0 0,.int 0 0,.ref 43,.bool false,.int 181 0,.ref 44,.none,.none,.none,.none,.int 228 0,.int 6 0,sv "/claim/cut.py" 229]),#[]⟩ :: ⟨(.type "frame"),none,(.plain),#[Option.some (.ref 45),Option.some (.ref 3),Option.some (.ref 42),none,Option.some (sv "trueleaf.errors" 187),none,Option.some (.ref 0)]⟩ :: t
noncomputable def si (P:Params) (t:List Obj) : List Obj:=am P 12 :: am P 13 :: am P 14 :: ⟨(.type "super"),none,(.fields #[.ref 49,.ref 49,.ref 49]),#[]⟩ :: ⟨(.type "builtin_function_or_method"),none,(.fields #[.builtin "object.__init_subclass__",.ref 49]),#[]⟩ :: am P 15 :: im :: ⟨(.type "dict"),none,.dict (List.toArray (dE P "__module__" 246 (sv "trueleaf.errors" 187) :: dE P "__qualname__" 248 (sv "BadCall" 247) :: dE P "__firstlineno__" 250 (.int 8 249) :: dE P "__static_attributes__" 251 (.ref 59) :: [])) 4,#[]⟩ :: aw :: aL :: ⟨(.type "code"),none,(.fields #[sv "BadCall" 241,sv "BadCall" 242,sv "/claim/cut.py" 243,.int 8 0,.int 0 0,.int 0 0,.int 0 0,.int 0 0,.ref 55,.bool false,.int 181 0,.ref 56,.none,.none,.none,.none,.int 244 0,.int 8 0,sv "/claim/cut.py" 245]),#[]⟩ :: ⟨(.type "frame"),none,(.plain),#[Option.some (.ref 57),Option.some (.ref 3),Option.some (.ref 54),none,Option.some (sv "trueleaf.errors" 187),none,Option.some (.ref 0)]⟩ :: am P 16 :: am P 17 :: am P 18 :: ⟨(.type "super"),none,(.fields #[.ref 61,.ref 61,.ref 61]),#[]⟩ :: t
noncomputable def sj (P:Params) (t:List Obj) : List Obj:=⟨(.type "builtin_function_or_method"),none,(.fields #[.builtin "object.__init_subclass__",.ref 61]),#[]⟩ :: am P 19 :: im :: ⟨(.type "dict"),none,.dict (List.toArray (dE P "__module__" 262 (sv "trueleaf.errors" 187) :: dE P "__qualname__" 264 (sv "Deep" 263) :: dE P "__firstlineno__" 266 (.int 10 265) :: dE P "__static_attributes__" 267 (.ref 71) :: [])) 4,#[]⟩ :: aw :: aL :: ⟨(.type "code"),none,(.fields #[sv "Deep" 257,sv "Deep" 258,sv "/claim/cut.py" 259,.int 10 0,.int 0 0,.int 0 0,.int 0 0,.int 0 0,.ref 67,.bool false,.int 181 0,.ref 68,.none,.none,.none,.none,.int 260 0,.int 10 0,sv "/claim/cut.py" 261]),#[]⟩ :: ⟨(.type "frame"),none,(.plain),#[Option.some (.ref 69),Option.some (.ref 3),Option.some (.ref 66),none,Option.some (sv "trueleaf.errors" 187),none,Option.some (.ref 0)]⟩ :: am P 20 :: am P 21 :: am P 22 :: ⟨(.type "super"),none,(.fields #[.ref 73,.ref 73,.ref 73]),#[]⟩ :: ⟨(.type "builtin_function_or_method"),none,(.fields #[.builtin "object.__init_subclass__",.ref 73]),#[]⟩ :: am P 23 :: im :: ⟨(.type "dict"),none,.dict (List.toArray (dE P "__module__" 278 (sv "trueleaf.errors" 187) :: dE P "__qualname__" 280 (sv "NoShort" 279) :: dE P "__firstlineno__" 282 (.int 12 281) :: dE P "__static_attributes__" 283 (.ref 83) :: [])) 4,#[]⟩ :: t
noncomputable def sk (P:Params) (t:List Obj) : List Obj:=aw :: aL :: ⟨(.type "code"),none,(.fields #[sv "NoShort" 273,sv "NoShort" 274,sv "/claim/cut.py" 275,.int 12 0,.int 0 0,.int 0 0,.int 0 0,.int 0 0,.ref 79,.bool false,.int 181 0,.ref 80,.none,.none,.none,.none,.int 276 0,.int 12 0,sv "/claim/cut.py" 277]),#[]⟩ :: ⟨(.type "frame"),none,(.plain),#[Option.some (.ref 81),Option.some (.ref 3),Option.some (.ref 78),none,Option.some (sv "trueleaf.errors" 187),none,Option.some (.ref 0)]⟩ :: am P 24 :: am P 25 :: am P 26 :: ⟨(.type "super"),none,(.fields #[.ref 85,.ref 85,.ref 85]),#[]⟩ :: ⟨(.type "builtin_function_or_method"),none,(.fields #[.builtin "object.__init_subclass__",.ref 85]),#[]⟩ :: t
noncomputable def uV (P:Params) (t:List Obj) : List Obj:=am P 27 :: im :: ⟨(.type "dict"),none,.dict (List.toArray (dE P "__module__" 294 (sv "trueleaf.errors" 187) :: dE P "__qualname__" 296 (sv "BadWord" 295) :: dE P "__firstlineno__" 298 (.int 14 297) :: dE P "__static_attributes__" 299 (.ref 95) :: [])) 4,#[]⟩ :: aw :: aL :: ⟨(.type "code"),none,(.fields #[sv "BadWord" 289,sv "BadWord" 290,sv "/claim/cut.py" 291,.int 14 0,.int 0 0,.int 0 0,.int 0 0,.int 0 0,.ref 91,.bool false,.int 181 0,.ref 92,.none,.none,.none,.none,.int 292 0,.int 14 0,sv "/claim/cut.py" 293]),#[]⟩ :: ⟨(.type "frame"),none,(.plain),#[Option.some (.ref 93),Option.some (.ref 3),Option.some (.ref 90),none,Option.some (sv "trueleaf.errors" 187),none,Option.some (.ref 0)]⟩ :: am P 28 :: am P 29 :: am P 30 :: ⟨(.type "super"),none,(.fields #[.ref 97,.ref 97,.ref 97]),#[]⟩ :: ⟨(.type "builtin_function_or_method"),none,(.fields #[.builtin "object.__init_subclass__",.ref 97]),#[]⟩ :: am P 31 :: im :: ⟨(.type "dict"),none,.dict (List.toArray (dE P "__module__" 310 (sv "trueleaf.errors" 187) :: dE P "__qualname__" 312 (sv "Twice" 311) :: dE P "__firstlineno__" 314 (.int 16 313) :: dE P "__static_attributes__" 315 (.ref 107) :: [])) 4,#[]⟩ :: aw :: t
noncomputable def uW (P:Params) (t:List Obj) : List Obj:=aL :: ⟨(.type "code"),none,(.fields #[sv "Twice" 305,sv "Twice" 306,sv "/claim/cut.py" 307,.int 16 0,.int 0 0,.int 0 0,.int 0 0,.int 0 0,.ref 103,.bool false,.int 181 0,.ref 104,.none,.none,.none,.none,.int 308 0,.int 16 0,sv "/claim/cut.py" 309]),#[]⟩ :: ⟨(.type "frame"),none,(.plain),#[Option.some (.ref 105),Option.some (.ref 3),Option.some (.ref 102),none,Option.some (sv "trueleaf.errors" 187),none,Option.some (.ref 0)]⟩ :: am P 32 :: am P 33 :: am P 34 :: ⟨(.type "super"),none,(.fields #[.ref 109,.ref 109,.ref 109]),#[]⟩ :: ⟨(.type "builtin_function_or_method"),none,(.fields #[.builtin "object.__init_subclass__",.ref 109]),#[]⟩ :: am P 35 :: im :: ⟨(.type "dict"),none,.dict (List.toArray (dE P "__module__" 326 (sv "trueleaf.errors" 187) :: dE P "__qualname__" 328 (sv "NoFoot" 327) :: dE P "__firstlineno__" 330 (.int 18 329) :: dE P "__static_attributes__" 331 (.ref 119) :: [])) 4,#[]⟩ :: aw :: aL :: ⟨(.type "code"),none,(.fields #[sv "NoFoot" 321,sv "NoFoot" 322,sv "/claim/cut.py" 323,.int 18 0,.int 0 0,.int 0 0,.int 0 0,.int 0 0,.ref 115,.bool false,.int 181 0,.ref 116,.none,.none,.none,.none,.int 324 0,.int 18 0,sv "/claim/cut.py" 325]),#[]⟩ :: ⟨(.type "frame"),none,(.plain),#[Option.some (.ref 117),Option.some (.ref 3),Option.some (.ref 114),none,Option.some (sv "trueleaf.errors" 187),none,Option.some (.ref 0)]⟩ :: am P 36 :: t
noncomputable def uX (P:Params) (t:List Obj) : List Obj:=am P 37 :: am P 38 :: ⟨(.type "super"),none,(.fields #[.ref 121,.ref 121,.ref 121]),#[]⟩ :: ⟨(.type "builtin_function_or_method"),none,(.fields #[.builtin "object.__init_subclass__",.ref 121]),#[]⟩ :: am P 39 :: im :: ⟨(.type "dict"),none,.dict (List.toArray (dE P "__module__" 342 (sv "trueleaf.errors" 187) :: dE P "__qualname__" 344 (sv "NoMark" 343) :: dE P "__firstlineno__" 346 (.int 20 345) :: dE P "__static_attributes__" 347 (.ref 131) :: [])) 4,#[]⟩ :: aw :: aL :: ⟨(.type "code"),none,(.fields #[sv "NoMark" 337,sv "NoMark" 338,sv "/claim/cut.py" 339,.int 20 0,.int 0 0,.int 0 0,.int 0 0,.int 0 0,.ref 127,.bool false,.int 181 0,.ref 128,.none,.none,.none,.none,.int 340 0,.int 20 0,sv "/claim/cut.py" 341]),#[]⟩ :: ⟨(.type "frame"),none,(.plain),#[Option.some (.ref 129),Option.some (.ref 3),Option.some (.ref 126),none,Option.some (sv "trueleaf.errors" 187),none,Option.some (.ref 0)]⟩ :: am P 40 :: am P 41 :: am P 42 :: ⟨(.type "super"),none,(.fields #[.ref 133,.ref 133,.ref 133]),#[]⟩ :: ⟨(.type "builtin_function_or_method"),none,(.fields #[.builtin "object.__init_subclass__",.ref 133]),#[]⟩ :: t
noncomputable def uY (P:Params) (t:List Obj) : List Obj:=am P 43 :: aw :: aL :: gA "words_in" "words_in" (top 18) :: am P 44 :: am P 45 :: aw :: aL :: gA "is_name" "is_name" (top 19) :: am P 46 :: am P 47 :: aw :: aL :: ⟨(.type "tuple"),none,(.seq #[sv "number" 394]),#[]⟩ :: aw :: gA "figures_of" "figures_of" (top 20) :: t
noncomputable def sr (P:Params) (t:List Obj) : List Obj:=am P 48 :: am P 49 :: aw :: aL :: ⟨(.type "tuple"),none,(.seq #[sv "word" 401,sv "first" 402,sv "rest" 403]),#[]⟩ :: aw :: gA "kind_of" "kind_of" (top 21) :: am P 50 :: am P 51 :: aw :: aL :: gA "numbers_of" "numbers_of" (top 23) :: am P 52 :: am P 53 :: am P 54 :: aw :: t
noncomputable def sx (P:Params) (t:List Obj) : List Obj:=aL :: ⟨(.type "tuple"),none,(.seq #[sv "words" 422,sv "count" 423,sv "nodes" 424,sv "pending" 425,sv "word" 426]),#[]⟩ :: aw :: gA "tree_of" "tree_of" (top 26) :: am P 55 :: am P 56 :: t
noncomputable def vd (P:Params) (t:List Obj) : List Obj:=aw :: aL :: gA "copied" "copied" (top 27) :: am P 57 :: am P 58 :: aw :: aL :: ⟨(.type "tuple"),none,(.seq #[sv "word" 439]),#[]⟩ :: aw :: gA "opens_call" "opens_call" (top 28) :: am P 59 :: am P 60 :: aw :: aL :: ⟨(.type "tuple"),none,(.seq #[sv "call" 446,sv "last" 447,sv "arguments" 448,sv "nodes" 449]),#[]⟩ :: aw :: t
noncomputable def ve (P:Params) (t:List Obj) : List Obj:=gA "with_closed" "with_closed" (top 29) :: am P 61 :: am P 62 :: aw :: aL :: ⟨(.type "tuple"),none,(.seq #[sv "word" 456,sv "count" 457,sv "k" 458]),#[]⟩ :: aw :: gA "node_of" "node_of" (top 30) :: am P 63 :: am P 64 :: aw :: aL :: ⟨(.type "tuple"),none,(.seq #[sv "word" 465]),#[]⟩ :: aw :: gA "looks_like_place" "looks_like_place" (top 31) :: am P 65 :: t
noncomputable def vf (P:Params) (t:List Obj) : List Obj:=am P 66 :: am P 67 :: aw :: aL :: ⟨(.type "tuple"),none,(.seq #[sv "shorts" 481,sv "nodes" 482,sv "count" 483]),#[]⟩ :: aw :: gA "size_of" "size_of" (top 36) :: am P 68 :: am P 69 :: aw :: aL :: ⟨(.type "tuple"),none,(.seq #[sv "shorts" 490,sv "name" 491,sv "count" 492,sv "nodes" 493,sv "size" 494,sv "row" 495,sv "calls" 496]),#[]⟩ :: aw :: gA "new_short" "new_short" (top 37) :: am P 70 :: am P 71 :: t
noncomputable def vg (P:Params) (t:List Obj) : List Obj:=aw :: aL :: ⟨(.type "tuple"),none,(.seq #[sv "shorts" 503,sv "nodes" 504,sv "named" 505,sv "size" 506]),#[]⟩ :: aw :: gA "put_out" "put_out" (top 38) :: am P 72 :: am P 73 :: aw :: aL :: gA "by_name" "by_name" (top 39) :: am P 74 :: am P 75 :: aw :: aL :: ⟨(.type "tuple"),none,(.seq #[sv "named" 519,sv "call" 520,sv "name" 521,sv "short" 522]),#[]⟩ :: aw :: t
noncomputable def vh (P:Params) (t:List Obj) : List Obj:=gA "short_called" "short_called" (top 40) :: am P 76 :: am P 77 :: aw :: aL :: ⟨(.type "tuple"),none,(.seq #[sv "named" 529,sv "nodes" 530,sv "count" 531,sv "row" 532,sv "calls" 533,sv "node" 534,sv "short" 535,sv "k" 536,sv "argument" 537,sv "size" 538]),#[]⟩ :: aw :: gA "size_among" "size_among" (top 41) :: am P 78 :: am P 79 :: aw :: aL :: gA "sum_of_rows" "sum_of_rows" (top 42) :: am P 80 :: am P 81 :: aw :: t
noncomputable def vk (P:Params) (t:List Obj) : List Obj:=aL :: gA "words_out" "words_out" (top 43) :: am P 82 :: am P 83 :: am P 84 :: am P 85 :: aw :: aL :: ⟨(.type "tuple"),none,(.seq #[sv "rows" 569,sv "reader" 570,sv "row" 571]),#[]⟩ :: aw :: gA "read_rows" "read_rows" (top 48) :: am P 86 :: am P 87 :: aw :: im :: ⟨(.type "dict"),none,.dict (List.toArray (dE P "__module__" 582 (sv "trueleaf.reading" 554) :: dE P "__qualname__" 584 (sv "Reader" 583) :: dE P "__firstlineno__" 586 (.int 170 585) :: dE P "__init__" 593 (.ref 280) :: dE P "read_row" 602 (.ref 287) :: dE P "read_let" 608 (.ref 292) :: dE P "read_foot" 618 (.ref 299) :: dE P "read_alone" 627 (.ref 306) :: dE P "read_words" 636 (.ref 313) :: dE P "add_thing" 644 (.ref 320) :: dE P "words_out" 650 (.ref 325) :: dE P "__static_attributes__" 655 (.ref 326) :: [])) 12,#[]⟩ :: t
noncomputable def vm (P:Params) (t:List Obj) : List Obj:=aw :: ⟨(.none),none,(.fields #[.int 172 0,.int 4 0,.ref 279,.int 178 0,.int 4 0,.ref 286,.int 196 0,.int 4 0,.ref 291,.int 205 0,.int 4 0,.ref 298,.int 216 0,.int 4 0,.ref 305,.int 222 0,.int 4 0,.ref 312,.int 230 0,.int 4 0,.ref 319,.int 234 0,.int 4 0,.ref 324]),#[]⟩ :: ⟨(.type "code"),none,(.fields #[sv "Reader" 577,sv "Reader" 578,sv "/claim/cut.py" 579,.int 170 0,.int 0 0,.int 0 0,.int 0 0,.int 0 0,.ref 270,.bool false,.int 181 0,.ref 271,.none,.none,.none,.none,.int 580 0,.int 170 0,sv "/claim/cut.py" 581]),#[]⟩ :: ⟨(.type "frame"),none,(.plain),#[Option.some (.ref 272),Option.some (.ref 3),Option.some (.ref 269),none,Option.some (sv "trueleaf.reading" 554),none,Option.some (.ref 0)]⟩ :: aw :: aL :: ⟨(.type "tuple"),none,(.seq #[sv "self" 590]),#[]⟩ :: aw :: gA "__init__" "Reader.__init__" (bi 49 0) :: am P 88 :: am P 89 :: aw :: aL :: ⟨(.type "tuple"),none,(.seq #[sv "self" 597,sv "words" 598,sv "first" 599]),#[]⟩ :: aw :: gA "read_row" "Reader.read_row" (bi 49 1) :: t
noncomputable def vn (P:Params) (t:List Obj) : List Obj:=am P 90 :: am P 91 :: aw :: aL :: gA "read_let" "Reader.read_let" (bi 49 2) :: am P 92 :: am P 93 :: aw :: aL :: ⟨(.type "tuple"),none,(.seq #[sv "self" 612,sv "words" 613,sv "name" 614,sv "text" 615]),#[]⟩ :: aw :: gA "read_foot" "Reader.read_foot" (bi 49 3) :: am P 94 :: am P 95 :: aw :: aL :: t
noncomputable def vo (P:Params) (t:List Obj) : List Obj:=⟨(.type "tuple"),none,(.seq #[sv "self" 622,sv "words" 623,sv "first" 624]),#[]⟩ :: aw :: gA "read_alone" "Reader.read_alone" (bi 49 4) :: am P 96 :: am P 97 :: aw :: aL :: ⟨(.type "tuple"),none,(.seq #[sv "self" 631,sv "words" 632,sv "read" 633]),#[]⟩ :: aw :: gA "read_words" "Reader.read_words" (bi 49 5) :: am P 98 :: am P 99 :: aw :: aL :: ⟨(.type "tuple"),none,(.seq #[sv "self" 640,sv "thing" 641]),#[]⟩ :: aw :: t
noncomputable def vp (P:Params) (t:List Obj) : List Obj:=gA "add_thing" "Reader.add_thing" (bi 49 6) :: am P 100 :: am P 101 :: aw :: aL :: gA "words_out" "Reader.words_out" (bi 49 7) :: am P 102 :: am P 103 :: am P 104 :: am P 105 :: am P 106 :: am P 107 :: am P 108 :: ⟨(.type "super"),none,(.fields #[.ref 328,.ref 328,.ref 328]),#[]⟩ :: ⟨(.type "builtin_function_or_method"),none,(.fields #[.builtin "object.__init_subclass__",.ref 328]),#[]⟩ :: aw :: t
noncomputable def vq (P:Params) (t:List Obj) : List Obj:=aL :: ⟨(.type "tuple"),none,(.seq #[sv "word" 666]),#[]⟩ :: aw :: gA "is_figure" "is_figure" (top 50) :: am P 109 :: am P 110 :: am P 111 :: am P 112 :: aw :: aL :: gA "set_words" "set_words" (top 54) :: am P 113 :: am P 114 :: aw :: im :: ⟨(.type "dict"),none,.dict (List.toArray (dE P "__module__" 696 (sv "trueleaf.setting" 670) :: dE P "__qualname__" 698 (sv "Setter" 697) :: dE P "__firstlineno__" 700 (.int 255 699) :: dE P "__init__" 706 (.ref 358) :: dE P "set_thing" 715 (.ref 365) :: dE P "set_head" 724 (.ref 372) :: dE P "set_list" 730 (.ref 377) :: dE P "set_run" 741 (.ref 384) :: dE P "set_mark" 749 (.ref 391) :: dE P "set_word" 759 (.ref 398) :: dE P "next_foot" 767 (.ref 405) :: dE P "check_marks" 773 (.ref 410) :: dE P "words_told" 779 (.ref 415) :: dE P "saying_of" 789 (.ref 422) :: dE P "number_at" 800 (.ref 429) :: dE P "__static_attributes__" 810 (.ref 430) :: [])) 16,#[]⟩ :: t
noncomputable def vt (P:Params) (t:List Obj) : List Obj:=aw :: ⟨(.none),none,(.fields #[.int 257 0,.int 4 0,.ref 357,.int 268 0,.int 4 0,.ref 364,.int 281 0,.int 4 0,.ref 371,.int 286 0,.int 4 0,.ref 376,.int 293 0,.int 4 0,.ref 383,.int 302 0,.int 4 0,.ref 390,.int 307 0,.int 4 0,.ref 397,.int 319 0,.int 4 0,.ref 404,.int 325 0,.int 4 0,.ref 409,.int 336 0,.int 4 0,.ref 414,.int 342 0,.int 4 0,.ref 421,.int 353 0,.int 4 0,.ref 428]),#[]⟩ :: ⟨(.type "code"),none,(.fields #[sv "Setter" 691,sv "Setter" 692,sv "/claim/cut.py" 693,.int 255 0,.int 0 0,.int 0 0,.int 0 0,.int 0 0,.ref 350,.bool false,.int 181 0,.ref 351,.none,.none,.none,.none,.int 694 0,.int 255 0,sv "/claim/cut.py" 695]),#[]⟩ :: ⟨(.type "frame"),none,(.plain),#[Option.some (.ref 352),Option.some (.ref 3),Option.some (.ref 349),none,Option.some (sv "trueleaf.setting" 670),none,Option.some (.ref 0)]⟩ :: aw :: aL :: gA "__init__" "Setter.__init__" (bi 55 0) :: am P 115 :: am P 116 :: aw :: aL :: ⟨(.type "tuple"),none,(.seq #[sv "self" 710,sv "thing" 711,sv "kind" 712]),#[]⟩ :: aw :: gA "set_thing" "Setter.set_thing" (bi 55 1) :: am P 117 :: am P 118 :: t
noncomputable def vx (P:Params) (t:List Obj) : List Obj:=aw :: aL :: ⟨(.type "tuple"),none,(.seq #[sv "self" 719,sv "k" 720,sv "number" 721]),#[]⟩ :: aw :: gA "set_head" "Setter.set_head" (bi 55 2) :: am P 119 :: am P 120 :: aw :: aL :: gA "set_list" "Setter.set_list" (bi 55 3) :: am P 121 :: am P 122 :: aw :: aL :: ⟨(.type "tuple"),none,(.seq #[sv "self" 734,sv "lead" 735,sv "words" 736,sv "by_head" 737,sv "word" 738]),#[]⟩ :: aw :: t
noncomputable def vz (P:Params) (t:List Obj) : List Obj:=gA "set_run" "Setter.set_run" (bi 55 4) :: am P 123 :: am P 124 :: aw :: aL :: ⟨(.type "tuple"),none,(.seq #[sv "self" 745,sv "name" 746]),#[]⟩ :: aw :: gA "set_mark" "Setter.set_mark" (bi 55 5) :: am P 125 :: am P 126 :: aw :: aL :: ⟨(.type "tuple"),none,(.seq #[sv "self" 753,sv "lead" 754,sv "word" 755,sv "foot" 756]),#[]⟩ :: aw :: gA "set_word" "Setter.set_word" (bi 55 6) :: am P 127 :: t
noncomputable def vA (P:Params) (t:List Obj) : List Obj:=am P 128 :: aw :: aL :: ⟨(.type "tuple"),none,(.seq #[sv "self" 763,sv "name" 764]),#[]⟩ :: aw :: gA "next_foot" "Setter.next_foot" (bi 55 7) :: am P 129 :: am P 130 :: aw :: aL :: gA "check_marks" "Setter.check_marks" (bi 55 8) :: am P 131 :: am P 132 :: aw :: aL :: gA "words_told" "Setter.words_told" (bi 55 9) :: t
noncomputable def vB (P:Params) (t:List Obj) : List Obj:=am P 133 :: am P 134 :: aw :: aL :: ⟨(.type "tuple"),none,(.seq #[sv "self" 783,sv "word" 784,sv "kind" 785,sv "rest" 786]),#[]⟩ :: aw :: gA "saying_of" "Setter.saying_of" (bi 55 10) :: am P 135 :: am P 136 :: aw :: aL :: ⟨(.type "tuple"),none,(.seq #[sv "self" 793,sv "k" 794,sv "number" 795,sv "text" 796,sv "at" 797]),#[]⟩ :: aw :: gA "number_at" "Setter.number_at" (bi 55 11) :: am P 137 :: am P 138 :: t
noncomputable def vC (P:Params) (t:List Obj) : List Obj:=am P 139 :: am P 140 :: am P 141 :: am P 142 :: am P 143 :: ⟨(.type "super"),none,(.fields #[.ref 432,.ref 432,.ref 432]),#[]⟩ :: ⟨(.type "builtin_function_or_method"),none,(.fields #[.builtin "object.__init_subclass__",.ref 432]),#[]⟩ :: t
noncomputable def yU (P:Params) (t:List Obj) : List Obj:=aw :: aL :: ⟨(.type "tuple"),none,(.seq #[sv "script" 823,sv "k" 824]),#[]⟩ :: aw :: gA "_law_cell_at" "_law_cell_at" (top 57) :: am P 144 :: am P 145 :: aw :: aL :: ⟨(.type "tuple"),none,(.seq #[sv "cell" 831,sv "k" 832,sv "many" 833,sv "number" 834]),#[]⟩ :: aw :: gA "_law_draw" "_law_draw" (top 58) :: am P 146 :: am P 147 :: aw :: aL :: t
noncomputable def yV (P:Params) (t:List Obj) : List Obj:=⟨(.type "tuple"),none,(.seq #[sv "found" 841,sv "due" 842,sv "k" 843]),#[]⟩ :: aw :: gA "_law_alike" "_law_alike" (top 59) :: am P 148 :: am P 149 :: aw :: aL :: ⟨(.type "tuple"),none,(.seq #[sv "cell" 850,sv "k" 851,sv "some" 852]),#[]⟩ :: aw :: gA "_law_sign_by" "_law_sign_by" (top 60) :: am P 150 :: am P 151 :: aw :: aL :: ⟨(.type "tuple"),none,(.seq #[sv "word" 859,sv "sign" 860]),#[]⟩ :: aw :: t
noncomputable def yW (P:Params) (t:List Obj) : List Obj:=gA "_law_is_name" "_law_is_name" (top 61) :: am P 152 :: am P 153 :: aw :: aL :: ⟨(.type "tuple"),none,(.seq #[sv "cell" 867,sv "wide" 868]),#[]⟩ :: aw :: gA "_law_form" "_law_form" (top 62) :: am P 154 :: am P 155 :: aw :: aL :: gA "_law_name" "_law_name" (top 63) :: am P 156 :: am P 157 :: aw :: t
noncomputable def yX (P:Params) (t:List Obj) : List Obj:=aL :: gA "_law_plain_by" "_law_plain_by" (top 64) :: am P 158 :: am P 159 :: aw :: aL :: ⟨(.type "tuple"),none,(.seq #[sv "kind" 887,sv "rest" 888]),#[]⟩ :: aw :: gA "_law_written" "_law_written" (top 65) :: am P 160 :: am P 161 :: aw :: aL :: ⟨(.type "tuple"),none,(.seq #[sv "first" 895,sv "kind" 896,sv "cell" 897,sv "at" 898,sv "marks" 899,sv "feet" 900,sv "many" 901,sv "rest" 902]),#[]⟩ :: aw :: gA "_law_word" "_law_word" (top 66) :: t
noncomputable def yY (P:Params) (t:List Obj) : List Obj:=am P 162 :: am P 163 :: aw :: aL :: ⟨(.type "tuple"),none,(.seq #[sv "script" 909,sv "ways" 910,sv "kinds" 911,sv "rows" 912,sv "cell" 913,sv "way" 914,sv "kind" 915]),#[]⟩ :: aw :: gA "_law_rows" "_law_rows" (top 67) :: am P 164 :: am P 165 :: aw :: aL :: gA "_law_named" "_law_named" (top 68) :: am P 166 :: am P 167 :: aw :: aL :: t
noncomputable def yZ (P:Params) (t:List Obj) : List Obj:=gA "_law_text" "_law_text" (top 69) :: am P 168 :: am P 169 :: aw :: aL :: ⟨(.type "tuple"),none,(.seq #[sv "kind" 934,sv "rest" 935,sv "marks" 936,sv "heads" 937,sv "number" 938,sv "one" 939]),#[]⟩ :: aw :: gA "_law_said" "_law_said" (top 70) :: am P 170 :: am P 171 :: aw :: aL :: ⟨(.type "tuple"),none,(.seq #[sv "stream" 946,sv "marks" 947,sv "at" 948,sv "many" 949,sv "kind" 950,sv "rest" 951]),#[]⟩ :: aw :: gA "_law_marked" "_law_marked" (top 71) :: am P 172 :: t
noncomputable def y0 (P:Params) (t:List Obj) : List Obj:=am P 173 :: aw :: aL :: ⟨(.type "tuple"),none,(.seq #[sv "found" 958,sv "form" 959,sv "word" 960]),#[]⟩ :: aw :: gA "_law_shape" "_law_shape" (top 72) :: am P 174 :: am P 175 :: aw :: aL :: gA "_law_feet" "_law_feet" (top 73) :: am P 176 :: am P 177 :: aw :: aL :: gA "_law_holds" "_law_holds" (top 74) :: t
noncomputable def y3 (P:Params) (t:List Obj) : List Obj:=am P 178 :: am P 179 :: aw :: aL :: ⟨(.type "tuple"),none,(.seq #[sv "rows" 979,sv "first" 980,sv "spaced" 981,sv "k" 982,sv "row" 983,sv "ahead" 984,sv "end" 985]),#[]⟩ :: aw :: gA "_law_spaced" "_law_spaced" (top 75) :: am P 180 :: am P 181 :: aw :: aL :: gA "law" "law" (top 76) :: am P 182 :: am P 183 :: t
noncomputable def zzhA (P:Params) : Heap:=⟨⟨(mQ P (boot_o_3 P) (xv P) [])⟩,{}⟩
noncomputable def zzhB (P:Params) : Heap:=⟨⟨(mQ P (boot_o_3 P) (xv P) [])⟩,{}⟩
noncomputable def zzh1 (P:Params) : Heap:=⟨⟨(mQ P (Cj P) (Bx P) (sf P (BA P) (sh P (si P (sj P (sk P []))))))⟩,{}⟩
noncomputable def zzh2 (P:Params) : Heap:=⟨⟨(mQ P (Ck P) (By P) (sf P (am P 5) (sh P (si P (sj P (sk P (uV P (uW P (uX P (uY P (sr P (sx P []))))))))))))⟩,{}⟩
noncomputable def zzh3 (P:Params) : Heap:=⟨⟨(mQ P (Cm P) (Bz P) (sf P (am P 5) (sh P (si P (sj P (sk P (uV P (uW P (uX P (uY P (sr P (sx P (vd P (ve P (vf P (vg P (vh P (vk P (vm P (vn P (vo P (vp P (vq P (vt P (vx P (vz P (vA P (vB P (vC P [])))))))))))))))))))))))))))))⟩,{}⟩
noncomputable def zzh4 (P:Params) : Heap:=⟨⟨(mQ P (am P 1) (xw P) (sf P (am P 5) (sh P (si P (sj P (sk P (uV P (uW P (uX P (uY P (sr P (sx P (vd P (ve P (vf P (vg P (vh P (vk P (vm P (vn P (vo P (vp P (vq P (vt P (vx P (vz P (vA P (vB P (vC P (yU P (yV P (yW P (yX P (yY P (yZ P (y0 P (y3 P [])))))))))))))))))))))))))))))))))))))⟩,{}⟩
noncomputable def zzhF (P:Params) : Heap:=⟨⟨(mQ P (am P 1) (xw P) (sf P (am P 5) (sh P (si P (sj P (sk P (uV P (uW P (uX P (uY P (sr P (sx P (vd P (ve P (vf P (vg P (vh P (vk P (vm P (vn P (vo P (vp P (vq P (vt P (vx P (vz P (vA P (vB P (vC P (yU P (yV P (yW P (yX P (yY P (yZ P (y0 P (y3 P [])))))))))))))))))))))))))))))))))))))⟩,{}⟩
noncomputable abbrev zzbE:List Stmt:=behindTheImports PySem.Challenge.pw_trueleaf_k60_feet_hung
noncomputable abbrev zzev:Env:={ scope:=PySem.Challenge.pw_trueleaf_k60_feet_hung.main.scope,locals:=mainNs,globals:=mainNs,cells:=[],code:=.ref 13,frame:=some 14 }
noncomputable abbrev zzcE:Code:=.body zzbE zzev
noncomputable abbrev zzbF:List Frame:=[topFrame (PySem.Pos.mk 0 0 0 0)]
set_option maxHeartbeats 0 in
theorem zzpreL (w:World) (os:OsState) : topGo PySem.treeTable PySem.Challenge.pw_trueleaf_k60_feet_hung w 11 (some (.ref 6)) 12 ⟨boot_heap w.params,Array.mk [],boot_drawn,boot_toks,os⟩ (topStub PySem.Challenge.pw_trueleaf_k60_feet_hung)=some (⟨zzhA w.params,Array.mk [],⟨0,0,0,0⟩,187,os⟩,⟨denote PySem.treeTable zzcE,zzcE,PySem.Pos.mk 0 0 0 0,zzbF⟩):=by kernel_rfl
set_option maxHeartbeats 0 in
theorem zzblkL (w:World) (os:OsState) : segRun PySem.treeTable PySem.Challenge.pw_trueleaf_k60_feet_hung w 11 (some (.ref 6)) 1 1 ⟨zzhA w.params,Array.mk [],⟨0,0,0,0⟩,187,os⟩ (blockOf zzbE zzev zzcE (PySem.Pos.mk 0 0 0 0) zzbF)=some (.next,⟨zzhB w.params,Array.mk [],⟨0,0,0,0⟩,187,os⟩,zzcE,PySem.Pos.mk 0 0 0 0):=by kernel_rfl
set_option maxHeartbeats 0 in
theorem zzseg0 (w:World) (os:OsState) : segRun PySem.treeTable PySem.Challenge.pw_trueleaf_k60_feet_hung w 11 (some (.ref 6)) 1 1261 ⟨zzhB w.params,Array.mk [],⟨0,0,0,0⟩,187,os⟩ (piecesOf ((zzbE.drop 0).take 7) zzev zzcE (PySem.Pos.mk 0 0 0 0) zzbF)=some (.next,⟨zzh1 w.params,Array.mk [],⟨0,0,0,0⟩,287,os⟩,zzcE,PySem.Pos.mk 12 0 13 8):=by kernel_rfl
def zzsegP1 (w:World) : Prop:=∀ os:OsState,segRun PySem.treeTable PySem.Challenge.pw_trueleaf_k60_feet_hung w 11 (some (.ref 6)) 1 1191 ⟨zzh1 w.params,Array.mk [],⟨0,0,0,0⟩,287,os⟩ (piecesOf ((zzbE.drop 7).take 20) zzev zzcE (PySem.Pos.mk 12 0 13 8) zzbF)=some (.next,⟨zzh2 w.params,Array.mk [],⟨0,0,0,0⟩,430,os⟩,zzcE,PySem.Pos.mk 55 0 73 16)
set_option maxHeartbeats 0 in
theorem zzsegF1 (w:World) : zzsegP1 (w.withFollow "special-get-raises" false):=fun os=>by kernel_rfl
set_option maxHeartbeats 0 in
theorem zzsegT1 (w:World) : zzsegP1 (w.withFollow "special-get-raises" true):=fun os=>by kernel_rfl
theorem zzseg1 (w:World) (os:OsState) : segRun PySem.treeTable PySem.Challenge.pw_trueleaf_k60_feet_hung w 11 (some (.ref 6)) 1 1191 ⟨zzh1 w.params,Array.mk [],⟨0,0,0,0⟩,287,os⟩ (piecesOf ((zzbE.drop 7).take 20) zzev zzcE (PySem.Pos.mk 12 0 13 8) zzbF)=some (.next,⟨zzh2 w.params,Array.mk [],⟨0,0,0,0⟩,430,os⟩,zzcE,PySem.Pos.mk 55 0 73 16):=byRow2 "special-get-raises" (P:=zzsegP1) zzsegF1 zzsegT1 w os
def zzsegP2 (w:World) : Prop:=∀ os:OsState,segRun PySem.treeTable PySem.Challenge.pw_trueleaf_k60_feet_hung w 11 (some (.ref 6)) 1 1647 ⟨zzh2 w.params,Array.mk [],⟨0,0,0,0⟩,430,os⟩ (piecesOf ((zzbE.drop 27).take 29) zzev zzcE (PySem.Pos.mk 55 0 73 16) zzbF)=some (.next,⟨zzh3 w.params,Array.mk [],⟨0,0,0,0⟩,818,os⟩,zzcE,PySem.Pos.mk 255 0 358 21)
set_option maxHeartbeats 0 in
theorem zzsegF2 (w:World) : zzsegP2 (w.withFollow "special-get-raises" false):=fun os=>by kernel_rfl
set_option maxHeartbeats 0 in
theorem zzsegT2 (w:World) : zzsegP2 (w.withFollow "special-get-raises" true):=fun os=>by kernel_rfl
theorem zzseg2 (w:World) (os:OsState) : segRun PySem.treeTable PySem.Challenge.pw_trueleaf_k60_feet_hung w 11 (some (.ref 6)) 1 1647 ⟨zzh2 w.params,Array.mk [],⟨0,0,0,0⟩,430,os⟩ (piecesOf ((zzbE.drop 27).take 29) zzev zzcE (PySem.Pos.mk 55 0 73 16) zzbF)=some (.next,⟨zzh3 w.params,Array.mk [],⟨0,0,0,0⟩,818,os⟩,zzcE,PySem.Pos.mk 255 0 358 21):=byRow2 "special-get-raises" (P:=zzsegP2) zzsegF2 zzsegT2 w os
set_option maxHeartbeats 0 in
theorem zzseg3 (w:World) (os:OsState) : segRun PySem.treeTable PySem.Challenge.pw_trueleaf_k60_feet_hung w 11 (some (.ref 6)) 1 611 ⟨zzh3 w.params,Array.mk [],⟨0,0,0,0⟩,818,os⟩ (piecesOf ((zzbE.drop 56).take 21) zzev zzcE (PySem.Pos.mk 255 0 358 21) zzbF)=some (.next,⟨zzh4 w.params,Array.mk [],⟨0,0,0,0⟩,995,os⟩,zzcE,PySem.Pos.mk 530 0 554 64):=by kernel_rfl
set_option maxHeartbeats 0 in
theorem zzfinL (w:World) (os:OsState) : topRun PySem.treeTable PySem.Challenge.pw_trueleaf_k60_feet_hung w 11 (some (.ref 6)) 2 ⟨zzh4 w.params,Array.mk [],⟨0,0,0,0⟩,995,os⟩ ⟨doneF .next,zzcE,PySem.Pos.mk 530 0 554 64,zzbF⟩=some ⟨zzhF w.params,Array.mk [],⟨0,0,0,0⟩,995,os⟩:=by kernel_rfl
set_option maxHeartbeats 0 in
theorem zzbodyE:zzbE=(((zzbE.drop 0).take 7)++(((zzbE.drop 7).take 20)++(((zzbE.drop 27).take 29)++(((zzbE.drop 56).take 21)++[])))):=by kernel_rfl
theorem zzrunL (w:World) (os:OsState) : topRun PySem.treeTable PySem.Challenge.pw_trueleaf_k60_feet_hung w 11 (some (.ref 6)) (12+(1+(1261+(1191+(1647+(611+2)))))) ⟨boot_heap w.params,Array.mk [],boot_drawn,boot_toks,os⟩ (topStub PySem.Challenge.pw_trueleaf_k60_feet_hung)=some ⟨zzhF w.params,Array.mk [],⟨0,0,0,0⟩,995,os⟩:=by
 have k0:topRun PySem.treeTable PySem.Challenge.pw_trueleaf_k60_feet_hung w 11 (some (.ref 6)) (1261+(1191+(1647+(611+2)))) ⟨zzhB w.params,Array.mk [],⟨0,0,0,0⟩,187,os⟩ (restOf (((zzbE.drop 0).take 7)++(((zzbE.drop 7).take 20)++(((zzbE.drop 27).take 29)++(((zzbE.drop 56).take 21)++[])))) zzev zzcE (PySem.Pos.mk 0 0 0 0) zzbF)=some ⟨zzhF w.params,Array.mk [],⟨0,0,0,0⟩,995,os⟩:=piece_app (zzseg0 w os) (piece_app (zzseg1 w os) (piece_app (zzseg2 w os) (piece_app (zzseg3 w os) (piece_nil (env:=zzev) (q:=PySem.Pos.mk 0 0 0 0) (zzfinL w os)))))
 have k1:topRun PySem.treeTable PySem.Challenge.pw_trueleaf_k60_feet_hung w 11 (some (.ref 6)) (1261+(1191+(1647+(611+2)))) ⟨zzhB w.params,Array.mk [],⟨0,0,0,0⟩,187,os⟩ (restOf zzbE zzev zzcE (PySem.Pos.mk 0 0 0 0) zzbF)=some ⟨zzhF w.params,Array.mk [],⟨0,0,0,0⟩,995,os⟩:=(congrArg (fun b=>topRun PySem.treeTable PySem.Challenge.pw_trueleaf_k60_feet_hung w 11 (some (.ref 6)) (1261+(1191+(1647+(611+2)))) ⟨zzhB w.params,Array.mk [],⟨0,0,0,0⟩,187,os⟩ (restOf b zzev zzcE (PySem.Pos.mk 0 0 0 0) zzbF)) zzbodyE).trans k0
 exact go_top (zzpreL w os) (piece_block (zzblkL w os) k1)
set_option maxHeartbeats 0 in
theorem zzopE:opening PySem.Challenge.pw_trueleaf_k60_feet_hung=plainProg PySem.Challenge.pw_trueleaf_k60_feet_hung.main.scope.names:=by kernel_rfl
set_option maxHeartbeats 0 in
theorem DL (w:World) : ((boot_heap w.params).isNs mainGlobals && (Array.mk [] : Array GenState).size == 0,(boot_heap w.params).objs.size,(boot_heap w.params).nsMap mainGlobals "__annotations__")=(true,11,some (.ref 6)):=by kernel_rfl
set_option maxHeartbeats 0 in
theorem zzlkA (w:World) (os:OsState) : staticsOk (importedModules PySem.Challenge.pw_trueleaf_k60_feet_hung.main.body) (boot_heap w.params) (zzhF w.params)=true:=by kernel_rfl
set_option maxHeartbeats 0 in
theorem zzlkB (w:World) (os:OsState) : namesBound PySem.Challenge.pw_trueleaf_k60_feet_hung (zzhF w.params)=true:=by kernel_rfl
set_option maxHeartbeats 0 in
theorem zzlkC (w:World) (os:OsState) : gensDone (⟨zzhF w.params,Array.mk [],⟨0,0,0,0⟩,995,os⟩)=true:=by kernel_rfl
set_option maxHeartbeats 0 in
theorem zzlkD (w:World) (os:OsState) : laidKept (boot_heap w.params) (zzhF w.params)=true:=by kernel_rfl
noncomputable abbrev zzzF (w:World) (os:OsState) : Shared:=⟨zzhF w.params,Array.mk [],⟨0,0,0,0⟩,995,os⟩
set_option maxHeartbeats 0 in
theorem zzlc0 (w:World) (os:OsState) : seen ((recsOf vw).map (·.name)) (ownsOf vw) [] { zzzF w os with gens:=#[] }=expectedOf vw:=by kernel_rfl
set_option maxHeartbeats 0 in
theorem zzlc1 (w:World) (os:OsState) : (zzzF w os).heap.bltView=bltViewBooted:=by kernel_rfl
set_option maxHeartbeats 0 in
theorem zzlc2 (w:World) (os:OsState) : ((zzzF w os).heap.keysOk (looseW vw ls) ((recsOf vw).map (·.name)) ((litsOf vw).map (·.1)) ((clssOf vw (looseW vw ls)).map (·.name)) && (zzzF w os).heap.accountedOkI (importedModules PySem.Challenge.pw_trueleaf_k60_feet_hung.main.body) && (zzzF w os).heap.isNs mainGlobals && (zzzF w os).heap.isNs builtinsNs && tablesOk vw (zzzF w os).heap && xt (zzzF w os) && (if true=true then (zzzF w os).gens.size == 0 else !leftWithCleanup (zzzF w os).gens))=true:=by kernel_rfl
set_option maxHeartbeats 0 in
theorem zzlc3 (w:World) (os:OsState) : tabsOk vw (zzzF w os)=true:=by kernel_rfl
set_option maxHeartbeats 0 in
theorem zzlc4 (w:World) (os:OsState) : pinSeenD vw (drecsOf vw) (zzzF w os)=pinGoodD (drecsOf vw):=by kernel_rfl
set_option maxHeartbeats 0 in
theorem zzlc5 (w:World) (os:OsState) : plainSeenE vw (looseW vw ls) (zzzF w os)=plainGoodE vw (looseW vw ls):=by kernel_rfl
set_option maxHeartbeats 0 in
theorem zzlc6 (w:World) (os:OsState) : plainSeenD vw ls (zzzF w os)=plainGoodD vw ls:=by kernel_rfl
set_option maxHeartbeats 0 in
theorem zzlc7 (w:World) (os:OsState) : wideSeen vw (zzzF w os)=wideGood vw:=by kernel_rfl
set_option maxHeartbeats 0 in
theorem zzlc8 (w:World) (os:OsState) : clsSeenW vw ls (zzzF w os)=clsGoodW vw ls:=by kernel_rfl
theorem zzmk9 {A B C D E F G H I:Type} {a a':A} {b b':B} {c c':C} {d d':D} {e e':E} {f f':F} {g g':G} {h h':H} {i i':I} (zzh0:a=a') (zzh1:b=b') (zzh2:c=c') (zzh3:d=d') (zzh4:e=e') (zzh5:f=f') (zzh6:g=g') (zzh7:h=h') (zzh8:i=i') : (a,b,c,d,e,f,g,h,i)=(a',b',c',d',e',f',g',h',i'):=by
 subst zzh0 zzh1 zzh2 zzh3 zzh4 zzh5 zzh6 zzh7 zzh8; rfl
theorem zzlkO (w:World) (os:OsState) : openSeen vw ls (importedModules PySem.Challenge.pw_trueleaf_k60_feet_hung.main.body) xt true (zzzF w os)=openGood vw ls:=zzmk9 (zzlc0 w os) (zzlc1 w os) (zzlc2 w os) (zzlc3 w os) (zzlc4 w os) (zzlc5 w os) (zzlc6 w os) (zzlc7 w os) (zzlc8 w os)
set_option maxHeartbeats 0 in
theorem DM (w:World) (os:OsState) : Hook.obs hk (⟨zzhF w.params,Array.mk [],⟨0,0,0,0⟩,995,os⟩)=Hook.val hk w:=by kernel_rfl
theorem zzlkP (w:World) (os:OsState) : (staticsOk (importedModules PySem.Challenge.pw_trueleaf_k60_feet_hung.main.body) (boot_heap w.params) (zzhF w.params) && namesBound PySem.Challenge.pw_trueleaf_k60_feet_hung (zzhF w.params) && gensDone (⟨zzhF w.params,Array.mk [],⟨0,0,0,0⟩,995,os⟩) && laidKept (boot_heap w.params) (zzhF w.params))=true:=by rw [zzlkA w os,zzlkB w os,zzlkC w os,zzlkD w os]; rfl
theorem left:LeftO PySem.Challenge.pw_trueleaf_k60_feet_hung vw ls xt (Hook.obs hk) (Hook.val hk) 9538:=
 LeftO.of_pieces (boot_open zzopE (by decide) (fun s=>rfl)) DL zzrunL (by decide) fun w=>funext fun os=>Prod.ext (zzlkP w os) (Prod.ext (zzlkO w os) (DM w os))

end K60
set_option maxHeartbeats 4000000
namespace L2
open PySem PySem.Spec PyProof.Rows

abbrev Key:=Sum Int Str
def k_:Key→Value→Bool
 | .inl k,v=>Value.isInt k v
 | .inr x,v=>Value.isStrOf x v
def Cn (w:World) : Key→Int
 | .inl k=>hashInt k
 | .inr x=>hashStr w x
theorem cJ:∀ {k:Key} {v:Value},k_ k v=true→(∃ i t,k=Sum.inl i∧v=Value.int i t)∨(∃ x t,k=Sum.inr x∧v=Value.str x t)
 | .inl i,v,h=>by
  obtain ⟨t,e⟩:=Value.isInt_shape (k:=i) (v:=v) h
  exact .inl ⟨i,t,rfl,e⟩
 | .inr x,v,h=>by
  obtain ⟨t,e⟩:=Value.isStrOf_shape (x:=x) (v:=v) h
  exact .inr ⟨x,t,rfl,e⟩
theorem y4 (i:Int) (t:Tok) : k_ (.inl i) (.int i t)=true:=by simp [k_,Value.isInt]
theorem y6 (x:Str) (t:Tok) : k_ (.inr x) (.str x t)=true:=by simp [k_,Value.isStrOf]
theorem Co (a b:Int) : decide ((Sum.inl a:Key)=Sum.inl b)=(a == b):=by
 by_cases e:a=b
 ·subst e; simp
 ·have h:¬ (Sum.inl a:Key)=Sum.inl b:=fun q=>e (Sum.inl.inj q)
  rw [decide_eq_false h]
  exact (beq_eq_false_iff_ne.mpr e).symm
theorem Cp (a b:Str) : decide ((Sum.inr a:Key)=Sum.inr b)=decide (a=b):=by
 by_cases e:a=b
 ·subst e; simp
 ·have h:¬ (Sum.inr a:Key)=Sum.inr b:=fun q=>e (Sum.inr.inj q)
  rw [decide_eq_false h,decide_eq_false e]
theorem Cq (a:Int) (b:Str) : decide ((Sum.inl a:Key)=Sum.inr b)=false:=decide_eq_false (fun q=>nomatch q)
theorem Cr (a:Str) (b:Int) : decide ((Sum.inr a:Key)=Sum.inl b)=false:=decide_eq_false (fun q=>nomatch q)

def bf (prog:Program) (w:World) : PySem.KeyKind prog w Key where
 is:=k_
 hash:=Cn w
 inj:=fun v a b ha hb=>by
  rcases cJ ha with ⟨i,t,rfl,rfl⟩ | ⟨x,t,rfl,rfl⟩
  ·rcases cJ hb with ⟨j,u,rfl,e⟩ | ⟨y,u,rfl,e⟩
   ·injection e with e1 _; rw [e1]
   ·exact nomatch e
  ·rcases cJ hb with ⟨j,u,rfl,e⟩ | ⟨y,u,rfl,e⟩
   ·exact nomatch e
   ·injection e with e1 _; rw [e1]
 byValue:=fun k v h=>by
  rcases cJ h with ⟨i,t,rfl,rfl⟩ | ⟨x,t,rfl,rfl⟩ <;> rfl
 pyHash:=fun hv h=>by
  rcases cJ hv with ⟨i,t,rfl,rfl⟩ | ⟨x,t,rfl,rfl⟩
  ·exact wpAny_pyHash_int h
  ·exact wpAny_pyHash_str h
 eqBool:=fun hu hv h=>by
  rcases cJ hu with ⟨i,t,rfl,rfl⟩ | ⟨x,t,rfl,rfl⟩
  ·rcases cJ hv with ⟨j,u,rfl,rfl⟩ | ⟨y,u,rfl,rfl⟩
   ·rw [Co] at h; exact wpAny_eqBool_int h
   ·rw [Cq] at h; exact SeqAt.EqAt.int_str i t y u _ _ _ _ h
  ·rcases cJ hv with ⟨j,u,rfl,rfl⟩ | ⟨y,u,rfl,rfl⟩
   ·rw [Cr] at h; exact SeqAt.EqAt.str_int x t j u _ _ _ _ h
   ·rw [Cp] at h; exact wpAny_eqBool_str h
 «strs»:=fun k x t v h=>by
  rcases cJ h with ⟨i,u,rfl,e⟩ | ⟨y,u,rfl,e⟩
  ·exact nomatch e
  ·injection e with e1 _
   subst e1
   cases v <;> rfl

theorem xh (prog:Program) (w:World) (i:Int) (t:Tok) : (bf prog w).is (.inl i) (.int i t)=true:=y4 i t
theorem xi (prog:Program) (w:World) (x:Str) (t:Tok) : (bf prog w).is (.inr x) (.str x t)=true:=y6 x t

inductive V where
 | non | bl (b:Bool) | int (i:Int) | str (x:Str) | byt (b:Array UInt8) | flt (b:UInt64) | ref (a:Addr) | ty (n:String)
 deriving DecidableEq

def aZ:V→Value→Prop
 | .non,u=>u=Value.none
 | .bl b,u=>u=Value.bool b
 | .int i,u=>∃ t,u=Value.int i t
 | .str x,u=>∃ t,u=Value.str x t
 | .byt b,u=>∃ t,u=Value.bytes b t
 | .flt b,u=>∃ t,u=Value.float b t
 | .ref a,u=>u=Value.ref a
 | .ty n,u=>u=Value.type n

abbrev aU:List V→List Value→Prop:=Paired aZ
theorem aU.length {xs:List V} {us:List Value} (r:aU xs us) : xs.length=us.length:=Paired.length r
theorem aU.get:∀ {xs:List V} {us:List Value} {i:Nat} {x:V},aU xs us→xs[i]? = some x→∃ u,us[i]? = some u∧aZ x u
 | _,_,_,_,.nil,e=>by simp at e
 | _,_,0,_,.cons r _,e=>by simp at e; subst e; exact ⟨_,rfl,r⟩
 | _,_,i+1,x,.cons _ t,e=>by
  obtain ⟨u,h1,h2⟩:=aU.get (i:=i) (x:=x) t (by simpa using e)
  exact ⟨u,by simpa using h1,h2⟩
theorem aU.set {x:V} {u:Value} (r:aZ x u) : ∀ {xs:List V} {us:List Value} (i:Nat),aU xs us→aU (xs.set i x) (us.set i u)
 | _,_,_,.nil=>.nil
 | _,_,0,.cons _ t=>.cons r t
 | _,_,i+1,.cons q t=>.cons q (aU.set r i t)
theorem aU.append:∀ {xs ys:List V} {us ws:List Value},aU xs us→aU ys ws→aU (xs++ys) (us++ws)
 | _,_,_,_,.nil,s=>s
 | _,_,_,_,.cons r t,s=>.cons r (aU.append t s)
theorem aU.take:∀ {xs:List V} {us:List Value} (n:Nat),aU xs us→aU (xs.take n) (us.take n)
 | _,_,0,_=>.nil
 | _,_,_+1,.nil=>.nil
 | _,_,n+1,.cons r t=>.cons r (aU.take n t)
theorem aU.drop:∀ {xs:List V} {us:List Value} (n:Nat),aU xs us→aU (xs.drop n) (us.drop n)
 | _,_,0,r=>r
 | _,_,_+1,.nil=>.nil
 | _,_,n+1,.cons _ t=>aU.drop n t
def gq:Option V→Option Value→Prop
 | some v,some u=>aZ v u
 | none,none=>True
 | _,_=>False
def KV {κ:Type} : List (κ × V)→List (κ × Value)→Prop:=Paired fun (p:κ × V) (q:κ × Value)=>p.1=q.1∧aZ p.2 q.2

def kV:Key→V
 | .inl i=>.int i
 | .inr x=>.str x

inductive HO where
  | lst (xs:List V)
  | tup (xs:List V)
  | dK (kvs:List (Key × V)) | dT (kvs:List (List Key × V))
  | set (S:Int→Bool) (n:Nat)
  | ins (C dx:Addr) (fs:List (Str × V))
  | own (x:Addr)
  | xd (fs:List (Str × V))
  | met (f x:Addr)
  | rng (lo hi:Int)
  | frz (o:Obj) (u:HO)
  | tbl (ps:Array Value)
  | ext (φ:Heap→Prop)

abbrev Hp:=Addr→Option HO
def upd (H:Hp) (a:Addr) (o:HO) : Hp:=fun b=>if b=a then some o else H b
theorem ae {H:Hp} {a:Addr} {o:HO} : upd H a o a=some o:=by unfold upd; rw [if_pos rfl]
theorem aj {H:Hp} {a b:Addr} {o:HO} (h:b≠a) : upd H a o b=H b:=by unfold upd; rw [if_neg h]
theorem DN {H:Hp} {a b:Addr} {o u:HO} (h:H a=some o) (h':H b=some u) (d:o≠u) : a≠b:=by
 intro e; subst e; rw [h] at h'; exact d (Option.some.inj h')
theorem cx {H:Hp} {a b:Addr} {o:HO} (h:H a=some o) (h':H b=none) : a≠b:=by
 intro e; subst e; rw [h] at h'; cases h'

section
variable (P:Program) (w:World)
def bQ (H:Hp) (h:Heap) (a:Addr) : HO→Prop
 | .lst xs=>xs.length≤sizeLine∧∃ (its:List Value) (n:Nat),aU xs its∧h.get? a=some { cls:=.type "list",data:=.seq its.toArray n }
 | .tup xs=>xs.length≤sizeLine∧∃ its:List Value,aU xs its∧IsTup h a its.toArray
 | .dK kvs=>kvs.length≤sizeLine∧(a == sysModules)=false∧∃ vs,KV kvs vs∧h.DictOf (bf P w) a vs
 | .dT kvs=>kvs.length≤sizeLine∧(a == sysModules)=false∧∃ xs:List (List Key × Addr × Value),
   Paired (fun (p:List Key × V) (q:List Key × Addr × Value)=>p.1=q.1∧H q.2.1=some (.tup (p.1.map kV))∧aZ p.2 q.2.2) kvs xs ∧
   ∃ o es ep,h.get? a=some o∧o.ExactDict∧o.data = .dict es ep∧es.toList=xs.map (entryOfKey (tupleKind (bf P w)))∧(xs.map (·.1)).Nodup
 | .set S n=>h.SetOf (intKind P w) a S n
 | .ins C dx fs=>H dx=some (.own a)∧fs.length≤1000∧dx≠a∧h.get? a=some (PySem.W.instObj C dx) ∧
   ∃ mA,h.Ns1 dx mA∧(∀ f,gq (fs.lookup f) (mA f))∧PySem.Within mA (fs.map (·.1))
 | .own _=>∃ o,h.get? a=some o
 | .xd fs=>∃ mA,h.Ns1 a mA∧∀ f,gq (fs.lookup f) (mA f)
 | .rng lo hi=>∃ t u v,h.get? a=some { cls:=.type "range",data:=.fields #[.int lo t,.int hi u,.int 1 v] }
 | .frz o u=>h.get? a=some o∧bQ H h a u
 | .tbl ps=>h.get? a=some { cls:=.none,data:=.fields ps }
 | .met f x=>h.get? a=some (PySem.W.methodObj (.ref f) (.ref x))
 | .ext φ=>φ h∧(∃ o,h.get? a=some o)∧∀ h1 h2:Heap,φ h1→(∀ o,h1.get? a=some o→h2.get? a=some o)→φ h2
def HOk (H:Hp) (h:Heap) : Prop:=∀ a o,H a=some o→bQ P w H h a o
end

section
variable {P:Program} {w:World} {H H':Hp} {h h':Heap} {a:Addr} {o:HO}
theorem bQ.lt (x:bQ P w H h a o) : a < h.objs.size:=by
 cases o with
 | lst xs=>obtain ⟨_,_,_,_,e⟩:=x; exact Heap.lt_size e
 | tup xs=>obtain ⟨_,_,_,p⟩:=x; exact p.lt
 | dK kvs=>obtain ⟨_,_,_,_,o,_,_,e,_⟩:=x; exact Heap.lt_size e
 | dT kvs=>obtain ⟨_,_,_,_,o,_,_,e,_⟩:=x; exact Heap.lt_size e
 | set S n=>obtain ⟨o,_,_,_,e,_⟩:=x; exact Heap.lt_size e
 | ins C dx fs=>obtain ⟨_,_,_,e,_⟩:=x; exact Heap.lt_size e
 | own y=>obtain ⟨_,e⟩:=x; exact Heap.lt_size e
 | xd fs=>obtain ⟨_,⟨_,_,_,e,_⟩,_⟩:=x; exact Heap.lt_size e
 | rng lo hi=>obtain ⟨_,_,_,e⟩:=x; exact Heap.lt_size e
 | frz ob u=>obtain ⟨e,_⟩:=x; exact Heap.lt_size e
 | tbl ps=>exact Heap.lt_size (show h.get? a=some _ from x)
 | met f y=>exact Heap.lt_size (show h.get? a=some _ from x)
 | ext φ=>obtain ⟨_,⟨_,e⟩,_⟩:=x; exact Heap.lt_size e
theorem Paired.mapP {α β:Type} {F G:α→β→Prop} : ∀ {l₁:List α} {l₂:List β},Paired F l₁ l₂→(∀ a b,F a b→G a b)→Paired G l₁ l₂
 | _,_,.nil,_=>.nil
 | _,_,.cons r t,f=>.cons (f _ _ r) (Paired.mapP t f)
theorem bQ.stay (x:bQ P w H h a o) (k:∀ b u,(b=a∨H b=some (.own a))→h.get? b=some u→h'.get? b=some u)
  (ho:∀ b,H b=some (.own a)→H' b=some (.own a)) (ht:∀ b xs,H b=some (.tup xs)→H' b=some (.tup xs)) : bQ P w H' h' a o:=by
 induction o with
 | lst xs=>obtain ⟨z,its,n,r,e⟩:=x; exact ⟨z,its,n,r,k _ _ (.inl rfl) e⟩
 | tup xs=>obtain ⟨z,its,r,ob,e,c⟩:=x; exact ⟨z,its,r,ob,k _ _ (.inl rfl) e,c⟩
 | dK kvs=>obtain ⟨z,y,vs,r,ob,es,ep,e,c⟩:=x; exact ⟨z,y,vs,r,ob,es,ep,k _ _ (.inl rfl) e,c⟩
 | dT kvs =>
  obtain ⟨z,y,xs,r,ob,es,ep,e,c⟩:=x
  exact ⟨z,y,xs,Paired.mapP r fun p q z=>⟨z.1,ht _ _ z.2.1,z.2.2⟩,ob,es,ep,k _ _ (.inl rfl) e,c⟩
 | set S n=>obtain ⟨ob,es,ep,t,e,c⟩:=x; exact ⟨ob,es,ep,t,k _ _ (.inl rfl) e,c⟩
 | ins C dx fs =>
  obtain ⟨d,z,ne,e,mA,⟨od,es,ep,e2,c⟩,r⟩:=x
  exact ⟨ho _ d,z,ne,k _ _ (.inl rfl) e,mA,⟨od,es,ep,k _ _ (.inr d) e2,c⟩,r⟩
 | own y=>obtain ⟨ob,e⟩:=x; exact ⟨ob,k _ _ (.inl rfl) e⟩
 | xd fs=>obtain ⟨mA,⟨od,es,ep,e,c⟩,r⟩:=x; exact ⟨mA,⟨od,es,ep,k _ _ (.inl rfl) e,c⟩,r⟩
 | rng lo hi=>obtain ⟨t,u,v,e⟩:=x; exact ⟨t,u,v,k _ _ (.inl rfl) e⟩
 | frz ob u ih=>obtain ⟨e,q⟩:=x; exact ⟨k _ _ (.inl rfl) e,ih q⟩
 | tbl ps =>
  have e:h.get? a=some { cls:=.none,data:=.fields ps }:=x
  show h'.get? a=some { cls:=.none,data:=.fields ps }
  exact k a _ (.inl rfl) e
 | met f y =>
  have e:h.get? a=some (PySem.W.methodObj (.ref f) (.ref y)):=x
  show h'.get? a=some (PySem.W.methodObj (.ref f) (.ref y))
  exact k a _ (.inl rfl) e
 | ext φ=>obtain ⟨p,⟨o,e⟩,st⟩:=x; exact ⟨st _ _ p fun o q=>k _ _ (.inl rfl) q,⟨o,k _ _ (.inl rfl) e⟩,st⟩
theorem HOk.lt (x:HOk P w H h) (e:H a=some o) : a < h.objs.size:=(x a o e).lt
theorem HOk.fresh (x:HOk P w H h) (e:h.objs.size≤a) : H a=none:=by
 cases q:H a with
 | none=>rfl
 | some u=>exact absurd (Nat.lt_of_lt_of_le (x.lt q) e) (Nat.lt_irrefl _)
theorem HOk.kept (x:HOk P w H h) (k:∀ b u,h.get? b=some u→h'.get? b=some u) : HOk P w H h':=fun a o e =>
 (x a o e).stay (fun b u _ q=>k b u q) (fun _ q=>q) fun _ _ q=>q
theorem HOk.laid (x:HOk P w H h) (k:∀ b u,h.get? b=some u→h'.get? b=some u) (hp:h.objs.size≤a) (new:bQ P w (upd H a o) h' a o) : HOk P w (upd H a o) h':=fun b u e=>by
 have hn:=x.fresh hp
 by_cases hb:b=a
 ·subst hb; rw [ae] at e; cases e; exact new
 ·rw [aj hb] at e
  exact (x b u e).stay (fun c v _ q=>k c v q) (fun c q=>by rw [aj (cx q hn)]; exact q) fun c xs q=>by rw [aj (cx q hn)]; exact q
end

def Rd (H:Hp) (a:Addr) (u:HO) : Prop:=H a=some u∨∃ o,H a=some (.frz o u)
theorem Rd.ok {P:Program} {w:World} {H:Hp} {h:Heap} {a:Addr} {u:HO} (r:Rd H a u) (x:HOk P w H h) : bQ P w H h a u:=by
 rcases r with r | ⟨o,r⟩
 ·exact x a u r
 ·obtain ⟨_,q⟩:=x a _ r
  exact q
def Mut:Option HO→Prop
 | some (.lst _)=>True
 | some (.dK _)=>True
 | some (.dT _)=>True
 | some (.set _ _)=>True
 | some (.ins _ _ _)=>True
 | some (.ext _)=>True
 | _=>False
section
variable {P:Program} {w:World} {H:Hp} {h h':Heap} {x e:Addr} {o':HO}
theorem HOk.write (ok:HOk P w H h) (mu:Mut (H x)) (he:e=x∨H e=some (.own x)) (k:∀ b u,b≠e→h.get? b=some u→h'.get? b=some u) (heo:∃ u,h'.get? e=some u)
  (new:bQ P w (upd H x o') h' x o') : HOk P w (upd H x o') h':=fun b u q=>by
 have nown:∀ c y,H c=some (.own y)→c≠x:=fun c y r z=>by subst z; rw [r] at mu; exact mu
 have ntup:∀ c xs,H c=some (.tup xs)→c≠x:=fun c xs r z=>by subst z; rw [r] at mu; exact mu
 by_cases hb:b=x
 ·subst hb; rw [ae] at q; cases q; exact new
 ·rw [aj hb] at q
  by_cases hbe:b=e
  ·have q':H b=some (.own x):=by
    rcases he with z | z
    ·exact absurd (hbe.trans z) hb
    ·rw [hbe]; exact z
   rw [q] at q'; cases q'
   obtain ⟨v,hv⟩:=heo
   exact ⟨v,by rw [hbe]; exact hv⟩
  ·refine (ok b u q).stay (fun c v hc r=>k c v ?_ r) (fun c r=>by rw [aj (nown c b r)]; exact r) fun c xs r=>by rw [aj (ntup c xs r)]; exact r
   rcases hc with rfl | hc
   ·exact hbe
   ·rintro rfl
    rcases he with z | z
    ·exact nown c b hc z
    ·rw [hc] at z; cases z; exact hb rfl
end

structure Un (fs ex:List Addr) (H H':Hp) (h h':Heap) : Prop where
 keep:∀ b o,h.get? b=some o→H b=none→b ∉ fs→b ∉ ex→h'.get? b=some o
 slot:∀ b o,h.get? b=some o→H b=none→b ∈ fs→b ∉ ex→∃ sl,h'.get? b=some { o with slots:=sl }
 free:∀ b o,h.get? b=some o→H b=none→b ∉ ex→H' b=none
 there:∀ b o,h.get? b=some o→b ∉ ex→∃ o',h'.get? b=some o'
 tups:∀ b xs,H b=some (.tup xs)→H' b=some (.tup xs)
 frzs:∀ b o u,H b=some (.frz o u)→H' b=some (.frz o u)
 tbls:∀ b ps,H b=some (.tbl ps)→∃ more,H' b=some (.tbl (ps++more))
section
variable {fs fs' ex ex':List Addr} {H H1 H2:Hp} {h h1 h2 h':Heap} {a x e:Addr} {o:HO}
theorem Un.any (u:Un fs ex H H1 h h1) {b:Addr} {ob:Obj} (q:h.get? b=some ob) (n:H b=none) (hx:b ∉ ex) : ∃ sl,h1.get? b=some { ob with slots:=sl }:=by
 by_cases hb:b ∈ fs
 ·exact u.slot b ob q n hb hx
 ·exact ⟨ob.slots,u.keep b ob q n hb hx⟩
theorem Un.trans (a:Un fs ex H H1 h h1) (b:Un fs ex H1 H2 h1 h2) : Un fs ex H H2 h h2 where
 keep:=fun c ob q n hc hx=>b.keep c ob (a.keep c ob q n hc hx) (a.free c ob q n hx) hc hx
 slot:=fun c ob q n hc hx=>by
  obtain ⟨sl,e1⟩:=a.slot c ob q n hc hx
  obtain ⟨sl',e2⟩:=b.slot c _ e1 (a.free c ob q n hx) hc hx
  exact ⟨sl',e2⟩
 free:=fun c ob q n hx=>by
  obtain ⟨o',e1⟩:=a.there c ob q hx
  exact b.free c o' e1 (a.free c ob q n hx) hx
 there:=fun c ob q hx=>by
  obtain ⟨o',e1⟩:=a.there c ob q hx
  exact b.there c o' e1 hx
 tups:=fun c xs q=>b.tups c xs (a.tups c xs q)
 frzs:=fun c ob xs q=>b.frzs c ob xs (a.frzs c ob xs q)
 tbls:=fun c ps q=>by
  obtain ⟨m1,e1⟩:=a.tbls c ps q
  obtain ⟨m2,e2⟩:=b.tbls c _ e1
  exact ⟨m1++m2,by rw [e2,Array.append_assoc]⟩
theorem Un.kept (k:∀ b u,h.get? b=some u→h'.get? b=some u) : Un fs ex H H h h':=
 ⟨fun b ob q _ _ _=>k b ob q,fun b ob q _ _ _=>⟨ob.slots,k b ob q⟩,fun _ _ _ n _=>n,fun b ob q _=>⟨ob,k b ob q⟩,fun _ _ q=>q,fun _ _ _ q=>q,fun _ ps q=>⟨#[],by rw [q]; simp⟩⟩
theorem Un.refl:Un fs ex H H h h:=Un.kept fun _ _ q=>q
theorem Un.laid (k:∀ b u,h.get? b=some u→h'.get? b=some u) (hp:h.objs.size≤a) (hn:H a=none) : Un fs ex H (upd H a o) h h' where
 keep:=fun b u q _ _ _=>k b u q
 slot:=fun b u q _ _ _=>⟨u.slots,k b u q⟩
 free:=fun b u q n _=>by rw [aj (Nat.ne_of_lt (Nat.lt_of_lt_of_le (Heap.lt_size q) hp))]; exact n
 there:=fun b u q _=>⟨u,k b u q⟩
 tups:=fun b xs q=>by rw [aj (cx q hn)]; exact q
 frzs:=fun b u xs q=>by rw [aj (cx q hn)]; exact q
 tbls:=fun b ps q=>⟨#[],by rw [aj (cx q hn),q]; simp⟩
theorem Un.write (mu:Mut (H x)) (he:e=x∨H e=some (.own x)) (k:∀ b u,b≠e→h.get? b=some u→h'.get? b=some u) (heo:∃ u,h'.get? e=some u) : Un fs ex H (upd H x o) h h':=by
 have hx:∀ b,H b=none→b≠x:=fun b n z=>by subst z; rw [n] at mu; exact mu
 have hb:∀ b,H b=none→b≠e:=fun b n z=>by
  subst z
  rcases he with r | r
  ·exact hx b n r
  ·rw [n] at r; cases r
 have hm:∀ b u,H b=some u→¬ Mut (some u)→b≠x:=fun b u q nm z=>by subst z; rw [q] at mu; exact nm mu
 refine ⟨fun b u q n _ _=>k b u (hb b n) q,fun b u q n _ _=>⟨u.slots,k b u (hb b n) q⟩,fun b u q n _=>by rw [aj (hx b n)]; exact n,fun b u q _=>?_,
  fun b xs q=>by rw [aj (hm b _ q fun z=>z)]; exact q,fun b u xs q=>by rw [aj (hm b _ q fun z=>z)]; exact q,fun b ps q=>⟨#[],by rw [aj (hm b _ q fun z=>z),q]; simp⟩⟩
 by_cases hbe:b=e
 ·subst hbe; exact heo
 ·exact ⟨u,k b u hbe q⟩
end

def trk (h:Heap) (H:Hp) : List Addr:=(List.range h.objs.size).filter fun a=>(H a).isSome
def mR (h:Heap) (H:Hp) : Heap:=PySem.W.hideAll h (trk h H)
theorem y7 (h:Heap) (H:Hp) : (mR h H).objs.size=h.objs.size:=PySem.W.hideAll_size _ _
theorem Ao {h:Heap} {H:Hp} {b:Addr} {o:Obj} (e:h.get? b=some o) (n:H b=none) : (mR h H).get? b=some o:=
 PySem.W.hideAll_get _ e fun hm=>by
  have q:(H b).isSome=true:=(List.mem_filter.mp hm).2
  rw [n] at q; simp at q
theorem BB {h:Heap} {H:Hp} {b:Addr} {o:Obj} (e:(mR h H).get? b=some o) : h.get? b=some o∧H b=none:=by
 have e':h.get? b=some o:=PySem.W.of_hideAll (trk h H) e
 refine ⟨e',?_⟩
 cases q:H b with
 | none=>rfl
 | some x =>
  have hm:b ∈ trk h H:=List.mem_filter.mpr ⟨List.mem_range.mpr (Heap.lt_size e'),by simp [q]⟩
  have z:(mR h H).get? b=none:=PySem.W.hideAll_none (trk h H) hm
  rw [z] at e; cases e


structure Mod (K:PySem.W.Frag) (mg:Str→Option Value) (base:Heap) : Prop where
 kin:K.In base
 glob:base.Ns mainGlobals mg
 blt:∃ mb,base.Ns builtinsNs mb∧∀ x:Str,x≠"__name__"→mb x=bootBuiltins x
 nolimit:base.NoLimit

structure Cx where
 prog:Program
 w:World
 K:PySem.W.Frag
 mg:Str→Option Value
 base:Heap
 A:Around
 N:List Str
 s₀:Shared
 H₀:Hp
 env:Env
 outer:List Env
 stack:List Env
 ex:List Addr
 fn:Str→Bool
 calm:Bool
 pn:List (Addr × Obj)
 xe:Value→Shared→Prop
def frs (l:List Env) : List Addr:=l.filterMap (·.frame)
abbrev Cx.fs (X:Cx) : List Addr:=frs X.outer

def Vis (sc:Scope) (x:Str) : Prop:=sc.names.lookup x=some .local∨sc.names.lookup x=some .cell∨sc.names.lookup x=some .free
def Loc (sc:Scope) (x:Str) : Prop:=sc.names.lookup x=some .local∨sc.names.lookup x=some .cell
def El (env:Env) (h:Heap) (m:Str→Option Value) (x:Str) (u:Value) : Prop:=
 (env.kindOf x=some .local∧m x=some u)∨((env.kindOf x=some .cell∨env.kindOf x=some .free)∧∃ c,env.cells.lookup x=some c∧h.IsCell c (some u))

structure Cx.Ok (X:Cx) : Prop where
 mod:Mod X.K X.mg X.base
 kind:X.env.scope.kind = .function
 glob:X.env.globals=mainGlobals
 blt:X.env.builtins=builtinsNs
 above:X.s₀.heap.objs.size≤X.env.locals
 inj:∀ x y c,X.env.cells.lookup x=some c→X.env.cells.lookup y=some c→x=y
 has:∀ x,(X.env.kindOf x=some .cell∨X.env.kindOf x=some .free)→∃ c,X.env.cells.lookup x=some c
 cab:∀ x c,X.fn x=true→X.env.cells.lookup x=some c→X.s₀.heap.objs.size≤c
 hd:X.calm=true→X.A.handled=none
 frames:X.A.frames=some X.stack
 stk:X.stack=X.outer∨(X.stack=X.env :: X.outer∧X.env.frame=some X.env.locals)
 exf:∀ b ∈ X.ex,b≠X.env.locals∧∀ x c,X.env.cells.lookup x=some c→c≠b
 bs:∀ b o,X.base.get? b=some o→X.s₀.heap.get? b=some o∧X.H₀ b=none
 bsz:X.base.objs.size≤X.s₀.heap.objs.size
 noex:∀ b o,X.base.get? b=some o→b ∉ X.ex
 exfs:∀ b ∈ X.ex,b ∉ X.fs
 funs:X.s₀.heap.FunFrames X.base X.outer
 frf:∀ b ∈ X.fs,X.H₀ b=none

structure Inv (X:Cx) (pins:List (Addr × Obj)) (σ:List (Option V)) (H:Hp) (s:Shared) : Prop where
 ok:X.Ok
 os:s.os=X.s₀.os
 bare:AllBare s.gens
 base:Un X.fs X.ex X.H₀ H X.s₀.heap s.heap
 loc:∃ m,s.heap.Ns X.env.locals m∧∀ (i:Nat) (x:Str) (v:V),X.N[i]? = some x→σ[i]? = some (some v)→Vis X.env.scope x→∃ u,aZ v u∧El X.env s.heap m x u
 cell:∀ x c,X.env.cells.lookup x=some c→∃ v,s.heap.IsCell c v
 free:H X.env.locals=none
 freeC:∀ x c,X.env.cells.lookup x=some c→H c=none
 pin:∀ p ∈ X.pn++pins,s.heap.get? p.1=some p.2∧H p.1=none∧p.1≠X.env.locals∧p.1 ∉ X.fs∧∀ v,p.2.data≠.cell v
 hok:HOk X.prog X.w H s.heap
 len:σ.length=X.N.length

section
variable {X:Cx} {pins:List (Addr × Obj)} {σ:List (Option V)} {H H':Hp} {s:Shared} {h':Heap}

theorem Cx.Ok.nofr (ok:X.Ok) {b:Addr} {o:Obj} (e:X.base.get? b=some o) : b ∉ X.fs:=fun hb=>by
 have:=(ok.funs.mem hb).1
 rw [e] at this; cases this
theorem Inv.bs (I:Inv X pins σ H s) : ∀ b o,X.base.get? b=some o→s.heap.get? b=some o∧H b=none:=fun b o e =>
 ⟨I.base.keep b o (I.ok.bs b o e).1 (I.ok.bs b o e).2 (I.ok.nofr e) (I.ok.noex b o e),I.base.free b o (I.ok.bs b o e).1 (I.ok.bs b o e).2 (I.ok.noex b o e)⟩
theorem Inv.bk (I:Inv X pins σ H s) : ∀ b o,X.base.get? b=some o→s.heap.get? b=some o:=fun b o e=>(I.bs b o e).1
theorem Inv.mod (I:Inv X pins σ H s) : Mod X.K X.mg X.base:=I.ok.mod
theorem Inv.kIn (I:Inv X pins σ H s) : X.K.In s.heap:=I.ok.mod.kin.keeps I.bk
theorem Inv.lt (I:Inv X pins σ H s) : X.env.locals < s.heap.objs.size:=let ⟨_,hn,_⟩:=I.loc; hn.lt
theorem Inv.sz (I:Inv X pins σ H s) : X.s₀.heap.objs.size≤s.heap.objs.size:=Nat.le_trans I.ok.above (Nat.le_of_lt I.lt)
theorem Inv.nofs (I:Inv X pins σ H s) {a:Addr} (h:s.heap.objs.size≤a) : a ∉ X.fs:=fun hb=>by
 obtain ⟨_,o,ho,_⟩:=I.ok.funs.mem hb
 exact absurd (Nat.lt_of_lt_of_le (Heap.lt_size ho) (Nat.le_trans I.sz h)) (Nat.lt_irrefl _)
theorem Inv.cne (I:Inv X pins σ H s) : ∀ x c,X.env.cells.lookup x=some c→c≠X.env.locals:=fun x c e z=>by
 obtain ⟨v,o,ho,hd⟩:=I.cell x c e
 obtain ⟨m,⟨o',es,ep,ho',hd',_⟩,_⟩:=I.loc
 rw [z,ho'] at ho; cases ho; rw [hd'] at hd; cases hd
theorem Inv.funs (I:Inv X pins σ H s) : s.heap.FunFrames X.base X.outer:=by
 have all:∀ (l:List Env),(∀ b ∈ frs l,b ∈ X.fs)→X.s₀.heap.FunFrames X.base l→s.heap.FunFrames X.base l:=by
  intro l
  induction l with
  | nil=>intro _ _; trivial
  | cons env r ih =>
   intro hs hl
   obtain ⟨hk,⟨L,o,hf,hn,ho,hd⟩,hr⟩:=hl
   have hL:L ∈ X.fs:=hs L (by unfold frs; rw [List.filterMap_cons,hf]; exact List.mem_cons_self)
   obtain ⟨sl,e⟩:=I.base.slot L o ho (I.ok.frf L hL) hL fun z=>I.ok.exfs L z hL
   exact ⟨hk,⟨L,_,hf,hn,e,hd⟩,ih (fun b hb=>hs b (by unfold frs; rw [List.filterMap_cons,hf]; exact List.mem_cons_of_mem _ hb)) hr⟩
 exact all X.outer (fun _ hb=>hb) I.ok.funs

theorem Inv.stack (I:Inv X pins σ H s) : s.heap.FunFrames X.base X.stack:=by
 rcases I.ok.stk with e | ⟨e,hf⟩
 ·rw [e]; exact I.funs
 ·rw [e]
  obtain ⟨m,hn,_⟩:=I.loc
  refine .cons (by rw [I.ok.kind]; decide) hf hn ?_ I.funs
  exact Heap.get?_none_of_le (Nat.le_trans I.ok.bsz I.ok.above)
theorem Inv.stkSub (I:Inv X pins σ H s) : ∀ b ∈ frs X.stack,b ∈ X.env.locals :: X.fs:=fun b hb=>by
 rcases I.ok.stk with e | ⟨e,hf⟩
 ·rw [e] at hb; exact List.mem_cons_of_mem _ hb
 ·rw [e] at hb
  unfold frs at hb
  rw [List.filterMap_cons,hf] at hb
  exact hb
theorem Inv.stkFree (I:Inv X pins σ H s) : ∀ b ∈ frs X.stack,H b=none:=fun b hb=>by
 rcases List.mem_cons.mp (I.stkSub b hb) with e | hb
 ·rw [e]; exact I.free
 ·obtain ⟨_,o,ho,_⟩:=I.ok.funs.mem hb
  exact I.base.free b o ho (I.ok.frf b hb) fun z=>I.ok.exfs b z hb

theorem Inv.step {g':Array GenState} {t':Nat} {d':Drawn} {ch:List Addr} (I:Inv X pins σ H s)
  (hch:∀ b ∈ ch,(b ∈ X.ex∨X.s₀.heap.objs.size≤b)∧b≠X.env.locals∧(∀ x c,X.env.cells.lookup x=some c→c≠b)∧∀ p ∈ X.pn++pins,p.1≠b)
  (keep:∀ b o,b≠X.env.locals→b ∉ X.fs→b ∉ ch→s.heap.get? b=some o→H b=none→h'.get? b=some o)
  (slot:∀ b o,b≠X.env.locals→b ∈ X.fs→b ∉ ch→s.heap.get? b=some o→H b=none→∃ sl,h'.get? b=some { o with slots:=sl }) (free:∀ b o,b ∉ ch→s.heap.get? b=some o→H b=none→H' b=none)
  (there:∀ b o,b ∉ ch→s.heap.get? b=some o→∃ o',h'.get? b=some o')
  (tups:∀ b xs,H b=some (.tup xs)→H' b=some (.tup xs)) (frzs:∀ b o u,H b=some (.frz o u)→H' b=some (.frz o u)) (tbls:∀ b ps,H b=some (.tbl ps)→∃ more,H' b=some (.tbl (ps++more)))
  (ns:∀ m,s.heap.Ns X.env.locals m→h'.Ns X.env.locals m) (hok:HOk X.prog X.w H' h') (hg:AllBare g') :
  Inv X pins σ H' { s with heap:=h',gens:=g',drawn:=d',toks:=t' }:=by
 have neL:∀ b o,X.s₀.heap.get? b=some o→b≠X.env.locals:=fun b o e=>Nat.ne_of_lt (Nat.lt_of_lt_of_le (Heap.lt_size e) I.ok.above)
 have neC:∀ b o,X.s₀.heap.get? b=some o→b ∉ X.ex→b ∉ ch:=fun b o e hx hb=>by
  rcases (hch b hb).1 with z | z
  ·exact hx z
  ·exact absurd (Nat.lt_of_lt_of_le (Heap.lt_size e) z) (Nat.lt_irrefl _)
 have cellK:∀ x c,X.env.cells.lookup x=some c→∀ v,s.heap.IsCell c v→h'.IsCell c v:=fun x c e v ⟨o,ho,hd⟩=>by
  have nch:c ∉ ch:=fun z=>(hch c z).2.2.1 x c e rfl
  by_cases hc:c ∈ X.fs
  ·obtain ⟨sl,q⟩:=slot c o (I.cne x c e) hc nch ho (I.freeC x c e)
   exact ⟨_,q,hd⟩
  ·exact ⟨o,keep c o (I.cne x c e) hc nch ho (I.freeC x c e),hd⟩
 refine ⟨I.ok,I.os,hg,⟨fun b o e n hb hx=>?_,fun b o e n hb hx=>?_,fun b o e n hx=>?_,fun b o e hx=>?_,fun b xs e=>tups b xs (I.base.tups b xs e),fun b o xs e=>frzs b o xs (I.base.frzs b o xs e),fun b ps e=>?_⟩,?_,fun x c e=>?_,?_,fun x c e=>?_,fun p hp=>?_,hok,I.len⟩
 ·exact keep b o (neL b o e) hb (neC b o e hx) (I.base.keep b o e n hb hx) (I.base.free b o e n hx)
 ·obtain ⟨sl,e1⟩:=I.base.slot b o e n hb hx
  obtain ⟨sl',e2⟩:=slot b _ (neL b o e) hb (neC b o e hx) e1 (I.base.free b o e n hx)
  exact ⟨sl',e2⟩
 ·obtain ⟨o',e1⟩:=I.base.there b o e hx
  exact free b o' (neC b o e hx) e1 (I.base.free b o e n hx)
 ·obtain ⟨o',e1⟩:=I.base.there b o e hx
  exact there b o' (neC b o e hx) e1
 ·obtain ⟨m1,e1⟩:=I.base.tbls b ps e
  obtain ⟨m2,e2⟩:=tbls b _ e1
  exact ⟨m1++m2,by rw [e2,Array.append_assoc]⟩
 ·obtain ⟨m,hn,hl⟩:=I.loc
  refine ⟨m,ns m hn,fun i x v e1 e2 e3=>?_⟩
  obtain ⟨u,r,l⟩:=hl i x v e1 e2 e3
  refine ⟨u,r,?_⟩
  rcases l with l | ⟨k,c,e,z⟩
  ·exact .inl l
  ·exact .inr ⟨k,c,e,cellK x c e _ z⟩
 ·obtain ⟨v,z⟩:=I.cell x c e
  exact ⟨v,cellK x c e v z⟩
 ·obtain ⟨m,⟨o,_,_,ho,_⟩,_⟩:=I.loc
  exact free _ o (fun z=>(hch _ z).2.1 rfl) ho I.free
 ·obtain ⟨v,o,ho,hd⟩:=I.cell x c e
  exact free c o (fun z=>(hch c z).2.2.1 x c e rfl) ho (I.freeC x c e)
 ·obtain ⟨e,n,ne,nf,d⟩:=I.pin p hp
  have nch:p.1 ∉ ch:=fun z=>(hch p.1 z).2.2.2 p hp rfl
  exact ⟨keep p.1 p.2 ne nf nch e n,free p.1 p.2 nch e n,ne,nf,d⟩
theorem Inv.un {t':Nat} (I:Inv X pins σ H s) (u:Un X.fs [] H H' s.heap h') (hok:HOk X.prog X.w H' h') : Inv X pins σ H' { s with heap:=h',toks:=t' }:=by
 obtain ⟨m,⟨o,es,ep,ho,r⟩,_⟩:=id I.loc
 obtain ⟨sl,hL⟩:=u.any ho I.free (by simp)
 exact I.step (g':=s.gens) (d':=s.drawn) (ch:=[]) (fun _ z=>nomatch z) (fun b o _ hb _ e n=>u.keep b o e n hb (by simp)) (fun b o _ hb _ e n=>u.slot b o e n hb (by simp)) (fun b o _ e n=>u.free b o e n (by simp)) (fun b o _ e=>u.there b o e (by simp)) u.tups u.frzs u.tbls (fun m' hm=>by
  obtain ⟨o',es',ep',ho',r'⟩:=hm
  rw [ho] at ho'; cases ho'
  exact ⟨_,es',ep',hL,r'⟩) hok I.bare
theorem Inv.call {g':Array GenState} {t':Nat} {d':Drawn} {ch:List Addr} (I:Inv X pins σ H s) (u:Un (frs X.stack) ch H H' s.heap h') (hok:HOk X.prog X.w H' h') (hg:AllBare g')
  (hch:∀ b ∈ ch,(b ∈ X.ex∨X.s₀.heap.objs.size≤b)∧b≠X.env.locals∧(∀ x c,X.env.cells.lookup x=some c→c≠b)∧∀ p ∈ X.pn++pins,p.1≠b) :
  Inv X pins σ H' { s with heap:=h',gens:=g',drawn:=d',toks:=t' }:=by
 obtain ⟨m,⟨o,es,ep,ho,r⟩,_⟩:=id I.loc
 obtain ⟨sl,hL⟩:=u.any ho I.free fun z=>(hch _ z).2.1 rfl
 exact I.step (ch:=ch) hch (fun b o hL hb hc e n=>u.keep b o e n (fun z=>(List.mem_cons.mp (I.stkSub b z)).elim hL hb) hc) (fun b o _ _ hc e n=>u.any e n hc) (fun b o hc e n=>u.free b o e n hc) (fun b o hc e=>u.there b o e hc) u.tups u.frzs u.tbls (fun m' hm=>by
  obtain ⟨o',es',ep',ho',r'⟩:=hm
  rw [ho] at ho'; cases ho'
  exact ⟨_,es',ep',hL,r'⟩) hok hg
theorem Inv.turned {t':Nat} {it:Addr} (I:Inv X pins σ H s) (k:∀ b o,b≠it→s.heap.get? b=some o→h'.get? b=some o) (hn:H it=none) (hL:it≠X.env.locals)
  (h1:it ∈ X.ex∨X.s₀.heap.objs.size≤it) (h2:∀ x c,X.env.cells.lookup x=some c→c≠it) (h3:∀ p ∈ X.pn++pins,p.1≠it) : Inv X pins σ H { s with heap:=h',toks:=t' }:=by
 have nit:∀ b u,H b=some u→b≠it:=fun b u e z=>by rw [z,hn] at e; cases e
 refine I.step (g':=s.gens) (d':=s.drawn) (ch:=[it]) (fun b hb=>?_) (fun b o _ _ hc e _=>k b o (fun z=>hc (by simp [z])) e) (fun b o _ _ hc e _=>⟨o.slots,k b o (fun z=>hc (by simp [z])) e⟩) (fun _ _ _ _ n=>n)
  (fun b o hc e=>⟨o,k b o (fun z=>hc (by simp [z])) e⟩) (fun _ _ e=>e) (fun _ _ _ e=>e) (fun b ps e=>⟨#[],by rw [e]; simp⟩) (fun m hm=>?_) (fun b u e=>?_) I.bare
 ·have e:b=it:=by simpa using hb
  subst e
  exact ⟨h1,hL,h2,h3⟩
 ·obtain ⟨o,es,ep,ho,r⟩:=hm
  exact ⟨o,es,ep,k _ o (Ne.symm hL) ho,r⟩
 ·refine (I.hok b u e).stay (fun c v hc q=>k c v ?_ q) (fun _ q=>q) fun _ _ q=>q
  rcases hc with z | z
  ·rw [z]; exact nit b u e
  ·exact nit c _ z
theorem Inv.tok (I:Inv X pins σ H s) (t:Nat) : Inv X pins σ H { s with toks:=t }:=I.un (h':=s.heap) (t':=t) Un.refl I.hok
theorem Inv.kept {t':Nat} (I:Inv X pins σ H s) (k:∀ b u,s.heap.get? b=some u→h'.get? b=some u) : Inv X pins σ H { s with heap:=h',toks:=t' }:=I.un (Un.kept k) (I.hok.kept k)
theorem Inv.laid {a:Addr} {o:HO} {t':Nat} (I:Inv X pins σ H s) (k:∀ b u,s.heap.get? b=some u→h'.get? b=some u) (hp:s.heap.objs.size≤a) (new:bQ X.prog X.w (upd H a o) h' a o) :
  Inv X pins σ (upd H a o) { s with heap:=h',toks:=t' }:=I.un (Un.laid k hp (I.hok.fresh hp)) (I.hok.laid k hp new)
theorem Inv.write {x e:Addr} {o:HO} {t':Nat} (I:Inv X pins σ H s) (mu:Mut (H x)) (he:e=x∨H e=some (.own x)) (k:∀ b u,b≠e→s.heap.get? b=some u→h'.get? b=some u) (heo:∃ u,h'.get? e=some u)
  (new:bQ X.prog X.w (upd H x o) h' x o) : Inv X pins σ (upd H x o) { s with heap:=h',toks:=t' }:=I.un (Un.write mu he k heo) (I.hok.write mu he k heo new)
theorem Inv.pins_of {pins':List (Addr × Obj)} (I:Inv X pins σ H s) (h:∀ p ∈ pins',s.heap.get? p.1=some p.2∧H p.1=none∧p.1≠X.env.locals∧p.1 ∉ X.fs∧∀ v,p.2.data≠.cell v) : Inv X pins' σ H s:=
 ⟨I.ok,I.os,I.bare,I.base,I.loc,I.cell,I.free,I.freeC,fun p hp=>(List.mem_append.mp hp).elim (fun z=>I.pin p (List.mem_append_left _ z)) (h p),I.hok,I.len⟩

theorem vD {N:List Str} (hN:N.Nodup) {i j:Nat} {x:Str} (a:N[i]? = some x) (b:N[j]? = some x) : i=j:=by
 obtain ⟨h1,e1⟩:=List.getElem?_eq_some_iff.mp a
 obtain ⟨h2,e2⟩:=List.getElem?_eq_some_iff.mp b
 exact (List.getElem_inj hN).mp (e1.trans e2.symm)

theorem ua {M:Model} {A:Around} {E:Value→Shared→Prop} {i:Nat} {x:Str} {v:V} {u:Value} {Q:Unit→Shared→Prop} (I:Inv X pins σ H s) (hN:X.N.Nodup) (hi:X.N[i]? = some x) (hx:Loc X.env.scope x) (r:aZ v u)
  (h:∀ s',Inv X pins (σ.set i (some v)) H s'→(∃ a,Heap.SameBut a s.heap s'.heap∧(a=X.env.locals∨X.env.cells.lookup x=some a))→Q () s') (hf:X.fn x=true∨X.env.scope.names.lookup x=some .local:=by first | exact .inl rfl | exact .inr rfl | assumption) : wpAny M A (storeName X.env x u) Q E s:=by
 obtain ⟨m,hn,hl⟩:=id I.loc
 have hcls:(X.env.scope.kind == .class || (X.env.scope.kind == .module && X.env.locals != X.env.globals))=false:=by rw [I.ok.kind]; rfl
 have hiσ:i < σ.length:=by rw [I.len]; exact (List.getElem?_eq_some_iff.mp hi).1
 have cne:=I.cne
 have tracked:∀ {a:Addr} {h':Heap},(∃ o,s.heap.get? a=some o∧H a=none)→Heap.SameBut a s.heap h'→HOk X.prog X.w H h':=fun {a h'} ha hs b ob e=>by
  obtain ⟨_,_,hfree⟩:=ha
  refine (I.hok b ob e).stay (fun c w' hc q=>(hs.2 c ?_).trans q) (fun _ q=>q) fun _ _ q=>q
  rintro rfl
  rcases hc with rfl | hc
  ·rw [hfree] at e; cases e
  ·rw [hfree] at hc; cases hc
 rcases hx with hk | hk
 ·refine wpAny_storeName_local hk hn (fun h' hn' hs=>?_) hcls
  obtain ⟨oL,_,_,hoL,_⟩:=id hn
  refine h _ ⟨I.ok,I.os,I.bare,⟨fun b o e n hb hx=>?_,fun b o e n hb hx=>?_,I.base.free,fun b o e hx=>?_,I.base.tups,I.base.frzs,I.base.tbls⟩,⟨_,hn',fun j y v' e1 e2 e3=>?_⟩,fun y c e=>?_,I.free,I.freeC,fun p hp=>?_,tracked ⟨oL,hoL,I.free⟩ hs,by simpa using I.len⟩ ⟨_,hs,.inl rfl⟩
  ·exact (hs.2 b (Nat.ne_of_lt (Nat.lt_of_lt_of_le (Heap.lt_size e) I.ok.above))).trans (I.base.keep b o e n hb hx)
  ·obtain ⟨sl,e1⟩:=I.base.slot b o e n hb hx
   exact ⟨sl,(hs.2 b (Nat.ne_of_lt (Nat.lt_of_lt_of_le (Heap.lt_size e) I.ok.above))).trans e1⟩
  ·obtain ⟨o',e1⟩:=I.base.there b o e hx
   exact ⟨o',(hs.2 b (Nat.ne_of_lt (Nat.lt_of_lt_of_le (Heap.lt_size e) I.ok.above))).trans e1⟩
  ·by_cases hj:j=i
   ·subst hj
    rw [hi] at e1; cases e1
    rw [List.getElem?_set_self hiσ] at e2
    cases e2
    exact ⟨u,r,.inl ⟨hk,by simp⟩⟩
   ·rw [List.getElem?_set_ne (Ne.symm hj)] at e2
    obtain ⟨u',r',q⟩:=hl j y v' e1 e2 e3
    refine ⟨u',r',?_⟩
    rcases q with ⟨k,e⟩ | ⟨k,c,e,z⟩
    ·refine .inl ⟨k,?_⟩
     have:y≠x:=fun e=>hj (vD hN e1 (e ▸ hi))
     simp [this,e]
    ·exact .inr ⟨k,c,e,z.sameBut hs (cne y c e)⟩
  ·obtain ⟨w',z⟩:=I.cell y c e
   exact ⟨w',z.sameBut hs (cne y c e)⟩
  ·obtain ⟨e,n,ne,nf,d⟩:=I.pin p hp
   exact ⟨(hs.2 p.1 ne).trans e,n,ne,nf,d⟩
 ·have hfn:X.fn x=true:=by
   rcases hf with z | z
   ·exact z
   ·rw [z] at hk; cases hk
  obtain ⟨c,hc⟩:=I.ok.has x (.inl hk)
  obtain ⟨w',z⟩:=I.cell x c hc
  refine wpAny_storeName_cell I.ok.kind hk hc z (fun h' hc' hs=>?_)
  obtain ⟨oc,hoc,hocd⟩:=id z
  refine h { s with heap:=h' } ⟨I.ok,I.os,I.bare,⟨fun b o e n hb hx=>?_,fun b o e n hb hx=>?_,I.base.free,fun b o e hx=>?_,I.base.tups,I.base.frzs,I.base.tbls⟩,⟨m,hn.sameBut hs (Ne.symm (cne x c hc)),fun j y v' e1 e2 e3=>?_⟩,fun y c' e=>?_,I.free,I.freeC,fun p hp=>?_,tracked ⟨oc,hoc,I.freeC x c hc⟩ hs,by simpa using I.len⟩ ⟨c,hs,.inr hc⟩
  ·exact (hs.2 b (Nat.ne_of_lt (Nat.lt_of_lt_of_le (Heap.lt_size e) (I.ok.cab x c hfn hc)))).trans (I.base.keep b o e n hb hx)
  ·obtain ⟨sl,e1⟩:=I.base.slot b o e n hb hx
   exact ⟨sl,(hs.2 b (Nat.ne_of_lt (Nat.lt_of_lt_of_le (Heap.lt_size e) (I.ok.cab x c hfn hc)))).trans e1⟩
  ·obtain ⟨o',e1⟩:=I.base.there b o e hx
   exact ⟨o',(hs.2 b (Nat.ne_of_lt (Nat.lt_of_lt_of_le (Heap.lt_size e) (I.ok.cab x c hfn hc)))).trans e1⟩
  ·by_cases hj:j=i
   ·subst hj
    rw [hi] at e1; cases e1
    rw [List.getElem?_set_self hiσ] at e2
    cases e2
    exact ⟨u,r,.inr ⟨.inl hk,c,hc,hc'⟩⟩
   ·rw [List.getElem?_set_ne (Ne.symm hj)] at e2
    obtain ⟨u',r',q⟩:=hl j y v' e1 e2 e3
    refine ⟨u',r',?_⟩
    rcases q with q | ⟨k,c',e,z'⟩
    ·exact .inl q
    ·refine .inr ⟨k,c',e,z'.sameBut hs ?_⟩
     rintro rfl
     exact hj (vD hN e1 (I.ok.inj _ _ _ e hc ▸ hi))
  ·by_cases hcc:c' = c
   ·subst hcc; exact ⟨_,hc'⟩
   ·obtain ⟨w2,z2⟩:=I.cell y c' e
    exact ⟨w2,z2.sameBut hs hcc⟩
  ·obtain ⟨e,n,ne,nf,d⟩:=I.pin p hp
   refine ⟨(hs.2 p.1 ?_).trans e,n,ne,nf,d⟩
   intro q
   rw [q,hoc] at e
   have q':oc=p.2:=Option.some.inj e
   exact d w' (by rw [← q']; exact hocd)
theorem qU {M:Model} {A:Around} {E:Value→Shared→Prop} {i:Nat} {x:Str} {v:V} {u:Value} {Q:Unit→Shared→Prop} (I:Inv X pins σ H s) (hN:X.N.Nodup) (hi:X.N[i]? = some x) (hx:Loc X.env.scope x) (r:aZ v u)
  (h:∀ s',Inv X pins (σ.set i (some v)) H s'→Q () s') (hf:X.fn x=true∨X.env.scope.names.lookup x=some .local:=by first | exact .inl rfl | exact .inr rfl | assumption) : wpAny M A (storeName X.env x u) Q E s:=
 ua I hN hi hx r (fun s' I' _=>h s' I') hf
theorem Inv.call' {s':Shared} {ch:List Addr} (I:Inv X pins σ H s) (ho:s'.os=s.os) (u:Un (frs X.stack) ch H H' s.heap s'.heap) (hok:HOk X.prog X.w H' s'.heap) (hg:AllBare s'.gens)
  (hch:∀ b ∈ ch,(b ∈ X.ex∨X.s₀.heap.objs.size≤b)∧b≠X.env.locals∧(∀ x c,X.env.cells.lookup x=some c→c≠b)∧∀ p ∈ X.pn++pins,p.1≠b) : Inv X pins σ H' s':=by
 obtain ⟨h',g',d',t',o'⟩:=s'
 have e:o' = s.os:=ho
 subst e
 exact I.call (g':=g') (t':=t') (d':=d') u hok hg hch
end

abbrev XK:=Value→Option Addr→Hp→Prop
abbrev St:=List (Option V)
abbrev VK:=V→Hp→Prop
abbrev TE:=St→Hp→VK→Prop
abbrev TT:=St→Hp→(Bool→Hp→Prop)→Prop
abbrev TA:=St→Hp→(List V→Hp→Prop)→Prop
structure e_ where
 nx:St→Hp→Prop
 rt:VK
 bk:St→Hp→Prop:=fun _ _=>False
 ct:St→Hp→Prop:=fun _ _=>False
abbrev TS:=e_→St→Hp→Prop

def EP (X:Cx) (pins:List (Addr × Obj)) (σ:St) (Q:VK) (u:Value) (s':Shared) : Prop:=∃ v H',Inv X pins σ H' s'∧aZ v u∧Q v H'
def TP (X:Cx) (pins:List (Addr × Obj)) (σ:St) (Q:Bool→Hp→Prop) (b:Bool) (s':Shared) : Prop:=∃ H',Inv X pins σ H' s'∧Q b H'
def AP (X:Cx) (pins:List (Addr × Obj)) (σ:St) (Q:List V→Hp→Prop) (us:List Value) (s':Shared) : Prop:=∃ vs H',Inv X pins σ H' s'∧aU vs us∧Q vs H'
def SP (X:Cx) (pins:List (Addr × Obj)) (D:e_) (f:Flow) (s':Shared) : Prop:=
 match f with
 | .next=>∃ σ' H',Inv X pins σ' H' s'∧D.nx σ' H'
 | .brk=>∃ σ' H',Inv X pins σ' H' s'∧D.bk σ' H'
 | .cont=>∃ σ' H',Inv X pins σ' H' s'∧D.ct σ' H'
 | .ret u=>∃ v σ' H',Inv X pins σ' H' s'∧aZ v u∧D.rt v H'

def PE (X:Cx) (e:Expr) (t:TE) : Prop:=
 ∀ (pins:List (Addr × Obj)) (s:Shared) (σ:St) (H:Hp) (Q:VK),Inv X pins σ H s→t σ H Q→wpAny (model X.prog X.w) X.A (eval e X.env) (EP X pins σ Q) X.xe s
def PT (X:Cx) (e:Expr) (t:TT) : Prop:=
 ∀ (pins:List (Addr × Obj)) (s:Shared) (σ:St) (H:Hp) (Q:Bool→Hp→Prop),Inv X pins σ H s→t σ H Q→wpAny (model X.prog X.w) X.A (isTrue e X.env (eval e X.env)) (TP X pins σ Q) X.xe s
def PW (X:Cx) (e:Expr) (t:TT) : Prop:=
 ∀ (whole:Sem Value) (pins:List (Addr × Obj)) (s:Shared) (σ:St) (H:Hp) (Q:Bool→Hp→Prop),Inv X pins σ H s→t σ H Q→wpAny (model X.prog X.w) X.A (isTrue e X.env whole) (TP X pins σ Q) X.xe s
theorem PW.pt {X:Cx} {e:Expr} {t:TT} (h:PW X e t) : PT X e t:=h _
def PA (X:Cx) (es:List Expr) (t:TA) : Prop:=
 ∀ (pos:Pos) (pins:List (Addr × Obj)) (s:Shared) (σ:St) (H:Hp) (Q:List V→Hp→Prop),Inv X pins σ H s→t σ H Q→wpAny (model X.prog X.w) X.A (spliced (backTo pos (starEach es X.env))) (AP X pins σ Q) X.xe s
def PS (X:Cx) (st:Stmt) (t:TS) : Prop:=
 ∀ (pins:List (Addr × Obj)) (s:Shared) (σ:St) (H:Hp) (D:e_),Inv X pins σ H s→t D σ H→wpAny (model X.prog X.w) X.A (exec st X.env) (SP X pins D) X.xe s
def PSs (X:Cx) (st:List Stmt) (t:TS) : Prop:=
 ∀ (pins:List (Addr × Obj)) (s:Shared) (σ:St) (H:Hp) (D:e_),Inv X pins σ H s→t D σ H→wpAny (model X.prog X.w) X.A (execs st X.env) (SP X pins D) X.xe s
theorem thn {α:Type} {t:Sem α} {Q Q':α→Shared→Prop} {M:Model} {A:Around} {E:Value→Shared→Prop} {s:Shared} (h:wpAny M A t Q E s) (hQ:∀ a s,Q a s→Q' a s) : wpAny M A t Q' E s:=wpAny_mono h hQ fun _ _ x=>x
section
variable {X:Cx}

def Ap (i:Nat) : TE:=fun σ H Q=>∃ v,σ[i]? = some (some v)∧Q v H
def tC (v:V) : TE:=fun _ H Q=>Q v H
theorem Cs {i:Nat} {x:Str} {pos:Pos} (hN:X.N[i]? = some x) (hv:Vis X.env.scope x) (hd:(x == ("__debug__" : Str))=false:=by decide) (hcd:(x == ("__classdict__" : Str))=false:=by decide) : PE X (.Name x pos) (Ap i):=by
 intro pins s σ H Q I h
 obtain ⟨v,e,h⟩:=h
 obtain ⟨m,hn,hl⟩:=I.loc
 obtain ⟨u,r,l⟩:=hl i x v hN e hv
 have fin:EP X pins σ Q u s:=⟨v,H,I,r,h⟩
 rcases l with ⟨hk,hm⟩ | ⟨hk,c,hc,hcell⟩
 ·exact wpAny_Name (wpAny_loadName_local I.ok.kind hk hn hm fin) hd
 ·rcases hk with hk | hk
  ·exact wpAny_Name (wpAny_loadName_cell I.ok.kind hk hc hcell fin) hd
  ·exact wpAny_Name (wpAny_loadName_free I.ok.kind hk hc hcell fin hcd) hd
theorem ai {i j pos} : PE X (.Constant (.int i) j pos) (tC (.int i)):=fun _ _ _ H _ I h=>wpAny_Constant_int ⟨.int i,H,I.tok _,⟨_,rfl⟩,h⟩
theorem cW {b j pos} : PE X (.Constant (.bool b) j pos) (tC (.bl b)):=fun _ _ _ H _ I h=>Constant_bool ⟨.bl b,H,I,rfl,h⟩
theorem Ct {j pos} : PE X (.Constant .none j pos) (tC .non):=fun _ _ _ H _ I h=>Constant_none ⟨.non,H,I,rfl,h⟩
theorem aq {x j pos} : PE X (.Constant (.str x) j pos) (tC (.str x)):=fun _ _ _ H _ I h=>Calls.Constant_str ⟨.str x,H,I.tok _,⟨_,rfl⟩,h⟩

def Gl (X:Cx) (x:Str) : Prop:=X.env.kindOf x=some .globalImplicit
theorem mw {E:Value→Shared→Prop} {pins:List (Addr × Obj)} {s:Shared} {σ:St} {H:Hp} {x:Str} {u:Value} {pos:Pos} {Q:Value→Shared→Prop} (I:Inv X pins σ H s) (hg:Gl X x) (hm:X.mg x=some u) (h:Q u s)
  (hd:(x == ("__debug__" : Str))=false:=by decide) : wpAny (model X.prog X.w) X.A (eval (.Name x pos) X.env) Q E s:=
 Calls.Name_function_global I.ok.kind hg (Calls.loadGlobal_global (by rw [I.ok.glob]; exact I.mod.glob.keeps I.bk) hm h) hd
theorem oK {E:Value→Shared→Prop} {pins:List (Addr × Obj)} {s:Shared} {σ:St} {H:Hp} {x:Str} {u:Value} {pos:Pos} {Q:Value→Shared→Prop} (I:Inv X pins σ H s) (hg:Gl X x) (hm:X.mg x=none) (hv:bootBuiltins x=some u) (h:Q u s)
  (hn:x≠"__name__":=by decide) (hd:(x == ("__debug__" : Str))=false:=by decide) : wpAny (model X.prog X.w) X.A (eval (.Name x pos) X.env) Q E s:=by
 obtain ⟨mb,h1,h2⟩:=I.mod.blt
 exact Calls.Name_function_global I.ok.kind hg (Calls.loadGlobal_builtin (by rw [I.ok.glob]; exact I.mod.glob.keeps I.bk) hm (by rw [I.ok.blt]; exact h1.keeps I.bk) ((h2 x hn).trans hv) h) hd
theorem cS {x:Str} {v:V} {u:Value} {pos:Pos} (hg:Gl X x) (hm:X.mg x=some u) (r:aZ v u) (hd:(x == ("__debug__" : Str))=false:=by decide) : PE X (.Name x pos) (tC v):=
 fun _ _ _ H _ I h=>mw I hg hm ⟨v,H,I,r,h⟩ hd
theorem cA {x:Str} {v:V} {u:Value} {pos:Pos} (hg:Gl X x) (hm:X.mg x=none) (hv:bootBuiltins x=some u) (r:aZ v u) (hn:x≠"__name__":=by decide) (hd:(x == ("__debug__" : Str))=false:=by decide) : PE X (.Name x pos) (tC v):=
 fun _ _ _ H _ I h=>oK I hg hm hv ⟨v,H,I,r,h⟩ hn hd

variable {a b:Expr} {ta tb:TE} {pos:Pos}
def tB (t:TE) : TT:=fun σ H Q=>t σ H fun x H1=>∃ c,x = .bl c∧Q c H1
theorem b8 {e:Expr} {t:TE} (h:PE X e t) (he:∀ whole,isTrue e X.env whole=(do let v ← whole; standAt e.pos; holding [v] (truthy v)):=by intro _; rfl) : PT X e (tB t):=by
 intro pins s σ H Q I hw
 refine isTrue_plain (thn (h pins s σ H _ I hw) fun v s1 ⟨x,H1,I1,r1,q1⟩=>?_) (he _)
 obtain ⟨d,rfl,q⟩:=q1
 cases r1
 exact wpAny_truthy_bool ⟨H1,I1,q⟩

variable {tA tB':TT} {a9:List Expr}
def Cu (t u:TT) : TT:=fun σ H Q=>t σ H fun c H1=>if c=true then u σ H1 Q else Q false H1
def tOr (t u:TT) : TT:=fun σ H Q=>t σ H fun c H1=>if c=true then Q true H1 else u σ H1 Q
def Em (t:TT) : TT:=fun σ H Q=>t σ H fun c H1=>Q (!c) H1
theorem eG (ha:PT X a tA) : PW X (.BoolOp .And [a] pos) tA:=by
 intro wh pins s σ H Q I h
 refine isTrue_and (thn (ha pins s σ H Q I h) fun c s1 e=>?_)
 cases c with
 | true=>exact isTrue_and_nil e
 | false=>exact e
theorem dN (ha:PT X a tA) : PW X (.BoolOp .Or [a] pos) tA:=by
 intro wh pins s σ H Q I h
 refine isTrue_or (thn (ha pins s σ H Q I h) fun c s1 e=>?_)
 cases c with
 | false=>exact isTrue_or_nil e
 | true=>exact e
theorem ij (ha:PT X a tA) (hb:PW X (.BoolOp .And (b :: a9) pos) tB') : PW X (.BoolOp .And (a :: b :: a9) pos) (Cu tA tB'):=by
 intro wh pins s σ H Q I h
 refine isTrue_and (thn (ha pins s σ H _ I h) fun c s1 ⟨H1,I1,q1⟩=>?_)
 cases c with
 | true=>exact hb wh pins s1 σ H1 Q I1 q1
 | false=>exact ⟨H1,I1,q1⟩
theorem du (ha:PT X a tA) (hb:PW X (.BoolOp .Or (b :: a9) pos) tB') : PW X (.BoolOp .Or (a :: b :: a9) pos) (tOr tA tB'):=by
 intro wh pins s σ H Q I h
 refine isTrue_or (thn (ha pins s σ H _ I h) fun c s1 ⟨H1,I1,q1⟩=>?_)
 cases c with
 | true=>exact ⟨H1,I1,q1⟩
 | false=>exact hb wh pins s1 σ H1 Q I1 q1
theorem dO (ha:PT X a tA) : PT X (.UnaryOp .Not a pos) (Em tA):=by
 intro pins s σ H Q I h
 exact isTrue_not (ha pins s σ H (fun c H1=>Q (!c) H1) I h)
def DO (ta tb:TE) : TE:=fun σ H Q=>ta σ H fun x H1=>∃ c,x = .bl c∧if c=true then tb σ H1 Q else Q (.bl false) H1
def En (ta tb:TE) : TE:=fun σ H Q=>ta σ H fun x H1=>∃ c,x = .bl c∧if c=true then Q (.bl true) H1 else tb σ H1 Q
def DP (ta:TE) : TE:=fun σ H Q=>ta σ H fun x H1=>∃ c,x = .bl c∧Q (.bl (!c)) H1
theorem jV {op} {t:TE} (h:PE X a t) : PE X (.BoolOp op [a] pos) t:=fun pins s σ H Q I hw=>BoolOp_one (h pins s σ H Q I hw)
theorem jW (ha:PE X a ta) (hb:PE X (.BoolOp .And (b :: a9) pos) tb) : PE X (.BoolOp .And (a :: b :: a9) pos) (DO ta tb):=by
 intro pins s σ H Q I h
 refine BoolOp_and (thn (ha pins s σ H _ I h) fun v s1 ⟨x,H1,I1,r1,q1⟩=>?_)
 obtain ⟨c,rfl,q1⟩:=q1
 cases r1
 refine wpAny_truthy_bool ?_
 cases c with
 | true=>exact hb pins s1 σ H1 Q I1 q1
 | false=>exact ⟨.bl false,H1,I1,rfl,q1⟩
theorem DQ (ha:PE X a ta) (hb:PE X (.BoolOp .Or (b :: a9) pos) tb) : PE X (.BoolOp .Or (a :: b :: a9) pos) (En ta tb):=by
 intro pins s σ H Q I h
 refine BoolOp_or (thn (ha pins s σ H _ I h) fun v s1 ⟨x,H1,I1,r1,q1⟩=>?_)
 obtain ⟨c,rfl,q1⟩:=q1
 cases r1
 refine wpAny_truthy_bool ?_
 cases c with
 | false=>exact hb pins s1 σ H1 Q I1 q1
 | true=>exact ⟨.bl true,H1,I1,rfl,q1⟩
theorem Cv (ha:PE X a ta) : PE X (.UnaryOp .Not a pos) (DP ta):=by
 intro pins s σ H Q I h
 refine UnaryOp_ (thn (ha pins s σ H _ I h) fun v s1 ⟨x,H1,I1,r1,q1⟩=>?_)
 obtain ⟨c,rfl,q1⟩:=q1
 cases r1
 exact not_of (wpAny_truthy_bool ⟨.bl (!c),H1,I1,rfl,q1⟩)
end

def SqL (K:PySem.W.Frag) (H:Hp) (a:Addr) (xs:List V) : Prop:=
 Rd H a (.lst xs) ∨
  ∃ (o:Obj) (its:Array Value) (n:Nat),K.lookup a=some o∧o.cls = .type "list"∧o.dict=none∧o.data = .seq its n∧its.size≤sizeLine∧aU xs its.toList
def SqT (K:PySem.W.Frag) (H:Hp) (a:Addr) (xs:List V) : Prop:=
 Rd H a (.tup xs) ∨
  ∃ (o:Obj) (its:Array Value) (n:Nat),K.lookup a=some o∧o.cls = .type "tuple"∧o.data = .seq its n∧its.size≤sizeLine∧aU xs its.toList
def Eo:Value→Option V
 | .none=>some .non
 | .bool b=>some (.bl b)
 | .int i _=>some (.int i)
 | .str x _=>some (.str x)
 | .bytes b _=>some (.byt b)
 | .float b _=>some (.flt b)
 | .ref a=>some (.ref a)
 | .type n=>some (.ty n)
 | _=>none
theorem aZ.abs {x:V} {u:Value} (r:aZ x u) : Eo u=some x:=by
 cases x with
 | non=>cases r; rfl
 | bl _=>cases r; rfl
 | int _=>obtain ⟨t,rfl⟩:=r; rfl
 | str _=>obtain ⟨t,rfl⟩:=r; rfl
 | byt _=>obtain ⟨t,rfl⟩:=r; rfl
 | flt _=>obtain ⟨t,rfl⟩:=r; rfl
 | ref _=>cases r; rfl
 | ty _=>cases r; rfl
theorem aZ.inj {x y:V} {u:Value} (r:aZ x u) (q:aZ y u) : x=y:=Option.some.inj (r.abs.symm.trans q.abs)
theorem aU.inj:∀ {xs ys:List V} {us:List Value},aU xs us→aU ys us→xs=ys
 | _,_,_,.nil,.nil=>rfl
 | _,_,_,.cons r t,.cons r' t'=>by rw [r.inj r',aU.inj t t']
section
variable {X:Cx} {pins:List (Addr × Obj)} {σ:St} {H:Hp} {s:Shared} {a:Addr} {xs ys:List V}
theorem SqL.of {K:PySem.W.Frag} (h:H a=some (.lst xs)) : SqL K H a xs:=.inl (.inl h)
theorem SqT.of {K:PySem.W.Frag} (h:H a=some (.tup xs)) : SqT K H a xs:=.inl (.inl h)
theorem Inv.list (I:Inv X pins σ H s) (h:SqL X.K H a xs) : ∃ its:List Value,aU xs its∧PlainL s.heap a its.toArray∧xs.length≤sizeLine:=by
 rcases h with h | ⟨o,its,n,hk,hc,hd,hs,hz,r⟩
 ·obtain ⟨z,its,n,r,e⟩:=h.ok I.hok
  exact ⟨its,r,⟨_,n,e,rfl,rfl,rfl⟩,z⟩
 ·refine ⟨its.toList,r,⟨o,n,I.kIn a o hk,hc,hd,by simpa using hs⟩,?_⟩
  have e:=r.length
  simp only [Array.length_toList] at e
  omega
theorem Inv.tuple (I:Inv X pins σ H s) (h:SqT X.K H a xs) : ∃ its:List Value,aU xs its∧IsTup s.heap a its.toArray∧xs.length≤sizeLine:=by
 rcases h with h | ⟨o,its,n,hk,hc,hs,hz,r⟩
 ·obtain ⟨z,its,r,p⟩:=h.ok I.hok
  exact ⟨its,r,p,z⟩
 ·refine ⟨its.toList,r,⟨o,I.kIn a o hk,hc,n,by simpa using hs⟩,?_⟩
  have e:=r.length
  simp only [Array.length_toList] at e
  omega
theorem Inv.list_inj (I:Inv X pins σ H s) (h:SqL X.K H a xs) (h':SqL X.K H a ys) : xs=ys:=by
 obtain ⟨its,r,⟨o,n,e,_,_,d⟩,_⟩:=I.list h
 obtain ⟨its',r',⟨o',n',e',_,_,d'⟩,_⟩:=I.list h'
 rw [e] at e'; cases e'
 rw [d] at d'
 injection d' with d1 _
 have:its=its':=by simpa using congrArg Array.toList d1
 subst this
 exact r.inj r'
end

abbrev Cx.wish (X:Cx) (E:Value→Shared→Prop) : Cx:={ X with xe:=E }
abbrev Cx.nox (X:Cx) : Cx:=X.wish fun _ _=>False
theorem Cx.Ok.wish {X:Cx} (ok:X.Ok) (E:Value→Shared→Prop) : (X.wish E).Ok:=
 ⟨ok.mod,ok.kind,ok.glob,ok.blt,ok.above,ok.inj,ok.has,ok.cab,ok.hd,ok.frames,ok.stk,ok.exf,ok.bs,ok.bsz,ok.noex,ok.exfs,ok.funs,ok.frf⟩
theorem Cx.Ok.unwish {X:Cx} {E:Value→Shared→Prop} (ok:(X.wish E).Ok) : X.Ok:=
 ⟨ok.mod,ok.kind,ok.glob,ok.blt,ok.above,ok.inj,ok.has,ok.cab,ok.hd,ok.frames,ok.stk,ok.exf,ok.bs,ok.bsz,ok.noex,ok.exfs,ok.funs,ok.frf⟩
section
variable {X:Cx} {pins:List (Addr × Obj)} {σ:St} {H:Hp} {s:Shared} {E:Value→Shared→Prop}
theorem Inv.wish (I:Inv X pins σ H s) (E:Value→Shared→Prop) : Inv (X.wish E) pins σ H s:=⟨I.ok.wish E,I.os,I.bare,I.base,I.loc,I.cell,I.free,I.freeC,I.pin,I.hok,I.len⟩
theorem Inv.unwish (I:Inv (X.wish E) pins σ H s) : Inv X pins σ H s:=⟨I.ok.unwish,I.os,I.bare,I.base,I.loc,I.cell,I.free,I.freeC,I.pin,I.hok,I.len⟩
theorem SP.unwish {D:e_} {f:Flow} {s':Shared} (h:SP (X.wish E) pins D f s') : SP X pins D f s':=by
 cases f with
 | next=>obtain ⟨σ',H',I,q⟩:=h; exact ⟨σ',H',I.unwish,q⟩
 | brk=>obtain ⟨σ',H',I,q⟩:=h; exact ⟨σ',H',I.unwish,q⟩
 | cont=>obtain ⟨σ',H',I,q⟩:=h; exact ⟨σ',H',I.unwish,q⟩
 | ret u=>obtain ⟨v,σ',H',I,r,q⟩:=h; exact ⟨v,σ',H',I.unwish,r,q⟩
theorem PSs.nox {st:List Stmt} {t:TS} (h:PSs X.nox st t) : PSs X st t:=fun pins s σ H D I hw =>
 wpAny_mono (h pins s σ H D (I.wish _) hw) (fun _ _ q=>q.unwish) fun _ _ z=>False.elim z
end

section
variable {X:Cx} {st:Stmt} {a9:List Stmt} {t u:TS} {e:Expr} {te:TE} {pos:Pos}
def cX:TS:=fun D σ H=>D.nx σ H
def Cw (t u:TS) : TS:=fun D σ H=>t { D with nx:=u D } σ H
theorem aE:PSs X [] cX:=fun _ _ σ H _ I h=>wpAny_execs_nil ⟨σ,H,I,h⟩
theorem af (h1:PS X st t) (h2:PSs X a9 u) : PSs X (st :: a9) (Cw t u):=by
 intro pins s σ H D I h
 refine wpAny_execs_cons (thn (h1 pins s σ H { D with nx:=u D } I h) fun f s1 q=>?_)
 cases f with
 | next =>
  obtain ⟨σ',H',I',q⟩:=q
  exact h2 pins s1 σ' H' D I' q
 | ret v=>exact q
 | brk=>exact q
 | cont=>exact q
theorem ag (h1:PS X st t) : PSs X [st] t:=by
 intro pins s σ H D I h
 refine wpAny_execs_cons (thn (h1 pins s σ H D I h) fun f s1 q=>?_)
 cases f with
 | next=>exact wpAny_execs_nil q
 | ret v=>exact q
 | brk=>exact q
 | cont=>exact q
theorem Inv.quiet {pins:List (Addr × Obj)} {σ:St} {H:Hp} {s:Shared} (I:Inv X pins σ H s) : interactive X.env=false:=by simp [interactive,I.ok.kind]
def DR (te:TE) : TS:=fun D σ H=>te σ H fun _ H1=>D.nx σ H1
theorem bj (he:PE X e te) (hs:swapsWith e none pos.line X.env=pure false:=by rfl) : PS X (.Expr e pos) (DR te):=by
 intro pins s σ H D I h
 exact wpAny_Expr_any (thn (he pins s σ H _ I h) fun v s1 ⟨x,H1,I1,r1,q1⟩=>⟨σ,H1,I1,q1⟩) I.quiet hs
def Ep (te:TE) : TS:=fun D σ H=>te σ H D.rt
theorem aF (he:PE X e te) : PS X (.Return (some e) pos) (Ep te):=by
 intro pins s σ H D I h
 exact wpAny_Return_some (thn (he pins s σ H _ I h) fun v s1 ⟨x,H1,I1,r1,q1⟩=>⟨x,σ,H1,I1,r1,q1⟩)
def DS:TS:=fun D _ H=>D.rt .non H
theorem BC:PS X (.Return none pos) DS:=fun _ _ σ H _ I h=>wpAny_Return_none ⟨.non,σ,H,I,rfl,h⟩
def Cy (c:TT) (t u:TS) : TS:=fun D σ H=>c σ H fun b H1=>if b=true then t D σ H1 else u D σ H1
theorem aG {c:Expr} {a b:List Stmt} {tc:TT} (hc:PT X c tc) (ha:PSs X a t) (hb:PSs X b u) : PS X (.If c a b pos) (Cy tc t u):=by
 intro pins s σ H D I h
 refine wpAny_If (thn (hc pins s σ H _ I h) fun d s1 ⟨H1,I1,q1⟩=>?_)
 cases d with
 | true=>exact ha pins s1 σ H1 D I1 q1
 | false=>exact hb pins s1 σ H1 D I1 q1
def y8:TS:=fun _ _ _=>False
theorem fb:PS X st y8:=fun _ _ _ _ _ _ h=>h.elim
theorem di {sts:List Stmt} : PSs X sts y8:=fun _ _ _ _ _ _ h=>h.elim
end

abbrev TG:=V→St→Hp→(St→Hp→Prop)→Prop
abbrev TGs:=List V→St→Hp→(St→Hp→Prop)→Prop
def PG (X:Cx) (target:Expr) (t:TG) : Prop:=
 ∀ (pins:List (Addr × Obj)) (s:Shared) (σ:St) (H:Hp) (v:V) (u:Value) (Q:St→Hp→Prop),Inv X pins σ H s→aZ v u→t v σ H Q →
  wpAny (model X.prog X.w) X.A (assign target X.env u) (fun _ s'=>∃ σ' H',Inv X pins σ' H' s'∧Q σ' H') X.xe s
def PGs (X:Cx) (ts:List Expr) (t:TGs) : Prop:=
 ∀ (pins:List (Addr × Obj)) (s:Shared) (σ:St) (H:Hp) (vs:List V) (us:List Value) (Q:St→Hp→Prop),Inv X pins σ H s→aU vs us→t vs σ H Q →
  wpAny (model X.prog X.w) X.A (assignInOrder ((assignEach ts X.env).map (·.2)) us) (fun _ s'=>∃ σ' H',Inv X pins σ' H' s'∧Q σ' H') X.xe s
abbrev Aq:=V→V→V→Hp→(Hp→Prop)→Prop
def Cz (X:Cx) (t:Aq) : Prop:=
 ∀ (pins:List (Addr × Obj)) (s:Shared) (σ:St) (H:Hp) (o i v:V) (ov iv u:Value) (Q:Hp→Prop),Inv X pins σ H s→aZ o ov→aZ i iv→aZ v u→t o i v H Q →
  wpAny (model X.prog X.w) X.A (setItem ov iv u) (fun _ s'=>∃ H',Inv X pins σ H' s'∧Q H') X.xe s
section
variable {X:Cx} {pos:Pos}
def bv (i:Nat) : TG:=fun v σ H Q=>Q (σ.set i (some v)) H
theorem aM {i:Nat} {x:Str} (hN:X.N.Nodup) (hi:X.N[i]? = some x) (hx:Loc X.env.scope x) (hf:X.fn x=true∨X.env.scope.names.lookup x=some .local:=by first | exact .inl rfl | exact .inr rfl | assumption) : PG X (.Name x pos) (bv i):=by
 intro pins s σ H v u Q I r h
 exact wpAny_assign_Name (qU I hN hi hx r (fun s' I'=>⟨_,H,I',h⟩) hf)
def Ar:TGs:=fun vs σ H Q=>vs=[]∧Q σ H
def qw (t:TG) (u:TGs) : TGs:=fun vs σ H Q=>∃ v r,vs=v :: r∧t v σ H fun σ' H'=>u r σ' H' Q
theorem dw:PGs X [] Ar:=by
 intro pins s σ H vs us Q I r h
 obtain ⟨e,h⟩:=h
 subst e
 cases r
 exact assignInOrder_nil ⟨σ,H,I,h⟩
theorem a6 {e:Expr} {es:List Expr} {t:TG} {u:TGs} (h1:PG X e t) (h2:PGs X es u)
  (hs:(assignEach (e :: es) X.env).map (·.2)=assign e X.env :: (assignEach es X.env).map (·.2):=by rfl) : PGs X (e :: es) (qw t u):=by
 intro pins s σ H vs us Q I r h
 obtain ⟨v,vr,e1,h⟩:=h
 subst e1
 cases r with
 | cons r rr =>
  rw [hs]
  refine assignInOrder_cons (thn (h1 pins s σ H _ _ _ I r h) fun _ s1 ⟨σ1,H1,I1,q1⟩=>?_)
  exact h2 pins s1 σ1 H1 _ _ Q I1 rr q1
def As (K:PySem.W.Frag) (n:Nat) (t:TGs) : TG:=fun v σ H Q=>∃ a xs,v = .ref a∧SqT K H a xs∧xs.length=n∧t xs σ H Q
theorem d8 {es:List Expr} {k:Nat} {t:TGs} {n:Nat} (hc:X.calm=true) (h:PGs X es t)
  (hn:(assignEach es X.env).length=n:=by rfl) (hst:(assignEach es X.env).findIdx? (·.1)=none:=by rfl) : PG X (.Tuple es k pos) (As X.K n t):=by
 intro pins s σ H v u Q I r hw
 obtain ⟨a,xs,e1,hq,hl,hw⟩:=hw
 subst e1
 cases r
 obtain ⟨its,rv,ht,hz⟩:=I.tuple hq
 refine assign_Tuple_tuple (I.ok.hd hc) ht (by simp [hn,← hl,rv.length]) hst fun h' hx=>?_
 have I1:Inv X pins σ H { s with heap:=h' }:=I.kept (t':=s.toks) fun b o e=>hx b o (Nat.ne_of_lt (Heap.lt_size e)) e
 exact h pins _ σ H xs _ Q I1 (by simpa using rv) hw
def Er (to ti:TE) (t:Aq) : TG:=fun v σ H Q=>to σ H fun o H1=>ti σ H1 fun i H2=>t o i v H2 fun H3=>Q σ H3
theorem CA {o i:Expr} {to ti:TE} {t:Aq} (ho:PE X o to) (hi:PE X i ti) (hs:Cz X t)
  (ha:∀ v,assign (.Subscript o i pos) X.env v=(do
   let ov ← holding [v] (eval o X.env)
   let iv ← holding [v,ov] (eval i X.env)
   standAt pos
   holding [v,ov,iv] (setItem ov iv v)
   release [v,ov,iv] []):=by intro _; rfl) : PG X (.Subscript o i pos) (Er to ti t):=by
 intro pins s σ H v u Q I r h
 rw [ha]
 refine wpAny_bind (wpAny_holding (thn (ho pins s σ H _ I h) fun ov s1 ⟨x,H1,I1,r1,q1⟩=>?_))
 refine wpAny_bind (wpAny_holding (thn (hi pins s1 σ H1 _ I1 q1) fun iv s2 ⟨y,H2,I2,r2,q2⟩=>?_))
 refine wpAny_bind (wpAny_standAt (wpAny_bind (wpAny_holding (thn (hs pins s2 σ H2 x y v ov iv u _ I2 r1 r2 r q2) fun _ s3 ⟨H3,I3,q3⟩=>?_))))
 exact wpAny_release ⟨σ,H3,I3,q3⟩
def qV (te:TE) (g:TG) : TS:=fun D σ H=>te σ H fun x H1=>g x σ H1 D.nx
theorem CB {tg e:Expr} {te:TE} {g:TG} (he:PE X e te) (hg:PG X tg g) (hs:swapsWithSole [tg] e pos.line X.env=pure false:=by rfl) (hw:swappedStores [tg] e X.env=pure none:=by rfl)
  (h1:(assignEach [tg] X.env).map (·.2)=[assign tg X.env]:=by rfl) : PS X (.Assign [tg] e pos) (qV te g):=by
 intro pins s σ H D I h
 refine wpAny_Assign_stores (thn (he pins s σ H _ I h) fun v s1 ⟨x,H1,I1,r1,q1⟩=>?_) hs hw
 rw [h1]
 exact thn (hg pins s1 σ H1 x v _ I1 r1 q1) fun _ s2 q=>q
theorem aA {i:Nat} {x:Str} {e:Expr} {te:TE} {pos':Pos} (hN:X.N.Nodup) (hi:X.N[i]? = some x) (hx:Loc X.env.scope x) (he:PE X e te) (hs:swapsWith e (some (.Name x pos')) pos.line X.env=pure false:=by rfl) (hf:X.fn x=true∨X.env.scope.names.lookup x=some .local:=by first | exact .inl rfl | exact .inr rfl | assumption) :
  PS X (.Assign [.Name x pos'] e pos) (qV te (bv i)):=by
 intro pins s σ H D I h
 refine wpAny_Assign_Name (thn (he pins s σ H _ I h) fun v s1 ⟨y,H1,I1,r1,q1⟩=>?_) hs
 exact qU I1 hN hi hx r1 (fun s2 I2=>⟨_,H1,I2,q1⟩) hf
end

section
variable {X:Cx} {pos:Pos}
end

structure It where
 go:Nat→Hp→Prop
 yld:Nat→Hp→V→Hp→Prop
 stop:Nat→Hp→Prop
def oM (X:Cx) (pins:List (Addr × Obj)) (H:Hp) (b:Addr) : Prop:=
 H b=none∧b≠X.env.locals∧b ∉ X.fs∧(b ∈ X.ex∨X.s₀.heap.objs.size≤b)∧(∀ x c,X.env.cells.lookup x=some c→c≠b)∧∀ p ∈ X.pn++pins,p.1≠b
theorem Inv.fpOk {X:Cx} {pins:List (Addr × Obj)} {σ:St} {H H':Hp} {s:Shared} {b:Addr} (I:Inv X pins σ H s) (hb:s.heap.objs.size≤b) (hn:H' b=none) : oM X pins H' b:=by
 refine ⟨hn,Nat.ne_of_gt (Nat.lt_of_lt_of_le I.lt hb),I.nofs hb,.inr (Nat.le_trans I.sz hb),fun x c e z=>?_,fun p hp z=>?_⟩
 ·obtain ⟨v,q⟩:=I.cell x c e
  exact absurd (Nat.lt_of_lt_of_le q.lt (by rw [z]; exact hb)) (Nat.lt_irrefl _)
 ·exact absurd (Nat.lt_of_lt_of_le (Heap.lt_size (I.pin p hp).1) (by rw [z]; exact hb)) (Nat.lt_irrefl _)
structure oN (P:Program) (w:World) (K:PySem.W.Frag) (tg:Expr) (J:It) (fp:List Addr) (it:Addr) (tn:Nat→Heap→Prop) : Prop where
 mem:it ∈ fp
 obj:∀ i h,tn i h→∀ b ∈ fp,∃ o,h.get? b=some o∧∀ v,o.data≠.cell v
 keep:∀ i h h',tn i h→(∀ b ∈ fp,∀ o,h.get? b=some o→h'.get? b=some o)→tn i h'
 item:∀ (X:Cx),X.prog=P→X.w=w→X.K=K→X.calm=true→∀ (i:Nat) (pins:List (Addr × Obj)) (s:Shared) (σ:St) (H:Hp) (E:Value→Shared→Prop),Inv X pins σ H s→(∀ b ∈ fp,oM X pins H b)→tn i s.heap→J.go i H →
  wpAny (model P w) X.A (pyNext (.ref it)) (fun r s1=>∃ u,r=some u ∧
   wpAny (model P w) X.A (letOwnedTupleGo tg (.ref it) u) (fun _ s2=>∃ x H',Inv X pins σ H' s2∧aZ x u∧J.yld i H x H'∧tn (i+1) s2.heap∧∀ b ∈ fp,H' b=none) E s1) E s
 done:∀ (X:Cx),X.prog=P→X.w=w→X.K=K→X.calm=true→∀ (i:Nat) (pins:List (Addr × Obj)) (s:Shared) (σ:St) (H:Hp) (E:Value→Shared→Prop),Inv X pins σ H s→(∀ b ∈ fp,oM X pins H b)→tn i s.heap→J.stop i H →
  wpAny (model P w) X.A (pyNext (.ref it)) (fun r s1=>r=none∧Inv X pins σ H s1) E s
 self:∀ (A:Around) (i:Nat) (s:Shared) (Q:Value→Shared→Prop) (E:Value→Shared→Prop),tn i s.heap→Q (.ref it) s→wpAny (model P w) A (pyIter (.ref it)) Q E s
abbrev TI:=St→Hp→(It→Hp→Prop)→Prop
def PIE (X:Cx) (pins:List (Addr × Obj)) (σ:St) (tg:Expr) (R:It→Hp→Prop) (itv:Value) (s2:Shared) : Prop:=
 ∃ (it:Addr) (fp:List Addr) (tn:Nat→Heap→Prop) (J:It) (H':Hp),itv = .ref it∧Inv X pins σ H' s2∧oN X.prog X.w X.K tg J fp it tn∧tn 0 s2.heap∧(∀ b ∈ fp,oM X pins H' b)∧R J H'
def PI (X:Cx) (tg iter:Expr) (wi:TI) : Prop:=
 ∀ (pins:List (Addr × Obj)) (s:Shared) (σ:St) (H:Hp) (R:It→Hp→Prop),Inv X pins σ H s→wi σ H R →
  wpAny (model X.prog X.w) X.A (eval iter X.env) (fun v s1=>wpAny (model X.prog X.w) X.A (pyIter v) (PIE X pins σ tg R) X.xe s1) X.xe s

theorem uZ {M:Model} {A:Around} {E:Value→Shared→Prop} {s:Shared} {tg:Expr} {it:Addr} {u:Value} {o:Obj} {n:String} {vs:Array Value} {Q:Unit→Shared→Prop} (ho:s.heap.get? it=some o) (hc:o.cls = .type n) (hd:o.data = .fields vs)
  (hn:["enumerate","zip","dict_itemiterator","dict_reverseitemiterator","odict_iterator","itertools.zip_longest","itertools.pairwise"].contains n=false) (hQ:Q () s) : wpAny M A (letOwnedTupleGo tg (.ref it) u) Q E s:=by
 unfold letOwnedTupleGo
 cases tg <;> first
  | exact wpAny_pure hQ
  | (cases u <;> first
    | exact wpAny_pure hQ
    | (refine wpAny_bind (wpAny_load ho ?_)
       rw [hc,hd]
       show wpAny M A (if (["enumerate","zip","dict_itemiterator","dict_reverseitemiterator","odict_iterator","itertools.zip_longest","itertools.pairwise"].contains n && vs[0]? == some (rawInt _))=true then _ else _) Q E s
       rw [if_neg (by intro h; rw [hn,Bool.false_and] at h; cases h)]
       exact wpAny_pure hQ))

def Itl (K:PySem.W.Frag) (a:Addr) : It:=
 ⟨fun i H=>∃ xs x,SqL K H a xs∧xs[i]? = some x,fun i H x H'=>H' = H∧∀ xs,SqL K H a xs→xs[i]? = some x,fun i H=>∃ xs,SqL K H a xs∧xs.length≤i⟩
def Itr (lo:Int) (n:Nat) : It:=⟨fun i _=>i < n,fun i H x H'=>H' = H∧x = .int (lo+i),fun i _=>n≤i⟩
theorem y9 {P:Program} {w:World} {K:PySem.W.Frag} {tg:Expr} (a it:Addr) : oN P w K tg (Itl K a) [it] it (fun i h=>h.IsListIter it a i) where
 mem:=by simp
 obj:=fun i h st b hb=>by
  have e:b=it:=by simpa using hb
  subst e
  obtain ⟨o,e,c,d⟩:=st
  exact ⟨o,e,fun v z=>by rw [d] at z; cases z⟩
 keep:=fun i h h' st k=>st.at fun o e=>k it (by simp) o e
 item:=by
  intro X hP hw hK hc i pins s σ H E I hf st hg
  subst hP hw hK
  obtain ⟨xs,x,hq,hx⟩:=hg
  obtain ⟨its,rv,p,hz⟩:=I.list hq
  obtain ⟨u,hu,ru⟩:=rv.get hx
  obtain ⟨f0,f1,f2,f3,f4,f5⟩:=hf it (by simp)
  refine wpAny_pyNext_list_item st p.isList (x:=u) (by simpa using hu) fun h' st' sb=>?_
  have I1:Inv X pins σ H { s with heap:=h' }:=I.turned (t':=s.toks) (fun b o hb e=>(sb.2 b hb).trans e) f0 f1 f3 f4 f5
  obtain ⟨o,e,c,d⟩:=id st'
  exact ⟨u,rfl,uZ (s:={ s with heap:=h' }) e c d (by decide) ⟨x,H,I1,ru,⟨rfl,fun ys hy=>by rw [I.list_inj hy hq]; exact hx⟩,st',fun b hb=>(hf b hb).1⟩⟩
 done:=by
  intro X hP hw hK hc i pins s σ H E I hf st hg
  subst hP hw hK
  obtain ⟨xs,hq,hx⟩:=hg
  obtain ⟨its,rv,p,hz⟩:=I.list hq
  obtain ⟨f0,f1,f2,f3,f4,f5⟩:=hf it (by simp)
  have hl:=rv.length
  exact wpAny_pyNext_list_end (I.ok.hd hc) st p.isList (by simp; omega) fun h' eb=>⟨rfl,I.turned (t':=s.toks) (fun b o hb e=>eb b o hb e) f0 f1 f3 f4 f5⟩
 self:=fun _ _ _ _ _ st h=>wpAny_pyIter_listiter st h
theorem xY {P:Program} {w:World} {K:PySem.W.Frag} {tg:Expr} (it:Addr) (lo:Int) (n:Nat) : oN P w K tg (Itr lo n) [it] it (fun i h=>IsRangeIter h it (lo+(i:Nat) * 1) ((n:Int) - (i:Nat)) 1) where
 mem:=by simp
 obj:=fun i h st b hb=>by
  have e:b=it:=by simpa using hb
  subst e
  exact ⟨_,st,fun v z=>by
   have z':Data.fields _=Data.cell v:=z
   cases z'⟩
 keep:=fun i h h' st k=>k it (by simp) _ st
 item:=by
  intro X hP hw hK hc i pins s σ H E I hf st hg
  subst hP hw hK
  obtain ⟨f0,f1,f2,f3,f4,f5⟩:=hf it (by simp)
  have W:=Walks.range (prog:=X.prog) (w:=X.w) (I.ok.hd hc) it lo 1 n
  refine W.item i s _ _ hg st fun v h' tk hv st' kk=>?_
  obtain ⟨t,rfl⟩:=hv
  have I1:Inv X pins σ H { s with heap:=h',toks:=tk }:=I.turned (fun b o hb e=>kk b o (by simpa using hb) e) f0 f1 f3 f4 f5
  refine ⟨_,rfl,uZ (s:={ s with heap:=h',toks:=tk }) (n := "range_iterator") st' rfl rfl (by decide) ⟨.int (lo+i),H,I1,⟨t,?_⟩,⟨rfl,rfl⟩,st',fun b hb=>(hf b hb).1⟩⟩
  rw [Int.mul_one]
 done:=by
  intro X hP hw hK hc i pins s σ H E I hf st hg
  subst hP hw hK
  obtain ⟨f0,f1,f2,f3,f4,f5⟩:=hf it (by simp)
  exact wpAny_pyNext_range_end (I.ok.hd hc) st (by have:n≤i:=hg; omega) fun h' eb=>⟨rfl,I.turned (t':=s.toks) (fun b o hb e=>eb b o hb e) f0 f1 f3 f4 f5⟩
 self:=fun _ _ _ _ _ st h=>wpAny_pyIter_rangeiter st h
section
variable {X:Cx} {tg:Expr}
def Bm (K:PySem.W.Frag) (tl:TE) : TI:=fun σ H R=>tl σ H fun x H1=>∃ a,x = .ref a∧(∃ xs,SqL K H1 a xs)∧R (Itl K a) H1
theorem a7 {l:Expr} {tl:TE} (hl:PE X l tl) : PI X tg l (Bm X.K tl):=by
 intro pins s σ H R I h
 refine thn (hl pins s σ H _ I h) fun v s1 ⟨x,H1,I1,r1,q1⟩=>?_
 obtain ⟨a,e,⟨xs,hq⟩,q⟩:=q1
 subst e
 cases r1
 obtain ⟨its,rv,p,hz⟩:=I1.list hq
 refine wpAny_pyIter_list p.isList ?_
 refine ⟨s1.heap.objs.size,[s1.heap.objs.size],_,_,H1,rfl,I1.kept (t':=s1.toks) fun b o e=>Heap.get?_push_of_some _ e,y9 a _,⟨_,Heap.get?_push_size _ rfl,rfl,rfl⟩,fun b hb=>?_,q⟩
 have e:b=s1.heap.objs.size:=by simpa using hb
 subst e
 exact I1.fpOk (Nat.le_refl _) (I1.hok.fresh (Nat.le_refl _))
theorem At {pins:List (Addr × Obj)} {σ:St} {H:Hp} {s:Shared} {R:It→Hp→Prop} {E:Value→Shared→Prop} {lo hi:Int} {t u v:Tok} {tk:Nat} (I:Inv X pins σ H s) (h1:-(2 ^ 62)≤lo) (h2:lo < 2 ^ 62) (h3:-(2 ^ 62)≤hi) (h4:hi < 2 ^ 62)
  (q:R (Itr lo (hi - lo).toNat) H) : wpAny (model X.prog X.w) X.A (pyIter (.ref s.heap.objs.size)) (PIE X pins σ tg R) E { s with heap:=s.heap.push { cls:=.type "range",data:=.fields #[.int lo t,.int hi u,.int 1 v] },toks:=tk }:=by
 refine wpAny_pyIter_range (IsRange.new ..) (small_one h1 h2 h3 h4) ?_
 have I1:Inv X pins σ H { s with heap:=s.heap.push { cls:=.type "range",data:=.fields #[.int lo t,.int hi u,.int 1 v] },toks:=tk }:=I.kept fun b o e=>Heap.get?_push_of_some _ e
 refine ⟨(s.heap.push { cls:=.type "range",data:=.fields #[.int lo t,.int hi u,.int 1 v] }).objs.size,[(s.heap.push { cls:=.type "range",data:=.fields #[.int lo t,.int hi u,.int 1 v] }).objs.size],_,_,H,rfl,
  I1.kept (t':=tk) fun b o e=>Heap.get?_push_of_some _ e,xY _ lo (hi - lo).toNat,?_,fun b hb=>?_,q⟩
 ·have e1:lo+((0:Nat) : Int) * 1=lo:=by simp
  have e2:(((hi - lo).toNat:Nat) : Int) - ((0:Nat) : Int)=Builtin.Range.rangeSize lo hi 1:=by rw [rangeSize_one]; split <;> omega
  show IsRangeIter _ _ (lo+((0:Nat) : Int) * 1) ((((hi - lo).toNat:Nat) : Int) - ((0:Nat) : Int)) 1
  rw [e1,e2]
  exact Heap.get?_push_size _ rfl
 ·have e:b=(s.heap.push { cls:=.type "range",data:=.fields #[.int lo t,.int hi u,.int 1 v] }).objs.size:=by simpa using hb
  subst e
  exact I1.fpOk (Nat.le_refl _) (I1.hok.fresh (Nat.le_refl _))
def DT (ta:TA) : TI:=fun σ H R=>ta σ H fun vs H1=>∃ j:Int,vs=[.int j]∧-(2 ^ 62)≤j∧j < 2 ^ 62∧R (Itr 0 j.toNat) H1
theorem le {a:Expr} {ta:TA} {p pos:Pos} (hg:Gl X "range") (hm:X.mg "range" = none) (ha:PA X [a] ta) (hs:starEach [a] X.env=[(false,eval a X.env)]:=by rfl) : PI X tg (.Call (.Name "range" p) [a] [] pos) (DT ta):=by
 intro pins s σ H R I h
 refine Call_ (oK I hg hm boot_range (PyProof.Rows.callWith_type1 (thn (ha pos pins s σ H _ I h) fun us s1 ⟨vs,H1,I1,r1,q1⟩=>?_) hs rfl))
 obtain ⟨j,e,q1,q2,q⟩:=q1
 subst e
 cases r1 with
 | cons r rr =>
  cases rr
  obtain ⟨t,rfl⟩:=r
  exact call_range_1 (At I1 (by omega) (by omega) q1 q2 (by simpa using q))
def CC (wi:TI) (g:TG) (tb:TS) : TS:=fun D σ H=>wi σ H fun J H1=>∃ W:Nat→Nat→St→Hp→Prop,(∃ m,W 0 m σ H1)∧∀ i m σ H,W i m σ H →
 (J.stop i H∧D.nx σ H)∨(J.go i H∧∃ N:St→Hp→Prop,(∀ σ' H',N σ' H'→∃ m',m' < m∧W (i+1) m' σ' H')∧∀ x H',J.yld i H x H'→g x σ H' fun σ2 H2=>tb { D with nx:=N,ct:=N,bk:=D.nx } σ2 H2)
def oO (fp:List Addr) (h:Heap) : List (Addr × Obj):=fp.filterMap fun b=>(h.get? b).map fun o=>(b,o)
theorem jI {fp:List Addr} {h:Heap} {b:Addr} {o:Obj} (hb:b ∈ fp) (e:h.get? b=some o) : (b,o) ∈ oO fp h:=List.mem_filterMap.mpr ⟨b,hb,by rw [e]; rfl⟩
theorem y_ {fp:List Addr} {h:Heap} {p:Addr × Obj} (hp:p ∈ oO fp h) : p.1 ∈ fp∧h.get? p.1=some p.2:=by
 obtain ⟨b,hb,e⟩:=List.mem_filterMap.mp hp
 cases q:h.get? b with
 | none=>rw [q] at e; cases e
 | some o =>
  rw [q] at e
  have e':(b,o)=p:=Option.some.inj e
  subst e'
  exact ⟨hb,q⟩
theorem Inv.pinned {pins:List (Addr × Obj)} {σ:St} {H:Hp} {s:Shared} {fp:List Addr} (I:Inv X pins σ H s) (hf:∀ b ∈ fp,oM X pins H b) (ho:∀ b ∈ fp,∃ o,s.heap.get? b=some o∧∀ v,o.data≠.cell v) : Inv X (pins++oO fp s.heap) σ H s:=
 I.pins_of fun p hp=>(List.mem_append.mp hp).elim (fun z=>I.pin p (List.mem_append_right _ z)) fun z=>by
  obtain ⟨hb,e⟩:=y_ z
  obtain ⟨f0,f1,f2,_⟩:=hf p.1 hb
  obtain ⟨o,e',d⟩:=ho p.1 hb
  rw [e] at e'; cases e'
  exact ⟨e,f0,f1,f2,d⟩
theorem Inv.unpinned {pins pl:List (Addr × Obj)} {σ:St} {H:Hp} {s:Shared} (I:Inv X (pins++pl) σ H s) : Inv X pins σ H s:=I.pins_of fun p hp=>I.pin p (List.mem_append_right _ (List.mem_append_left _ hp))
theorem b9 {iter:Expr} {body:List Stmt} {wi:TI} {g:TG} {tb:TS} {pos:Pos} (hp:PassesOwn (model X.prog X.w) X.A X.env X.xe) (hc:X.calm=true) (hi:PI X tg iter wi) (hg:PG X tg g) (hb:PSs X body tb)
  (hs:∀ x,foldedSetIterable iter X.env x=pure x:=by intro _; rfl) : PS X (.For tg iter body [] pos) (CC wi g tb):=by
 intro pins s σ H D I h
 refine wpAny_For (thn (hi pins s σ H _ I h) fun v s1 h1=>thn h1 fun itv s2 h2=>?_) hs
 obtain ⟨it,fp,tn,J,H2,e,I2,T,st2,f2,W,⟨m0,w0⟩,turn⟩:=h2
 subst e
 -- what stays true of the iterator's objects through the loop
 have stat:∀ {H':Hp},(∀ b ∈ fp,H' b=none)→∀ b ∈ fp,oM X pins H' b:=fun hn b hb=>⟨hn b hb,(f2 b hb).2⟩
 refine codeAny_forLoop_any (fun n s'=>∃ i σ' H',Inv X pins σ' H' s'∧tn i s'.heap∧(∀ b ∈ fp,H' b=none)∧W i n σ' H') ?_ m0 ⟨0,σ,H2,I2,st2,fun b hb=>(f2 b hb).1,w0⟩
 rintro n s3 ⟨i,σ3,H3,I3,st3,fr3,w3⟩
 rcases turn i n σ3 H3 w3 with ⟨stop,qn⟩ | ⟨go,N,hN,step⟩
 ·refine wpAny_passesOwn hp (thn (T.done X rfl rfl rfl hc i pins s3 σ3 H3 X.xe I3 (stat fr3) st3 stop) fun r s4 ⟨hr,I4⟩=>?_)
  subst hr
  exact wpAny_execs_nil ⟨σ3,H3,I4,qn⟩
 ·refine wpAny_passesOwn hp (thn (T.item X rfl rfl rfl hc i pins s3 σ3 H3 X.xe I3 (stat fr3) st3 go) fun r s4 ⟨u,hr,h4⟩=>?_)
  subst hr
  refine wpAny_passesOwn hp (thn h4 fun _ s5 ⟨x,H5,I5,r5,y5,st5,fr5⟩=>?_)
  have I5':=I5.pinned (stat fr5) (T.obj _ _ st5)
  refine wpAny_passesOwn hp (thn (hg _ s5 σ3 H5 x u _ I5' r5 (step x H5 y5)) fun _ s6 ⟨σ6,H6,I6,q6⟩=>?_)
  refine wpAny_passesOwn hp (thn (hb _ s6 σ6 H6 _ I6 q6) fun f s7 q7=>?_)
  have again:∀ {σ7:St} {H7:Hp},Inv X (pins++oO fp s5.heap) σ7 H7 s7→N σ7 H7→∃ m,m < n∧∃ i σ' H',Inv X pins σ' H' s7∧tn i s7.heap∧(∀ b ∈ fp,H' b=none)∧W i m σ' H':=fun {σ7 H7} I7 n7=>by
   obtain ⟨m',hm,w7⟩:=hN σ7 H7 n7
   refine ⟨m',hm,i+1,σ7,H7,I7.unpinned,T.keep _ _ _ st5 fun b hb o e=>(I7.pin (b,o) (List.mem_append_right _ (List.mem_append_right _ (jI hb e)))).1,fun b hb=>?_,w7⟩
   obtain ⟨o,e,d⟩:=T.obj _ _ st5 b hb
   exact (I7.pin (b,o) (List.mem_append_right _ (List.mem_append_right _ (jI hb e)))).2.1
  cases f with
  | next=>obtain ⟨σ7,H7,I7,n7⟩:=q7; exact again I7 n7
  | cont=>obtain ⟨σ7,H7,I7,n7⟩:=q7; exact again I7 n7
  | brk=>obtain ⟨σ7,H7,I7,q7⟩:=q7; exact ⟨σ7,H7,I7.unpinned,q7⟩
  | ret v=>obtain ⟨x7,σ7,H7,I7,r7,q7⟩:=q7; exact ⟨x7,σ7,H7,I7.unpinned,r7,q7⟩
end

theorem bT {K:PySem.W.Frag} {a:Addr} {xs:List V} {g:TG} {tb:TS} {D:e_} {σ:St} {H:Hp} (Pv:Nat→St→Hp→Prop) (h0:Pv 0 σ H) (hl:∀ i σ H,i≤xs.length→Pv i σ H→SqL K H a xs)
  (hs:∀ i x σ H,xs[i]? = some x→Pv i σ H→g x σ H fun σ2 H2=>tb { D with nx:=Pv (i+1),ct:=Pv (i+1),bk:=D.nx } σ2 H2) (hd:∀ σ H,Pv xs.length σ H→D.nx σ H) :
  ∃ W:Nat→Nat→St→Hp→Prop,(∃ m,W 0 m σ H)∧∀ i m σ H,W i m σ H →
   ((Itl K a).stop i H∧D.nx σ H)∨((Itl K a).go i H∧∃ N:St→Hp→Prop,(∀ σ' H',N σ' H'→∃ m',m' < m∧W (i+1) m' σ' H')∧∀ x H',(Itl K a).yld i H x H'→g x σ H' fun σ2 H2=>tb { D with nx:=N,ct:=N,bk:=D.nx } σ2 H2):=by
 refine ⟨fun i m σ H=>m=xs.length - i∧i≤xs.length∧Pv i σ H,⟨xs.length,by simp,Nat.zero_le _,h0⟩,?_⟩
 rintro i m σ H ⟨rfl,hi,p⟩
 have q:=hl i σ H hi p
 by_cases hlt:i < xs.length
 ·refine .inr ⟨⟨xs,xs[i],q,by simp [hlt]⟩,Pv (i+1),fun σ' H' p'=>⟨xs.length - (i+1),by omega,rfl,hlt,p'⟩,fun x H' y=>?_⟩
  obtain ⟨e,y⟩:=y
  subst e
  exact hs i x σ _ (y xs q) p
 ·have e:i=xs.length:=by omega
  subst e
  exact .inl ⟨⟨xs,q,Nat.le_refl _⟩,hd σ H p⟩
theorem ub {lo:Int} {n:Nat} {g:TG} {tb:TS} {D:e_} {σ:St} {H:Hp} (Pv:Nat→St→Hp→Prop) (h0:Pv 0 σ H)
  (hs:∀ i σ H,i < n→Pv i σ H→g (.int (lo+i)) σ H fun σ2 H2=>tb { D with nx:=Pv (i+1),ct:=Pv (i+1),bk:=D.nx } σ2 H2) (hd:∀ σ H,Pv n σ H→D.nx σ H) :
  ∃ W:Nat→Nat→St→Hp→Prop,(∃ m,W 0 m σ H)∧∀ i m σ H,W i m σ H →
   ((Itr lo n).stop i H∧D.nx σ H)∨((Itr lo n).go i H∧∃ N:St→Hp→Prop,(∀ σ' H',N σ' H'→∃ m',m' < m∧W (i+1) m' σ' H')∧∀ x H',(Itr lo n).yld i H x H'→g x σ H' fun σ2 H2=>tb { D with nx:=N,ct:=N,bk:=D.nx } σ2 H2):=by
 refine ⟨fun i m σ H=>m=n - i∧i≤n∧Pv i σ H,⟨n,by simp,Nat.zero_le _,h0⟩,?_⟩
 rintro i m σ H ⟨rfl,hi,p⟩
 by_cases hlt:i < n
 ·refine .inr ⟨hlt,Pv (i+1),fun σ' H' p'=>⟨n - (i+1),by omega,rfl,hlt,p'⟩,fun x H' y=>?_⟩
  obtain ⟨e,y⟩:=y
  subst e y
  exact hs i σ _ hlt p
 ·have e:i=n:=by omega
  subst e
  exact .inl ⟨Nat.le_refl _,hd σ H p⟩

abbrev R2:=V→V→Hp→VK→Prop
def OpR (X:Cx) (f:Value→Value→Sem Value) (r:R2) : Prop:=
 ∀ (pins:List (Addr × Obj)) (s:Shared) (σ:St) (H:Hp) (x y:V) (v u:Value) (Q:VK),Inv X pins σ H s→aZ x v→aZ y u→r x y H Q →
  wpAny (model X.prog X.w) X.A (f v u) (EP X pins σ Q) X.xe s
def UnR (X:Cx) (f:Value→Sem Value) (r:V→Hp→VK→Prop) : Prop:=
 ∀ (pins:List (Addr × Obj)) (s:Shared) (σ:St) (H:Hp) (x:V) (v:Value) (Q:VK),Inv X pins σ H s→aZ x v→r x H Q →
  wpAny (model X.prog X.w) X.A (f v) (EP X pins σ Q) X.xe s
def fc (X:Cx) (f:Value) (r:List V→Hp→VK→Prop) : Prop:=
 ∀ (pins:List (Addr × Obj)) (s:Shared) (σ:St) (H:Hp) (xs:List V) (us:List Value) (Q:VK),Inv X pins σ H s→aU xs us→r xs H Q →
  wpAny (model X.prog X.w) X.A (call f us) (EP X pins σ Q) X.xe s
def tOp (r:R2) (ta tb:TE) : TE:=fun σ H Q=>ta σ H fun x H1=>tb σ H1 fun y H2=>r x y H2 Q
def tUn (r:V→Hp→VK→Prop) (ta:TE) : TE:=fun σ H Q=>ta σ H fun x H1=>r x H1 Q
def rI (C:Int→Int→Prop) (g:Int→Int→V) : R2:=fun x y H Q=>∃ i j,x = .int i∧y = .int j∧C i j∧Q (g i j) H
def rI0 (g:Int→Int→V) : R2:=fun x y H Q=>∃ i j,x = .int i∧y = .int j∧Q (g i j) H
def rU (g:Int→V) : V→Hp→VK→Prop:=fun x H Q=>∃ i,x = .int i∧Q (g i) H

section
variable {X:Cx} {a b c:Expr} {ta tb tc:TE} {pos:Pos}

theorem Au (ha:PE X a ta) (hb:PE X b tb) {pins:List (Addr × Obj)} {s:Shared} {σ:St} {H:Hp} {R:V→V→Hp→Prop} (I:Inv X pins σ H s)
  (h:ta σ H fun x H1=>tb σ H1 fun y H2=>R x y H2) {Q:Value→Shared→Prop} {f:Value→Value→Sem Value}
  (hf:∀ v u s2 x y H2,Inv X pins σ H2 s2→aZ x v→aZ y u→R x y H2→wpAny (model X.prog X.w) X.A (f v u) Q X.xe s2) :
  wpAny (model X.prog X.w) X.A (eval a X.env) (fun v s₁=>wpAny (model X.prog X.w) X.A (eval b X.env) (fun u s₂=>wpAny (model X.prog X.w) X.A (f v u) Q X.xe s₂) X.xe s₁) X.xe s:=by
 refine thn (ha pins s σ H _ I h) fun v s1 ⟨x,H1,I1,r1,q1⟩=>?_
 refine thn (hb pins s1 σ H1 _ I1 q1) fun u s2 ⟨y,H2,I2,r2,q2⟩=>?_
 exact hf v u s2 x y H2 I2 r1 r2 q2

theorem aO {op:Operator} {r:R2} (ho:OpR X (binaryOp op) r) (ha:PE X a ta) (hb:PE X b tb) : PE X (.BinOp a op b pos) (tOp r ta tb):=by
 intro pins s σ H Q I h
 exact wpAny_BinOp (Au ha hb I h fun v u s2 x y H2 I2 rx ry q=>ho pins s2 σ H2 x y v u Q I2 rx ry q)
theorem qx {op:UnaryOp} {r:V→Hp→VK→Prop} (ho:UnR X (unaryOp op) r) (ha:PE X a ta) : PE X (.UnaryOp op a pos) (tUn r ta):=by
 intro pins s σ H Q I h
 exact UnaryOp_ (thn (ha pins s σ H _ I h) fun v s1 ⟨x,H1,I1,r1,q1⟩=>ho pins s1 σ H1 x v Q I1 r1 q1)
theorem opI {f:Value→Value→Sem Value} {C:Int→Int→Prop} {g:Int→Int→Int}
  (rule:∀ (i j:Int) (t u:Tok) (s:Shared) (Q:Value→Shared→Prop) (E:Value→Shared→Prop),C i j→Q (.int (g i j) s.toks) { s with toks:=s.toks+1 }→wpAny (model X.prog X.w) X.A (f (.int i t) (.int j u)) Q E s) :
  OpR X f (rI C fun i j=>.int (g i j)):=by
 intro pins s σ H x y v u Q I rx ry h
 obtain ⟨i,j,rfl,rfl,hc,q⟩:=h
 obtain ⟨t,rfl⟩:=rx
 obtain ⟨t',rfl⟩:=ry
 exact rule i j t t' s _ _ hc ⟨.int (g i j),H,I.tok _,⟨_,rfl⟩,q⟩
theorem CD {f:Value→Value→Sem Value} {g:Int→Int→Int}
  (rule:∀ (i j:Int) (t u:Tok) (s:Shared) (Q:Value→Shared→Prop) (E:Value→Shared→Prop),Q (.int (g i j) s.toks) { s with toks:=s.toks+1 }→wpAny (model X.prog X.w) X.A (f (.int i t) (.int j u)) Q E s) :
  OpR X f (rI0 fun i j=>.int (g i j)):=by
 intro pins s σ H x y v u Q I rx ry h
 obtain ⟨i,j,rfl,rfl,q⟩:=h
 obtain ⟨t,rfl⟩:=rx
 obtain ⟨t',rfl⟩:=ry
 exact rule i j t t' s _ _ ⟨.int (g i j),H,I.tok _,⟨_,rfl⟩,q⟩
theorem Av {f:Value→Value→Sem Value} {g:Int→Int→Bool}
  (rule:∀ (i j:Int) (t u:Tok) (s:Shared) (Q:Value→Shared→Prop) (E:Value→Shared→Prop),Q (.bool (g i j)) s→wpAny (model X.prog X.w) X.A (f (.int i t) (.int j u)) Q E s) :
  OpR X f (rI0 fun i j=>.bl (g i j)):=by
 intro pins s σ H x y v u Q I rx ry h
 obtain ⟨i,j,rfl,rfl,q⟩:=h
 obtain ⟨t,rfl⟩:=rx
 obtain ⟨t',rfl⟩:=ry
 exact rule i j t t' s _ _ ⟨.bl (g i j),H,I,rfl,q⟩

def Es (i j:Int) : Prop:=0 < j∧j < 1073741824
def Et (i j:Int) : Prop:=0≤j∧j≤1000000∧i.natAbs < 2 ^ 64
def Aw (i j:Int) : Prop:=(-(2 ^ 64) < i∧i < 2 ^ 64)∨(-(2 ^ 64) < j∧j < 2 ^ 64)
theorem Aw.ok {i j:Int} (h:Aw i j) : IntMulOk i j:=by
 rcases h with ⟨h1,h2⟩ | ⟨h1,h2⟩
 ·exact .of_left (intBits_le_64 h1 h2)
 ·exact .of_right (intBits_le_64 h1 h2)
theorem b_:OpR X (binaryOp .Add) (rI0 fun i j=>.int (i+j)):=CD fun _ _ _ _ _ _ _ q=>add_int q
theorem vE:OpR X (binaryOp .Sub) (rI0 fun i j=>.int (i - j)):=CD fun _ _ _ _ _ _ _ q=>sub_int q
theorem sA:OpR X (binaryOp .Mult) (rI Aw fun i j=>.int (i * j)):=opI fun _ _ _ _ _ _ _ hc q=>mul_int q hc.ok
theorem xx:OpR X (binaryOp .FloorDiv) (rI Es fun i j=>.int (i / j)):=opI fun i j _ _ _ _ _ hc q=>by
 have h1:(0:Int) < j:=hc.1
 have h2:j < 1073741824:=hc.2
 exact floordiv_int (by omega) (by rw [Int.fdiv_eq_ediv_of_nonneg i (by omega)]; exact q) (.inl (PyProof.noPylong_small (by omega)))
theorem mx:OpR X (binaryOp .Mod) (rI (fun _ j=>0 < j) fun i j=>.int (i % j)):=opI fun i j _ _ _ _ _ hc q=>by
 have h1:(0:Int) < j:=hc
 exact mod_int' (by omega) (by rw [Int.fmod_eq_emod_of_nonneg i (by omega)]; exact q)
theorem CF:OpR X (binaryOp .Pow) (rI Et fun i j=>.int (i ^ j.toNat)):=opI fun _ _ _ _ _ _ _ hc q=>pow_int_small hc.1 hc.2.1 hc.2.2 q
theorem unI {f:Value→Sem Value} {g:Int→Int}
  (rule:∀ (i:Int) (t:Tok) (s:Shared) (Q:Value→Shared→Prop) (E:Value→Shared→Prop),Q (.int (g i) s.toks) { s with toks:=s.toks+1 }→wpAny (model X.prog X.w) X.A (f (.int i t)) Q E s) :
  UnR X f (rU fun i=>.int (g i)):=by
 intro pins s σ H x v Q I rx h
 obtain ⟨i,rfl,q⟩:=h
 obtain ⟨t,rfl⟩:=rx
 exact rule i t s _ _ ⟨.int (g i),H,I.tok _,⟨_,rfl⟩,q⟩
theorem my:UnR X (unaryOp .USub) (rU fun i=>.int (-i)):=unI fun _ _ _ _ _ q=>neg_int q
end

def CG:V→V→Bool
 | .non,.non=>true | .non,.int _=>true | .int _,.non=>true | .non,.bl _=>true | .bl _,.non=>true | .non,.str _=>true | .str _,.non=>true
 | .int _,.int _=>true | .bl _,.bl _=>true | .str _,.str _=>true | .byt _,.byt _=>true
 | .int _,.str _=>true | .str _,.int _=>true | .bl _,.str _=>true | .str _,.bl _=>true
 | _,_=>false
def rEq:R2:=fun x y H Q=>CG x y=true∧Q (.bl (decide (x=y))) H
def rNe:R2:=fun x y H Q=>CG x y=true∧Q (.bl (!decide (x=y))) H

theorem xy {i j:Int} : decide (V.int i=V.int j)=(i == j):=by
 rw [Bool.eq_iff_iff]
 simp
theorem za {i j:Bool} : decide (V.bl i=V.bl j)=(i == j):=by
 rw [Bool.eq_iff_iff]
 simp
theorem xz {i j:Str} : decide (V.str i=V.str j)=(i == j):=by
 rw [Bool.eq_iff_iff]
 simp
theorem xA {i j:Array UInt8} : decide (V.byt i=V.byt j)=(i.toList == j.toList):=by
 rw [Bool.eq_iff_iff]
 cases i
 cases j
 simp

section
variable {X:Cx} {a b c:Expr} {ta tb tc:TE} {pos:Pos}
theorem bB {pins:List (Addr × Obj)} {σ:St} {H:Hp} {s:Shared} {Q:VK} {k k':Bool} (I:Inv X pins σ H s) (q:Q (.bl k) H) (e:k=k') : EP X pins σ Q (.bool k') s:=by
 subst e
 exact ⟨.bl k,H,I,rfl,q⟩
theorem a_:OpR X (compareOp .Eq) rEq:=by
 intro pins s σ H x y v u Q I rx ry h
 obtain ⟨hs,q⟩:=h
 cases x with
 | non =>
  cases rx
  cases y with
  | non=>cases ry; exact PySem.EqNone.eq_none_none (bB I q (by simp))
  | bl j=>cases ry; exact PySem.EqNone.eq_none_bool (bB I q (by simp))
  | int j=>obtain ⟨t',rfl⟩:=ry; exact PySem.EqNone.eq_none_int (bB I q (by simp))
  | str j=>obtain ⟨t',rfl⟩:=ry; exact PySem.EqNone.eq_none_str (bB I q (by simp))
  | _=>exact absurd (show false=true from hs) Bool.false_ne_true
 | bl i =>
  cases rx
  cases y with
  | non=>cases ry; exact PySem.EqNone.eq_bool_none (bB I q (by simp))
  | bl j=>cases ry; exact eq_bool (bB I q za)
  | str j=>obtain ⟨t',rfl⟩:=ry; exact PySem.EqMixed.eq_bool_str (bB I q (by simp))
  | _=>exact absurd (show false=true from hs) Bool.false_ne_true
 | int i =>
  obtain ⟨t,rfl⟩:=rx
  cases y with
  | non=>cases ry; exact PySem.EqNone.eq_int_none (bB I q (by simp))
  | int j=>obtain ⟨t',rfl⟩:=ry; exact eq_int (bB I q xy)
  | str j=>obtain ⟨t',rfl⟩:=ry; exact PySem.EqMixed.eq_int_str (bB I q (by simp))
  | _=>exact absurd (show false=true from hs) Bool.false_ne_true
 | str i =>
  obtain ⟨t,rfl⟩:=rx
  cases y with
  | non=>cases ry; exact PySem.EqNone.eq_str_none (bB I q (by simp))
  | bl j=>cases ry; exact PySem.EqMixed.eq_str_bool (bB I q (by simp))
  | int j=>obtain ⟨t',rfl⟩:=ry; exact PySem.EqMixed.eq_str_int (bB I q (by simp))
  | str j=>obtain ⟨t',rfl⟩:=ry; exact eq_str (bB I q xz)
  | _=>exact absurd (show false=true from hs) Bool.false_ne_true
 | byt i =>
  obtain ⟨t,rfl⟩:=rx
  cases y with
  | byt j=>obtain ⟨t',rfl⟩:=ry; exact PySem.W.eq_bytes (bB I q xA)
  | _=>exact absurd (show false=true from hs) Bool.false_ne_true
 | _=>cases y <;> exact absurd (show false=true from hs) Bool.false_ne_true
theorem io:OpR X (compareOp .NotEq) rNe:=by
 intro pins s σ H x y v u Q I rx ry h
 obtain ⟨hs,q⟩:=h
 cases x with
 | non =>
  cases rx
  cases y with
  | non=>cases ry; exact PySem.EqNone.ne_none_none (bB I q (by simp))
  | bl j=>cases ry; exact PySem.EqNone.ne_none_bool (bB I q (by simp))
  | int j=>obtain ⟨t',rfl⟩:=ry; exact PySem.EqNone.ne_none_int (bB I q (by simp))
  | str j=>obtain ⟨t',rfl⟩:=ry; exact PySem.EqNone.ne_none_str (bB I q (by simp))
  | _=>exact absurd (show false=true from hs) Bool.false_ne_true
 | bl i =>
  cases rx
  cases y with
  | non=>cases ry; exact PySem.EqNone.ne_bool_none (bB I q (by simp))
  | bl j=>cases ry; exact ne_bool (bB I q (congrArg not za))
  | str j=>obtain ⟨t',rfl⟩:=ry; exact PySem.EqMixed.ne_bool_str (bB I q (by simp))
  | _=>exact absurd (show false=true from hs) Bool.false_ne_true
 | int i =>
  obtain ⟨t,rfl⟩:=rx
  cases y with
  | non=>cases ry; exact PySem.EqNone.ne_int_none (bB I q (by simp))
  | int j=>obtain ⟨t',rfl⟩:=ry; exact ne_int (bB I q (congrArg not xy))
  | str j=>obtain ⟨t',rfl⟩:=ry; exact PySem.EqMixed.ne_int_str (bB I q (by simp))
  | _=>exact absurd (show false=true from hs) Bool.false_ne_true
 | str i =>
  obtain ⟨t,rfl⟩:=rx
  cases y with
  | non=>cases ry; exact PySem.EqNone.ne_str_none (bB I q (by simp))
  | bl j=>cases ry; exact PySem.EqMixed.ne_str_bool (bB I q (by simp))
  | int j=>obtain ⟨t',rfl⟩:=ry; exact PySem.EqMixed.ne_str_int (bB I q (by simp))
  | str j=>obtain ⟨t',rfl⟩:=ry; exact ne_str (bB I q (congrArg not xz))
  | _=>exact absurd (show false=true from hs) Bool.false_ne_true
 | byt i =>
  obtain ⟨t,rfl⟩:=rx
  cases y with
  | byt j=>obtain ⟨t',rfl⟩:=ry; exact PySem.W.ne_bytes (bB I q (congrArg not xA))
  | _=>exact absurd (show false=true from hs) Bool.false_ne_true
 | _=>cases y <;> exact absurd (show false=true from hs) Bool.false_ne_true

theorem u0:OpR X (compareOp .Lt) (rI0 fun i j=>.bl (decide (i < j))):=Av fun _ _ _ _ _ _ _ q=>lt_int q
theorem xZ:OpR X (compareOp .LtE) (rI0 fun i j=>.bl (decide (i≤j))):=Av fun _ _ _ _ _ _ _ q=>le_int q
theorem jJ:OpR X (compareOp .Gt) (rI0 fun i j=>.bl (decide (j < i))):=Av fun _ _ _ _ _ _ _ q=>gt_int q
theorem ji:OpR X (compareOp .In) (fun x y H Q=>∃ i j,x = .str i∧y = .str j∧Q (.bl (!(Builtin.Str.occurrences j i 0 j.length 1).isEmpty)) H):=by
 intro pins s σ H x y v u Q I rx ry h
 obtain ⟨i,j,rfl,rfl,q⟩:=h
 obtain ⟨t,rfl⟩:=rx
 obtain ⟨t',rfl⟩:=ry
 exact in_str (bB I q rfl)

theorem CI:OpR X (compareOp .Is) (fun x y H Q=>y = .non∧Q (.bl (decide (x = .non))) H):=by
 intro pins s σ H x y v u Q I rx ry h
 obtain ⟨rfl,q⟩:=h
 cases ry
 refine is_none_gen (bB I q ?_)
 cases x <;> first
  | (cases rx; rfl)
  | (obtain ⟨t,rfl⟩:=rx; rfl)
theorem oP:OpR X (compareOp .NotIn) (fun x y H Q=>∃ i j,x = .str i∧y = .str j∧Q (.bl (!(!(Builtin.Str.occurrences j i 0 j.length 1).isEmpty))) H):=by
 intro pins s σ H x y v u Q I rx ry h
 obtain ⟨i,j,rfl,rfl,q⟩:=h
 obtain ⟨t,rfl⟩:=rx
 obtain ⟨t',rfl⟩:=ry
 exact notIn_str (bB I q rfl)
theorem nomark (b:Expr) {op:CmpOp} (h:op≠.In:=by decide) (h2:op≠.NotIn:=by decide) : behindInMarks op b=false:=by
 have e1:(op == CmpOp.In)=false:=by cases op <;> first | rfl | exact absurd rfl h
 have e2:(op == CmpOp.NotIn)=false:=by cases op <;> first | rfl | exact absurd rfl h2
 cases b <;> simp [behindInMarks,e1,e2]
theorem eI {op:CmpOp} {r:R2} (ho:OpR X (compareOp op) r) (ha:PE X a ta) (hb:PE X b tb) (hm:behindInMarks op b=false) : PE X (.Compare a [op] [b] pos) (tOp r ta tb):=by
 intro pins s σ H Q I h
 exact wpAny_Compare1 (Au ha hb I h fun v u s2 x y H2 I2 rx ry q=>ho pins s2 σ H2 x y v u Q I2 rx ry q) hm
def Bn (t:TE) : TT:=fun σ H Q=>t σ H fun x H'=>∃ k,x = .bl k∧Q k H'
theorem au {op:CmpOp} {r:R2} (ho:OpR X (compareOp op) r) (ha:PE X a ta) (hb:PE X b tb) (hm:behindInMarks op b=false) : PT X (.Compare a [op] [b] pos) (Bn (tOp r ta tb)):=by
 intro pins s σ H Q I h
 refine wpAny_isTrue_Compare1 (thn (ha pins s σ H _ I h) fun v s1 ⟨x,H1,I1,r1,q1⟩=>thn (hb pins s1 σ H1 _ I1 q1) fun u s2 ⟨y,H2,I2,r2,q2⟩ =>
  thn (ho pins s2 σ H2 x y v u _ I2 r1 r2 q2) fun c s3 ⟨z,H3,I3,r3,k,e,q3⟩=>?_) hm
 subst e
 cases r3
 exact wpAny_truthy_bool ⟨H3,I3,q3⟩
theorem jX:(sizeLine:Nat) < 2 ^ 63:=by rw [sizeLine_eq]; decide
theorem cy:OpR X (binaryOp .Add) (fun x y H Q=>∃ i j,x = .str i∧y = .str j∧i.length+j.length≤sizeLine∧Q (.str (i++j)) H):=by
 intro pins s σ H x y v u Q I rx ry h
 obtain ⟨i,j,rfl,rfl,hz,q⟩:=h
 obtain ⟨t,rfl⟩:=rx
 obtain ⟨t',rfl⟩:=ry
 exact add_str (fun t' tk=>⟨.str (i++j),H,I.tok _,⟨_,rfl⟩,q⟩) hz
theorem gk {x:V} {us:List Value} (r:aU [x] us) : ∃ u,us=[u]∧aZ x u:=by
 cases r with
 | cons r1 r2=>cases r2; exact ⟨_,rfl,r1⟩
theorem u5 {x y:V} {us:List Value} (r:aU [x,y] us) : ∃ u w',us=[u,w']∧aZ x u∧aZ y w':=by
 cases r with
 | cons r1 r2 =>
  cases r2 with
  | cons r3 r4=>cases r4; exact ⟨_,_,rfl,r1,r3⟩
theorem uc (hc:X.calm=true) : fc X (.builtin "max") (fun xs H Q=>∃ i j,xs=[.int i,.int j]∧Q (.int (if j > i then j else i)) H):=by
 intro pins s σ H xs us Q I r h
 obtain ⟨i,j,rfl,q⟩:=h
 obtain ⟨u,w',rfl,⟨t,rfl⟩,⟨t',rfl⟩⟩:=u5 r
 refine max_two_ints (I.ok.hd hc) fun h' tk k=>⟨_,H,I.kept k,?_,q⟩
 by_cases hj:j > i
 ·rw [if_pos hj,if_pos hj]; exact ⟨_,rfl⟩
 ·rw [if_neg hj,if_neg hj]; exact ⟨_,rfl⟩
theorem zb:fc X (.type "int") (fun xs H Q=>(∃ i,xs=[.int i]∧Q (.int i) H)∨∃ k,xs=[.bl k]∧Q (.int (if k then 1 else 0)) H):=by
 intro pins s σ H xs us Q I r h
 rcases h with ⟨i,rfl,q⟩ | ⟨k,rfl,q⟩
 ·obtain ⟨u,rfl,t,rfl⟩:=gk r
  exact call_int_int ⟨.int i,H,I,⟨_,rfl⟩,q⟩
 ·obtain ⟨u,rfl,r1⟩:=gk r
  cases r1
  exact call_int_bool ⟨.int (if k then 1 else 0),H,I.tok _,⟨_,rfl⟩,q⟩
theorem oQ:fc X (.type "str") (fun xs H Q=>∃ i,xs=[.int i]∧i.natAbs.log2 < 1920∧Q (.str (toString i)) H):=by
 intro pins s σ H xs us Q I r h
 obtain ⟨i,rfl,hz,q⟩:=h
 obtain ⟨u,rfl,t,rfl⟩:=gk r
 exact PySem.P.str_of_int hz ⟨.str _,H,I.tok _,⟨_,rfl⟩,q⟩
def Eu (K:PySem.W.Frag) (x:V) (H:Hp) (n:Nat) : Prop:=
 match x with
 | .str y=>y.length≤sizeLine∧n=y.length
 | .byt y=>y.size≤sizeLine∧n=y.size
 | .ref p=>(∃ xs,SqL K H p xs∧n=xs.length)∨∃ xs,SqT K H p xs∧n=xs.length
 | _=>False
theorem mS:fc X (.builtin "len") (fun xs H Q=>∃ x n,xs=[x]∧Eu X.K x H n∧Q (.int n) H):=by
 intro pins s σ H xs us Q I r h
 obtain ⟨x,n,rfl,e,q⟩:=h
 obtain ⟨u,rfl,rx⟩:=gk r
 have hl:=jX
 have hs:sizeLine=16777216:=sizeLine_eq
 cases x with
 | str y =>
  obtain ⟨t,rfl⟩:=rx
  obtain ⟨hy,e'⟩ : y.length≤sizeLine∧n=y.length:=e
  subst e'
  exact len_str (by omega) ⟨.int _,H,I.tok _,⟨_,rfl⟩,q⟩
 | byt y =>
  obtain ⟨t,rfl⟩:=rx
  obtain ⟨hy,e'⟩ : y.size≤sizeLine∧n=y.size:=e
  subst e'
  exact PySem.W.len_bytes (by omega) ⟨.int _,H,I.tok _,⟨_,rfl⟩,q⟩
 | ref p =>
  cases rx
  have e':(∃ xs,SqL X.K H p xs∧n=xs.length)∨∃ xs,SqT X.K H p xs∧n=xs.length:=e
  rcases e' with ⟨xs,hx,e'⟩ | ⟨xs,hx,e'⟩
  ·subst e'
   obtain ⟨its,r',pl,hz⟩:=I.list hx
   have hlen:=r'.length
   exact Calls.call_len_list pl.isList (by simp only [List.size_toArray]; omega) ⟨.int xs.length,H,I.tok _,⟨_,by simp only [List.size_toArray]; rw [hlen]⟩,q⟩
  ·subst e'
   obtain ⟨its,r',pl,hz⟩:=I.tuple hx
   have hlen:=r'.length
   exact len_tuple pl (by simp only [List.size_toArray]; omega) ⟨.int xs.length,H,I.tok _,⟨_,by simp only [List.size_toArray]; rw [hlen]⟩,q⟩
 | _=>exact (show False from e).elim
end

structure qX (h:Heap) (x dx C:Addr) (mA:Str→Option Value) : Prop where
 obj:h.get? x=some (PySem.W.instObj C dx)
 ns:h.Ns1 dx mA
 ne:dx≠x

theorem zc {h:Heap} {dx:Addr} {mA:Str→Option Value} (n:h.Ns1 dx mA) : ∃ od,h.get? dx=some od∧∀ name,PySem.W.lookIn name od=some (mA name):=by
 obtain ⟨o,es,ep,ho,hd,hk,_,hm⟩:=n
 refine ⟨o,ho,fun name=>?_⟩
 have e:=hm name
 unfold nsFind findBy at e
 rw [← Array.find?_toList] at e
 unfold PySem.W.lookIn
 rw [hd]
 dsimp only
 split
 ·rename_i y q
  rw [q] at e
  exact congrArg some e
 ·rename_i q
  rw [q] at e
  have a:es.toList.any (·.refKey)=false:=by
   rw [List.any_eq_false]
   intro y hy
   obtain ⟨z,t,hkey⟩:=hk y (Array.mem_toList_iff.mp hy)
   simp [DictEntry.refKey,hkey]
  have a':¬ es.toList.any (·.refKey)=true:=by rw [a]; exact Bool.false_ne_true
  rw [if_neg a']
  exact congrArg some e

theorem qX.look {h:Heap} {x dx C:Addr} {mA:Str→Option Value} (I:qX h x dx C mA) : ∃ od,PySem.W.InstAt h x (PySem.W.instObj C dx) C (some od)∧∀ name,PySem.W.lookIn name od=some (mA name):=
 let ⟨od,ho,hl⟩:=zc I.ns
 ⟨od,⟨I.obj,rfl,rfl,ho⟩,hl⟩

section
variable {prog:Program} {w:World} {A:Around} {E:Value→Shared→Prop} {s:Shared} {K:PySem.W.Frag} {x dx C f:Addr} {mA:Str→Option Value} {name:Str} {v:Value}

theorem BD {expr:Bool} {Q:Value→Shared→Prop} (X:K.In s.heap) (I:qX s.heap x dx C mA) (hg:PySem.W.plainGet K C name=true) (hh:PySem.W.hasDictIn K C=true)
  (ha:PySem.W.findIn K (.ref C) name=some none) (hv:mA name=some v) (hv':PySem.W.handedIn v=true) (h:Q v { s with toks:=s.toks+1 }) :
  wpAny (model prog w) A (getAttr (.ref x) name expr) Q E s:=by
 obtain ⟨od,J,hl⟩:=I.look
 exact PySem.W.get_value X J (PySem.W.plainGet_of hg).1 (PySem.W.findObj_own hh ha rfl (by rw [hl,hv])) hv' h

theorem Ax {pl:Sem Bool} {Q:Value × List Value→Shared→Prop} (X:K.In s.heap) (I:qX s.heap x dx C mA) (hg:PySem.W.plainGet K C name=true)
  (hf:PySem.W.findIn K (.ref C) name=some (some (.ref f))) (ht:PySem.W.isFn K (.ref f)=true) (hv:mA name=none) (h:Q (.ref f,[.ref x]) s) :
  wpAny (model prog w) A (getMethod (.ref x) name pl) Q E s:=by
 obtain ⟨od,J,hl⟩:=I.look
 exact PySem.W.method_fn X J (PySem.W.plainGet_of hg).1 (PySem.W.plainGet_of hg).2 hf (beq_iff_eq.mp ht) (by show (PySem.W.lookIn name od).map (·.isSome)=some false; rw [hl,hv]; rfl) h

theorem BE {ns:List Str} {Q:Unit→Shared→Prop} (X:K.In s.heap) (I:qX s.heap x dx C mA)
  (hs:PySem.W.findIn K (.ref C) "__setattr__" = some (some (.builtin "object.__setattr__"))) (hp:PySem.W.plainOver K C=true) (ht:PySem.W.takerIn K C name=some none) (hh:PySem.W.hasDictIn K C=true)
  (hw:PySem.Within mA ns) (hsz:ns.length≤sizeLine)
  (h:∀ h',qX h' x dx C (fun y=>if y=name then some v else mA y)→Heap.SameBut dx s.heap h'→Q () { s with heap:=h',toks:=s.toks+2 }) :
  wpAny (model prog w) A (setAttr (.ref x) name v) Q E s:=by
 obtain ⟨od,J,hl⟩:=I.look
 refine PySem.W.set_plain X J hs (PySem.W.osa_open (s:={ s with toks:=s.toks+1 }) (r:=none) X J hp ht fun b=>?_)
 obtain ⟨cd,hc,hd'⟩:=PySem.W.any_some hh
 have hx:s.heap.get? x=some ⟨.ref C,some dx,.plain,#[]⟩:=I.obj
 refine wpAny_bind (wpAny_pure (wpAny_bind (wpAny_bind (wpAny_loadPart hx (wpAny_bind (PySem.W.Looks.here (s:={ s with toks:=s.toks+1 }) (PySem.W.looks_clsIn X hc) ?_))))))
 rw [hd']
 refine wpAny_pure (a:=some dx) (wpAny_bind (wpAny_pure (wpAny_bind ?_)))
 refine wpAny_nsSet1 (s:={ s with toks:=s.toks+1 }) I.ns fun h' hn2 hs2=>?_
 obtain ⟨oD,esD,epD,hoD,hdD,hcD⟩:=hn2.count (PySem.Within.cons name v hw)
 refine wpAny_bind (wpAny_lookBehind hoD (by rw [hdD]; exact pastItsLine_dict (Nat.le_trans hcD (by rw [List.length_cons]; omega))) ?_)
 exact wpAny_pure (h _ ⟨(hs2.2 _ (Ne.symm I.ne)).trans I.obj,hn2,I.ne⟩ hs2)

theorem Ay {R:Result→Shared→Prop} {vs:List Value} {kw:List (Str × Value)} (X:K.In s.heap) (hm:PySem.W.makesIn K C=true)
  (hi:PySem.W.findIn K (.ref C) "__init__" = some (some (.ref f))) (hf:PySem.W.typeIn K (.ref f)=some (.type "function"))
  (h:codeAny (model prog w) (A.under (.builtin "type.__call__" ⟨.ref C :: vs,kw⟩)) (.call (.ref f) ⟨.ref (s.heap.objs.size+1) :: vs,kw⟩) (PySem.W.InitBack (s.heap.objs.size+1) R)
   { s with heap:=(s.heap.push PySem.W.emptyDict).push (PySem.W.instObj C s.heap.objs.size) }) :
  codeAny (model prog w) A (.call (.ref C) ⟨vs,kw⟩) R s:=by
 obtain ⟨hh,g,d,t,os⟩:=s
 exact PySem.W.make_core (PySem.W.makes_of X hm) (PySem.W.looks_findIn X hi) (fun self=>PySem.W.bind_fn X self hf) (.inl rfl) h
end

def bx (f:Str) (v:V) : List (Str × V)→List (Str × V)
 | []=>[(f,v)]
 | (g,x) :: r=>if g=f then (g,v) :: r else (g,x) :: bx f v r
theorem qK (f g:Str) (v:V) : ∀ fs:List (Str × V),(bx f v fs).lookup g=if g=f then some v else fs.lookup g
 | []=>by
  show List.lookup g [(f,v)]=_
  by_cases h:g=f
  ·have hb:(g == f)=true:=beq_iff_eq.mpr h
   simp only [List.lookup,hb,if_pos h]
  ·have hb:(g == f)=false:=beq_eq_false_iff_ne.mpr h
   simp only [List.lookup,hb,if_neg h]
 | (k,x) :: r=>by
  have ih:=qK f g v r
  rw [show bx f v ((k,x) :: r)=(if k=f then (k,v) :: r else (k,x) :: bx f v r) from rfl]
  by_cases hk:k=f
  ·rw [if_pos hk]
   by_cases h:g=k
   ·have hb:(g == k)=true:=beq_iff_eq.mpr h
    simp only [List.lookup,hb,if_pos (h.trans hk)]
   ·have hb:(g == k)=false:=beq_eq_false_iff_ne.mpr h
    simp only [List.lookup,hb,if_neg (fun e:g=f=>h (e.trans hk.symm))]
  ·rw [if_neg hk]
   by_cases h:g=k
   ·have hb:(g == k)=true:=beq_iff_eq.mpr h
    simp only [List.lookup,hb,if_neg (fun e:g=f=>hk (h.symm.trans e))]
   ·have hb:(g == k)=false:=beq_eq_false_iff_ne.mpr h
    simp only [List.lookup,hb]
    exact ih
theorem oR (f:Str) (v:V) : ∀ fs:List (Str × V),f ∈ (bx f v fs).map (·.1)∧∀ g,g ∈ fs.map (·.1)→g ∈ (bx f v fs).map (·.1)
 | []=>⟨by simp [bx],fun g h=>by simp at h⟩
 | (k,x) :: r=>by
  obtain ⟨i1,i2⟩:=oR f v r
  rw [show bx f v ((k,x) :: r)=(if k=f then (k,v) :: r else (k,x) :: bx f v r) from rfl]
  by_cases hk:k=f
  ·rw [if_pos hk]
   subst hk
   exact ⟨by simp,fun g h=>by simpa using h⟩
  ·rw [if_neg hk]
   refine ⟨?_,fun g h=>?_⟩
   ·rw [List.map_cons]
    exact List.mem_cons_of_mem _ i1
   ·rw [List.map_cons] at h ⊢
    rcases List.mem_cons.mp h with e | e
    ·exact List.mem_cons.mpr (.inl e)
    ·exact List.mem_cons_of_mem _ (i2 g e)
theorem qL (f:Str) (v:V) : ∀ fs:List (Str × V),(bx f v fs).length≤fs.length+1
 | []=>by simp [bx]
 | (k,x) :: r=>by
  have ih:=qL f v r
  rw [show bx f v ((k,x) :: r)=(if k=f then (k,v) :: r else (k,x) :: bx f v r) from rfl]
  by_cases hk:k=f
  ·rw [if_pos hk,List.length_cons,List.length_cons]; omega
  ·rw [if_neg hk,List.length_cons,List.length_cons]; omega

theorem gq.some_of {v:V} {o:Option Value} (r:gq (some v) o) : ∃ u,o=some u∧aZ v u:=by
 cases o with
 | none=>exact (show False from r).elim
 | some u=>exact ⟨u,rfl,r⟩
theorem gq.none_of {o:Option Value} (r:gq none o) : o=none:=by
 cases o with
 | none=>rfl
 | some u=>exact (show False from r).elim
theorem zd {v:V} {u:Value} (r:aZ v u) : PySem.W.handedIn u=true:=by
 cases v with
 | non=>cases (show u=Value.none from r); rfl
 | bl b=>cases (show u=Value.bool b from r); rfl
 | int i=>obtain ⟨t,e⟩:=(show ∃ t,u=Value.int i t from r); cases e; rfl
 | str x=>obtain ⟨t,e⟩:=(show ∃ t,u=Value.str x t from r); cases e; rfl
 | byt b=>obtain ⟨t,e⟩:=(show ∃ t,u=Value.bytes b t from r); cases e; rfl
 | flt b=>obtain ⟨t,e⟩:=(show ∃ t,u=Value.float b t from r); cases e; rfl
 | ref a=>cases (show u=Value.ref a from r); rfl
 | ty n=>cases (show u=Value.type n from r); rfl

section
variable {P:Program} {w:World} {H H':Hp} {h h':Heap} {a C dx:Addr} {fs fs':List (Str × V)}
theorem qy (hok:HOk P w H h) (e:H a=some (.ins C dx fs)) : ∃ mA,qX h a dx C mA∧(∀ f,gq (fs.lookup f) (mA f))∧PySem.Within mA (fs.map (·.1))∧fs.length≤1000∧H dx=some (.own a):=by
 obtain ⟨d,z,ne,ob,mA,n,r,q⟩:=(show bQ P w H h a (.ins C dx fs) from hok a _ e)
 exact ⟨mA,⟨ob,n,ne⟩,r,q,z,d⟩
end

structure Cls (K:PySem.W.Frag) (C:Addr) : Prop where
 pg:PySem.W.plainGet K C Str.empty=true
 hd:PySem.W.hasDictIn K C=true
 po:PySem.W.plainOver K C=true
 sa:PySem.W.findIn K (.ref C) "__setattr__" = some (some (.builtin "object.__setattr__"))
theorem Cls.get {K:PySem.W.Frag} {C:Addr} (c:Cls K C) (f:Str) : PySem.W.plainGet K C f=true:=c.pg
def cK (K:PySem.W.Frag) (C:Addr) (f:Str) : Prop:=PySem.W.findIn K (.ref C) f=some none
theorem cK.taker {K:PySem.W.Frag} {C:Addr} {f:Str} (n:cK K C f) : PySem.W.takerIn K C f=some none:=by
 unfold PySem.W.takerIn
 rw [show PySem.W.findIn K (.ref C) f=some none from n]
 rfl
structure x5 (K:PySem.W.Frag) (C:Addr) (m:Str) (f:Addr) : Prop where
 at_:PySem.W.findIn K (.ref C) m=some (some (.ref f))
 fn:PySem.W.isFn K (.ref f)=true
 kp:PySem.W.keepIn K (.ref f)=true

section
variable {X:Cx} {pins:List (Addr × Obj)} {σ:St} {H:Hp} {s:Shared} {a C dx:Addr} {fs:List (Str × V)} {f:Str} {v:V} {A:Around} {E:Value→Shared→Prop}

theorem x6 {b:Bool} {Q:Value→Shared→Prop} (I:Inv X pins σ H s) (e:H a=some (.ins C dx fs)) (c:Cls X.K C) (n:cK X.K C f) (l:fs.lookup f=some v)
  (h:∀ u s',Inv X pins σ H s'→aZ v u→Q u s') : wpAny (model X.prog X.w) A (getAttr (.ref a) f b) Q E s:=by
 obtain ⟨mA,O,r,_,_,_⟩:=qy I.hok e
 obtain ⟨u,hu,ru⟩:=gq.some_of (v:=v) (o:=mA f) (by rw [← l]; exact r f)
 exact BD I.kIn O (c.get f) c.hd n hu (zd ru) (h u _ (I.tok _) ru)

theorem sC {m:Str} {g:Addr} {pl:Sem Bool} {Q:Value × List Value→Shared→Prop} (I:Inv X pins σ H s) (e:H a=some (.ins C dx fs)) (c:Cls X.K C) (k:x5 X.K C m g) (l:fs.lookup m=none)
  (h:Q (.ref g,[.ref a]) s) : wpAny (model X.prog X.w) A (getMethod (.ref a) m pl) Q E s:=by
 obtain ⟨mA,O,r,_,_,_⟩:=qy I.hok e
 have hn:mA m=none:=gq.none_of (by rw [← l]; exact r m)
 exact Ax I.kIn O (c.get m) k.at_ k.fn hn h

theorem x8 {y:V} {u:Value} {Q:Unit→Shared→Prop} (I:Inv X pins σ H s) (e:H a=some (.ins C dx fs)) (c:Cls X.K C) (n:cK X.K C f) (hl:fs.length < 1000) (ry:aZ y u)
  (h:∀ s',Inv X pins σ (upd H a (.ins C dx (bx f y fs))) s'→Q () s') : wpAny (model X.prog X.w) A (setAttr (.ref a) f u) Q E s:=by
 obtain ⟨mA,O,r,wi,_,ho⟩:=qy I.hok e
 have hz:(fs.map (·.1)).length≤sizeLine:=by rw [List.length_map,sizeLine_eq]; omega
 refine BE I.kIn O c.sa c.po n.taker c.hd wi hz fun h' O' sb=>h _ ?_
 have hd:∃ o,h'.get? dx=some o:=let ⟨o,_,_,e',_⟩:=O'.ns; ⟨o,e'⟩
 refine I.write (x:=a) (e:=dx) (by rw [e]; exact True.intro) (.inr ho) (fun b q hb z=>(sb.2 b hb).trans z) hd ?_
 refine ⟨by rw [aj O.ne]; exact ho,?_,O.ne,O'.obj,_,O'.ns,fun g=>?_,fun g hg=>?_⟩
 ·have:=qL f y fs; omega
 ·show gq ((bx f y fs).lookup g) (if g=f then some u else mA g)
  rw [qK]
  by_cases q:g=f
  ·rw [if_pos q,if_pos q]; exact ry
  ·rw [if_neg q,if_neg q]; exact r g
 ·by_cases q:g=f
  ·rw [q]; exact (oR f y fs).1
  ·refine (oR f y fs).2 g (wi g fun z=>hg ?_)
   show (if g=f then some u else mA g)=none
   rw [if_neg q]; exact z

theorem Inv.made (I:Inv X pins σ H s) : Inv X pins σ (upd (upd H s.heap.objs.size (.own (s.heap.objs.size+1))) (s.heap.objs.size+1) (.ins C s.heap.objs.size []))
  { s with heap:=(s.heap.push PySem.W.emptyDict).push (PySem.W.instObj C s.heap.objs.size) }:=by
 have e1:(s.heap.push PySem.W.emptyDict).get? s.heap.objs.size=some PySem.W.emptyDict:=Heap.get?_push_size s.heap rfl
 have e2:((s.heap.push PySem.W.emptyDict).push (PySem.W.instObj C s.heap.objs.size)).get? (s.heap.objs.size+1)=some (PySem.W.instObj C s.heap.objs.size):=by
  have:=Heap.get?_push_size (s.heap.push PySem.W.emptyDict) (o:=PySem.W.instObj C s.heap.objs.size) rfl
  rwa [Heap.size_push] at this
 have e3:(s.heap.push PySem.W.emptyDict).Ns s.heap.objs.size (fun _=>none):=⟨PySem.W.emptyDict,#[],_,e1,rfl,(fun e he=>absurd he (by simp)),fun _=>rfl⟩
 have I1:=I.laid (a:=s.heap.objs.size) (o:=.own (s.heap.objs.size+1)) (h':=s.heap.push PySem.W.emptyDict) (t':=s.toks) (fun b u q=>Heap.get?_push_of_some _ q) (Nat.le_refl _) ⟨_,e1⟩
 refine I1.laid (a:=s.heap.objs.size+1) (o:=.ins C s.heap.objs.size []) (t':=s.toks) (fun b u q=>Heap.get?_push_of_some _ q) (Nat.le_of_eq (Heap.size_push _ _)) ?_
 have ne:s.heap.objs.size≠s.heap.objs.size+1:=Nat.ne_of_lt (Nat.lt_succ_self _)
 refine ⟨by rw [aj ne,ae],Nat.zero_le _,ne,e2,fun _=>none,(Heap.Ns1.of_empty e3).at fun o q=>Heap.get?_push_of_some _ q,fun _=>True.intro,fun y hy=>absurd rfl hy⟩

theorem BF {prog:Program} {w:World} {env:Env} {e:Expr} {f:Str} {pos:Pos} {s:Shared} {Q:Value→Shared→Prop} (hb:attributeBase e f env (eval e env)=eval e env)
  (h:wpAny (model prog w) A (eval e env) (fun o s₁=>wpAny (model prog w) A (getAttr o f true) Q E s₁) E s) : wpAny (model prog w) A (eval (.Attribute e f pos) env) Q E s:=
 Attribute_any_ h (by rw [arm_eval_Attribute,hb])
end

def Ev (K:PySem.W.Frag) (ta:TE) (f:Str) : TE:=fun σ H Q=>ta σ H fun x H1=>∃ a C dx fs v,x = .ref a∧H1 a=some (.ins C dx fs)∧Cls K C∧cK K C f∧fs.lookup f=some v∧Q v H1
def Ew (K:PySem.W.Frag) (ta tv:TE) (f:Str) : TS:=fun D σ H=>tv σ H fun y H1=>ta σ H1 fun x H2=>∃ a C dx fs,x = .ref a∧H2 a=some (.ins C dx fs)∧Cls K C∧cK K C f∧fs.length < 1000 ∧
 D.nx σ (upd H2 a (.ins C dx (bx f y fs)))
section
variable {X:Cx} {o e value:Expr} {f:Str} {pos pos' tpos:Pos} {ta tv:TE}
theorem bC (he:PE X e ta) (hb:attributeBase e f X.env (eval e X.env)=eval e X.env) : PE X (.Attribute e f pos) (Ev X.K ta f):=by
 intro pins s σ H Q I h
 refine BF hb (thn (he pins s σ H _ I h) fun u s1 ⟨x,H1,I1,rx,a,C,dx,fs,v,ex,ea,c,n,l,q⟩=>?_)
 subst ex
 obtain rfl:u=Value.ref a:=rx
 exact x6 I1 ea c n l fun u' s2 I2 ru=>⟨v,H1,I2,ru,q⟩
theorem cM (ha:PE X o ta) (hv:PE X value tv) (hs:swapsWith value (some (.Attribute o f pos')) pos.line X.env=pure false) : PS X (.Assign [.Attribute o f pos'] value pos) (Ew X.K ta tv f):=by
 intro pins s σ H D I h
 refine plainObj_wpAny_Assign_Attribute (thn (hv pins s σ H _ I h) fun u s1 ⟨y,H1,I1,ry,q⟩=>thn (ha pins s1 σ H1 _ I1 q) fun ov s2 ⟨x,H2,I2,rx,a,C,dx,fs,ex,ea,c,n,l,q2⟩=>?_) hs
 subst ex
 obtain rfl:ov=Value.ref a:=rx
 exact x8 I2 ea c n l ry fun s3 I3=>⟨σ,_,I3,q2⟩
end

section
variable {X:Cx} {pins:List (Addr × Obj)} {σ:St} {H:Hp} {s:Shared} {A:Around} {E:Value→Shared→Prop} {Q:Value→Shared→Prop} {c:Value} {b:Bool}
inductive jr (K:PySem.W.Frag) (H:Hp) : V→Value→Prop where
 | non:jr K H .non (.type "NoneType")
 | bl (x:Bool) : jr K H (.bl x) (.type "bool")
 | int (i:Int) : jr K H (.int i) (.type "int")
 | str (x:Str) : jr K H (.str x) (.type "str")
 | flt (x:UInt64) : jr K H (.flt x) (.type "float")
 | lst {a:Addr} {xs:List V} (e:H a=some (.lst xs)) : jr K H (.ref a) (.type "list")
 | frz {a:Addr} {o:Obj} {xs:List V} (e:H a=some (.frz o (.lst xs))) : jr K H (.ref a) (.type "list")
 | tup {a:Addr} {xs:List V} (e:H a=some (.tup xs)) : jr K H (.ref a) (.type "tuple")
 | dK {a:Addr} {kvs:List (Key × V)} (e:H a=some (.dK kvs)) : jr K H (.ref a) (.type "dict")
 | dT {a:Addr} {kvs:List (List Key × V)} (e:H a=some (.dT kvs)) : jr K H (.ref a) (.type "dict")
 | ins {a C dx:Addr} {fs:List (Str × V)} (e:H a=some (.ins C dx fs)) (cl:Cls K C) (ha:PySem.W.findIn K (.ref C) "__class__" = some (some (.builtin "object.__class__")))
   (hn:PySem.W.specialIn K (.builtin "object.__class__") "__get__" = some (some (.builtin "getset_descriptor.__get__"))) (htk:PySem.W.takesIn K (.builtin "object.__class__")=some true)
   (hm:PySem.W.mroIn K C (.type "object")=some true) : jr K H (.ref a) (.ref C)
theorem ze {x:V} {u t:Value} (I:Inv X pins σ H s) (rx:aZ x u) (ty:jr X.K H x t) (e:PySem.W.kitOne X.K t c=some b) (h:∀ tk,Q (.bool b) { s with toks:=tk }) :
  wpAny (model X.prog X.w) A (call (.builtin "isinstance") [u,c]) Q E s:=by
 cases ty with
 | non=>cases (show u=Value.none from rx); exact PySem.W.kia_one PySem.W.kitx_none I.kIn True.intro e (fun z=>nomatch z) h
 | bl y=>cases (show u=Value.bool y from rx); exact PySem.W.kia_one PySem.W.kitx_bool I.kIn True.intro e (fun z=>nomatch z) h
 | int i=>obtain ⟨t,q⟩:=(show ∃ t,u=Value.int i t from rx); cases q; exact PySem.W.kia_one PySem.W.kitx_int I.kIn True.intro e (fun z=>nomatch z) h
 | str y=>obtain ⟨t,q⟩:=(show ∃ t,u=Value.str y t from rx); cases q; exact PySem.W.kia_one PySem.W.kitx_str I.kIn True.intro e (fun z=>nomatch z) h
 | flt y=>obtain ⟨t,q⟩:=(show ∃ t,u=Value.float y t from rx); cases q; exact PySem.W.kia_one PySem.W.kitx_float I.kIn True.intro e (fun z=>nomatch z) h
 | @lst a xs ea =>
  cases (show u=Value.ref a from rx)
  obtain ⟨_,_,n,_,h1⟩:=(show bQ X.prog X.w H s.heap a (.lst xs) from I.hok a _ ea)
  exact PySem.W.kia_one PySem.W.kitx_list I.kIn ⟨_,h1,rfl⟩ e (fun z=>nomatch z) h
 | @frz a ob xs ea =>
  cases (show u=Value.ref a from rx)
  obtain ⟨_,_,_,n,_,h1⟩:=(show bQ X.prog X.w H s.heap a (.frz ob (.lst xs)) from I.hok a _ ea)
  exact PySem.W.kia_one PySem.W.kitx_list I.kIn ⟨_,h1,rfl⟩ e (fun z=>nomatch z) h
 | @tup a xs ea =>
  cases (show u=Value.ref a from rx)
  obtain ⟨_,_,_,p⟩:=(show bQ X.prog X.w H s.heap a (.tup xs) from I.hok a _ ea)
  obtain ⟨o,h1,h2,_⟩:=p
  exact PySem.W.kia_one PySem.W.kitx_tuple I.kIn ⟨o,h1,h2⟩ e (fun z=>nomatch z) h
 | @dK a kvs ea =>
  cases (show u=Value.ref a from rx)
  obtain ⟨_,_,vs,_,p⟩:=(show bQ X.prog X.w H s.heap a (.dK kvs) from I.hok a _ ea)
  obtain ⟨o,es,ep,h1,h2,_⟩:=p
  exact PySem.W.kia_one PySem.W.kitx_dict I.kIn ⟨o,h1,h2.1⟩ e (fun z=>nomatch z) h
 | @dT a kvs ea =>
  cases (show u=Value.ref a from rx)
  obtain ⟨_,_,xs,_,o,es,ep,h1,h2,_⟩:=(show bQ X.prog X.w H s.heap a (.dT kvs) from I.hok a _ ea)
  exact PySem.W.kia_one PySem.W.kitx_dict I.kIn ⟨o,h1,h2.1⟩ e (fun z=>nomatch z) h
 | @ins a C dx fs ea cl ha hn htk hm =>
  cases (show u=Value.ref a from rx)
  obtain ⟨mA,O,_⟩:=qy I.hok ea
  obtain ⟨od,J,_⟩:=O.look
  exact PySem.W.kia_one (PySem.W.kitx_own (cl.get _) cl.hd ha hn htk hm) I.kIn J e (fun z=>nomatch z) h
end

structure cc (k:Nat) (A:Around) : Prop where
 hd:A.handled=none
 dp:A.depth+3 * k+5 < recursionLimit
 un:A.units+16 * k+200 < cLine
theorem cc.mono {j k:Nat} {A:Around} (r:cc k A) (h:j≤k) : cc j A:=⟨r.hd,by have:=r.dp; omega,by have:=r.un; omega⟩
theorem cc.deeper {k:Nat} {A:Around} (r:cc (k+1) A) (env:Env) : cc k (A.deeper env):=
 ⟨r.hd,by have:=r.dp; show A.depth+1+3 * k+5 < _; omega,by have:=r.un; show A.units+3+16 * k+200 < _; omega⟩
theorem x9 {A:Around} {C:Addr} {us:List Value} {kw:List (Str × Value)} : (A.under (.builtin "type.__call__" ⟨.ref C :: us,kw⟩)).depth=A.depth+1:=by
 first | rfl | simp [Around.under,Code.weight,Code.isCreation,Code.isGuard,Code.isCaller,Code.frames,Code.isFrame,guardIds]
theorem x_ {A:Around} {C:Addr} {us:List Value} {kw:List (Str × Value)} : (A.under (.builtin "type.__call__" ⟨.ref C :: us,kw⟩)).units=A.units+1:=by
 first | rfl | simp [Around.under,Code.cUnits,Code.frames,Code.isFrame]
theorem cc.make {k:Nat} {A:Around} (r:cc (k+1) A) (C:Addr) (us:List Value) (kw:List (Str × Value)) : cc k (A.under (.builtin "type.__call__" ⟨.ref C :: us,kw⟩)):=
 ⟨r.hd,by have:=r.dp; rw [x9]; omega,by have:=r.un; rw [x_]; omega⟩
theorem cc.depth {k:Nat} {A:Around} (r:cc k A) : A.depth < recursionLimit:=by have:=r.dp; omega
theorem cc.units {k:Nat} {A:Around} (r:cc k A) : A.units+64 < cLine:=by have:=r.un; omega
def tt:TA:=fun _ H Q=>Q [] H
def Bo (ta:TE) (tr:TA) : TA:=fun σ H Q=>ta σ H fun x H1=>tr σ H1 fun xs H2=>Q (x :: xs) H2
section
variable {X:Cx} {e:Expr} {es:List Expr} {te:TE} {t:TA} {pos:Pos}
theorem ac:PA X [] tt:=fun _ _ _ _ H Q I h=>Calls.spliced_nil ⟨[],H,I,.nil,h⟩
theorem aa (ha:PE X e te) (hr:PA X es t) (hs:starEach (e :: es) X.env=(false,eval e X.env) :: starEach es X.env:=by rfl) : PA X (e :: es) (Bo te t):=by
 intro pos pins s σ H Q I h
 rw [hs]
 show wpAny _ _ (spliced ((false,eval e X.env) :: backTo pos (starEach es X.env))) _ _ s
 refine Calls.spliced_cons (thn (ha pins s σ H _ I h) fun u s1 ⟨x,H1,I1,r1,q1⟩=>?_)
 exact thn (hr pos pins s1 σ H1 _ I1 q1) fun us s2 ⟨xs,H2,I2,r2,q2⟩=>⟨x :: xs,H2,I2,.cons r1 r2,q2⟩

def Ex (t:TA) : TE:=fun σ H Q=>t σ H fun xs H1=>xs.length≤sizeLine∧∀ p,H1 p=none→Q (.ref p) (upd H1 p (.tup xs))
def CJ (t:TA) : TE:=fun σ H Q=>t σ H fun xs H1=>xs.length≤sizeLine∧∀ p,H1 p=none→Q (.ref p) (upd H1 p (.lst xs))
theorem aS {x1} (h:PA X es t) : PE X (.Tuple es x1 pos) (Ex t):=by
 intro pins s σ H Q I hq
 refine wpAny_Tuple_spliced (thn (h pos pins s σ H _ I hq) fun us s1 ⟨xs,H1,I1,r,z,q⟩=>⟨by rw [← r.length]; exact z,?_⟩)
 have hf:H1 s1.heap.objs.size=none:=I1.hok.fresh (Nat.le_refl _)
 refine ⟨.ref s1.heap.objs.size,upd H1 s1.heap.objs.size (.tup xs),I1.laid (t':=s1.toks) (fun b u e=>Heap.get?_push_of_some _ e) (Nat.le_refl _) ?_,rfl,q _ hf⟩
 exact ⟨z,us,r,⟨_,Heap.get?_push_size _ rfl,rfl,_,rfl⟩⟩
theorem aY (h:PA X es t) : PE X (.List es pos) (CJ t):=by
 intro pins s σ H Q I hq
 refine wpAny_List_spliced (thn (h pos pins s σ H _ I hq) fun us s1 ⟨xs,H1,I1,r,z,q⟩=>⟨by rw [← r.length]; exact z,?_⟩)
 have hf:H1 s1.heap.objs.size=none:=I1.hok.fresh (Nat.le_refl _)
 refine ⟨.ref s1.heap.objs.size,upd H1 s1.heap.objs.size (.lst xs),I1.laid (t':=s1.toks) (fun b u e=>Heap.get?_push_of_some _ e) (Nat.le_refl _) ?_,rfl,q _ hf⟩
 exact ⟨z,us,0,r,Heap.get?_push_size _ rfl⟩
end

abbrev Sp:=List V→Hp→VK→XK→Prop
abbrev CXT:=List Env→Hp→Shared→XK→Value→Shared→Prop

structure qY (P:Program) (w:World) (K:PySem.W.Frag) (mg:Str→Option Value) (base:Heap) (A:Around) (outer:List Env) (s:Shared) (H:Hp) : Prop where
 frames:A.frames=some outer
 mod:Mod K mg base
 bs:∀ b o,base.get? b=some o→s.heap.get? b=some o∧H b=none
 bsz:base.objs.size≤s.heap.objs.size
 funs:s.heap.FunFrames base outer
 frf:∀ b ∈ frs outer,H b=none
 hok:HOk P w H s.heap
 bare:AllBare s.gens
def CE (outer:List Env) (P:Program) (w:World) (H:Hp) (s:Shared) (Q:VK) (u:Value) (s':Shared) : Prop:=
 ∃ v H',s'.os=s.os∧AllBare s'.gens∧Un (frs outer) [] H H' s.heap s'.heap∧HOk P w H' s'.heap∧aZ v u∧Q v H'
def CR (CX:CXT) (outer:List Env) (P:Program) (w:World) (H:Hp) (s:Shared) (Q:VK) (E:XK) (r:Result) (s':Shared) : Prop:=
 match r with
 | .ok (.ret u)=>CE outer P w H s Q u s'
 | .ok _=>False
 | .error e=>CX outer H s E e s'
structure aX (P:Program) (w:World) (K:PySem.W.Frag) (mg:Str→Option Value) (base:Heap) (CX:CXT) (k:Nat) (f:Addr) (fd:FuncData) (ps:List Str) (sp:Sp) : Prop where
 len:∀ vs H Q E,sp vs H Q E→vs.length=ps.length
 run:∀ (A:Around) (outer:List Env) (s:Shared) (H:Hp) (args:Args) (us:List Value) (vs:List V) (Q:VK) (E:XK),cc k A→qY P w K mg base A outer s H→BindsTo s fd args (ps.zip us)→aU vs us→sp vs H Q E →
  codeAny (model P w) A (.call (.ref f) args) (CR CX outer P w H s Q E) s
theorem qY.make {P:Program} {w:World} {K:PySem.W.Frag} {mg:Str→Option Value} {base:Heap} {A:Around} {outer:List Env} {s:Shared} {H:Hp} (e:qY P w K mg base A outer s H) (C:Addr) (us:List Value) (kw:List (Str × Value)) :
  qY P w K mg base (A.under (.builtin "type.__call__" ⟨.ref C :: us,kw⟩)) outer s H:=⟨by first | exact e.frames | (simpa [Around.under,Code.envs,Code.isFrame,pushEnvs] using e.frames),e.mod,e.bs,e.bsz,e.funs,e.frf,e.hok,e.bare⟩
section
variable {X:Cx} {pins:List (Addr × Obj)} {σ:St} {H:Hp} {s s':Shared}
theorem Inv.env0 (I:Inv X pins σ H s) : qY X.prog X.w X.K X.mg X.base X.A X.stack s H:=
 ⟨I.ok.frames,I.ok.mod,I.bs,Nat.le_trans I.ok.bsz I.sz,I.stack,I.stkFree,I.hok,I.bare⟩
theorem Inv.after {Q:VK} {u:Value} (I:Inv X pins σ H s) (h:CE X.stack X.prog X.w H s Q u s') : EP X pins σ Q u s':=by
 obtain ⟨v,H',os,bare,un,hok,r,q⟩:=h
 obtain ⟨hh,g,d,t,os'⟩:=s'
 obtain rfl:os' = s.os:=os
 exact ⟨v,H',I.call (h':=hh) (g':=g) (d':=d) (t':=t) (ch:=[]) un hok bare (fun b z=>absurd z (by simp)),r,q⟩
end

def u6 (sp:Sp) (dvs:List V) (E:XK) (t:TA) : TE:=fun σ H Q=>t σ H fun vs H1=>sp (vs++dvs) H1 Q E
def u7 (C:Addr) (m:Str) (sp:Sp) (dvs:List V) (E:XK) (ta:TE) (t:TA) : TE:=fun σ H Q=>ta σ H fun x H1=>∃ a dx fs,x = .ref a∧H1 a=some (.ins C dx fs)∧fs.lookup m=none ∧
 t σ H1 fun vs H2=>sp (x :: (vs++dvs)) H2 Q E
def u8 (C:Addr) (sp:Sp) (dvs:List V) (E:XK) (t:TA) : TE:=fun σ H Q=>t σ H fun vs H1=>∀ x dx,H1 x=none→H1 dx=none→dx≠x →
 sp (.ref x :: (vs++dvs)) (upd (upd H1 dx (.own x)) x (.ins C dx [])) (fun v H2=>v = .non∧Q (.ref x) H2) E

def gp (K:PySem.W.Frag) (fd:FuncData) (ps:List Str) (ds:List Value) : Prop:=
 ∀ (s:Shared) (us:List Value),K.In s.heap→(us++ds).length=ps.length→BindsTo s fd ⟨us,[]⟩ (ps.zip (us++ds))
theorem gp.all {K:PySem.W.Frag} {fd:FuncData} {ps:List Str} (h:∀ us:List Value,us.length=ps.length→bindArgs fd ⟨us,[]⟩=pure (ps.zip us)) : gp K fd ps []:=fun s us _ hl=>by
 rw [List.append_nil] at hl ⊢
 exact .of_eq (h us hl)

def dP (CX:CXT) (X:Cx) (E:XK) : Prop:=∀ (pins:List (Addr × Obj)) (σ:St) (H:Hp) (s:Shared) (e:Value) (s':Shared),Inv X pins σ H s→CX X.stack H s E e s'→X.xe e s'

section
variable {X:Cx} {CX:CXT} {k:Nat} {f C:Addr} {fd:FuncData} {ps:List Str} {sp:Sp} {dvs:List V} {ds:List Value} {E:XK} {x m:Str} {p pos apos:Pos} {e o:Expr} {es:List Expr} {ta:TE} {t:TA}

theorem vF {pins:List (Addr × Obj)} {σ:St} {H:Hp} {s:Shared} {Q:VK} {us:List Value} {vs:List V} (F:aX X.prog X.w X.K X.mg X.base CX k f fd ps sp) (hr:cc k X.A) (hb:gp X.K fd ps ds) (hd:aU dvs ds) (hx:dP CX X E)
  (I:Inv X pins σ H s) (r:aU vs us) (h:sp (vs++dvs) H Q E) : wpAny (model X.prog X.w) X.A (call (.ref f) us) (EP X pins σ Q) X.xe s:=by
 have r2:aU (vs++dvs) (us++ds):=r.append hd
 have hl:(us++ds).length=ps.length:=by rw [← r2.length]; exact F.len _ _ _ _ h
 refine wpAny_call (codeAny_mono (F.run X.A X.stack s H ⟨us,[]⟩ (us++ds) (vs++dvs) Q E hr I.env0 (hb s us I.kIn hl) r2 h) fun r s' hq=>?_)
 cases r with
 | error e=>exact hx pins σ H s e s' I hq
 | ok fl =>
  cases fl with
  | ret u=>exact I.after hq
  | next=>exact False.elim hq
  | brk=>exact False.elim hq
  | cont=>exact False.elim hq

theorem tu (F:aX X.prog X.w X.K X.mg X.base CX k f fd ps sp) (hr:cc k X.A) (hg:Gl X x) (hm:X.mg x=some (.ref f)) (hk:PySem.W.keepIn X.K (.ref f)=true) (hb:gp X.K fd ps ds) (hd:aU dvs ds) (hx:dP CX X E)
  (ha:PA X (e :: es) t) (hdb:(x == ("__debug__" : Str))=false:=by decide) (he:starEach (e :: es) X.env=(false,eval e X.env) :: starEach es X.env:=by rfl) (hpl:(backTo pos (starEach es X.env)).any (·.1)=false:=by rfl) :
  PE X (.Call (.Name x p) (e :: es) [] pos) (u6 sp dvs E t):=by
 intro pins s σ H Q I h
 refine wpAny_Call_Name_kw (mw I hg hm ?_ hdb)
 refine PySem.W.callWith_K (h₀:=X.base) I.ok.mod.kin hk (thn (ha pos pins s σ H _ I h) fun us s1 ⟨vs,H1,I1,r,q⟩=>⟨I1.kIn,?_⟩) he hpl
 exact vF F hr hb hd hx I1 r q
theorem BG {pl:Sem Bool} (he:PE X o ta) (c:Cls X.K C) (hm:x5 X.K C m f) (F:aX X.prog X.w X.K X.mg X.base CX k f fd ps sp) (hr:cc k X.A) (hb:gp X.K fd ps ds) (hd:aU dvs ds) (hx:dP CX X E) (ha:PA X (e :: es) t)
  (hst:starEach (e :: es) X.env=(false,eval e X.env) :: starEach es X.env:=by rfl) (hpl:(backTo pos (starEach es X.env)).any (·.1)=false:=by rfl)
  (ht:eval (.Call (.Attribute o m apos) (e :: es) [] pos) X.env=(do
   let ov ← eval o X.env
   standAt apos.atName
   let (f,first) ← holding [ov] (getMethod ov m pl)
   callWith pos f first (backTo pos (starEach (e :: es) X.env)) (backToKw pos (keywordEach [] X.env))):=by rfl) :
  PE X (.Call (.Attribute o m apos) (e :: es) [] pos) (u7 C m sp dvs E ta t):=by
 intro pins s σ H Q I h
 refine PySem.W.methodCall_KW (pl:=pl) (thn (he pins s σ H _ I h) fun u s1 ⟨x,H1,I1,rx,a,dx,fs,ex,ea,l,q⟩=>?_) ht
 subst ex
 obtain rfl:u=Value.ref a:=rx
 refine sC I1 ea c hm l ?_
 refine PySem.W.callWith_K (first:=[.ref a]) (h₀:=X.base) I.ok.mod.kin hm.kp (thn (ha pos pins s1 σ H1 _ I1 q) fun us s2 ⟨vs,H2,I2,r,q2⟩=>⟨I2.kIn,?_⟩) hst hpl
 exact vF (us:=.ref a :: us) (vs:=.ref a :: vs) F hr hb hd hx I2 (.cons rfl r) q2
theorem Az {pl:Sem Bool} (he:PE X o ta) (c:Cls X.K C) (hm:x5 X.K C m f) (F:aX X.prog X.w X.K X.mg X.base CX k f fd ps sp) (hr:cc k X.A) (hb:gp X.K fd ps ds) (hd:aU dvs ds) (hx:dP CX X E)
  (ht:eval (.Call (.Attribute o m apos) [] [] pos) X.env=(do
   let ov ← eval o X.env
   standAt apos.atName
   let (f,first) ← holding [ov] (getMethod ov m pl)
   callWith pos f first (backTo pos (starEach [] X.env)) (backToKw pos (keywordEach [] X.env))):=by rfl) :
  PE X (.Call (.Attribute o m apos) [] [] pos) (u7 C m sp dvs E ta tt):=by
 intro pins s σ H Q I h
 refine PySem.W.methodCall_KW (pl:=pl) (thn (he pins s σ H _ I h) fun u s1 ⟨x,H1,I1,rx,a,dx,fs,ex,ea,l,q⟩=>?_) ht
 subst ex
 obtain rfl:u=Value.ref a:=rx
 refine sC I1 ea c hm l ?_
 exact PySem.W.callWith_K0 (first:=[.ref a]) I1.kIn hm.kp (vF (us:=[.ref a]) (vs:=[.ref a]) F hr hb hd hx I1 (.cons rfl .nil) q)

structure Mk (K:PySem.W.Frag) (C f:Addr) : Prop where
 makes:PySem.W.makesIn K C=true
 init:PySem.W.findIn K (.ref C) "__init__" = some (some (.ref f))
 fn:PySem.W.isFn K (.ref f)=true
 kp:PySem.W.keepIn K (.ref C)=true

theorem vG {pins:List (Addr × Obj)} {σ:St} {H:Hp} {s:Shared} {Q:VK} {us:List Value} {vs:List V} (M:Mk X.K C f) (F:aX X.prog X.w X.K X.mg X.base CX k f fd ps sp) (hr:cc (k+1) X.A) (hb:gp X.K fd ps ds) (hd:aU dvs ds)
  (hx:dP CX X E) (I:Inv X pins σ H s) (r:aU vs us)
  (h:∀ x dx,H x=none→H dx=none→dx≠x→sp (.ref x :: (vs++dvs)) (upd (upd H dx (.own x)) x (.ins C dx [])) (fun v H2=>v = .non∧Q (.ref x) H2) E) :
  wpAny (model X.prog X.w) X.A (call (.ref C) us) (EP X pins σ Q) X.xe s:=by
 have hq:=h (s.heap.objs.size+1) s.heap.objs.size (I.hok.fresh (Nat.le_succ _)) (I.hok.fresh (Nat.le_refl _)) (Nat.ne_of_lt (Nat.lt_succ_self _))
 have I2:=Inv.made (C:=C) I
 have r2:aU (V.ref (s.heap.objs.size+1) :: (vs++dvs)) (Value.ref (s.heap.objs.size+1) :: (us++ds)):=.cons rfl (r.append hd)
 have hl:(Value.ref (s.heap.objs.size+1) :: us++ds).length=ps.length:=by
  have e:=r2.length
  rw [F.len _ _ _ _ hq] at e
  exact e.symm
 refine wpAny_call (Ay (f:=f) I.kIn M.makes M.init (beq_iff_eq.mp M.fn) (codeAny_mono (F.run _ X.stack _ _ ⟨Value.ref (s.heap.objs.size+1) :: us,[]⟩ (Value.ref (s.heap.objs.size+1) :: (us++ds)) _ _ E (hr.make C us [])
  (I2.env0.make C us []) (hb _ (Value.ref (s.heap.objs.size+1) :: us) I2.kIn hl) r2 hq) fun r s' hq'=>?_))
 cases r with
 | error e=>exact hx pins σ _ _ e s' I2 hq'
 | ok fl =>
  cases fl with
  | ret u =>
   obtain ⟨v,H',I3,rv,ev,q3⟩:=I2.after hq'
   subst ev
   exact ⟨rv,⟨V.ref (s.heap.objs.size+1),H',I3,rfl,q3⟩⟩
  | next=>exact False.elim hq'
  | brk=>exact False.elim hq'
  | cont=>exact False.elim hq'
theorem BH (M:Mk X.K C f) (F:aX X.prog X.w X.K X.mg X.base CX k f fd ps sp) (hr:cc (k+1) X.A) (hg:Gl X x) (hm:X.mg x=some (.ref C)) (hb:gp X.K fd ps ds) (hd:aU dvs ds) (hx:dP CX X E)
  (ha:PA X (e :: es) t) (hdb:(x == ("__debug__" : Str))=false:=by decide) (he:starEach (e :: es) X.env=(false,eval e X.env) :: starEach es X.env:=by rfl) (hpl:(backTo pos (starEach es X.env)).any (·.1)=false:=by rfl) :
  PE X (.Call (.Name x p) (e :: es) [] pos) (u8 C sp dvs E t):=by
 intro pins s σ H Q I h
 refine wpAny_Call_Name_kw (mw I hg hm ?_ hdb)
 refine PySem.W.callWith_K (h₀:=X.base) I.ok.mod.kin M.kp (thn (ha pos pins s σ H _ I h) fun us s1 ⟨vs,H1,I1,r,q⟩=>⟨I1.kIn,?_⟩) he hpl
 exact vG M F hr hb hd hx I1 r q
theorem AA (M:Mk X.K C f) (F:aX X.prog X.w X.K X.mg X.base CX k f fd ps sp) (hr:cc (k+1) X.A) (hg:Gl X x) (hm:X.mg x=some (.ref C)) (hb:gp X.K fd ps ds) (hd:aU dvs ds) (hx:dP CX X E)
  (hdb:(x == ("__debug__" : Str))=false:=by decide) : PE X (.Call (.Name x p) [] [] pos) (u8 C sp dvs E tt):=by
 intro pins s σ H Q I h
 refine wpAny_Call_Name_kw (mw I hg hm ?_ hdb)
 exact PySem.W.callWith_K0 I.kIn M.kp (vG (us:=[]) M F hr hb hd hx I .nil h)
end

section
variable {X:Cx} {CX:CXT} {k:Nat} {f C:Addr} {fd:FuncData} {ps ks:List Str} {sp:Sp} {E:XK} {x m:Str} {p pos apos kpos:Pos} {e o:Expr} {es:List Expr} {kws:List Keyword} {te ta:TE} {t tk:TA} {nm:Option Str}
variable {g:List Value→List Value→List Value} {gV:List V→List V→List V}
end

structure aJ (N P:List Str) (sc:Scope) : Prop where
 kind:sc.kind = .function
 co:sc.isCoroutine=false
 gen:sc.isGenerator=false
 nd:N.Nodup
 pre:N.take P.length=P
 par:∀ x ∈ P,sc.names.lookup x=some .local∨sc.names.lookup x=some .cell
 nofree:∀ y ∈ sc.names,y.2≠.free

theorem ud {kindOf:Str→Option NameKind} {x:Str} : ∀ {binds:List (Str × Value)} {m:Str→Option Value},(∀ v,(x,v) ∉ binds)→bindL kindOf binds m x=m x
 | [],_,_=>rfl
 | (n,v) :: r,m,h=>by
  unfold bindL
  rw [ud fun w hw=>h w (List.mem_cons_of_mem _ hw)]
  split
  ·have:x≠n:=by rintro rfl; exact h v List.mem_cons_self
   simp [this]
  ·rfl
theorem ue {kindOf:Str→Option NameKind} {x:Str} : ∀ {binds:List (Str × Value)} {m:Str→Option Value},(∀ v,(x,v) ∉ binds)→bindC kindOf binds m x=m x
 | [],_,_=>rfl
 | (n,v) :: r,m,h=>by
  unfold bindC
  rw [ue fun w hw=>h w (List.mem_cons_of_mem _ hw)]
  split
  ·rfl
  ·have:x≠n:=by rintro rfl; exact h v List.mem_cons_self
   simp [this]
theorem uf {kindOf:Str→Option NameKind} {x:Str} {v:Value} : ∀ {P:List Str} {vs:List Value} {i:Nat} {m:Str→Option Value},P.Nodup→P[i]? = some x→vs[i]? = some v→kindOf x=some .local →
  bindL kindOf (P.zip vs) m x=some v
 | [],_,_,_,_,h,_,_=>by simp at h
 | _ :: _,[],_,_,_,_,h,_=>by simp at h
 | p :: P,w :: vs,0,m,nd,h1,h2,hk=>by
  simp at h1 h2; subst h1; subst h2
  show bindL kindOf ((p,w) :: P.zip vs) m p=_
  unfold bindL
  rw [ud fun v hv=>(List.nodup_cons.mp nd).1 (List.of_mem_zip hv).1,if_pos hk]
  simp
 | p :: P,w :: vs,i+1,m,nd,h1,h2,hk=>by
  show bindL kindOf ((p,w) :: P.zip vs) m x=_
  unfold bindL
  exact uf (i:=i) (List.nodup_cons.mp nd).2 (by simpa using h1) (by simpa using h2) hk
theorem ug {kindOf:Str→Option NameKind} {x:Str} {v:Value} : ∀ {P:List Str} {vs:List Value} {i:Nat} {m:Str→Option Value},P.Nodup→P[i]? = some x→vs[i]? = some v→kindOf x≠some .local →
  bindC kindOf (P.zip vs) m x=some v
 | [],_,_,_,_,h,_,_=>by simp at h
 | _ :: _,[],_,_,_,_,h,_=>by simp at h
 | p :: P,w :: vs,0,m,nd,h1,h2,hk=>by
  simp at h1 h2; subst h1; subst h2
  show bindC kindOf ((p,w) :: P.zip vs) m p=_
  unfold bindC
  rw [ue fun v hv=>(List.nodup_cons.mp nd).1 (List.of_mem_zip hv).1,if_neg hk]
  simp
 | p :: P,w :: vs,i+1,m,nd,h1,h2,hk=>by
  show bindC kindOf ((p,w) :: P.zip vs) m x=_
  unfold bindC
  exact ug (i:=i) (List.nodup_cons.mp nd).2 (by simpa using h1) (by simpa using h2) hk

def ip (N:List Str) (vs:List V) : St:=vs.map some++List.replicate (N.length - vs.length) none

def lH (CX:CXT) (P:Program) (w:World) (K:PySem.W.Frag) (mg:Str→Option Value) (base:Heap) (N:List Str) (qual:Str) (scope:Scope) (f:Addr) (cd:Value) (A:Around) (outer:List Env) (s:Shared) (H:Hp) (E:XK) : Cx where
 prog:=P
 w:=w
 K:=K
 mg:=mg
 base:=base
 A:=A.deeper (envOfC qual scope s.heap.objs.size f cd)
 N:=N
 s₀:=s
 H₀:=H
 env:=envOfC qual scope s.heap.objs.size f cd
 outer:=outer
 stack:=envOfC qual scope s.heap.objs.size f cd :: outer
 ex:=[]
 calm:=true
 fn:=fun _=>true
 pn:=[]
 xe:=fun e s'=>wpAny (model P w) (A.deeper (envOfC qual scope s.heap.objs.size f cd)) (leaving (envOfC qual scope s.heap.objs.size f cd) e) (fun _ s''=>CX outer H s E e s'') (fun e' s''=>CX outer H s E e' s'') s'

theorem vH {sc:Scope} {n:Nat} {x:Str} (h:sc.names.lookup x=some .cell) : ∃ c,(cellsFrom n sc.names []).lookup x=some c:=by
 have q:=PySem.W.cellsFrom_some sc.names n [] (.inl h)
 exact Option.isSome_iff_exists.mp q

theorem zf {CX:CXT} {P:Program} {w:World} {K:PySem.W.Frag} {mg:Str→Option Value} {base:Heap} {N ps:List Str} {qual:Str} {scope:Scope} {f:Addr} {cd:Value} {A:Around} {outer:List Env} {s s1:Shared} {H:Hp} {E:XK} {us:List Value} {vs:List V}
  (S:aJ N ps scope) (hd:A.handled=none) (e0:qY P w K mg base A outer s H) (hl:vs.length=ps.length) (r:aU vs us)
  (x:InCallC s s.heap.objs.size (bindL (envOfC qual scope s.heap.objs.size f cd).kindOf (ps.zip us) fun _=>none) (cellsFrom (s.heap.objs.size+1) scope.names []) (bindC (envOfC qual scope s.heap.objs.size f cd).kindOf (ps.zip us) fun _=>none) s1) :
  Inv (lH CX P w K mg base N qual scope f cd A outer s H E) [] (ip N vs) H s1:=by
 have hpl:ps.length≤N.length:=by have:=congrArg List.length S.pre; rw [List.length_take] at this; omega
 obtain ⟨h1,tk,rfl,hk⟩:=x.done
 have noA:∀ b:Addr,b ∉ (lH CX P w K mg base N qual scope f cd A outer s H E).ex:=fun b z=>absurd (show b ∈ ([] : List Addr) from z) (by simp)
 refine ⟨⟨e0.mod,S.kind,rfl,rfl,Nat.le_refl _,fun y z c h1 h2=>?_,fun y hy=>?_,fun y c _ h=>?_,fun _=>hd,Around.frames_deeper e0.frames,.inr ⟨rfl,rfl⟩,fun b z=>absurd z (noA b),e0.bs,e0.bsz,fun b _ _=>noA b,fun b z=>absurd z (noA b),e0.funs,e0.frf⟩,
  rfl,e0.bare,Un.kept hk,⟨_,x.toInCall.ns,fun i y v h1 h2 h3=>?_⟩,fun y c h=>⟨_,x.cell y c h⟩,e0.hok.fresh (Nat.le_refl _),fun y c h=>?_,fun p hp=>absurd (show p ∈ ([] : List (Addr × Obj)) from hp) (by simp),e0.hok.kept hk,?_⟩
 ·exact name_of_addr x.apart (PySem.mem_of_lookup h1) (PySem.mem_of_lookup h2)
 ·have hy:scope.names.lookup y=some .cell∨scope.names.lookup y=some .free:=hy
  rcases hy with hy | hy
  ·exact vH hy
  ·exact absurd rfl (S.nofree _ (PySem.mem_of_lookup hy))
 ·exact Nat.le_of_lt (x.above y c (PySem.mem_of_lookup h))
 ·have hi:i < vs.length:=by
   unfold ip at h2
   by_cases hi:i < vs.length
   ·exact hi
   ·rw [List.getElem?_append_right (by simpa using hi)] at h2
    rw [List.getElem?_replicate] at h2
    split at h2 <;> cases h2
  have ha:vs[i]? = some v:=by
   unfold ip at h2
   rw [List.getElem?_append_left (by simpa using hi),List.getElem?_map] at h2
   cases e:vs[i]? with
   | none=>rw [e] at h2; cases h2
   | some a=>rw [e] at h2; cases h2; rfl
  obtain ⟨u,hu,rv⟩:=r.get ha
  have hp:ps[i]? = some y:=by
   rw [← S.pre,List.getElem?_take_of_lt (by omega)]; exact h1
  have ndP:ps.Nodup:=by rw [← S.pre]; exact S.nd.sublist (List.take_sublist _ _)
  refine ⟨u,rv,?_⟩
  rcases S.par y (List.mem_of_getElem? hp) with k | k
  ·exact .inl ⟨k,uf ndP hp hu k⟩
  ·obtain ⟨c,e⟩:=vH (n:=s.heap.objs.size+1) k
   refine .inr ⟨.inl k,c,e,?_⟩
   have q:=x.cell y c e
   rw [ug ndP hp hu (by show scope.names.lookup y≠_; rw [k]; decide)] at q
   exact q
 ·exact e0.hok.fresh (Nat.le_of_lt (x.above y c (PySem.mem_of_lookup h)))
 ·unfold ip
  show _=N.length
  rw [List.length_append,List.length_map,List.length_replicate]
  omega

theorem ya {CX:CXT} {P:Program} {w:World} {K:PySem.W.Frag} {mg:Str→Option Value} {base:Heap} {k:Nat} {f:Addr} {name qual:Str} {params:Arguments} {body:List Stmt} {scope:Scope} {dV kV doc pm cdv ct oc:Value} {an od:Option Addr}
  {osl:Array (Option Value)} {N ps:List Str} {sp:Sp} (lk:K.lookup f=some ⟨oc,od,.func (PySem.W.fnOf name qual params body scope dV kV doc pm an cdv ct),osl⟩) (hcd:PySem.W.codeIn K cdv qual=true) (S:aJ N ps scope)
  (len:∀ vs H Q E,sp vs H Q E→vs.length=ps.length)
  (hbody:∀ (A:Around) (outer:List Env) (s:Shared) (H:Hp) (vs:List V) (Q:VK) (E:XK),cc k (A.deeper (envOfC qual scope s.heap.objs.size f cdv))→sp vs H Q E →
   ∃ t,PSs (lH CX P w K mg base N qual scope f cdv A outer s H E) body t∧t { nx:=fun _ H'=>Q .non H',rt:=Q } (ip N vs) H) :
  aX P w K mg base CX (k+1) f (PySem.W.fnOf name qual params body scope dV kV doc pm an cdv ct) ps sp:=by
 refine ⟨len,fun A outer s H args us vs Q E hr e0 hb r hsp=>?_⟩
 have hl:=len _ _ _ _ hsp
 have KX:K.In s.heap:=e0.mod.kin.keeps fun b o e=>(e0.bs b o e).1
 have lim:s.heap.NoLimit:=e0.mod.nolimit.keeps fun b o e=>(e0.bs b o e).1
 have hkind:∀ y ∈ ps.zip us,scope.names.lookup y.1=some .local∨(scope.names.lookup y.1=some .cell∧((cellsFrom (s.heap.objs.size+1) scope.names []).lookup y.1).isSome=true):=fun ⟨n,v⟩ hy=>by
  rcases S.par n (List.of_mem_zip hy).1 with q | q
  ·exact .inl q
  ·exact .inr ⟨q,PySem.W.cellsFrom_some _ _ _ (.inl q)⟩
 refine codeAny_call_function hr.depth (KX _ _ lk) rfl S.co S.gen rfl (PySem.W.codeRec_of KX hcd) (hb _ _ _ _ ?_)
 refine wpAny_newFunctionEnv_cells S.kind hkind fun env he s1 x=>?_
 subst he
 refine ⟨lim.keeps x.toInCall.keep,codeAny_func ?_⟩
 obtain ⟨t,ht,hq⟩:=hbody A outer s H vs Q E (hr.deeper _) hsp
 have I:Inv (lH CX P w K mg base N qual scope f cdv A outer s H E) [] (ip N vs) H s1:=zf S hr.hd e0 hl r x
 refine wpAny_mono (ht [] s1 (ip N vs) H _ I hq) (fun fl s' hs=>?_) fun e s' hs=>hs
 have fin:∀ {σ':St} {H':Hp} {v:V} {u:Value},Inv (lH CX P w K mg base N qual scope f cdv A outer s H E) [] σ' H' s'→aZ v u→Q v H'→CE outer P w H s Q u s':=
  fun {σ' H' v u} J rv q=>⟨v,H',J.os,J.bare,J.base,J.hok,rv,q⟩
 cases fl with
 | ret u =>
  obtain ⟨v,σ',H',J,rv,q⟩:=hs
  exact fin J rv q
 | next =>
  obtain ⟨σ',H',J,q⟩:=hs
  exact fin (v:=V.non) (u:=Value.none) J rfl q
 | brk =>
  obtain ⟨_,_,_,q⟩:=hs
  exact False.elim q
 | cont =>
  obtain ⟨_,_,_,q⟩:=hs
  exact False.elim q
section
variable {X:Cx} {x:Str} {p pos:Pos} {e:Expr} {es:List Expr} {t:TA} {id T:String} {r:List V→Hp→VK→Prop}

def tCB (r:List V→Hp→VK→Prop) (t:TA) : TE:=fun σ H Q=>t σ H fun vs H1=>r vs H1 Q
theorem aK (hc:fc X (.builtin id) r) (hg:Gl X x) (hm:X.mg x=none) (hv:bootBuiltins x=some (.builtin id)) (ha:PA X (e :: es) t) (hn:x≠"__name__":=by decide) (hdb:(x == ("__debug__" : Str))=false:=by decide)
  (he:starEach (e :: es) X.env=(false,eval e X.env) :: starEach es X.env:=by rfl) (hpl:(backTo pos (starEach es X.env)).any (·.1)=false:=by rfl) : PE X (.Call (.Name x p) (e :: es) [] pos) (tCB r t):=by
 intro pins s σ H Q I h
 refine wpAny_Call_Name_kw (oK I hg hm hv ?_ hn hdb)
 exact PyProof.Rows.callWith_builtin1 (thn (ha pos pins s σ H _ I h) fun us s1 ⟨vs,H1,I1,r1,q1⟩=>hc pins s1 σ H1 vs us Q I1 r1 q1) he hpl
theorem jj (hc:fc X (.type T) r) (hg:Gl X x) (hm:X.mg x=none) (hv:bootBuiltins x=some (.type T)) (ha:PA X (e :: es) t) (hn:x≠"__name__":=by decide) (hdb:(x == ("__debug__" : Str))=false:=by decide)
  (he:starEach (e :: es) X.env=(false,eval e X.env) :: starEach es X.env:=by rfl) (hpl:(backTo pos (starEach es X.env)).any (·.1)=false:=by rfl) : PE X (.Call (.Name x p) (e :: es) [] pos) (tCB r t):=by
 intro pins s σ H Q I h
 refine wpAny_Call_Name_kw (oK I hg hm hv ?_ hn hdb)
 exact PyProof.Rows.callWith_type1 (thn (ha pos pins s σ H _ I h) fun us s1 ⟨vs,H1,I1,r1,q1⟩=>hc pins s1 σ H1 vs us Q I1 r1 q1) he hpl
end
end L2

namespace HT
open PySem PyProof.Rows

section
open PySem.SeqAt
open PySem.AutoSeq1 (wpAny_loadPart')
open PySem.MeetsSeq PySem.MeetsSeq2 PySem.MeetsSeq3

end

section
variable {prog:Program} {w:World} {A:Around} {E:Value→Shared→Prop} {s:Shared}

def sIx (n d:Nat) : Option Int→Nat
 | none=>d
 | some v=>if v < 0 then (v+(n:Int)).toNat else min v.toNat n
theorem sIx_none (n d:Nat) : sIx n d none=d:=rfl
theorem sIx_nat (n d k:Nat) : sIx n d (some (k:Int))=min k n:=by
 show (if (k:Int) < 0 then ((k:Int)+(n:Int)).toNat else min (k:Int).toNat n)=min k n
 rw [if_neg (by omega),Int.toNat_natCast]
theorem sIx_le (n d:Nat) (hd:d≤n) (o:Option Int) : sIx n d o≤n:=by
 cases o with
 | none=>exact hd
 | some v =>
  show (if v < 0 then (v+(n:Int)).toNat else min v.toNat n)≤n
  by_cases hv:v < 0
  ·rw [if_pos hv]; omega
  ·rw [if_neg hv]; exact Nat.min_le_right _ _
theorem iY (v:Int) (n d:Nat) : (if v < 0 then max (v+(n:Int)) 0 else min v (n:Int))=((sIx n d (some v) : Nat) : Int):=by
 show (if v < 0 then max (v+(n:Int)) 0 else min v (n:Int))=(((if v < 0 then (v+(n:Int)).toNat else min v.toNat n) : Nat) : Int)
 by_cases hv:v < 0
 ·simp only [if_pos hv]; omega
 ·simp only [if_neg hv]; omega
theorem yb (lo hi:Option Int) (n:Nat) : Builtin.Slice.sliceAdjust lo hi 1 (n:Int)=(((sIx n 0 lo:Nat) : Int),((sIx n n hi:Nat) : Int)):=by
 have h1:¬ ((1:Int) < 0):=by omega
 unfold Builtin.Slice.sliceAdjust
 simp only [h1,if_false]
 refine Prod.ext ?_ ?_
 ·cases lo with
  | none=>rfl
  | some v=>exact iY v n 0
 ·cases hi with
  | none=>rfl
  | some v=>exact iY v n n
theorem yc (i j:Nat) : Builtin.Slice.slicePlaces (i:Int) (j:Int) 1=j - i:=by
 unfold Builtin.Slice.slicePlaces
 have h1:(1:Int) > 0:=by omega
 simp only [h1,if_true,Int.ediv_one]
 split <;> omega
theorem sD {v:Value} {o:Option Int} {Q:Option Int→Shared→Prop} (p:IsPart v o) (h:Q o s) : wpAny (model prog w) A (Builtin.Slice.slicePartIndex v) Q E s:=by
 cases p with
 | none=>exact slicePart_none h
 | int i t=>exact slicePart_int h
theorem qZ {sl:Addr} {vl vu:Value} {lo hi:Option Int} {n:Nat} {Q:Int × Int × Nat→Shared→Prop} (hs:s.heap.IsSliceOf sl vl vu .none) (pl:IsPart vl lo) (pu:IsPart vu hi)
  (h:Q (((sIx n 0 lo:Nat) : Int),1,sIx n n hi - sIx n 0 lo) s) : wpAny (model prog w) A (Builtin.Slice.sliceApplied (.ref sl) (pure (n:Int))) Q E s:=by
 obtain ⟨os,hos,hcs,hds⟩:=id hs
 unfold Builtin.Slice.sliceApplied Builtin.Slice.sliceFields
 refine wpAny_bind (wpAny_bind (wpAny_field hos hds (x:=vl) rfl (wpAny_bind (wpAny_field hos hds (x:=vu) rfl (wpAny_bind (wpAny_field hos hds (x:=.none) rfl (wpAny_pure ?_)))))))
 refine wpAny_bind (slicePart_none ?_)
 show wpAny _ _ (if ((1:Int) == 0)=true then _ else _) _ _ s
 rw [if_neg (by decide)]
 refine wpAny_bind (sD pl (wpAny_bind (sD pu (wpAny_bind (wpAny_pure ?_)))))
 show wpAny _ _ (match Builtin.Slice.sliceAdjust lo hi 1 (n:Int) with | (lo,hi)=>pure (lo,(1:Int),Builtin.Slice.slicePlaces lo hi 1)) _ _ s
 rw [yb lo hi n]
 show wpAny _ _ (pure (((sIx n 0 lo:Nat) : Int),(1:Int),Builtin.Slice.slicePlaces ((sIx n 0 lo:Nat) : Int) ((sIx n n hi:Nat) : Int) 1)) _ _ s
 rw [yc]
 exact wpAny_pure h
theorem AB (xs:Array Value) (i k:Nat) : ((List.range k).filterMap fun (m:Nat)=>xs[((i:Int)+(m:Int) * 1).toNat]?).toArray=((xs.toList.drop i).take k).toArray:=by
 have e:(fun (m:Nat)=>xs[((i:Int)+(m:Int) * 1).toNat]?)=fun m=>xs[i+m]?:=by
  funext m
  have:((i:Int)+(m:Int) * 1).toNat=i+m:=by omega
  rw [this]
 rw [e]
 have:=pick_run xs i k
 rw [List.filterMap_map] at this
 have e2:((fun x=>xs[x]?) ∘ fun x=>i+x)=fun m=>xs[i+m]?:=rfl
 rw [e2] at this
 rw [this]

theorem getItem_tuple_cut {t sl:Addr} {items:Array Value} {vl vu:Value} {lo hi:Option Int} {Q:Value→Shared→Prop} (ht:IsTup s.heap t items) (hs:s.heap.IsSliceOf sl vl vu .none) (pl:IsPart vl lo) (pu:IsPart vu hi)
  (hw:¬ (sIx items.size 0 lo=0∧sIx items.size items.size hi=items.size))
  (h:Q (.ref s.heap.objs.size) { s with heap:=s.heap.push { cls:=.type "tuple",data:=.seq ((items.toList.drop (sIx items.size 0 lo)).take (sIx items.size items.size hi - sIx items.size 0 lo)).toArray } })
  (hsz:items.size≤sizeLine) : wpAny (model prog w) A (getItem (.ref t) (.ref sl)) Q E s:=by
 have htake:sizeOk (.seq ((items.toList.drop (sIx items.size 0 lo)).take (sIx items.size items.size hi - sIx items.size 0 lo)).toArray):=by
  show ((items.toList.drop (sIx items.size 0 lo)).take (sIx items.size items.size hi - sIx items.size 0 lo)).toArray.size≤sizeLine
  rw [List.size_toArray,List.length_take,List.length_drop,Array.length_toList]
  omega
 have hj:sIx items.size items.size hi≤items.size:=sIx_le _ _ (Nat.le_refl _) hi
 obtain ⟨os,hos,hcs,hds⟩:=id hs
 have hTs:s.TypeIs (.ref sl) "slice":=⟨os,hos,hcs⟩
 unfold getItem
 try with_reducible refine wpAny_holding ?_
 first | refine wpAny_bind (wpAny_pure ?_) | skip
 refine wpAny_bind (wpAny_sequenceKey ht.typeIs (by decide) ?_)
 refine wpAny_bind (wpAny_callSpecial?_slot (name:=Str.ofString "__getitem__") ht.typeIs PyProof.Rows.slot_tuple_getitem
  (wpAny_call_entry PyProof.Rows.slot_tuple_getitem ht.typeIs entry_tuple_getitem ?_ (args_tuple_getitem _ _)))
 show wpAny _ _ (Builtin.Tuple.tupleItemsOf (.ref t) >>= _) _ _ s
 refine wpAny_bind (tupleItemsOf_ ht ?_)
 refine wpAny_bind (wpAny_typeOf hTs ?_)
 rw [if_pos (by decide)]
 refine wpAny_bind (qZ hs pl pu ?_)
 have hno:¬ ((((sIx items.size 0 lo:Nat) : Int) == 0 && (1:Int) == 1 && (sIx items.size items.size hi - sIx items.size 0 lo) == items.size)=true):=by
  intro q
  rw [Bool.and_eq_true,Bool.and_eq_true] at q
  have q1:((sIx items.size 0 lo:Nat) : Int)=0:=eq_of_beq q.1.1
  have q2:sIx items.size items.size hi - sIx items.size 0 lo=items.size:=eq_of_beq q.2
  exact hw ⟨by omega,by omega⟩
 show wpAny _ _ (if (((sIx items.size 0 lo:Nat) : Int) == 0 && (1:Int) == 1 && (sIx items.size items.size hi - sIx items.size 0 lo) == items.size)=true then _ else _) _ _ s
 rw [if_neg hno,AB]
 first
  | exact wpAny_bind (m:=Builtin.Tuple.tupleExact _) (wpAny_newObj_type (wpAny_pure ⟨_,rfl,wpAny_pure h⟩) htake)
  | exact wpAny_bind (m:=Builtin.Tuple.tupleExact _) (wpAny_newObj_type (wpAny_bind (wpAny_pure (wpAny_pure ⟨_,rfl,wpAny_pure h⟩))) htake)
  | exact wpAny_bind (wpAny_bind (m:=Builtin.Tuple.tupleExact _) (wpAny_newObj_type (wpAny_pure (wpAny_pure ⟨_,rfl,wpAny_pure h⟩)) htake))
  | exact wpAny_bind (wpAny_bind (m:=Builtin.Tuple.tupleExact _) (wpAny_newObj_type (wpAny_pure ⟨_,rfl,wpAny_pure h⟩) htake))
end
end HT

namespace L2
open PySem PySem.Spec PyProof.Rows

abbrev TO:=St→Hp→(Option Int→Hp→Prop)→Prop
def PO (X:Cx) (e:Option Expr) (t:TO) : Prop:=
 ∀ (pins:List (Addr × Obj)) (s:Shared) (σ:St) (H:Hp) (Q:Option Int→Hp→Prop),Inv X pins σ H s→t σ H Q →
  wpAny (model X.prog X.w) X.A (evalPart e X.env) (fun u s'=>∃ o H',Inv X pins σ H' s'∧IsPart u o∧Q o H') X.xe s
def BI:TO:=fun _ H Q=>Q none H
def DU (t:TE) : TO:=fun σ H Q=>t σ H fun x H1=>∃ i,x = .int i∧Q (some i) H1

section
variable {X:Cx} {e:Expr} {te:TE} {lo hi:Option Expr} {tl th:TO} {pos p2:Pos}

theorem eJ:PO X none BI:=by
 intro pins s σ H Q I h
 rw [evalPart_none]
 exact wpAny_pure ⟨none,H,I,.none,h⟩
theorem dI (h:PE X e te) : PO X (some e) (DU te):=by
 intro pins s σ H Q I hw
 rw [evalPart_some]
 refine thn (h pins s σ H _ I hw) fun u s1 ⟨x,H1,I1,r1,q1⟩=>?_
 obtain ⟨i,rfl,q⟩:=q1
 obtain ⟨t,rfl⟩:=r1
 exact ⟨some i,H1,I1,.int i t,q⟩

def SlR (X:Cx) (r:V→Option Int→Option Int→Hp→VK→Prop) : Prop:=
 ∀ (pins:List (Addr × Obj)) (s:Shared) (σ:St) (H:Hp) (x:V) (v vl vu:Value) (lo hi:Option Int) (sl:Addr) (Q:VK),Inv X pins σ H s→aZ x v→s.heap.IsSliceOf sl vl vu .none→IsPart vl lo→IsPart vu hi→r x lo hi H Q →
  ∃ T id,typeLookup (.type T) "__getitem__" = pure (some (.builtin id))∧s.TypeIs v T∧wpAny (model X.prog X.w) X.A (getItem v (.ref sl)) (EP X pins σ Q) X.xe s
def tSl (r:V→Option Int→Option Int→Hp→VK→Prop) (te:TE) (tl th:TO) : TE:=fun σ H Q=>te σ H fun x H1=>tl σ H1 fun l H2=>th σ H2 fun u H3=>r x l u H3 Q
theorem dz {r:V→Option Int→Option Int→Hp→VK→Prop} (hr:SlR X r) (he:PE X e te) (hl:PO X lo tl) (hu:PO X hi th) : PE X (.Subscript e (.Slice lo hi none p2) pos) (tSl r te tl th):=by
 intro pins s σ H Q I h
 refine Subscript_ (thn (he pins s σ H _ I h) fun v s1 ⟨x,H1,I1,r1,q1⟩=>?_)
 refine wpAny_Slice (thn (hl pins s1 σ H1 _ I1 q1) fun vl s2 ⟨l,H2,I2,pl,q2⟩=>thn (hu pins s2 σ H2 _ I2 q2) fun vu s3 ⟨u,H3,I3,pu,q3⟩=>?_)
 rw [evalPart_none]
 refine wpAny_pure ?_
 have I4:Inv X pins σ H3 { s3 with heap:=s3.heap.push { cls:=.type "slice",data:=.fields #[vl,vu,.none] } }:=I3.kept (t':=s3.toks) fun b ob q=>Heap.get?_push_of_some _ q
 obtain ⟨T,id,hT,ht,hg⟩:=hr pins { s3 with heap:=s3.heap.push { cls:=.type "slice",data:=.fields #[vl,vu,.none] } } σ H3 x v vl vu l u s3.heap.objs.size Q I4 r1 (Heap.IsSliceOf.new ..) pl pu q3
 show wpAny (model X.prog X.w) X.A (subscriptTail e (.Slice lo hi none p2) v (.ref s3.heap.objs.size)) (EP X pins σ Q) X.xe { s3 with heap:=s3.heap.push { cls:=.type "slice",data:=.fields #[vl,vu,.none] } }
 exact tail_any (ops:=[.ref s3.heap.objs.size,v]) ht hT hg (by with_unfolding_all rfl)

def eK (xs:List V) (lo hi:Option Int) : List V:=(xs.drop (HT.sIx xs.length 0 lo)).take (HT.sIx xs.length xs.length hi - HT.sIx xs.length 0 lo)
theorem qM (xs:List V) (lo hi:Option Int) : (eK xs lo hi).length≤xs.length:=by
 unfold eK
 rw [List.length_take,List.length_drop]
 omega
def CK (K:PySem.W.Frag) : V→Option Int→Option Int→Hp→VK→Prop:=fun x lo hi H Q=>∃ a xs,x = .ref a∧SqT K H a xs ∧
 ¬ (HT.sIx xs.length 0 lo=0∧HT.sIx xs.length xs.length hi=xs.length)∧∀ p,H p=none→Q (.ref p) (upd H p (.tup (eK xs lo hi)))
theorem CM:SlR X (CK X.K):=by
 intro pins s σ H x v vl vu lo hi sl Q I rx hs pl pu h
 obtain ⟨a,xs,rfl,hx,hw,q⟩:=h
 cases rx
 obtain ⟨its,r,ht,hz⟩:=I.tuple hx
 have hlen:its.toArray.size=xs.length:=by rw [List.size_toArray]; exact r.length.symm
 refine ⟨"tuple",_,PyProof.Rows.slot_tuple_getitem.lookup,ht.typeIs,?_⟩
 refine HT.getItem_tuple_cut ht hs pl pu (by rw [hlen]; exact hw) ?_ (by rw [hlen]; exact hz)
 rw [hlen]
 refine ⟨.ref s.heap.objs.size,_,I.laid (t':=s.toks) (o:=.tup (eK xs lo hi)) (fun b ob q=>Heap.get?_push_of_some _ q) (Nat.le_refl _) ?_,rfl,q _ (I.hok.fresh (Nat.le_refl _))⟩
 exact ⟨Nat.le_trans (qM xs lo hi) hz,_,(r.drop (HT.sIx xs.length 0 lo)).take (HT.sIx xs.length xs.length hi - HT.sIx xs.length 0 lo),IsTup.new _ _⟩

end

def ixN (n:Nat) (i:Int) : Option Nat:=if 0≤i then (if i < n then some i.toNat else none) else if -(n:Int)≤i then some (i+n).toNat else none
def atI {α:Type} (xs:List α) (i:Int) : Option α:=(ixN xs.length i).bind fun j=>xs[j]?
theorem xB {n:Nat} {i:Int} {j:Nat} (h:ixN n i=some j) : seqIndex? i n=some j∧j < n∧-(n:Int)≤i∧i < n:=by
 unfold ixN at h
 by_cases h0:0≤i
 ·rw [if_pos h0] at h
  by_cases h1:i < n
  ·rw [if_pos h1] at h
   have e:i.toNat=j:=Option.some.inj h
   exact ⟨by rw [seqIndex_of h0 h1,e],by omega,by omega,h1⟩
  ·rw [if_neg h1] at h; cases h
 ·rw [if_neg h0] at h
  by_cases h1:-(n:Int)≤i
  ·rw [if_pos h1] at h
   have e:(i+n).toNat=j:=Option.some.inj h
   exact ⟨by rw [seqIndex_neg (by omega) h1,e],by omega,h1,by omega⟩
  ·rw [if_neg h1] at h; cases h
theorem tz {α:Type} {xs:List α} {i:Int} {v:α} (h:atI xs i=some v) : ∃ j,seqIndex? i xs.length=some j∧xs[j]? = some v∧j < xs.length∧-(xs.length:Int)≤i∧i < xs.length:=by
 unfold atI at h
 cases e:ixN xs.length i with
 | none=>rw [e] at h; cases h
 | some j =>
  rw [e] at h
  obtain ⟨h1,h2,h3,h4⟩:=xB e
  exact ⟨j,h1,h,h2,h3,h4⟩
theorem dy {α:Type} {xs:List α} {j:Nat} {v:α} (h:xs[j]? = some v) : atI xs (j:Int)=some v:=by
 have hj:j < xs.length:=(List.getElem?_eq_some_iff.mp h).1
 have e:ixN xs.length (j:Int)=some j:=by
  unfold ixN
  rw [if_pos (by omega),if_pos (by omega)]; simp
 unfold atI; rw [e]; exact h
def BJ (b:Expr) : Prop:=∀ o i,subscripted b false o i=operate [o,i] (getItem o i)
def IxR (X:Cx) (r:R2) : Prop:=
 ∀ (value slice:Expr) (pins:List (Addr × Obj)) (s:Shared) (σ:St) (H:Hp) (x y:V) (v u:Value) (Q:VK),Inv X pins σ H s→aZ x v→aZ y u→r x y H Q →
  subscripted slice false v u=operate [v,u] (getItem v u)→wpAny (model X.prog X.w) X.A (subscriptTail value slice v u) (EP X pins σ Q) X.xe s
def MtR (X:Cx) (id:String) (r:V→List V→Hp→VK→Prop) : Prop:=
 ∀ (pins:List (Addr × Obj)) (s:Shared) (σ:St) (H:Hp) (x:V) (xs:List V) (v:Value) (us:List Value) (Q:VK),Inv X pins σ H s→aZ x v→aU xs us→r x xs H Q →
  wpAny (model X.prog X.w) X.A (call (.builtin id) (v :: us)) (EP X pins σ Q) X.xe s
section
variable {X:Cx} {a b:Expr} {ta tb:TE} {pos:Pos}
theorem IxR.or {r r':R2} (h:IxR X r) (h':IxR X r') : IxR X (fun x y H Q=>r x y H Q∨r' x y H Q):=by
 intro value slice pins s σ H x y v u Q I rx ry q hs
 rcases q with q | q
 ·exact h value slice pins s σ H x y v u Q I rx ry q hs
 ·exact h' value slice pins s σ H x y v u Q I rx ry q hs
theorem aD {r:R2} (hr:IxR X r) (ha:PE X a ta) (hb:PE X b tb) (hs:BJ b) : PE X (.Subscript a b pos) (tOp r ta tb):=by
 intro pins s σ H Q I h
 exact Subscript_ (Au ha hb I h fun v u s2 x y H2 I2 rx ry q=>hr a b pins s2 σ H2 x y v u Q I2 rx ry q (hs _ _))

def CN (K:PySem.W.Frag) : R2:=fun x y H Q=>∃ p xs i v,x = .ref p∧y = .int i∧SqL K H p xs∧atI xs i=some v∧Q v H
def lI (K:PySem.W.Frag) : R2:=fun x y H Q=>∃ p xs i v,x = .ref p∧y = .int i∧SqT K H p xs∧atI xs i=some v∧Q v H
def CO:R2:=fun x y H Q=>∃ z i c,x = .str z∧y = .int i∧z.length≤sizeLine∧atI z.cps.toList i=some c∧Q (.str ⟨#[c]⟩) H
theorem bU:IxR X (CN X.K):=by
 intro value slice pins s σ H x y v u Q I rx ry h hs
 obtain ⟨p,xs,i,z,rfl,rfl,hq,he,q⟩:=h
 cases rx
 obtain ⟨t,rfl⟩:=ry
 obtain ⟨its,r,pl,hz⟩:=I.list hq
 obtain ⟨j,h1,h2,h3,h4,h5⟩:=tz he
 obtain ⟨w,ew,rw'⟩:=r.get h2
 have hl:=r.length
 have hn:=jX
 have fin:EP X pins σ Q w s:=⟨z,H,I,rw',q⟩
 by_cases h0:0≤i
 ·have hj:i.toNat=j:=by
   rw [seqIndex_of h0 h5] at h1
   exact Option.some.inj h1
  exact item_listR pl.isList h0 (by omega) (by rw [hj]; simpa using ew) fin hs
 ·have hj:(i+(its.toArray.size:Int)).toNat=j:=by
   rw [seqIndex_neg (by omega) h4] at h1
   rw [List.size_toArray,← hl]
   exact Option.some.inj h1
  exact subscriptTail_builtinR (x:=w) pl.isList.typeIs slot_list_getitem.lookup
   (wpAny_getItem_list_neg (Q:=fun r s'=>r=w∧EP X pins σ Q r s') pl.isList (by omega) (by rw [List.size_toArray] <;> omega) (by omega) (by rw [hj]; simpa using ew) ⟨rfl,fin⟩) hs
theorem aN:IxR X (lI X.K):=by
 intro value slice pins s σ H x y v u Q I rx ry h hs
 obtain ⟨p,xs,i,z,rfl,rfl,hq,he,q⟩:=h
 cases rx
 obtain ⟨t,rfl⟩:=ry
 obtain ⟨its,r,pl,hz⟩:=I.tuple hq
 obtain ⟨j,h1,h2,h3,h4,h5⟩:=tz he
 obtain ⟨w,ew,rw'⟩:=r.get h2
 have hl:=r.length
 have hn:=jX
 have fin:EP X pins σ Q w s:=⟨z,H,I,rw',q⟩
 exact subscriptTail_builtinR (x:=w) pl.typeIs slot_tuple_getitem.lookup
  (getItem_tuple (j:=j) (Q:=fun r s'=>r=w∧EP X pins σ Q r s') pl (by omega) (by omega) (by rw [List.size_toArray,← hl]; exact h1) (by simpa using ew) ⟨rfl,fin⟩) hs
theorem d9:IxR X CO:=by
 intro value slice pins s σ H x y v u Q I rx ry h hs
 obtain ⟨z,i,c,rfl,rfl,hz,he,q⟩:=h
 obtain ⟨t,rfl⟩:=rx
 obtain ⟨t',rfl⟩:=ry
 obtain ⟨j,h1,h2,h3,h4,h5⟩:=tz he
 have hl:z.cps.toList.length=z.length:=by simp [Str.length]
 rw [hl] at h1 h4 h5
 have hn:=jX
 exact tail_any (typeIs_str s z t) slot_str_getitem.lookup (getItem_str (c:=c) (by
  have e1:decide (i < -(2 ^ 63:Int))=false:=decide_eq_false (by omega)
  have e2:decide (i ≥ 2 ^ 63)=false:=decide_eq_false (by omega)
  rw [e1,e2,Bool.or_false]) (by rw [h1]; simpa using h2) ⟨.str ⟨#[c]⟩,H,I.tok _,⟨_,rfl⟩,q⟩) hs
def rIx (K:PySem.W.Frag) : R2:=fun x y H Q=>CN K x y H Q∨lI K x y H Q∨CO x y H Q
theorem zg:IxR X (rIx X.K):=bU.or (aN.or d9)

theorem yd (its:List Value) (n j:Nat) (u:Value) : Obj.mapSeq (·.setIfInBounds j u) { cls:=.type "list",data:=.seq its.toArray n }={ cls:=.type "list",data:=.seq (its.set j u).toArray n }:=by
 simp [Obj.mapSeq]
theorem Inv.lst {pins:List (Addr × Obj)} {σ:St} {H:Hp} {s:Shared} {p:Addr} {xs:List V} (I:Inv X pins σ H s) (h:H p=some (.lst xs)) :
  ∃ (its:List Value) (n:Nat),aU xs its∧s.heap.get? p=some { cls:=.type "list",data:=.seq its.toArray n }∧xs.length≤sizeLine:=by
 obtain ⟨z,its,n,r,e⟩:=I.hok p _ h
 exact ⟨its,n,r,e,z⟩
theorem Inv.lstUpd {pins:List (Addr × Obj)} {σ:St} {H:Hp} {s:Shared} {p:Addr} {xs ys:List V} {its its':List Value} {n n':Nat} {f:Obj→Obj} (I:Inv X pins σ H s) (h:H p=some (.lst xs))
  (ho:s.heap.get? p=some { cls:=.type "list",data:=.seq its.toArray n }) (hf:f { cls:=.type "list",data:=.seq its.toArray n }={ cls:=.type "list",data:=.seq its'.toArray n' }) (r:aU ys its') (hz:ys.length≤sizeLine) (t:Nat) :
  Inv X pins σ (upd H p (.lst ys)) { s with heap:=s.heap.update p f,toks:=t }:=by
 have e:(s.heap.update p f).get? p=some { cls:=.type "list",data:=.seq its'.toArray n' }:=by
  rw [Heap.get?_update_self f ho (by rw [hf] <;> rfl),hf]
 refine I.write (x:=p) (e:=p) (by rw [h]; trivial) (.inl rfl) (fun b u hb q=>(Heap.get?_update_other _ _ (Ne.symm hb)).trans q) ⟨_,e⟩ ?_
 exact ⟨hz,its',n',r,e⟩
def DV:V→V→V→Hp→(Hp→Prop)→Prop:=fun o i v H Q=>∃ p xs k j,o = .ref p∧i = .int k∧H p=some (.lst xs)∧ixN xs.length k=some j∧Q (upd H p (.lst (xs.set j v)))
theorem AC:Cz X DV:=by
 intro pins s σ H o i v ov iv u Q I ro ri rv h
 obtain ⟨p,xs,k,j,rfl,rfl,hp,hj,q⟩:=h
 cases ro
 obtain ⟨t,rfl⟩:=ri
 obtain ⟨its,n,r,ho,hz⟩:=I.lst hp
 obtain ⟨h1,h2,h3,h4⟩:=xB hj
 have hl:=r.length
 have hn:=jX
 have I':Inv X pins σ (upd H p (.lst (xs.set j v))) { s with heap:=s.heap.update p (Obj.mapSeq (·.setIfInBounds j u)) }:=
  I.lstUpd hp ho (yd its n j u) (r.set rv j) (by rw [List.length_set]; exact hz) s.toks
 by_cases h0:0≤k
 ·have hk:k.toNat=j:=by
   rw [seqIndex_of h0 h4] at h1
   exact Option.some.inj h1
  exact PySem.W.ki_setAt ho h0 (by omega) (by rw [List.size_toArray,← hl]; exact h4) (by rw [hk]; exact ⟨_,I',q⟩)
 ·have hk:(k+(its.toArray.size:Int)).toNat=j:=by
   rw [seqIndex_neg (by omega) h3] at h1
   rw [List.size_toArray,← hl]
   exact Option.some.inj h1
  exact PySem.W.ki_setBack ho (by omega) (by rw [List.size_toArray,← hl]; exact h3) (by omega) (by rw [hk]; exact ⟨_,I',q⟩)

theorem vI (lo hi:Option Int) (n:Nat) : (sliceBounds lo hi none n).1=((HT.sIx n 0 lo:Nat) : Int)∧(sliceBounds lo hi none n).2.1=((HT.sIx n n hi:Nat) : Int)∧(sliceBounds lo hi none n).2.2=1:=by
 refine ⟨?_,?_,rfl⟩
 ·cases lo with
  | none=>simp [sliceBounds,HT.sIx]
  | some i =>
   simp only [sliceBounds,HT.sIx,Option.getD_none,show (1:Int) > 0 by decide,if_true]
   by_cases h:i < 0
   ·simp only [h,if_true] <;> omega
   ·simp only [h,if_false] <;> omega
 ·cases hi with
  | none=>simp [sliceBounds,HT.sIx]
  | some i =>
   simp only [sliceBounds,HT.sIx,Option.getD_none,show (1:Int) > 0 by decide,if_true]
   by_cases h:i < 0
   ·simp only [h,if_true] <;> omega
   ·simp only [h,if_false] <;> omega
theorem uF (its:List Value) (lo hi:Option Int) : slicePick its.toArray lo hi none=((its.drop (HT.sIx its.length 0 lo)).take (HT.sIx its.length its.length hi - HT.sIx its.length 0 lo)).toArray:=by
 obtain ⟨h1,h2,h3⟩:=vI lo hi its.toArray.size
 unfold slicePick
 rw [h1,h2,h3]
 simp only [sliceRange_one,pick_run,List.size_toArray] <;> rfl
def Ey (K:PySem.W.Frag) : V→Option Int→Option Int→Hp→VK→Prop:=fun x lo hi H Q=>∃ a xs,x = .ref a∧SqL K H a xs∧∀ p,H p=none→Q (.ref p) (upd H p (.lst (eK xs lo hi)))
theorem tD:SlR X (Ey X.K):=by
 intro pins s σ H x v vl vu lo hi sl Q I rx hs pl pu h
 obtain ⟨a,xs,rfl,hx,q⟩:=h
 cases rx
 obtain ⟨its,r,ht,hz⟩:=I.list hx
 have hlen:=r.length
 refine ⟨"list",_,slot_list_getitem.lookup,ht.isList.typeIs,?_⟩
 refine wpAny_getItem_list_slice ht.isList hs pl pu .none (by simp) ?_ (by rw [List.size_toArray] <;> omega)
 rw [uF,← hlen]
 refine ⟨.ref s.heap.objs.size,_,I.laid (t':=s.toks) (o:=.lst (eK xs lo hi)) (fun b ob q=>Heap.get?_push_of_some _ q) (Nat.le_refl _) ?_,rfl,q _ (I.hok.fresh (Nat.le_refl _))⟩
 exact ⟨Nat.le_trans (qM xs lo hi) hz,_,0,(r.drop (HT.sIx xs.length 0 lo)).take (HT.sIx xs.length xs.length hi - HT.sIx xs.length 0 lo),Heap.get?_push_size _ rfl⟩

def iq:V→Bool
 | .non=>true
 | .bl _=>true
 | .int _=>true
 | .str _=>true
 | _=>false
def eqV:V→V→Bool
 | .non,.non=>true
 | .bl a,.bl b=>a == b
 | .bl a,.int b=>(if a then 1 else 0) == b
 | .int a,.bl b=>a == (if b then 1 else 0)
 | .int a,.int b=>a == b
 | .str a,.str b=>a == b
 | _,_=>false
theorem CP {A:Around} {s:Shared} {y x:V} {u v:Value} (ry:aZ y u) (rx:aZ x v) (fy:iq y=true) (fx:iq x=true) : SeqAt.EqAt A s u v (eqV y x):=by
 cases y with
 | non =>
  cases ry
  cases x with
  | non=>cases rx; exact SeqAt.EqAt.same _
  | bl b=>cases rx; exact SeqAt.EqAt.none_bool b
  | int b=>obtain ⟨t,rfl⟩:=rx; exact SeqAt.EqAt.none_int b t
  | str b=>obtain ⟨t,rfl⟩:=rx; exact SeqAt.EqAt.none_str b t
  | _=>exact absurd (show false=true from fx) Bool.false_ne_true
 | bl a =>
  cases ry
  cases x with
  | non=>cases rx; exact SeqAt.EqAt.bool_none a
  | bl b=>cases rx; exact SeqAt.EqAt.bool_bool a b
  | int b=>obtain ⟨t,rfl⟩:=rx; exact SeqAt.EqAt.bool_int a b t
  | str b=>obtain ⟨t,rfl⟩:=rx; exact SeqAt.EqAt.bool_str a b t
  | _=>exact absurd (show false=true from fx) Bool.false_ne_true
 | int a =>
  obtain ⟨t',rfl⟩:=ry
  cases x with
  | non=>cases rx; exact SeqAt.EqAt.int_none a t'
  | bl b=>cases rx; exact SeqAt.EqAt.int_bool a t' b
  | int b=>obtain ⟨t,rfl⟩:=rx; exact SeqAt.EqAt.int_int a t' b t
  | str b=>obtain ⟨t,rfl⟩:=rx; exact SeqAt.EqAt.int_str a t' b t
  | _=>exact absurd (show false=true from fx) Bool.false_ne_true
 | str a =>
  obtain ⟨t',rfl⟩:=ry
  cases x with
  | non=>cases rx; exact SeqAt.EqAt.str_none a t'
  | bl b=>cases rx; exact SeqAt.EqAt.str_bool a t' b
  | int b=>obtain ⟨t,rfl⟩:=rx; exact SeqAt.EqAt.str_int a t' b t
  | str b=>obtain ⟨t,rfl⟩:=rx; exact SeqAt.EqAt.str_str a t' b t
  | _=>exact absurd (show false=true from fx) Bool.false_ne_true
 | _=>exact absurd (show false=true from fy) Bool.false_ne_true
def eqU (x:V) (u:Value) : Bool:=match u with
 | .none=>eqV .non x
 | .bool b=>eqV (.bl b) x
 | .int i _=>eqV (.int i) x
 | .str z _=>eqV (.str z) x
 | _=>false
theorem vJ {x y:V} {u:Value} (r:aZ y u) (f:iq y=true) : eqU x u=eqV y x:=by
 cases y with
 | non=>cases r; rfl
 | bl b=>cases r; rfl
 | int i=>obtain ⟨t,rfl⟩:=r; rfl
 | str z=>obtain ⟨t,rfl⟩:=r; rfl
 | _=>exact absurd (show false=true from f) Bool.false_ne_true
theorem mC {x:V} : ∀ {xs:List V} {us:List Value},aU xs us→xs.all iq=true→us.any (eqU x)=xs.any fun y=>eqV y x
 | _,_,.nil,_=>rfl
 | y :: xs,u :: us,.cons r t,f=>by
  rw [List.all_cons,Bool.and_eq_true] at f
  rw [List.any_cons,List.any_cons,vJ r f.1,mC t f.2]
theorem iZ {A:Around} {s:Shared} {x:V} {v:Value} (rx:aZ x v) (fx:iq x=true) : ∀ {xs:List V} {us:List Value},aU xs us→xs.all iq=true→∀ u ∈ us,SeqAt.EqAt A s u v (eqU x u)
 | _,_,.nil,_=>fun u hu=>by cases hu
 | y :: xs,u :: us,.cons r t,f=>fun u' hu=>by
  rw [List.all_cons,Bool.and_eq_true] at f
  rcases List.mem_cons.mp hu with rfl | hu
  ·rw [vJ r f.1]; exact CP r rx f.1 fx
  ·exact iZ rx fx t f.2 u' hu
def inV (x:V) (xs:List V) : Bool:=xs.any fun y=>eqV y x
def rIn (K:PySem.W.Frag) (neg:Bool) : R2:=fun x y H Q=>∃ p xs,y = .ref p∧(SqL K H p xs∨SqT K H p xs)∧iq x=true∧xs.all iq=true∧Q (.bl (if neg then !inV x xs else inV x xs)) H
theorem gr:OpR X (compareOp .In) (rIn X.K false):=by
 intro pins s σ H x y v u Q I rx ry h
 obtain ⟨p,xs,rfl,hq,fx,fs,q⟩:=h
 cases ry
 rcases hq with hq | hq
 ·obtain ⟨its,r,pl,hz⟩:=I.list hq
  refine SeqAt.in_listAt (eqU x) pl.isList (fun w hw=>iZ rx fx r fs w (by simpa using hw)) ⟨.bl _,H,I,rfl,?_⟩
  rw [show its.toArray.any (eqU x)=its.any (eqU x) by simp,mC r fs]
  exact q
 ·obtain ⟨its,r,pl,hz⟩:=I.tuple hq
  refine SeqAt.in_tupleAt (eqU x) pl (fun w hw=>iZ rx fx r fs w (by simpa using hw)) ⟨.bl _,H,I,rfl,?_⟩
  rw [show its.toArray.any (eqU x)=its.any (eqU x) by simp,mC r fs]
  exact q
theorem vK:OpR X (compareOp .NotIn) (rIn X.K true):=by
 intro pins s σ H x y v u Q I rx ry h
 obtain ⟨p,xs,rfl,hq,fx,fs,q⟩:=h
 cases ry
 rcases hq with hq | hq
 ·obtain ⟨its,r,pl,hz⟩:=I.list hq
  refine SeqAt.notIn_listAt (eqU x) pl.isList (fun w hw=>iZ rx fx r fs w (by simpa using hw)) ⟨.bl _,H,I,rfl,?_⟩
  rw [show its.toArray.any (eqU x)=its.any (eqU x) by simp,mC r fs]
  exact q
 ·obtain ⟨its,r,pl,hz⟩:=I.tuple hq
  refine SeqAt.notIn_tupleAt (eqU x) pl (fun w hw=>iZ rx fx r fs w (by simpa using hw)) ⟨.bl _,H,I,rfl,?_⟩
  rw [show its.toArray.any (eqU x)=its.any (eqU x) by simp,mC r fs]
  exact q
theorem bD:fc X (.builtin "len") (fun xs H Q=>∃ p ys,xs=[.ref p]∧(SqL X.K H p ys∨SqT X.K H p ys)∧Q (.int ys.length) H):=by
 intro pins s σ H xs us Q I r h
 obtain ⟨p,ys,rfl,hq,q⟩:=h
 obtain ⟨u,rfl,rx⟩:=gk r
 cases rx
 have hn:=jX
 rcases hq with hq | hq
 ·obtain ⟨its,r',pl,hz⟩:=I.list hq
  have hlen:=r'.length
  exact Calls.call_len_list pl.isList (by simp only [List.size_toArray] <;> omega) ⟨.int ys.length,H,I.tok _,⟨s.toks+1,by rw [List.size_toArray,hlen]⟩,q⟩
 ·obtain ⟨its,r',pl,hz⟩:=I.tuple hq
  have hlen:=r'.length
  exact len_tuple pl (by simp only [List.size_toArray] <;> omega) ⟨.int ys.length,H,I.tok _,⟨s.toks+1,by rw [List.size_toArray,hlen]⟩,q⟩
theorem gt:fc X (.builtin "len") (fun xs H Q=>∃ z,xs=[.str z]∧z.length≤sizeLine∧Q (.int z.length) H):=by
 intro pins s σ H xs us Q I r h
 obtain ⟨z,rfl,hz,q⟩:=h
 obtain ⟨u,rfl,t,rfl⟩:=gk r
 have hn:=jX
 exact len_str (by omega) ⟨.int z.length,H,I.tok _,⟨_,rfl⟩,q⟩
theorem vL:fc X (.type "list") (fun xs H Q=>∃ p ys,xs=[.ref p]∧(SqL X.K H p ys∨SqT X.K H p ys)∧∀ l,H l=none→Q (.ref l) (upd H l (.lst ys))):=by
 intro pins s σ H xs us Q I r h
 obtain ⟨p,ys,rfl,hq,q⟩:=h
 obtain ⟨u,rfl,rx⟩:=gk r
 cases rx
 have fin:∀ (its:List Value),aU ys its→ys.length≤sizeLine→∀ (h':Heap) (c':Nat),(∀ b o',s.heap.get? b=some o'→h'.get? b=some o') →
   h'.get? s.heap.objs.size=some { cls:=.type "list",dict:=none,data:=.seq its.toArray c',slots:=#[] }→EP X pins σ Q (.ref s.heap.objs.size) { s with heap:=h' }:=fun its r' hz h' c' kp e =>
  ⟨.ref s.heap.objs.size,_,I.laid (t':=s.toks) kp (Nat.le_refl _) (show bQ X.prog X.w _ h' _ (.lst ys) from ⟨hz,its,c',r',e⟩),rfl,q _ (I.hok.fresh (Nat.le_refl _))⟩
 rcases hq with hq | hq
 ·obtain ⟨its,r',pl,hz⟩:=I.list hq
  have hlen:=r'.length
  obtain ⟨o,ho,hc,n,hd⟩:=pl.isList
  exact call_list_seq p (.inl rfl) ho hc hd (fun h' c' kp e=>fin its r' hz h' c' kp e) (by simp only [List.size_toArray] <;> omega)
 ·obtain ⟨its,r',pl,hz⟩:=I.tuple hq
  have hlen:=r'.length
  obtain ⟨o,ho,hc,n,hd⟩:=pl
  exact call_list_seq p (.inr rfl) ho hc hd (fun h' c' kp e=>fin its r' hz h' c' kp e) (by simp only [List.size_toArray] <;> omega)
def tyV (K:PySem.W.Frag) (T:String) (x:V) (H:Hp) : Prop:=match x with
 | .str _=>T = "str"
 | .int _=>T = "int"
 | .ref p=>(T = "list"∧∃ xs,SqL K H p xs)∨(T = "tuple"∧∃ o,K.lookup p=some o∧o.cls = .type "tuple"∧o.dict=none) ∨
   (T = "dict"∧((∃ kvs,H p=some (.dK kvs))∨∃ kvs,H p=some (.dT kvs)))∨(T = "set"∧∃ S n,H p=some (.set S n))
 | _=>False
theorem CQ {pins:List (Addr × Obj)} {σ:St} {H:Hp} {s:Shared} {T:String} {x:V} {v:Value} (I:Inv X pins σ H s) (r:aZ x v) (ty:tyV X.K T x H) :
  s.TypeIs v T∧∀ a,v = .ref a→∃ ob,s.heap.get? a=some ob∧ob.dict=none:=by
 cases x with
 | str z =>
  obtain ⟨t,rfl⟩:=r
  cases (show T = "str" from ty)
  exact ⟨typeIs_str s z t,fun _ e=>nomatch e⟩
 | int i =>
  obtain ⟨t,rfl⟩:=r
  cases (show T = "int" from ty)
  exact ⟨typeIs_int s i t,fun _ e=>nomatch e⟩
 | ref p =>
  cases r
  rcases ty with ⟨rfl,xs,hq⟩ | ⟨rfl,o,hk,hc,hd⟩ | ⟨rfl,hk⟩ | ⟨rfl,S,n,hk⟩
  ·obtain ⟨its,_,pl,_⟩:=I.list hq
   refine ⟨pl.isList.typeIs,fun a e=>?_⟩
   cases e
   obtain ⟨o,n,e,c,hd,_⟩:=pl
   exact ⟨o,e,hd⟩
  ·refine ⟨⟨o,I.kIn p o hk,hc⟩,fun a e=>?_⟩
   cases e
   exact ⟨o,I.kIn _ o hk,hd⟩
  ·have z:∃ o,s.heap.get? p=some o∧o.ExactDict:=by
    rcases hk with ⟨kvs,hk⟩ | ⟨kvs,hk⟩
    ·obtain ⟨_,_,_,_,o,_,_,e,ex,_⟩:=I.hok p _ hk
     exact ⟨o,e,ex⟩
    ·obtain ⟨_,_,_,_,o,_,_,e,ex,_⟩:=I.hok p _ hk
     exact ⟨o,e,ex⟩
   obtain ⟨o,e,ex⟩:=z
   refine ⟨⟨o,e,ex.1⟩,fun a e2=>?_⟩
   cases e2
   exact ⟨o,e,ex.2.1⟩
  ·obtain ⟨o,_,_,_,e,ex,_⟩:=I.hok p _ hk
   refine ⟨⟨o,e,ex.1⟩,fun a e2=>?_⟩
   cases e2
   exact ⟨o,e,ex.2.1⟩
 | _=>exact False.elim ty
def tBM (K:PySem.W.Frag) (T:String) (r:V→List V→Hp→VK→Prop) (to:TE) (t:TA) : TE:=fun σ H Q=>to σ H fun x H1=>tyV K T x H1∧t σ H1 fun xs H2=>r x xs H2 Q
variable {o e:Expr} {es:List Expr} {to:TE} {t:TA} {name:Str} {apos cpos:Pos} {T id:String} {r:V→List V→Hp→VK→Prop}
theorem cH (pa:PlainAttrs T) (slot:Slot T name id) (hty:typeOf (.builtin id)=pure (.type "method_descriptor")) (hm:MtR X id r) (ho:PE X o to) (ha:PA X (e :: es) t)
  (hbase:attributeBase o name X.env (eval o X.env)=eval o X.env:=by rfl)
  (hfew:((backTo cpos (starEach (e :: es) X.env)).all (fun x=>!x.1) && (backToKw cpos (keywordEach [] X.env)).all (fun x=>x.1.isSome)
   && decide ((e :: es).length+([] : List Keyword).length+(if ([] : List Keyword).isEmpty then 0 else 1) < 30))=true:=by rfl)
  (hline:(apos.endLine == cpos.line)=true:=by rfl) (hs:starEach (e :: es) X.env=(false,eval e X.env) :: starEach es X.env:=by rfl) (hplain:(backTo cpos (starEach es X.env)).any (·.1)=false:=by rfl) :
  PE X (.Call (.Attribute o name apos) (e :: es) [] cpos) (tBM X.K T r to t):=by
 intro pins s σ H Q I h
 refine wpAny_Call_method_late hbase hfew hline rfl (thn (ho pins s σ H _ I h) fun v s1 ⟨x,H1,I1,r1,ty,q1⟩=>?_)
 obtain ⟨h1,h2⟩:=CQ I1 r1 ty
 refine ⟨T,id,pa,slot,hty,h1,h2,?_⟩
 have hA:=ha cpos pins s1 σ H1 _ I1 q1
 rw [hs] at hA ⊢
 refine Calls.callWith_builtin (by show (false || (backTo cpos (starEach es X.env)).any (·.1))=false; rw [hplain] <;> rfl) (Calls.evalArgs_plain ?_)
 exact thn hA fun us s2 ⟨vs,H2,I2,r2,q2⟩=>hm pins s2 σ H2 x vs v us Q I2 r1 r2 q2
end

def MtM (X:Cx) (id:String) (r:V→List V→Hp→VK→Prop) : Prop:=
 ∀ (pins:List (Addr × Obj)) (s:Shared) (σ:St) (H:Hp) (x:V) (xs:List V) (v:Value) (us:List Value) (Q:VK),Inv X pins σ H s→aZ x v→aU xs us→r x xs H Q →
  wpAny (model X.prog X.w) X.A (call (.builtin id) (v :: us)) (EP X pins σ Q) X.xe s

theorem aU.one:∀ {x:V} {us:List Value},aU [x] us→∃ u,us=[u]∧aZ x u
 | _,_,.cons r .nil=>⟨_,rfl,r⟩
theorem aU.rep {xs:List V} {us:List Value} (h:aU xs us) : ∀ k:Nat,aU (List.replicate k xs).flatten (List.replicate k us).flatten
 | 0=>.nil
 | k+1=>by
  rw [List.replicate_succ,List.replicate_succ,List.flatten_cons,List.flatten_cons]
  exact aU.append h (aU.rep h k)
theorem uh (its:List Value) : ∀ (k:Nat) (acc:List Value),
  List.foldl (fun x1 x2=>x1++x2) acc.toArray (List.replicate k its.toArray)=(acc++(List.replicate k its).flatten).toArray
 | 0,acc=>by simp
 | k+1,acc=>by
  have e:acc.toArray++its.toArray=(acc++its).toArray:=by simp
  have e2:(acc++its)++(List.replicate k its).flatten=acc++(List.replicate (k+1) its).flatten:=by
   rw [List.replicate_succ,List.flatten_cons,List.append_assoc]
  rw [← e2,← uh its k (acc++its),← e,List.replicate_succ,List.foldl_cons]

section
variable {X:Cx} {pins:List (Addr × Obj)} {σ:St} {H:Hp} {s:Shared} {l b:Addr} {xs ys zs:List V}

theorem Inv.lset {its its':List Value} {n:Nat} {f:Array Value→Array Value} {t':Nat} (I:Inv X pins σ H s) (hH:H l=some (.lst xs))
  (e:s.heap.get? l=some { cls:=.type "list",data:=.seq its.toArray n }) (hf:f its.toArray=its'.toArray) (hv:aU ys its') (hz:ys.length≤sizeLine) :
  Inv X pins σ (upd H l (.lst ys)) { s with heap:=s.heap.update l (Obj.mapSeq f),toks:=t' }:=by
 have q:=PySem.IsL.update e f
 rw [hf] at q
 refine I.write (x:=l) (e:=l) (by rw [hH]; exact trivial) (.inl rfl) (fun b' u hb hu=>(Heap.get?_update_other s.heap (Obj.mapSeq f) (Ne.symm hb)).trans hu) ⟨_,q⟩ ?_
 exact ⟨hz,its',_,hv,q⟩
theorem Inv.lnew {its:List Value} {t':Nat} (I:Inv X pins σ H s) (hv:aU ys its) (hz:ys.length≤sizeLine) :
  Inv X pins σ (upd H s.heap.objs.size (.lst ys)) { s with heap:=s.heap.push { cls:=.type "list",data:=.seq its.toArray },toks:=t' }:=
 I.laid (fun _ _ q=>Heap.get?_push_of_some _ q) (Nat.le_refl _) ⟨hz,its,0,hv,Heap.get?_push_size _ rfl⟩
theorem Inv.fresh (I:Inv X pins σ H s) : H s.heap.objs.size=none:=I.hok.fresh (Nat.le_refl _)
theorem Inv.lstM (I:Inv X pins σ H s) (hH:H l=some (.lst xs)) : xs.length≤sizeLine∧∃ (its:List Value) (n:Nat),aU xs its∧xs.length=its.length∧s.heap.get? l=some { cls:=.type "list",data:=.seq its.toArray n }:=by
 obtain ⟨z,its,n,r,e⟩:=I.hok l _ hH
 exact ⟨z,its,n,r,r.length,e⟩

theorem vM {n:Nat} (h:n≤sizeLine) : Builtin.List.listTooLong n=false:=by
 unfold Builtin.List.listTooLong
 exact decide_eq_false (by omega)
end

section
variable {X:Cx}

def BK:V→List V→Hp→VK→Prop:=fun x vs H Q=>∃ l xs y,x = .ref l∧vs=[y]∧H l=some (.lst xs)∧xs.length < sizeLine∧Q .non (upd H l (.lst (xs++[y])))
theorem cf:MtM X "list.append" BK:=by
 intro pins s σ H x vs v us Q I rx rv h
 obtain ⟨l,xs,y,rfl,rfl,hH,hz,q⟩:=h
 cases rx
 obtain ⟨u,rfl,ru⟩:=rv.one
 obtain ⟨z,its,n,r,hl,e⟩:=I.lstM hH
 refine call_meets F.slot_list_append ⟨_,e,rfl⟩ F.entry_list_append (F.args_list_append_2 _ _) (PySem.list_append l its.toArray n u (by rw [List.size_toArray]; omega)) ⟨e,?_⟩
 refine ⟨.non,_,I.lset (its':=its++[u]) hH e (by simp) (r.append (.cons ru .nil)) ?_,rfl,q⟩
 rw [List.length_append,List.length_singleton]
 omega

def BL:V→List V→Hp→VK→Prop:=fun x vs H Q=>∃ l b xs zs,x = .ref l∧vs=[.ref b]∧H l=some (.lst xs)∧H b=some (.lst zs)∧xs.length+zs.length≤sizeLine∧Q .non (upd H l (.lst (xs++zs)))
theorem oS:MtM X "list.extend" BL:=by
 intro pins s σ H x vs v us Q I rx rv h
 obtain ⟨l,b,xs,zs,rfl,rfl,hH,hB,hz,q⟩:=h
 cases rx
 obtain ⟨u,rfl,ru⟩:=rv.one
 cases ru
 obtain ⟨z,its,n,r,hl,e⟩:=I.lstM hH
 obtain ⟨z2,its2,n2,r2,hl2,e2⟩:=I.lstM hB
 have hsz:its.toArray.size+its2.toArray.size≤sizeLine:=by rw [List.size_toArray,List.size_toArray]; omega
 have hlong:¬ (!its.toArray.isEmpty && Builtin.List.listTooLong (its.toArray.size+its2.toArray.size))=true:=by
  rw [vM hsz,Bool.and_false]
  exact Bool.false_ne_true
 refine call_meets F.slot_list_extend ⟨_,e,rfl⟩ F.entry_list_extend (F.args_list_extend_2 _ _)
  (AutoSeq1.list_extend_list_list_0 l its.toArray n b its2.toArray n2 hlong (by rw [List.size_toArray]; omega) (by omega)) ⟨e,e2,?_⟩
 refine ⟨.non,_,I.lset (its':=its++its2) hH e (by simp) (r.append r2) ?_,rfl,q⟩
 rw [List.length_append]
 omega

def Ez:R2:=fun x y H Q=>∃ l b xs zs,x = .ref l∧y = .ref b∧H l=some (.lst xs)∧H b=some (.lst zs)∧xs.length+zs.length≤sizeLine∧∀ p,H p=none→Q (.ref p) (upd H p (.lst (xs++zs)))
theorem mD:OpR X (binaryOp .Add) Ez:=by
 intro pins s σ H x y v u Q I rx ry h
 obtain ⟨l,b,xs,zs,rfl,rfl,hH,hB,hz,q⟩:=h
 cases rx
 cases ry
 obtain ⟨z,its,n,r,hl,e⟩:=I.lstM hH
 obtain ⟨z2,its2,n2,r2,hl2,e2⟩:=I.lstM hB
 refine PySem.P.add_list e e2 ?_ (by rw [List.size_toArray,List.size_toArray]; omega)
 have ea:its.toArray++its2.toArray=(its++its2).toArray:=by simp
 rw [ea]
 exact ⟨.ref _,_,I.lnew (t':=s.toks) (r.append r2) (by rw [List.length_append]; omega),rfl,q _ I.fresh⟩
def EA:R2:=fun x y H Q=>∃ l k xs,x = .ref l∧y = .int k∧H l=some (.lst xs)∧-(2 ^ 63)≤k∧k < 2 ^ 63∧xs.length * k.toNat≤sizeLine ∧
 ∀ p,H p=none→Q (.ref p) (upd H p (.lst (List.replicate k.toNat xs).flatten))
theorem BM {α:Type} (xs:List α) (k:Nat) : (List.replicate k xs).flatten.length=k * xs.length:=by
 induction k with
 | zero=>simp
 | succ k ih=>rw [List.replicate_succ,List.flatten_cons,List.length_append,ih,Nat.succ_mul,Nat.add_comm]
theorem CS:OpR X (binaryOp .Mult) EA:=by
 intro pins s σ H x y v u Q I rx ry h
 obtain ⟨l,k,xs,rfl,rfl,hH,h1,h2,hz,q⟩:=h
 cases rx
 obtain ⟨t,rfl⟩:=ry
 obtain ⟨z,its,n,r,hl,e⟩:=I.lstM hH
 have hlen:its.toArray.size * k.toNat≤sizeLine:=by rw [List.size_toArray,← hl]; exact hz
 have hcap:¬ its.toArray.size * k.toNat > (2 ^ 63 - 1) / 8:=by
  have:(sizeLine:Nat)≤(2 ^ 63 - 1) / 8:=by decide
  omega
 have hfit:¬ (!Builtin.List.listFitsIndex k)=true:=by
  rw [fitsIndex_both h1 h2]
  exact Bool.false_ne_true
 have hlong:¬ Builtin.List.listTooLong (its.toArray.size * k.toNat)=true:=by
  rw [vM hlen]
  exact Bool.false_ne_true
 have hnew:List.foldl (fun x1 x2=>x1++x2) #[] (List.replicate (if its.toArray.isEmpty=true then 0 else k.toNat) its.toArray)=(List.replicate k.toNat its).flatten.toArray:=by
  have f0:∀ m:Nat,List.foldl (fun x1 x2=>x1++x2) #[] (List.replicate m its.toArray)=(List.replicate m its).flatten.toArray:=fun m=>by
   have:=uh its m []
   rw [List.nil_append] at this
   exact this
  rw [f0]
  cases its with
  | nil=>simp
  | cons a r'=>rw [if_neg (by simp)]
 refine wpAny_binaryOp_repeat_ref (T := "list") (U := "int") (by decide) ⟨_,e,rfl⟩ (fun s'=>typeIs_int s' k t) noFill_list_mul F.fills_int_mul F.slot_int_rmul repeat_list F.slot_int_index.lookup
  (call_meets F.slot_int_rmul (typeIs_int s k t) F.entry_int_rmul (F.args_int_rmul_2 _ _) (int___rmul___int_list k t l its.toArray n)
   ⟨e,rfl,⟨_,e,rfl⟩,call_meets F.slot_list_mul ⟨_,e,rfl⟩ F.entry_list_mul (F.args_list_mul_2 _ _) (AutoListH.list___mul___list_int_3 l its.toArray n k t hfit hcap hlong) ⟨e,?_⟩⟩)
 rw [hnew]
 exact ⟨.ref _,_,I.lnew (t':=s.toks) (r.rep k.toNat) (by rw [BM,Nat.mul_comm]; exact hz),rfl,q _ I.fresh⟩

end

section
variable {prog:Program} {w:World} {A:Around} {E:Value→Shared→Prop} {s:Shared}
end

section
variable {X:Cx}
end

section
variable {κ:Type} [DecidableEq κ]
def cN (kvs:List (κ × V)) (k:κ) : Option V:=(kvs.find? fun kv=>decide (kv.1=k)).map (·.2)
def iB (kvs:List (κ × V)) (k:κ) (v:V) : List (κ × V):=
 if (kvs.any fun kv=>decide (kv.1=k))=true then kvs.map (fun kv=>if kv.1=k then (kv.1,v) else kv) else kvs++[(k,v)]
theorem mT {p:κ × V} {r:List (κ × V)} {k:κ} (e:p.1=k) : cN (p :: r) k=some p.2:=by simp [cN,List.find?_cons,e]
theorem dQ {p:κ × V} {r:List (κ × V)} {k:κ} (e:¬ p.1=k) : cN (p :: r) k=cN r k:=by simp [cN,List.find?_cons,e]
theorem q0 (k:κ) : ∀ kvs:List (κ × V),(kvs.any fun kv=>decide (kv.1=k))=(cN kvs k).isSome
 | []=>rfl
 | p :: r=>by
  rw [List.any_cons]
  by_cases e:p.1=k
  ·simp only [mT e,decide_eq_true e,Bool.true_or,Option.isSome_some]
  ·rw [dQ e,decide_eq_false e,Bool.false_or]; exact q0 k r
theorem lJ (kvs:List (κ × V)) (k:κ) (v:V) : (iB kvs k v).length≤kvs.length+1:=by
 unfold iB
 split
 ·rw [List.length_map]; omega
 ·rw [List.length_append,List.length_cons,List.length_nil]; omega
theorem q_ {kvs:List (κ × V)} {k:κ} (v:V) (h:cN kvs k=none) : iB kvs k v=kvs++[(k,v)]:=by
 unfold iB
 rw [q0,h]
 exact if_neg (by decide)

theorem gq.isSome_eq {o:Option V} {u:Option Value} (r:gq o u) : o.isSome=u.isSome:=by
 cases o with
 | none=>cases u with
  | none=>rfl
  | some _=>exact (show False from r).elim
 | some _=>cases u with
  | none=>exact (show False from r).elim
  | some _=>rfl
theorem KV.val {kvs:List (κ × V)} {vs:List (κ × Value)} (r:KV kvs vs) (k:κ) : gq (cN kvs k) (valueAt vs k):=by
 unfold KV at r
 induction r with
 | nil=>exact True.intro
 | @cons p q ps qs h t ih =>
  obtain ⟨h1,h2⟩:=h
  by_cases e:p.1=k
  ·have e':q.1=k:=h1.symm.trans e
   have b:valueAt (q :: qs) k=some q.2:=by simp [valueAt,List.find?_cons,e']
   rw [mT e,b]; exact h2
  ·have e':¬ q.1=k:=fun z=>e (h1.trans z)
   have b:valueAt (q :: qs) k=valueAt qs k:=by simp [valueAt,List.find?_cons,e']
   rw [dQ e,b]; exact ih
theorem KV.any {kvs:List (κ × V)} {vs:List (κ × Value)} (r:KV kvs vs) (k:κ) : (kvs.any fun kv=>decide (kv.1=k))=vs.any fun kv=>decide (kv.1=k):=by
 unfold KV at r
 induction r with
 | nil=>rfl
 | cons h t ih=>rw [List.any_cons,List.any_cons,ih,h.1]
theorem KV.repl {kvs:List (κ × V)} {vs:List (κ × Value)} (r:KV kvs vs) (k:κ) {y:V} {u:Value} (ry:aZ y u) :
  KV (kvs.map fun kv=>if kv.1=k then (kv.1,y) else kv) (vs.map fun kv=>if kv.1=k then (kv.1,u) else kv):=by
 unfold KV at r ⊢
 induction r with
 | nil=>exact .nil
 | @cons p q ps qs h t ih =>
  rw [List.map_cons,List.map_cons]
  refine .cons ?_ ih
  obtain ⟨h1,h2⟩:=h
  by_cases e:p.1=k
  ·rw [if_pos e,if_pos (h1.symm.trans e)]; exact ⟨h1,ry⟩
  ·rw [if_neg e,if_neg (fun z=>e (h1.trans z))]; exact ⟨h1,h2⟩
theorem KV.put {kvs:List (κ × V)} {vs:List (κ × Value)} (r:KV kvs vs) (k:κ) {y:V} {u:Value} (ry:aZ y u) : KV (iB kvs k y) (stored vs k u):=by
 unfold iB stored
 rw [r.any k]
 by_cases e:(vs.any fun kv=>decide (kv.1=k))=true
 ·rw [if_pos e,if_pos e]; exact r.repl k ry
 ·rw [if_neg e,if_neg e]; exact Paired.snoc r ⟨rfl,ry⟩
theorem KV.length {kvs:List (κ × V)} {vs:List (κ × Value)} (r:KV kvs vs) : kvs.length=vs.length:=Paired.length r
end


theorem lg {P:Program} {w:World} {k:Key} {u:Value} (r:aZ (kV k) u) : (bf P w).is k u=true:=by
 cases k with
 | inl i=>obtain ⟨t,e⟩:=(show ∃ t,u=Value.int i t from r); subst e; exact xh P w i t
 | inr x=>obtain ⟨t,e⟩:=(show ∃ t,u=Value.str x t from r); subst e; exact xi P w x t
theorem ui {P:Program} {w:World} : ∀ {ks:List Key} {us:List Value},aU (ks.map kV) us→ItemsAre (bf P w) ks us
 | [],_,r=>by rw [List.map_nil] at r; cases r; exact .nil
 | k :: ks,_,r=>by
  rw [List.map_cons] at r
  cases r with
  | cons h t=>exact .cons (lg h) (ui t)

abbrev KT (H:Hp) : List (List Key × V)→List (List Key × Addr × Value)→Prop:=Paired fun p q=>p.1=q.1∧H q.2.1=some (.tup (p.1.map kV))∧aZ p.2 q.2.2
theorem KT.val {H:Hp} {kvs:List (List Key × V)} {xs:List (List Key × Addr × Value)} (r:KT H kvs xs) (k:List Key) : gq (cN kvs k) ((atKey xs k).map (·.2)):=by
 induction r with
 | nil=>exact True.intro
 | @cons p q ps qs h t ih =>
  obtain ⟨h1,_,h2⟩:=h
  by_cases e:p.1=k
  ·have e':q.1=k:=h1.symm.trans e
   have b:atKey (q :: qs) k=some q.2:=by simp [atKey,List.find?_cons,e']
   rw [mT e,b]; exact h2
  ·have e':¬ q.1=k:=fun z=>e (h1.trans z)
   have b:atKey (q :: qs) k=atKey qs k:=by simp [atKey,List.find?_cons,e']
   rw [dQ e,b]; exact ih
theorem KT.repl {H:Hp} {kvs:List (List Key × V)} {xs:List (List Key × Addr × Value)} (r:KT H kvs xs) (k:List Key) {y:V} {u:Value} (ry:aZ y u) :
  KT H (kvs.map fun kv=>if kv.1=k then (kv.1,y) else kv) (xs.map (putAt k u)):=by
 induction r with
 | nil=>exact .nil
 | @cons p q ps qs h t ih =>
  rw [List.map_cons,List.map_cons]
  refine .cons ?_ ih
  obtain ⟨h1,h2,h3⟩:=h
  unfold putAt
  by_cases e:p.1=k
  ·rw [if_pos e,if_pos (h1.symm.trans e)]; exact ⟨h1,h2,ry⟩
  ·rw [if_neg e,if_neg (fun z=>e (h1.trans z))]; exact ⟨h1,h2,h3⟩
theorem KT.put {H:Hp} {kvs:List (List Key × V)} {xs:List (List Key × Addr × Value)} (r:KT H kvs xs) (k:List Key) {b:Addr} {y:V} {u:Value} (hb:H b=some (.tup (k.map kV))) (ry:aZ y u) :
  KT H (iB kvs k y) (storedH xs k b u):=by
 have e:(kvs.any fun kv=>decide (kv.1=k))=(atKey xs k).isSome:=by
  rw [q0,(r.val k).isSome_eq,Option.isSome_map]
 unfold iB storedH
 rw [e]
 by_cases q:(atKey xs k).isSome=true
 ·rw [if_pos q,if_pos q]; exact r.repl k ry
 ·rw [if_neg q,if_neg q]; exact Paired.snoc r ⟨rfl,hb,ry⟩
theorem KT.keeps {H H':Hp} {kvs:List (List Key × V)} {xs:List (List Key × Addr × Value)} (r:KT H kvs xs) (ht:∀ b ys,H b=some (.tup ys)→H' b=some (.tup ys)) : KT H' kvs xs:=
 Paired.mapP r fun _ _ z=>⟨z.1,ht _ _ z.2.1,z.2.2⟩

section
variable {P:Program} {w:World} {H:Hp} {h:Heap} {a:Addr}
theorem Bp {u:HO} (ok:HOk P w H h) (e:Rd H a u) : bQ P w H h a u:=e.ok ok
theorem mU {kvs:List (Key × V)} (ok:HOk P w H h) (e:Rd H a (.dK kvs)) : kvs.length≤sizeLine∧(a == sysModules)=false∧∃ vs,KV kvs vs∧h.DictOf (bf P w) a vs:=
 show bQ P w H h a (.dK kvs) from Bp ok e
theorem DW {kvs:List (Key × V)} (ok:HOk P w H h) (e:H a=some (.dK kvs)) : kvs.length≤sizeLine∧(a == sysModules)=false∧∃ vs,KV kvs vs∧h.DictOf (bf P w) a vs:=mU ok (.inl e)
theorem oT {ks:List Key} (ok:HOk P w H h) (e:H a=some (.tup (ks.map kV))) : (tupleKind (bf P w)).is h ks a:=by
 obtain ⟨_,its,r,o,h1,h2,n,h3⟩:=(show bQ P w H h a (.tup (ks.map kV)) from ok a _ e)
 exact ⟨o,its.toArray,n,h1,h2,h3,by simpa using ui r⟩
theorem qz {kvs:List (List Key × V)} (ok:HOk P w H h) (e:Rd H a (.dT kvs)) : kvs.length≤sizeLine∧(a == sysModules)=false ∧
  ∃ xs,KT H kvs xs∧h.DictOfH (tupleKind (bf P w)) a xs:=by
 obtain ⟨z,y,xs,r,o,es,ep,h1,h2,h3,h4,h5⟩:=(show bQ P w H h a (.dT kvs) from Bp ok e)
 refine ⟨z,y,xs,r,o,es,ep,h1,h2,h3,h4,fun x hx=>?_,h5⟩
 have all:∀ {l:List (List Key × V)} {m:List (List Key × Addr × Value)},KT H l m→∀ x ∈ m,(tupleKind (bf P w)).is h x.1 x.2.1:=by
  intro l m q
  induction q with
  | nil=>intro x hx; exact nomatch hx
  | @cons p q ps qs hq t ih =>
   intro x hx
   rcases List.mem_cons.mp hx with e | hx
   ·subst e
    exact oT ok (by rw [← hq.1]; exact hq.2.1)
   ·exact ih x hx
 exact all r x hx
theorem DX {kvs:List (List Key × V)} (ok:HOk P w H h) (e:H a=some (.dT kvs)) : kvs.length≤sizeLine∧(a == sysModules)=false ∧
  ∃ xs,KT H kvs xs∧h.DictOfH (tupleKind (bf P w)) a xs:=qz ok (.inl e)
end

def dR (H:Hp) (a:Addr) (y:V) (r:Option V) : Prop:=
 (∃ kvs k,Rd H a (.dK kvs)∧y=kV k∧r=cN kvs k)∨∃ kvs k b,Rd H a (.dT kvs)∧y = .ref b∧H b=some (.tup (k.map kV))∧r=cN kvs k
def rb (H:Hp) (a:Addr) (y v:V) (H':Hp) : Prop:=
 (∃ kvs k,H a=some (.dK kvs)∧y=kV k∧kvs.length < sizeLine∧H' = upd H a (.dK (iB kvs k v))) ∨
 ∃ kvs k b,H a=some (.dT kvs)∧y = .ref b∧H b=some (.tup (k.map kV))∧kvs.length < sizeLine∧H' = upd H a (.dT (iB kvs k v))
theorem dR.k {H:Hp} {a:Addr} {kvs:List (Key × V)} {k:Key} (e:H a=some (.dK kvs)) : dR H a (kV k) (cN kvs k):=.inl ⟨kvs,k,.inl e,rfl,rfl⟩
theorem rb.k {H:Hp} {a:Addr} {kvs:List (Key × V)} {k:Key} {v:V} (e:H a=some (.dK kvs)) (hl:kvs.length < sizeLine) : rb H a (kV k) v (upd H a (.dK (iB kvs k v))):=.inl ⟨kvs,k,e,rfl,hl,rfl⟩
section
variable {X:Cx} {pins:List (Addr × Obj)} {σ:St} {H:Hp} {s:Shared} {a:Addr} {y v:V} {u r:Value} {o:Option V} {A:Around} {E:Value→Shared→Prop}

theorem Inv.big (I:Inv X pins σ H s) : sysModules < s.heap.objs.size:=by
 have h:mainGlobals < s.heap.objs.size:=(I.mod.glob.keeps I.bk).lt
 exact Nat.lt_trans (by decide) h

theorem zh {Q:Value→Shared→Prop} (hu:A.units+1 < cLine) (I:Inv X pins σ H s) (g:dR H a y (some v)) (ry:aZ y u) (h:∀ w' s',Inv X pins σ H s'→aZ v w'→Q w' s') :
  wpAny (model X.prog X.w) A (getItem (.ref a) u) Q E s:=by
 rcases g with ⟨kvs,k,e,ey,l⟩ | ⟨kvs,k,b,e,ey,eb,l⟩
 ·subst ey
  obtain ⟨z,hd,vs,rel,dd⟩:=mU I.hok e
  obtain ⟨w',hw,rw'⟩:=gq.some_of (v:=v) (o:=valueAt vs k) (by rw [l]; exact rel.val k)
  exact wpAny_getItem_of (lg ry) dd.mapOf hw (h w' _ (I.tok _) rw')
 ·subst ey
  cases (show u=Value.ref b from ry)
  obtain ⟨z,hd,xs,rel,dd⟩:=qz I.hok e
  obtain ⟨w',hw,rw'⟩:=gq.some_of (v:=v) (o:=(atKey xs k).map (·.2)) (by rw [l]; exact rel.val k)
  obtain ⟨p,hp,hp2⟩:=Option.map_eq_some_iff.mp hw
  refine wpAny_getItem_heap (tupleKind_room_in1 hu) (oT I.hok eb) dd hp ?_
  rw [hp2]
  exact h w' _ (I.tok _) rw'
theorem EB {Q:Value→Shared→Prop} (hu:A.units+1 < cLine) (I:Inv X pins σ H s) (g:dR H a y o) (ry:aZ y u) (h:∀ s',Inv X pins σ H s'→Q (.bool o.isSome) s') :
  wpAny (model X.prog X.w) A (compareOp .In u (.ref a)) Q E s:=by
 rcases g with ⟨kvs,k,e,ey,l⟩ | ⟨kvs,k,b,e,ey,eb,l⟩
 ·subst ey
  obtain ⟨z,hd,vs,rel,dd⟩:=mU I.hok e
  refine wpAny_in_of (lg ry) hd dd.mapOf ?_
  rw [← (rel.val k).isSome_eq,← l]
  exact h _ (I.tok _)
 ·subst ey
  cases (show u=Value.ref b from ry)
  obtain ⟨z,hd,xs,rel,dd⟩:=qz I.hok e
  refine wpAny_in_heap (tupleKind_room_in1 hu) (oT I.hok eb) hd dd ?_
  have q:=(rel.val k).isSome_eq
  rw [Option.isSome_map] at q
  rw [← q,← l]
  exact h _ (I.tok _)
theorem BN {Q:Value→Shared→Prop} (hu:A.units+1 < cLine) (I:Inv X pins σ H s) (g:dR H a y o) (ry:aZ y u) (h:∀ s',Inv X pins σ H s'→Q (.bool (!o.isSome)) s') :
  wpAny (model X.prog X.w) A (compareOp .NotIn u (.ref a)) Q E s:=by
 rcases g with ⟨kvs,k,e,ey,l⟩ | ⟨kvs,k,b,e,ey,eb,l⟩
 ·subst ey
  obtain ⟨z,hd,vs,rel,dd⟩:=mU I.hok e
  refine wpAny_notIn_of (lg ry) hd dd.mapOf ?_
  rw [← (rel.val k).isSome_eq,← l]
  exact h _ (I.tok _)
 ·subst ey
  cases (show u=Value.ref b from ry)
  obtain ⟨z,hd,xs,rel,dd⟩:=qz I.hok e
  refine wpAny_notIn_heap (tupleKind_room_in1 hu) (oT I.hok eb) hd dd ?_
  have q:=(rel.val k).isSome_eq
  rw [Option.isSome_map] at q
  rw [← q,← l]
  exact h _ (I.tok _)
theorem xC {h':Heap} {t':Nat} {ob:HO} (I:Inv X pins σ H s) (mu:Mut (H a)) (hs:Heap.SameBut a s.heap h') (he:∃ q,h'.get? a=some q) (new:bQ X.prog X.w (upd H a ob) h' a ob) :
  Inv X pins σ (upd H a ob) { s with heap:=h',toks:=t' }:=
 I.write (x:=a) (e:=a) mu (.inl rfl) (fun b q hb z=>(hs.2 b hb).trans z) he new
theorem zi {P:Program} {w:World} {H':Hp} {h':Heap} {kvs:List (Key × V)} {vs:List (Key × Value)} (z:kvs.length≤sizeLine) (hd:(a == sysModules)=false) (rel:KV kvs vs) (dd:h'.DictOf (bf P w) a vs) :
  bQ P w H' h' a (.dK kvs):=⟨z,hd,vs,rel,dd⟩
theorem zj {H':Hp} {Q:Unit→Shared→Prop} (hu:A.units+1 < cLine) (I:Inv X pins σ H s) (g:rb H a y v H') (ry:aZ y u) (rv:aZ v r) (h:∀ s',Inv X pins σ H' s'→Q () s') :
  wpAny (model X.prog X.w) A (setItem (.ref a) u r) Q E s:=by
 rcases g with ⟨kvs,k,e,ey,l,eH⟩ | ⟨kvs,k,b,e,ey,eb,l,eH⟩
 ·subst ey eH
  obtain ⟨z,hd,vs,rel,dd⟩:=DW I.hok e
  have hz:vs.length≤sizeLine:=by rw [← rel.length]; exact z
  have hl:(iB kvs k v).length≤sizeLine:=by have:=lJ kvs k v; omega
  refine wpAny_setItem_pairs (hsz:=hz) (lg ry) dd fun h' dd' hs=>h _ ?_
  have he:∃ q,h'.get? a=some q:=let ⟨q,_,_,hq,_⟩:=dd'; ⟨q,hq⟩
  exact xC I (by rw [e]; exact True.intro) hs he (zi hl hd (rel.put k rv) dd')
 ·subst ey eH
  cases (show u=Value.ref b from ry)
  obtain ⟨z,hd,xs,rel,dd⟩:=DX I.hok e
  have hz:xs.length≤sizeLine:=by rw [← Paired.length rel]; exact z
  have hl:(iB kvs k v).length≤sizeLine:=by have:=lJ kvs k v; omega
  refine wpAny_setItem_heap (hsz:=hz) (tupleKind_room_in1 hu) (oT I.hok eb) dd fun h' dd' hs=>h _ ?_
  obtain ⟨q,es,ep,hq,h2,h3,h4,_,h5⟩:=dd'
  refine xC I (by rw [e]; exact True.intro) hs ⟨q,hq⟩ ⟨hl,hd,_,(rel.put k eb rv).keeps fun c ys ec=>?_,q,es,ep,hq,h2,h3,h4,h5⟩
  rw [aj (DN ec e (fun z=>nomatch z))]
  exact ec
end

section
variable {X:Cx} {pins:List (Addr × Obj)} {σ:St} {H:Hp} {s:Shared} {a:Addr} {kvs:List (Key × V)} {k:Key} {u:Value} {A:Around} {E:Value→Shared→Prop}
theorem DY {Q:Value→Shared→Prop} (I:Inv X pins σ H s) (e:Rd H a (.dK kvs)) (h:∀ t s',Inv X pins σ H s'→Q (.int kvs.length t) s') : wpAny (model X.prog X.w) A (call (.builtin "len") [.ref a]) Q E s:=by
 obtain ⟨z,hd,vs,rel,dd⟩:=mU I.hok e
 refine call_len_dict hd dd (by rw [← rel.length]; rw [sizeLine_eq] at z; omega) ?_
 rw [← rel.length]
 exact h _ _ (I.tok _)
end


def AD (i:Expr) : Prop:=∀ ov iv,subscripted i false ov iv=operate [ov,iv] (getItem ov iv)
theorem xD {prog:Program} {w:World} {A:Around} {E:Value→Shared→Prop} {s:Shared} {env:Env} {value slice:Expr} {pos:Pos} {T id:String} {Q:Value→Shared→Prop}
  (hl:typeLookup (.type T) "__getitem__" = pure (some (.builtin id))) (hs:AD slice)
  (h:wpAny (model prog w) A (eval value env) (fun o s₁=>wpAny (model prog w) A (eval slice env) (fun i s₂=>s₂.TypeIs o T∧wpAny (model prog w) A (getItem o i) Q E s₂) E s₁) E s) :
  wpAny (model prog w) A (eval (.Subscript value slice pos) env) Q E s:=by
 refine Subscript_ (wpAny_mono h (fun o s₁ h₁=>wpAny_mono h₁ (fun i s₂ h₂=>?_) fun _ _ x=>x) fun _ _ x=>x)
 obtain ⟨hT,h₂⟩:=h₂
 unfold subscriptTail
 refine wpAny_bind ?_
 rw [getitemInPython_of_ne hT.not_modules]
 refine wpAny_bind (wpAny_specialOf hT hl ?_)
 have fin:wpAny (model prog w) A (subscripted slice false o i) (fun r s₃=>wpAny (model prog w) A (letTemporaryGo value o r >>= fun _=>pure r) Q E s₃) E s₂:=by
  rw [hs o i]
  exact wpAny_operating (wpAny_mono h₂ (fun r s₃ h₃=>wpAny_bind (wpAny_letTemporaryGo (wpAny_pure h₃))) fun _ _ x=>x)
 first
  | exact wpAny_pure (wpAny_bind fin)
  | exact wpAny_bind (wpAny_pure (wpAny_bind fin))
  | exact wpAny_bind fin

theorem xj {X:Cx} {pins:List (Addr × Obj)} {σ:St} {H:Hp} {s:Shared} {a:Addr} {y:V} {o:Option V} (I:Inv X pins σ H s) (g:dR H a y o) : s.TypeIs (.ref a) "dict":=by
 rcases g with ⟨kvs,k,e,_,_⟩ | ⟨kvs,k,b,e,_,_,_⟩
 ·obtain ⟨_,_,vs,_,dd⟩:=mU I.hok e
  exact dd.typeIs
 ·obtain ⟨_,_,xs,_,dd⟩:=qz I.hok e
  exact dd.typeIs
def DZ (td ty:TE) : TE:=fun σ H Q=>td σ H fun x H1=>ty σ H1 fun y H2=>∃ a v,x = .ref a∧dR H2 a y (some v)∧Q v H2
def D0 (td ty tv:TE) : TS:=fun D σ H=>tv σ H fun v H1=>td σ H1 fun x H2=>ty σ H2 fun y H3=>∃ a H4,x = .ref a∧rb H3 a y v H4∧D.nx σ H4
section
variable {X:Cx} {o i e value:Expr} {pos pos' tpos:Pos} {td ty tv:TE}
theorem i4 (hu:X.A.units+1 < cLine) (ho:PE X o td) (hi:PE X i ty) (hs:AD i) : PE X (.Subscript o i pos) (DZ td ty):=by
 intro pins s σ H Q I h
 refine xD PySem.F.slot_dict_getitem.lookup hs (thn (ho pins s σ H _ I h) fun u s1 ⟨x,H1,I1,rx,q1⟩=>thn (hi pins s1 σ H1 _ I1 q1) fun iv s2 ⟨y,H2,I2,ry,a,v,ex,g,q2⟩=>?_)
 subst ex
 obtain rfl:u=Value.ref a:=rx
 exact ⟨xj I2 g,zh hu I2 g ry fun w' s3 I3 rw'=>⟨v,H2,I3,rw',q2⟩⟩
theorem tE (hu:X.A.units+1 < cLine) (ho:PE X o td) (hi:PE X i ty) (hv:PE X value tv) (hs:swapsWith value (some (.Subscript o i pos')) pos.line X.env=pure false) :
  PS X (.Assign [.Subscript o i pos'] value pos) (D0 td ty tv):=by
 intro pins s σ H D I h
 refine wpAny_Assign_Subscript (thn (hv pins s σ H _ I h) fun r s1 ⟨v,H1,I1,rv,q1⟩=>thn (ho pins s1 σ H1 _ I1 q1) fun u s2 ⟨x,H2,I2,rx,q2⟩=>thn (hi pins s2 σ H2 _ I2 q2) fun iv s3 ⟨y,H3,I3,ry,a,H4,ex,g,q3⟩=>?_) hs
 subst ex
 obtain rfl:u=Value.ref a:=rx
 exact zj hu I3 g ry rv fun s4 I4=>⟨σ,H4,I4,q3⟩
end


theorem AE {P:Program} {w:World} {H:Hp} (h:Heap) (hb:sysModules < h.objs.size) : bQ P w H (h.push { cls:=.type "dict",data:=.dict #[] }) h.objs.size (.dK []):=
 ⟨Nat.zero_le _,beq_eq_false_iff_ne.mpr (Ne.symm (Nat.ne_of_lt hb)),[],.nil,Heap.DictOf.new h⟩
def CT:TE:=fun _ H Q=>∀ p,H p=none→Q (.ref p) (upd H p (.dK []))
section
variable {X:Cx} {pos:Pos}
theorem rc:PE X (.Dict [] [] pos) CT:=fun pins s σ H Q I h =>
 wpAny_Dict_empty ⟨.ref s.heap.objs.size,_,I.laid (a:=s.heap.objs.size) (o:=.dK []) (t':=s.toks) (fun _ _ q=>Heap.get?_push_of_some _ q) (Nat.le_refl _) (AE s.heap I.big),rfl,h _ (I.hok.fresh (Nat.le_refl _))⟩
end

def IsD (H:Hp) (a:Addr) : Prop:=(∃ kvs,Rd H a (.dK kvs))∨∃ kvs,Rd H a (.dT kvs)
theorem zk {X:Cx} {pins:List (Addr × Obj)} {σ:St} {H:Hp} {s:Shared} {a:Addr} (I:Inv X pins σ H s) (d:IsD H a) :
  s.TypeIs (.ref a) "dict"∧(∀ b,Value.ref a = .ref b→∃ ob,s.heap.get? b=some ob∧ob.dict=none)∧(a == sysModules)=false:=by
 rcases d with ⟨kvs,e⟩ | ⟨kvs,e⟩
 ·obtain ⟨_,hd,vs,_,dd⟩:=mU I.hok e
  refine ⟨dd.typeIs,fun b q=>?_,hd⟩
  cases q
  obtain ⟨ob,_,_,h1,h2,_⟩:=dd
  exact ⟨ob,h1,h2.2.1⟩
 ·obtain ⟨_,hd,xs,_,dd⟩:=qz I.hok e
  refine ⟨dd.typeIs,fun b q=>?_,hd⟩
  cases q
  obtain ⟨ob,_,_,h1,h2,_⟩:=dd
  exact ⟨ob,h1,h2.2.1⟩

section
variable {X:Cx} {pins:List (Addr × Obj)} {σ:St} {H:Hp} {s:Shared} {a:Addr} {y d:V} {u r:Value} {o:Option V} {A:Around} {E:Value→Shared→Prop}
end

section
variable {X:Cx} {o e f:Expr} {apos cpos:Pos} {td ty tx:TE}
end

section
variable {X:Cx} {pins:List (Addr × Obj)} {σ:St} {H:Hp} {s:Shared} {a:Addr} {kvs:List (Key × V)} {A:Around} {E:Value→Shared→Prop}
end


section
variable {X:Cx} {pins:List (Addr × Obj)} {σ:St} {H:Hp} {s:Shared} {a:Addr} {y:V} {u:Value} {A:Around} {E:Value→Shared→Prop}
end
end L2

namespace Att
open PySem PySem.W PySem.Calls PyProof.Rows

theorem sE {P:Params} {h:Heap} : ∀ (ns:List Int) (vs:List Value),WellAll P h vs (ns.map WData.int)→IntsAre vs ns:=by
 intro ns
 induction ns with
 | nil =>
  intro vs w
  rw [List.map_nil] at w
  cases w
  exact .nil
 | cons n ns ih =>
  intro vs w
  rw [List.map_cons] at w
  cases w with
  | cons a b =>
   cases a
   exact .cons _ _ (ih _ b)

theorem zm {l:OpenLaw} {n:Nat} (hn:l.most=some n) {P:Params} {h:Heap} {args:List WData} {vals:List Value}
  (hpre:l.row.toRowW.claim.pre args=true) (hwl:WellAll P h vals args) :
  ∃ a vs ns,vals=[Value.ref a]∧args=[WData.list (ns.map WData.int)]∧h.get? a=some { cls:=.type "list",data:=.seq vs.toArray }∧IntsAre vs ns∧ns.length≤n:=by
 have hsh:WShape.hasAll [] args [.list .int]=true:=(pre_splitW hpre).1
 have hc:l.pre.holds [] { args:=args }=true:=(pre_splitW hpre).2
 obtain ⟨d,r,rfl,h1,h2⟩:=hasAllW_cons hsh
 obtain rfl:=hasAllW_nil h2
 obtain ⟨xs,rfl,h3⟩:=hasW_list h1
 obtain ⟨ns,rfl⟩:=items_int h3
 have hlen:ns.length≤n:=by
  unfold OpenLaw.pre at hc
  have h4:(WTm.not (.lt (.lit (.int (n:Int))) (.len (.arg 0)))).holds [] { args:=[.list (ns.map .int)] }=true:=by
   have h4:=(holds_andW hc).1
   rw [hn] at h4
   exact h4
  have h5:=condW_of h4 (w_not (w_lt w_lit (w_len_list (w_arg rfl))))
  rw [List.length_map] at h5
  refine Nat.le_of_not_lt fun q=>?_
  have q':(n:Int) < ((ns.length:Nat) : Int):=by omega
  first
   | (rw [decide_eq_true q'] at h5; exact absurd h5 (by decide))
   | (simp at h5; omega)
 cases hwl with
 | cons w1 w2 =>
  cases w2
  cases w1 with
  | list ho hall=>exact ⟨_,_,ns,rfl,rfl,ho,sE ns _ hall,hlen⟩

theorem zn (l:OpenLaw) (args:List WData) : l.row.toRowW.claim.post args (.bool true) args=true:=
 postW_of (r:=l.row.toRowW) (X:=(true == true))
  (show WShape.has [] (.bool true) .bool=true by first | rfl | decide | simp [WShape.has,WShape.arms,WShape.armsAll])
  (show (WTm.eq .res (.lit (.bool true))).value [] { args:=args,res:=some (.bool true),after:=args }=some (.bool (true == true)) from w_eq_bool (w_res rfl) w_lit) rfl

theorem attach_call {l:OpenLaw} {n:Nat} {q:Program} {loose:List Str} {XP:(Str→Option Value)→Heap→Prop} {YP:World→Heap→Prop} {d:DefRec}
  (hn:l.most=some n) (hdf:d.params.defaults=[])
  (call:∀ (w:World) (s₀ s₁:Shared) (mg mb:Str→Option Value) (fa:Addr) (o:Obj) (pm cd doc:Value) (a:Addr) (vs:List Value) (ns:List Int),
   Ground q loose [] XP w s₀ mg mb s₁.heap→YP w s₁.heap →
   s₁.heap.get? fa=some o→o.data = .func (docDef d.name d.params d.body d.scope pm cd doc)→s₁.heap.CodeRec cd d.name→mg d.name=some (.ref fa) →
   s₁.heap.get? a=some { cls:=.type "list",data:=.seq vs.toArray }→IntsAre vs ns→ns.length≤n→s₁.gens = #[] →
   codeAny (model l.prog w) callerA (.call (.ref fa) ⟨[.ref a],[]⟩) (fun r s'=>r = .ok (.ret (.bool true))∧OldK s₁.heap s'.heap∧s'.os=s₁.os∧AllBare s'.gens) s₁) :
  WalkO q loose XP YP l.row.toRowW d [] (fun f vs=>PySem.call f vs):=by
 intro w s₀ s₁ mg mb G Y fa o pm cd doc dV kV ho hd hcd hD hmg hg args vals as hpre hlay hrd hwl hlo
 obtain rfl:dV = .none:=Dflts.none hD hdf
 obtain rfl:kV = .none:=Dflts.noKw hD
 obtain ⟨a,vs,ns,rfl,rfl,hobj,hints,hlen⟩:=zm hn hpre hwl
 refine enter_call (codeAny_mono (call w s₀ s₁ mg mb fa o pm cd doc a vs ns G Y ho (fd_plain hd) hcd hmg hobj hints hlen hg) fun r s' hq=>?_)
 obtain ⟨rfl,h2,h3,h4⟩:=hq
 exact ⟨.inl ⟨.bool true,.bool true,[],rfl,fun _=>rfl,.bool true,zn l _,fun _=>⟨List.Pairwise.nil,fun _ hm=>(nomatch hm)⟩⟩,h2,h3,h4⟩

section
variable {prog:Program} {w:World} {A:Around} {E:Value→Shared→Prop} {s:Shared} {K:Frag}

end
end Att

namespace L2
open PySem PySem.Spec PyProof.Rows

theorem uj:∀ {vs:List Value} {ns:List Int},IntsAre vs ns→aU (ns.map V.int) vs
 | _,_,.nil=>.nil
 | _,_,.cons n t h=>.cons ⟨t,rfl⟩ (uj h)

def AF (H:Hp) : Prop:=∀ b,H b=none∨∃ o xs,H b=some (.frz o (.lst xs))

theorem AG {P:Program} {w:World} {K:PySem.W.Frag} {mg mb:Str→Option Value} {CX:CXT} {k:Nat} {fa a:Addr} {fd:FuncData} {x:Str} {sp:Sp} {s₁:Shared} {vs:List Value} {ns:List Int}
  (KX:K.In s₁.heap) (hns:s₁.heap.Ns mainGlobals mg) (hb:s₁.heap.Ns builtinsNs mb) (hbb:∀ x:Str,x≠"__name__"→mb x=bootBuiltins x) (hlim:s₁.heap.NoLimit) (hg:s₁.gens = #[])
  (ha:s₁.heap.get? a=some { cls:=.type "list",data:=.seq vs.toArray }) (hi:IntsAre vs ns) (hl:ns.length≤sizeLine) (hr:cc k callerA)
  (F:∀ base:Heap,K.In base→base.Ns mainGlobals mg→aX P w K mg base CX k fa fd [x] sp) (hbind:∀ (s:Shared) (u:Value),BindsTo s fd ⟨[u],[]⟩ [(x,u)])
  (hsp:∀ H:Hp,AF H→SqL K H a (ns.map V.int)→sp [.ref a] H (fun v _=>v = .bl true) fun _ _ _=>False)
  (hCX:∀ H e s',CX [] H s₁ (fun _ _ _=>False) e s'→False) :
  codeAny (model P w) callerA (.call (.ref fa) ⟨[.ref a],[]⟩) (fun r s'=>r = .ok (.ret (.bool true))∧OldK s₁.heap s'.heap∧s'.os=s₁.os∧AllBare s'.gens) s₁:=by
 have rv:=uj hi
 have lenV:=hi.length
 -- from an abstract heap in which nothing but the script may be tracked
 have core:∀ H:Hp,AF H→SqL K H a (ns.map V.int)→HOk P w H s₁.heap→(∀ b,H b≠none→b=a)→(H a≠none→K.lookup a=none) →
   codeAny (model P w) callerA (.call (.ref fa) ⟨[.ref a],[]⟩) (fun r s'=>r = .ok (.ret (.bool true))∧OldK s₁.heap s'.heap∧s'.os=s₁.os∧AllBare s'.gens) s₁:=by
  intro H hO hS hok hA hK
  have base_of:∀ {b:Addr} {o:Obj},s₁.heap.get? b=some o→H b=none→(mR s₁.heap H).get? b=some o:=fun e n=>Ao e n
  have noA:∀ {b:Addr} {o:Obj} {es:Array DictEntry} {ep:Nat},s₁.heap.get? b=some o→o.data = .dict es ep→H b=none:=fun {b o es ep} e d=>by
   cases q:H b with
   | none=>rfl
   | some u =>
    have e':b=a:=hA b (by rw [q]; simp)
    subst e'
    rw [ha] at e; cases e
    have d':Data.seq vs.toArray _=Data.dict es ep:=d
    cases d'
  have nsK:∀ {b:Addr} {m:Str→Option Value},s₁.heap.Ns b m→(mR s₁.heap H).Ns b m:=fun {b m} ⟨o,es,ep,e,d,r⟩=>⟨o,es,ep,base_of e (noA e d),d,r⟩
  have hKb:K.In (mR s₁.heap H):=fun b o e=>base_of (KX b o e) (by
   cases q:H b with
   | none=>rfl
   | some u =>
    have e':b=a:=hA b (by rw [q]; simp)
    subst e'
    rw [hK (by rw [q]; simp)] at e; cases e)
  have hM:Mod K mg (mR s₁.heap H):=⟨hKb,nsK hns,⟨mb,nsK hb,hbb⟩,let ⟨mc,h1,h2⟩:=hlim; ⟨mc,nsK h1,h2⟩⟩
  have e0:qY P w K mg (mR s₁.heap H) callerA [] s₁ H:=⟨rfl,hM,fun b o e=>BB e,Nat.le_of_eq (y7 _ _),trivial,fun b hb=>absurd (show b ∈ ([] : List Addr) from hb) (by simp),hok,.of_eq hg⟩
  refine codeAny_mono ((F _ hKb (nsK hns)).run callerA [] s₁ H ⟨[.ref a],[]⟩ [.ref a] [.ref a] _ _ hr e0 (hbind s₁ (.ref a)) (.cons rfl .nil) (hsp H hO hS)) fun r s' h=>?_
  cases r with
  | error e=>exact (hCX H e s' h).elim
  | ok fl =>
   cases fl with
   | next=>exact False.elim h
   | brk=>exact False.elim h
   | cont=>exact False.elim h
   | ret u =>
    obtain ⟨v,H',os,bare,un,hok',r',q⟩:=h
    have q':v = .bl true:=q
    subst q'
    obtain rfl:u=Value.bool true:=r'
    refine ⟨rfl,OldK.of_keep fun b o e=>?_,os,bare⟩
    cases q:H b with
    | none=>exact un.keep b o e q (by intro z; exact absurd (show b ∈ ([] : List Addr) from z) (by simp)) (by simp)
    | some u =>
     rcases hO b with z | ⟨ob,xs,z⟩
     ·rw [q] at z; cases z
     ·have z2:=un.frzs b ob _ z
      obtain ⟨e1,_⟩:=hok b _ z
      obtain ⟨e2,_⟩:=hok' b _ z2
      rw [e] at e1; cases e1
      exact e2
 cases hk:K.lookup a with
 | some o =>
  -- the script is one of the module's own objects
  have e:=KX a o hk
  rw [ha] at e
  cases e
  refine core (fun _=>none) (fun _=>.inl rfl) (.inr ⟨_,vs.toArray,_,hk,rfl,rfl,rfl,by rw [List.size_toArray,lenV]; exact hl,by simpa using rv⟩) (fun b u z=>by have z':(none:Option HO)=some u:=z; cases z') (fun b z=>absurd rfl z) fun z=>absurd rfl z
 | none =>
  refine core (fun b=>if b=a then some (.frz { cls:=.type "list",data:=.seq vs.toArray } (.lst (ns.map V.int))) else none) (fun b=>?_) (.inl (.inr ⟨{ cls:=.type "list",data:=.seq vs.toArray },if_pos rfl⟩)) (fun b u z=>?_) (fun b z=>?_) fun _=>hk
  ·by_cases hb:b=a
   ·exact .inr ⟨_,_,if_pos hb⟩
   ·exact .inl (if_neg hb)
  ·by_cases hb:b=a
   ·have z':=(if_pos hb).symm.trans z
    cases z'
    subst hb
    exact ⟨ha,by rw [List.length_map]; exact hl,vs,_,rv,ha⟩
   ·have z':=(if_neg hb).symm.trans z
    cases z'
  ·by_cases hb:b=a
   ·exact hb
   ·exact absurd (if_neg hb) z

theorem walk_of {l:PySem.W.OpenLaw} {n k:Nat} {q:Program} {loose:List Str} {XP:(Str→Option Value)→Heap→Prop} {YP:World→Heap→Prop} {d:DefRec} {K:Params→PySem.W.Frag} {CX:World→CXT} {sp:World→Sp} {x:Str}
  (hn:l.most=some n) (hn2:n≤sizeLine) (hdf:d.params.defaults=[]) (hr:cc k callerA)
  (hY:∀ (w:World) (h:Heap),YP w h→(K w.params).In h)
  (F:∀ (w:World) (mg:Str→Option Value) (fa:Addr) (h:Heap),(K w.params).In h→h.Ns mainGlobals mg→mg d.name=some (.ref fa) →
   ∃ fd:FuncData,(∀ (s:Shared) (u:Value),BindsTo s fd ⟨[u],[]⟩ [(x,u)]) ∧
    ∀ base:Heap,(K w.params).In base→base.Ns mainGlobals mg→aX l.prog w (K w.params) mg base (CX w) k fa fd [x] (sp w))
  (hsp:∀ (w:World) (H:Hp) (a:Addr) (ns:List Int),ns.length≤n→AF H→SqL (K w.params) H a (ns.map V.int)→sp w [.ref a] H (fun v _=>v = .bl true) fun _ _ _=>False)
  (hCX:∀ (w:World) (H:Hp) (s:Shared) (e:Value) (s':Shared),CX w [] H s (fun _ _ _=>False) e s'→False) :
  PySem.W.WalkO q loose XP YP l.row.toRowW d [] (fun f vs=>PySem.call f vs):=by
 refine Att.attach_call hn hdf fun w s₀ s₁ mg mb fa o pm cd doc a vs ns G Y ho hd hcd hmg hobj hints hlen hg=>?_
 have KX:=hY w _ Y
 obtain ⟨fd,hb,hF⟩:=F w mg fa _ KX G.T.g hmg
 exact AG KX G.T.g G.T.b G.T.builtins G.T.nolimit hg hobj hints (Nat.le_trans hlen hn2) hr hF hb (fun H hO hS=>hsp w H a ns hlen hO hS) fun H e s'=>hCX w H s₁ e s'

abbrev CX0:CXT:=fun _ _ _ _ _ _=>False
abbrev E0:XK:=fun _ _ _=>False
theorem dU {X:Cx} : dP CX0 X E0:=fun _ _ _ _ _ _ _ h=>h.elim

structure Fun (K:PySem.W.Frag) (x qual:Str) (st:Stmt) (f:Addr) (fd:FuncData) : Prop where
 ex:∃ (oc:Value) (od:Option Addr) (kV doc pm:Value) (an:Option Addr) (cdv ct:Value) (osl:Array (Option Value)),
  fd=PySem.W.fnOf x qual (ci st) (bX st) (av st) .none kV doc pm an cdv ct∧K.lookup f=some ⟨oc,od,.func fd,osl⟩∧PySem.W.codeIn K cdv qual=true
 kp:PySem.W.keepIn K (.ref f)=true
section
variable {P:Program} {w:World} {K:PySem.W.Frag} {mg:Str→Option Value} {base:Heap}
theorem Fun.ok {x qual:Str} {st:Stmt} {f:Addr} {fd:FuncData} {N ps:List Str} {k:Nat} {sp:Sp} (F:Fun K x qual st f fd) (S:aJ N ps (av st)) (len:∀ vs H Q E,sp vs H Q E→vs.length=ps.length)
  (hbody:∀ (cdv:Value) (A:Around) (outer:List Env) (s:Shared) (H:Hp) (vs:List V) (Q:VK) (E:XK),cc k (A.deeper (envOfC qual (av st) s.heap.objs.size f cdv))→sp vs H Q E →
   ∃ t,PSs (lH CX0 P w K mg base N qual (av st) f cdv A outer s H E).nox (bX st) t∧t { nx:=fun _ H'=>Q .non H',rt:=Q } (ip N vs) H) : aX P w K mg base CX0 (k+1) f fd ps sp:=by
 obtain ⟨oc,od,kV,doc,pm,an,cdv,ct,osl,rfl,lk,hcd⟩:=F.ex
 refine ya lk hcd S len fun A outer s H vs Q E hr hsp=>?_
 obtain ⟨t,h,q⟩:=hbody cdv A outer s H vs Q E hr hsp
 exact ⟨t,h.nox,q⟩
theorem Fun.binds {x qual:Str} {st:Stmt} {f:Addr} {fd:FuncData} {ps:List Str} (F:Fun K x qual st f fd)
  (h:∀ (kV doc pm:Value) (an:Option Addr) (cdv ct:Value) (us:List Value),us.length=ps.length→bindArgs (PySem.W.fnOf x qual (ci st) (bX st) (av st) .none kV doc pm an cdv ct) ⟨us,[]⟩=pure (ps.zip us)) : gp K fd ps []:=by
 obtain ⟨oc,od,kV,doc,pm,an,cdv,ct,osl,rfl,lk,hcd⟩:=F.ex
 exact .all (h kV doc pm an cdv ct)
theorem sF {x qual:Str} {st:Stmt} {f:Addr} {oc:Value} {od an:Option Addr} {osl:Array (Option Value)} {kV doc pm cdv ct:Value} (l:K.lookup f=some ⟨oc,od,.func (PySem.W.fnOf x qual (ci st) (bX st) (av st) .none kV doc pm an cdv ct),osl⟩)
  (c:PySem.W.codeIn K cdv qual=true) (k:PySem.W.keepIn K (.ref f)=true) : Fun K x qual st f (PySem.W.fnOf x qual (ci st) (bX st) (av st) .none kV doc pm an cdv ct):=⟨⟨oc,od,kV,doc,pm,an,cdv,ct,osl,rfl,l,c⟩,k⟩
end
theorem df {A:Around} {k:Nat} (hr:cc k A) : A.units+1 < cLine:=Nat.lt_of_le_of_lt (Nat.add_le_add_left (by decide:1≤64) _) hr.units
theorem aC {n:Nat} (h:n≤1000) : n < sizeLine:=Nat.lt_of_le_of_lt h (by decide)

section
variable {X:Cx}
theorem pv (i:Nat) {x:Str} {pos:Pos} (hN:X.N[i]? = some x:=by rfl) (hv:Vis X.env.scope x:=by first | exact Or.inl rfl | exact Or.inr (Or.inl rfl) | exact Or.inr (Or.inr rfl)) (hd:(x == ("__debug__" : Str))=false:=by decide)
  (hcd:(x == ("__classdict__" : Str))=false:=by decide) : PE X (.Name x pos) (Ap i):=Cs hN hv hd hcd
theorem zo:fc X (.builtin "len") (fun xs H Q=>∃ a kvs,xs=[V.ref a]∧H a=some (.dK kvs)∧Q (.int kvs.length) H):=by
 intro pins s σ H xs us Q I r h
 obtain ⟨a,kvs,rfl,ha,q⟩:=h
 obtain ⟨u,rfl,ru⟩:=gk r
 cases ru
 exact DY I (.inl ha) fun t s' I'=>⟨.int kvs.length,H,I',⟨t,rfl⟩,q⟩
end

theorem ay {A B:Prop} (h:B) : if false=true then A else B:=by
 rw [if_neg Bool.false_ne_true]
 exact h
theorem aT {A B:Prop} (h:A) : if true=true then A else B:=by
 rw [if_pos rfl]
 exact h
theorem dX {c A B:Prop} [Decidable c] (h1:c→A) (h2:¬ c→B) : if c then A else B:=by
 by_cases h:c
 ·rw [if_pos h]
  exact h1 h
 ·rw [if_neg h]
  exact h2 h
theorem Bq {c A B:Prop} [Decidable c] (hc:c) (h:B) : if (!decide c)=true then A else B:=by
 rw [decide_eq_true hc]
 exact ay h

def ao (H H':Hp) : Prop:=∀ b o,H b=some o→H' b=some o
theorem ao.refl (H:Hp) : ao H H:=fun _ _ h=>h
theorem ao.trans {H H1 H2:Hp} (a:ao H H1) (b:ao H1 H2) : ao H H2:=fun c o h=>b c o (a c o h)
theorem ao.free {H H':Hp} (e:ao H H') {l:Addr} (h:H' l=Option.none) : H l=Option.none:=by
 cases q:H l with
 | none=>rfl
 | some o =>
  rw [e l o q] at h
  cases h
theorem ao.seq {K:PySem.W.Frag} {H H':Hp} {a:Addr} {xs:List V} (e:ao H H') (h:SqL K H a xs) : SqL K H' a xs:=by
 rcases h with (h | ⟨o,h⟩) | h
 ·exact .inl (.inl (e _ _ h))
 ·exact .inl (.inr ⟨o,e _ _ h⟩)
 ·exact .inr h

section
variable {κ:Type} [DecidableEq κ]
end

section
variable {prog:Program} {w:World} {A:Around} {R:Result→Shared→Prop} {s:Shared}
theorem vN {elt target iter:Expr} {ifs:List Expr} {scope:Scope} {pos:Pos} {it acc:Value} {env:Env} (I:Nat→Shared→Prop)
  (turn:∀ n s,I n s→wpAny (model prog w) A (pyNext it) (fun r s₁=>match r with
   | none=>R (.ok .next) s₁
   | some v=>wpAny (model prog w) A (letOwnedTupleGo target it v) (fun _ s₀=>wpAny (model prog w) A (assign target env v) (fun _ s₂ =>
     wpAny (model prog w) A (forIn ifs true fun c r=>if r=true then do let ok ← isTrue c env (eval c env); pure (ForInStep.yield ok) else pure (ForInStep.yield r)) (fun ok s₃ =>
      if ok=true then wpAny (model prog w) A (eval elt env) (fun x s₄ =>
       wpAny (model prog w) A (call (.builtin "list.append") [acc,x]) (fun _ s₅=>∃ m,m < n∧I m s₅) (fun _ _=>False) s₄) (fun _ _=>False) s₃
      else ∃ m,m < n∧I m s₃) (fun _ _=>False) s₂) (fun _ _=>False) s₀) (fun _ _=>False) s₁) (fun _ _=>False) s)
  (n:Nat) (h:I n s) : codeAny (model prog w) A (.compLoop (.ListComp elt [⟨target,iter,ifs,0⟩] scope pos) 0 it acc env) R s:=by
 refine codeAny_loop rfl I (fun n s hI=>?_) n h
 show wpAny _ A ((compTurn (.ListComp elt [⟨target,iter,ifs,0⟩] scope pos) 0 it acc env).onRaise (fun x=>do noteFrame x env; theTreesLotGoes x)) _ _ s
 refine wpAny_noted ?_
 rw [compTurn_list]
 refine wpAny_bind (wpAny_standAt (wpAny_bind (wpAny_mono (turn n s hI) (fun r s₁ h₁=>?_) fun _ _ h'=>h'.elim)))
 cases r with
 | none=>exact wpAny_pure h₁
 | some v =>
  refine wpAny_bind (wpAny_mono h₁ (fun _ s₀ h₀=>?_) fun _ _ h'=>h'.elim)
  refine wpAny_bind (wpAny_mono h₀ (fun _ s₂ h₂=>wpAny_bind (wpAny_mono h₂ (fun ok s₃ h₃=>?_) fun _ _ h'=>h'.elim)) fun _ _ h'=>h'.elim)
  cases ok with
  | false=>exact wpAny_pure ⟨rfl,h₃⟩
  | true =>
   exact wpAny_bind (wpAny_bind (wpAny_mono h₃ (fun x s₄ h₄=>wpAny_bind (wpAny_mono h₄ (fun _ s₅ h₅=>wpAny_pure (wpAny_pure ⟨rfl,h₅⟩)) fun _ _ h'=>h'.elim)) fun _ _ h'=>h'.elim))
end

def PTs (X:Cx) (ifs:List Expr) (t:TT) : Prop:=
 ∀ (pins:List (Addr × Obj)) (s:Shared) (σ:St) (H:Hp) (Q:Bool→Hp→Prop),Inv X pins σ H s→t σ H Q →
  wpAny (model X.prog X.w) X.A (forIn ifs true fun c r=>if r=true then do let ok ← isTrue c X.env (eval c X.env); pure (ForInStep.yield ok) else pure (ForInStep.yield r)) (TP X pins σ Q) X.xe s
def CU:TT:=fun _ H Q=>Q true H
theorem c9 {X:Cx} : PTs X [] CU:=fun _ _ _ H _ I h=>wpAny_tests_nil ⟨H,I,h⟩
theorem mE {X:Cx} {c:Expr} {t:TT} (h:PT X c t) : PTs X [c] t:=fun pins s σ H Q I hw=>wpAny_tests_one (h pins s σ H Q I hw)

abbrev Cx.blk (X:Cx) (N:List Str) (s:Shared) (H:Hp) (scope:Scope) (cl:List (Str × Addr)) (C:Addr) (ex:List Addr) : Cx:=
 { X with N:=N,s₀:=s,H₀:=H,env:=compEnvC scope cl C X.env,outer:=X.stack,stack:=X.stack,ex:=ex,fn:=fun _=>false,pn:=[],xe:=fun _ _=>False }

def re (env:Env) : List (Str × Addr)→Prop
 | []=>True
 | p :: r=>env.cells.lookup p.1=some p.2∧re env r
theorem jK {α:Type} : ∀ {l:List (Str × α)} {x:Str} {k:α},l.lookup x=some k→(x,k) ∈ l
 | [],_,_,h=>by simp at h
 | (n,k') :: r,x,k,h=>by
  rw [List.lookup_cons] at h
  cases hx:x == n with
  | true =>
   rw [hx] at h
   have e:x=n:=eq_of_beq hx
   have e2:k' = k:=Option.some.inj h
   rw [e,e2]; exact List.mem_cons_self
  | false =>
   rw [hx] at h
   exact List.mem_cons_of_mem _ (jK h)
theorem re.get {env:Env} : ∀ {cl:List (Str × Addr)} {x:Str} {c:Addr},re env cl→cl.lookup x=some c→env.cells.lookup x=some c:=fun {cl x c} h e=>by
 have go:∀ (l:List (Str × Addr)),re env l→∀ p ∈ l,env.cells.lookup p.1=some p.2:=by
  intro l
  induction l with
  | nil=>intro _ p hp; cases hp
  | cons q r ih =>
   intro ha p hp
   rcases List.mem_cons.mp hp with rfl | hp
   ·exact ha.1
   ·exact ih ha.2 p hp
 exact go cl h (x,c) (jK e)
def jL (X:Cx) (scope:Scope) (cl:List (Str × Addr)) : List Str→List Nat→Prop
 | [],[]=>True
 | y :: ys,j :: js=>(X.N[j]? = some y∧(X.env.kindOf y=some .cell∨X.env.kindOf y=some .free)∧(cl.lookup y).isSome=true∧((relabel scope X.env).names.lookup y=some .cell∨(relabel scope X.env).names.lookup y=some .free))∧jL X scope cl ys js
 | _,_=>False
theorem jL.get {X:Cx} {scope:Scope} {cl:List (Str × Addr)} : ∀ {ys:List Str} {js:List Nat} {i:Nat} {y:Str},jL X scope cl ys js→ys[i]? = some y →
  ∃ j,js[i]? = some j∧X.N[j]? = some y∧(X.env.kindOf y=some .cell∨X.env.kindOf y=some .free)∧(cl.lookup y).isSome=true∧((relabel scope X.env).names.lookup y=some .cell∨(relabel scope X.env).names.lookup y=some .free)
 | [],_,_,_,_,e=>by simp at e
 | _ :: _,[],_,_,h,_=>h.elim
 | y :: ys,j :: js,0,z,h,e=>by
  have e':y=z:=by simpa using e
  subst e'
  exact ⟨j,rfl,h.1⟩
 | y :: ys,j :: js,i+1,z,h,e=>by
  obtain ⟨k,e1,e2⟩:=jL.get (i:=i) h.2 (by simpa using e)
  exact ⟨k,by simpa using e1,e2⟩
theorem jL.len {X:Cx} {scope:Scope} {cl:List (Str × Addr)} : ∀ {ys:List Str} {js:List Nat},jL X scope cl ys js→ys.length=js.length
 | [],[],_=>rfl
 | [],_ :: _,h=>h.elim
 | _ :: _,[],h=>h.elim
 | _ :: _,_ :: _,h=>by rw [List.length_cons,List.length_cons,jL.len h.2]
def oU (σ:St) (js:List Nat) : St:=js.map fun j=>(σ[j]?).join
theorem vO {scope:Scope} {env:Env} {x:Str} (hcell:∀ y ∈ scope.names,y.2≠.cell) (h:(relabel scope env).names.lookup x=some .cell∨(relabel scope env).names.lookup x=some .free) : (x,NameKind.free) ∈ scope.names:=by
 have hm:∃ k,(k=NameKind.cell∨k=NameKind.free)∧(x,k) ∈ (relabel scope env).names:=by
  rcases h with h | h
  ·exact ⟨_,.inl rfl,jK h⟩
  ·exact ⟨_,.inr rfl,jK h⟩
 obtain ⟨k,hk,hm⟩:=hm
 obtain ⟨⟨n,k'⟩,hin,e⟩:=List.mem_map.mp hm
 dsimp only at e
 by_cases hc:(k' == NameKind.free && env.scope.kind == .function && env.kindOf n == some .cell)=true
 ·rw [if_pos hc] at e
  cases e
  have:k' = NameKind.free:=by
   rw [Bool.and_eq_true,Bool.and_eq_true] at hc
   exact eq_of_beq hc.1.1
  rw [← this]; exact hin
 ·rw [if_neg hc] at e
  cases e
  rcases hk with hk | hk
  ·exact absurd hk (hcell _ hin)
  ·rw [← hk]; exact hin
section
variable {X:Cx} {pins:List (Addr × Obj)} {σ:St} {H:Hp} {s:Shared}
theorem Inv.adopt {D:Addr} {ys:List V} {its:List Value} {n:Nat} (I:Inv X pins σ H s) (hn:H D=none) (hnew:X.s₀.heap.objs.size≤D) (hL:D≠X.env.locals) (hc:∀ x c,X.env.cells.lookup x=some c→c≠D) (hp:∀ p ∈ X.pn++pins,p.1≠D)
  (e:s.heap.get? D=some { cls:=.type "list",data:=.seq its.toArray n }) (hv:aU ys its) (hz:ys.length≤sizeLine) : Inv X pins σ (upd H D (.lst ys)) s:=by
 have ne:∀ b u,H b=some u→b≠D:=fun b u q=>cx q hn
 refine ⟨I.ok,I.os,I.bare,⟨I.base.keep,I.base.slot,fun b o q nn hx=>?_,I.base.there,fun b xs q=>?_,fun b o u q=>?_,fun b ps q=>?_⟩,I.loc,I.cell,?_,fun x c q=>?_,fun p hq=>?_,fun b u q=>?_,I.len⟩
 ·rw [aj (Nat.ne_of_lt (Nat.lt_of_lt_of_le (Heap.lt_size q) hnew))]; exact I.base.free b o q nn hx
 ·have z:=I.base.tups b xs q
  rw [aj (ne b _ z)]; exact z
 ·have z:=I.base.frzs b o u q
  rw [aj (ne b _ z)]; exact z
 ·obtain ⟨more,z⟩:=I.base.tbls b ps q
  exact ⟨more,by rw [aj (ne b _ z)]; exact z⟩
 ·rw [aj (Ne.symm hL)]; exact I.free
 ·rw [aj (hc x c q)]; exact I.freeC x c q
 ·obtain ⟨a1,a2,a3⟩:=I.pin p hq
  exact ⟨a1,by rw [aj (hp p hq)]; exact a2,a3⟩
 ·by_cases hb:b=D
  ·subst hb
   rw [ae] at q; cases q
   exact ⟨hz,its,n,hv,e⟩
  ·rw [aj hb] at q
   exact (I.hok b u q).stay (fun c v _ r=>r) (fun c r=>by rw [aj (ne c _ r)]; exact r) fun c xs r=>by rw [aj (ne c _ r)]; exact r
structure ye (X:Cx) (pins:List (Addr × Obj)) (σ:St) (C D:Addr) (H:Hp) (s:Shared) : Prop where
 inv:Inv X pins σ H s
 ns:∃ m,s.heap.Ns C m
 nL:C≠X.env.locals
 new:X.s₀.heap.objs.size≤C
 nc:∀ x c,X.env.cells.lookup x=some c→c≠C
 np:∀ p ∈ X.pn++pins,p.1≠C
 free:H C=none
theorem ye.gone {C D:Addr} {h':Heap} (O:ye X pins σ C D H s) (sb:Heap.SameBut C s.heap h') : Inv X pins σ H { s with heap:=h' }:=
 O.inv.turned (t':=s.toks) (it:=C) (fun b o hb e=>(sb.2 b hb).trans e) O.free O.nL (.inr O.new) O.nc O.np
end

def gLC (J:It) (g:TG) (tc:TT) (te:TE) (n:Nat) (cv:St) (Fin:List V→Hp→Prop) (H1:Hp) : Prop:=
 ∃ W:Nat→Nat→List V→Hp→Prop,(∃ m,W 0 m [] H1)∧∀ i m ys H,W i m ys H →
  (J.stop i H∧Fin ys H) ∨
  (J.go i H∧ys.length < sizeLine∧∃ N:List V→Hp→Prop,(∀ ys' H',N ys' H'→∃ m',m' < m∧W (i+1) m' ys' H')∧∀ x H',J.yld i H x H'→∀ own:St,own.length=n→g x (own++cv) H' fun σ2 H2=>(∃ own2:St,own2.length=n∧σ2=own2++cv) ∧
   tc σ2 H2 fun b H3=>if b=true then te σ2 H3 fun y H4=>N (ys++[y]) H4 else N ys H3)

def tF (env:Env) : List (Str × NameKind)→List (Str × Addr)→List (Str × Addr)
 | [],acc=>acc
 | (n,k) :: r,acc=>tF env r (if k == .free then (match env.cells.lookup n with | some c=>(n,c) :: acc | none=>acc) else acc)
theorem vP (env:Env) : ∀ (names:List (Str × NameKind)) (acc:List (Str × Addr)),re env acc→re env (tF env names acc)
 | [],_,h=>h
 | (n,k) :: r,acc,h=>by
  refine vP env r _ ?_
  split
  ·split
   ·exact ⟨by assumption,h⟩
   ·exact h
  ·exact h
structure mV (X:Cx) (scope:Scope) (cl:List (Str × Addr)) (own caps:List Str) (js:List Nat) : Prop where
 clos:closureFor scope X.env=pure cl
 cell:∀ y ∈ scope.names,y.2≠.cell
 kind:scope.kind = .function
 names:∀ y ∈ scope.names,y.2 = .local→scope.names.lookup y.1=some .local
 allc:re X.env cl
 free:(scope.names.all fun y=>y.2 != .free || (cl.lookup y.1).isSome)=true
 cap:jL X scope cl caps js

theorem eN {X:Cx} {scope:Scope} {own caps:List Str} {js:List Nat} (clos:closureFor scope X.env=pure (tF X.env scope.names []):=by with_unfolding_all rfl) (cell:∀ y ∈ scope.names,y.2≠.cell:=by decide +kernel) (kind:scope.kind = .function:=by rfl)
  (names:∀ y ∈ scope.names,y.2 = .local→scope.names.lookup y.1=some .local:=by decide +kernel) (free:(scope.names.all fun y=>y.2 != .free || ((tF X.env scope.names []).lookup y.1).isSome)=true:=by with_unfolding_all rfl)
  (cap:jL X scope (tF X.env scope.names []) caps js) : mV X scope (tF X.env scope.names []) own caps js:=⟨clos,cell,kind,names,vP _ _ _ trivial,free,cap⟩
section
variable {X:Cx} {elt iter target:Expr} {ifs:List Expr} {scope:Scope} {cl:List (Str × Addr)} {pos:Pos} {own caps:List Str} {js:List Nat} {g:TG} {tc:TT} {te:TE}
theorem vQ {pins:List (Addr × Obj)} {σ:St} {s₂:Shared} {H1:Hp} {it:Addr} {fp:List Addr} {tn:Nat→Heap→Prop} {J:It} {Fin:List V→Hp→Prop} {RR:Value→Addr→Result→Shared→Prop} {E:Value→Shared→Prop}
  (hc:X.calm=true) (L:mV X scope cl own caps js)
  (hg:∀ s H C ex,PG (X.blk (own++caps) s H scope cl C ex) target g) (ht:∀ s H C ex,PTs (X.blk (own++caps) s H scope cl C ex) ifs tc) (he:∀ s H C ex,PE (X.blk (own++caps) s H scope cl C ex) elt te)
  (I2:Inv X pins σ H1 s₂) (T:oN X.prog X.w X.K target J fp it tn) (st2:tn 0 s₂.heap) (f2:∀ b ∈ fp,oM X pins H1 b)
  (G:gLC J g tc te own.length (oU σ js) Fin H1)
  (hRR:∀ D C H ys s',H D=none→ye X pins σ C D (upd H D (.lst ys)) s'→Fin ys H→RR (.ref D) C (.ok .next) s') :
  wpAny (model X.prog X.w) X.A (newList []) (fun acc s₃=>wpAny (model X.prog X.w) X.A (newFunctionEnv scope X.env.globals cl [] X.env.qual none .none (some X.env)) (fun cenv s₄ =>
   codeAny (model X.prog X.w) X.A (.compStart (.ListComp elt [⟨target,iter,ifs,0⟩] scope pos) 0 (.ref it) acc { cenv with scope:=relabel scope X.env }) (RR acc cenv.locals) s₄) E s₃) E s₂:=by
 refine wpAny_newObj_type (wpAny_newFunctionEnv L.cell (by intro y hy; simp at hy) (fun h₁ hns₁ hsb₁=>?_) L.kind)
 dsimp only at hns₁ hsb₁ ⊢
 generalize hH2:s₂.heap.push { cls:=.type "list",dict:=none,data:=.seq ([] : List Value).toArray }=G2 at hns₁ hsb₁ ⊢
 have hC:G2.objs.size=s₂.heap.objs.size+1:=by rw [← hH2,Heap.size_push]
 have up2:∀ b o,s₂.heap.get? b=some o→G2.get? b=some o:=fun b o e=>hH2 ▸ Heap.get?_push_of_some _ e
 have hDC:s₂.heap.objs.size≠G2.objs.size:=by rw [hC]; exact Nat.ne_of_lt (Nat.lt_succ_self _)
 have hD2:G2.get? s₂.heap.objs.size=some { cls:=.type "list",data:=.seq ([] : List Value).toArray ([] : List Value).length }:=hH2 ▸ Heap.get?_push_size _ rfl
 -- the state with the list laid
 have I3:Inv X pins σ H1 { s₂ with heap:=G2 }:=I2.kept (t':=s₂.toks) up2
 have up3:∀ b o,G2.get? b=some o→h₁.get? b=some o:=fun b o e=>hsb₁.extBut b o (Nat.ne_of_lt (Heap.lt_size e)) (Heap.get?_push_of_some _ e)
 have DH:H1 s₂.heap.objs.size=none:=I2.fresh
 have CH:H1 G2.objs.size=none:=I3.fresh
 have fpl:∀ b ∈ fp,b < s₂.heap.objs.size:=fun b hb=>by
  obtain ⟨o,e,_⟩:=T.obj 0 _ st2 b hb
  exact Heap.lt_size e
 have celllt:∀ x c,X.env.cells.lookup x=some c→c < s₂.heap.objs.size:=fun x c e=>by
  obtain ⟨v,q⟩:=I2.cell x c e
  exact q.lt
 have locl:X.env.locals < s₂.heap.objs.size:=I2.lt
 generalize hD:s₂.heap.objs.size=D at *
 generalize hCC:G2.objs.size=C at *
 have hDltC:D < C:=by omega
 have noF:∀ b,b ∈ frs X.stack→b < D:=fun b hb=>by
  rcases List.mem_cons.mp (I2.stkSub b hb) with e | hb
  ·rw [e]; exact locl
  ·obtain ⟨_,o,ho,_⟩:=I2.ok.funs.mem hb
   exact Nat.lt_of_lt_of_le (Heap.lt_size ho) (hD ▸ I2.sz)
 have fpF:∀ b ∈ fp,b ∉ frs X.stack:=fun b hb z=>by
  obtain ⟨_,e1,e2,_⟩:=f2 b hb
  rcases List.mem_cons.mp (I2.stkSub b z) with e | z
  ·exact e1 e
  ·exact e2 z
 have ok':(X.blk (own++caps) { s₂ with heap:=G2 } H1 scope cl C (D :: fp)).Ok:={
  mod:=I2.ok.mod
  kind:=L.kind
  glob:=I2.ok.glob
  blt:=I2.ok.blt
  above:=Nat.le_of_eq hCC
  inj:=fun x y c e1 e2=>I2.ok.inj x y c (L.allc.get e1) (L.allc.get e2)
  has:=fun x hx=>by
   have hm:=vO L.cell hx
   have q:=List.all_eq_true.mp L.free _ hm
   have q':(cl.lookup x).isSome=true:=by simpa using q
   exact Option.isSome_iff_exists.mp q'
  cab:=fun x c e=>nomatch e
  hd:=I2.ok.hd
  frames:=I2.ok.frames
  stk:=.inl rfl
  exf:=fun b hb=>by
   rcases List.mem_cons.mp hb with rfl | hb
   ·exact ⟨Nat.ne_of_lt hDltC,fun x c e=>Nat.ne_of_lt (celllt x c (L.allc.get e))⟩
   ·obtain ⟨_,e1,e2,_,e4,_⟩:=f2 b hb
    exact ⟨Nat.ne_of_lt (Nat.lt_trans (fpl b hb) hDltC),fun x c e=>e4 x c (L.allc.get e)⟩
  bs:=fun b o e=>⟨up2 b o (I2.bs b o e).1,(I2.bs b o e).2⟩
  bsz:=by
   show X.base.objs.size≤G2.objs.size
   have:=I2.ok.bsz
   have:=I2.sz
   omega
  noex:=fun b o e hb=>by
   have hlt:=Heap.lt_size (I2.bs b o e).1
   rcases List.mem_cons.mp hb with z | hb
   ·exact absurd (show b < D from hD ▸ hlt) (by rw [z]; exact Nat.lt_irrefl _)
   ·obtain ⟨_,_,_,e3,_⟩:=f2 b hb
    rcases e3 with e3 | e3
    ·exact I2.ok.noex b o e e3
    ·exact absurd (Nat.lt_of_lt_of_le (Heap.lt_size (I2.ok.bs b o e).1) e3) (Nat.lt_irrefl _)
  exfs:=fun b hb z=>by
   rcases List.mem_cons.mp hb with e | hb
   ·exact absurd (noF b z) (by rw [e]; exact Nat.lt_irrefl _)
   ·exact fpF b hb z
  funs:=I3.stack
  frf:=I3.stkFree }
 have hns:h₁.Ns C (fun x=>([] : List (Str × Value)).reverse.lookup x):=hns₁
 have ip:Inv (X.blk (own++caps) { s₂ with heap:=G2 } H1 scope cl C (D :: fp)) [(D,LCg.lst [])] (List.replicate own.length none++oU σ js) H1 { s₂ with heap:=h₁,toks:=s₂.toks+([] : List (Str × Value)).length }:=by
  refine ⟨ok',rfl,I2.bare,Un.kept up3,⟨_,hns,fun i x v e1 e2 e3=>?_⟩,fun x c e=>?_,CH,fun x c e=>I2.freeC x c (L.allc.get e),fun p hp=>?_,I3.hok.kept up3,?_⟩
  ·have hlo:own.length≤i:=by
    refine Nat.le_of_not_lt fun hlt=>?_
    rw [List.getElem?_append_left (by rw [List.length_replicate]; exact hlt),List.getElem?_replicate,if_pos hlt] at e2
    cases e2
   have e1':caps[i - own.length]? = some x:=by rw [← List.getElem?_append_right hlo]; exact e1
   obtain ⟨j,j1,j2,j3,j4,j5⟩:=L.cap.get e1'
   have e2':(oU σ js)[i - own.length]? = some (some v):=by
    rw [← e2,List.getElem?_append_right (by rw [List.length_replicate]; exact hlo),List.length_replicate]
   have e4:σ[j]? = some (some v):=by
    unfold oU at e2'
    rw [List.getElem?_map,j1] at e2'
    have e5:(σ[j]?).join=some v:=Option.some.inj e2'
    cases hq:σ[j]? with
    | none=>rw [hq] at e5; cases e5
    | some q=>rw [hq] at e5; exact congrArg some e5
   obtain ⟨m,hn,hl⟩:=I2.loc
   obtain ⟨u,ru,lk⟩:=hl j x v j2 e4 (.inr j3)
   refine ⟨u,ru,.inr ⟨j5,?_⟩⟩
   rcases lk with ⟨k,_⟩ | ⟨_,c,ec,o,ho,hd⟩
   ·rcases j3 with z | z <;> (rw [k] at z; cases z)
   ·obtain ⟨c',ec'⟩:=Option.isSome_iff_exists.mp j4
    have:=L.allc.get ec'
    rw [ec] at this
    cases this
    exact ⟨c,ec',o,up3 _ _ (up2 _ _ ho),hd⟩
  ·obtain ⟨v,o,ho,hd⟩:=I2.cell x c (L.allc.get e)
   exact ⟨v,o,up3 _ _ (up2 _ _ ho),hd⟩
  ·have e:p=(D,LCg.lst []):=by simpa using hp
   subst e
   exact ⟨up3 _ _ hD2,DH,Nat.ne_of_lt hDltC,fun z=>absurd (noF D z) (Nat.lt_irrefl _),fun v z=>by cases z⟩
  ·rw [List.length_append,List.length_append,List.length_replicate]
   unfold oU
   rw [List.length_map,L.cap.len]
 obtain ⟨W,⟨m0,w0⟩,turn⟩:=G
 have loop:codeAny (model X.prog X.w) X.A (.compLoop (.ListComp elt [⟨target,iter,ifs,0⟩] scope pos) 0 (.ref it) (.ref D) (compEnvC scope cl C X.env)) (RR (.ref D) C) { s₂ with heap:=h₁,toks:=s₂.toks+([] : List (Str × Value)).length }:=by
  refine vN (fun n s'=>∃ i ys its ow H',Inv (X.blk (own++caps) { s₂ with heap:=G2 } H1 scope cl C (D :: fp)) [(D,LCg.lst its)] (ow++oU σ js) H' s'∧ow.length=own.length∧tn i s'.heap∧(∀ b ∈ fp,H' b=none)∧aU ys its∧ys.length≤sizeLine∧W i n ys H') ?_ m0
   ⟨0,[],[],List.replicate own.length none,H1,ip,List.length_replicate,T.keep _ _ _ st2 fun b _ o e=>up3 _ _ (up2 _ _ e),fun b hb=>(f2 b hb).1,.nil,Nat.zero_le _,w0⟩
  rintro n s' ⟨i,ys,its,ow,H',I',hlo,st,fr,hv,hz,wv⟩
  have fpok:∀ {H'':Hp},(∀ b ∈ fp,H'' b=none)→∀ b ∈ fp,oM (X.blk (own++caps) { s₂ with heap:=G2 } H1 scope cl C (D :: fp)) [(D,LCg.lst its)] H'' b:=fun hn b hb=>by
   obtain ⟨_,e1,e2,e3,e4,e5⟩:=f2 b hb
   refine ⟨hn b hb,Nat.ne_of_lt (Nat.lt_trans (fpl b hb) hDltC),fpF b hb,.inl (List.mem_cons_of_mem _ hb),fun x c e=>e4 x c (L.allc.get e),fun p hp=>?_⟩
   have e:p=(D,LCg.lst its):=by simpa using hp
   subst e
   exact Nat.ne_of_gt (fpl b hb)
  rcases turn i n ys H' wv with ⟨stop,fin⟩ | ⟨go,hlt,N,hN,step⟩
  ·refine wpAny_mono (T.done (X.blk (own++caps) { s₂ with heap:=G2 } H1 scope cl C (D :: fp)) rfl rfl rfl hc i _ s' _ H' (fun _ _=>False) I' (fpok fr) st stop) (fun r s4 ⟨hr,I4⟩=>?_) fun _ _ f=>f
   subst hr
   have pD:=I4.pin (D,LCg.lst its) (by simp)
   have hch:∀ b ∈ D :: fp,(b ∈ X.ex∨X.s₀.heap.objs.size≤b)∧b≠X.env.locals∧(∀ x c,X.env.cells.lookup x=some c→c≠b)∧∀ p ∈ X.pn++pins,p.1≠b:=fun b hb=>by
    rcases List.mem_cons.mp hb with rfl | hb
    ·exact ⟨.inr (hD ▸ I2.sz),Nat.ne_of_gt locl,fun x c e=>Nat.ne_of_lt (celllt x c e),fun p hp=>Nat.ne_of_lt (hD ▸ Heap.lt_size (I2.pin p hp).1)⟩
    ·obtain ⟨_,e1,e2,e3,e4,e5⟩:=f2 b hb
     exact ⟨e3,e1,e4,e5⟩
   have IX:Inv X pins σ H' s4:=I2.call' (ch:=D :: fp) I4.os ((Un.kept up2).trans I4.base) I4.hok I4.bare hch
   have cD:=hch D List.mem_cons_self
   have IA:Inv X pins σ (upd H' D (.lst ys)) s4:=IX.adopt pD.2.1 (hD ▸ I2.sz) cD.2.1 cD.2.2.1 cD.2.2.2 pD.1 hv hz
   obtain ⟨mm,hmm,_⟩:=I4.loc
   refine hRR D C H' ys s4 pD.2.1 ⟨IA,⟨mm,hmm⟩,Nat.ne_of_gt (Nat.lt_trans locl hDltC),?_,fun x c e=>Nat.ne_of_lt (Nat.lt_trans (celllt x c e) hDltC),fun p hp=>?_,?_⟩ fin
   ·have:=I2.sz
    omega
   ·exact Nat.ne_of_lt (Nat.lt_trans (show p.1 < D from hD ▸ Heap.lt_size (I2.pin p hp).1) hDltC)
   ·rw [aj (Nat.ne_of_gt hDltC)]; exact I4.free
  ·refine wpAny_mono (T.item (X.blk (own++caps) { s₂ with heap:=G2 } H1 scope cl C (D :: fp)) rfl rfl rfl hc i _ s' _ H' (fun _ _=>False) I' (fpok fr) st go) (fun r s4 ⟨u,hr,h4⟩=>?_) fun _ _ f=>f
   subst hr
   refine wpAny_mono h4 (fun _ s5 ⟨x,H5,I5,r5,y5,st5,fr5⟩=>?_) fun _ _ f=>f
   have I5':=I5.pinned (fpok fr5) (T.obj _ _ st5)
   have keepT:∀ {σ8:St} {H8:Hp} {s8:Shared},Inv (X.blk (own++caps) { s₂ with heap:=G2 } H1 scope cl C (D :: fp)) ([(D,LCg.lst its)]++oO fp s5.heap) σ8 H8 s8→tn (i+1) s8.heap∧∀ b ∈ fp,H8 b=none:=fun {σ8 H8 s8} I8 =>
    ⟨T.keep _ _ _ st5 fun b hb o e=>(I8.pin (b,o) (List.mem_append_right _ (List.mem_append_right _ (jI hb e)))).1,fun b hb=>by
     obtain ⟨o,e,d⟩:=T.obj _ _ st5 b hb
     exact (I8.pin (b,o) (List.mem_append_right _ (List.mem_append_right _ (jI hb e)))).2.1⟩
   refine wpAny_mono (hg _ _ _ _ _ s5 _ H5 x u _ I5' r5 (step x H5 y5 ow hlo)) (fun _ s6 ⟨σ6,H6,I6,⟨own2,hl2,e6⟩,q6⟩=>?_) fun _ _ f=>f
   subst e6
   refine wpAny_mono (ht _ _ _ _ _ s6 _ H6 _ I6 q6) (fun b s7 ⟨H7,I7,q7⟩=>?_) fun _ _ f=>f
   cases b with
   | false =>
    rw [if_neg Bool.false_ne_true]
    rw [if_neg Bool.false_ne_true] at q7
    obtain ⟨m',hm,w7⟩:=hN _ _ q7
    obtain ⟨k1,k2⟩:=keepT I7
    exact ⟨m',hm,i+1,ys,its,own2,H7,I7.unpinned,hl2,k1,k2,hv,hz,w7⟩
   | true =>
    rw [if_pos rfl]
    rw [if_pos rfl] at q7
    refine wpAny_mono (he _ _ _ _ _ s7 _ H7 _ I7 q7) (fun y s8 ⟨vy,H8,I8,r8,n8⟩=>?_) fun _ _ f=>f
    obtain ⟨m',hm,w8⟩:=hN _ _ n8
    obtain ⟨k1,k2⟩:=keepT I8
    have pD:=I8.pin (D,LCg.lst its) (by simp)
    have hyl:=hv.length
    refine append_at (hsz:=by show its.toArray.size≤sizeLine; rw [List.size_toArray]; omega) pD.1 fun h9 hs9 hD9=>?_
    have I9:Inv (X.blk (own++caps) { s₂ with heap:=G2 } H1 scope cl C (D :: fp)) [] (own2++oU σ js) H8 { s8 with heap:=h9 }:=by
     refine (I8.pins_of (pins':=[]) fun p hp=>nomatch hp).turned (t':=s8.toks) (it:=D) (fun b o hb e=>(hs9.2 b hb).trans e) pD.2.1 (Nat.ne_of_lt hDltC) (.inl List.mem_cons_self) (fun x c e=>Nat.ne_of_lt (celllt x c (L.allc.get e))) fun p hp=>?_
     simp at hp
    refine ⟨m',hm,i+1,ys++[vy],its++[y],own2,H8,I9.pins_of fun p hp=>?_,hl2,T.keep _ _ _ k1 fun b hb o e=>(hs9.2 b (Nat.ne_of_lt (fpl b hb))).trans e,k2,hv.append (.cons r8 .nil),?_,w8⟩
    ·have e:p=(D,LCg.lst (its++[y])):=by simpa using hp
     subst e
     exact ⟨hD9.trans (congrArg some (LCg.lst_snoc its y)),pD.2.1,Nat.ne_of_lt hDltC,fun z=>absurd (noF D z) (Nat.lt_irrefl _),fun v z=>by cases z⟩
    ·rw [List.length_append,List.length_singleton]; omega
 exact codeAny_compStart_list loop (T.self _ _ _ _ _ (T.keep _ _ _ st2 fun b _ o e=>up3 _ _ (up2 _ _ e)) loop)

def tG (wi:TI) (g:TG) (tc:TT) (te:TE) (n:Nat) (js:List Nat) : TE:=fun σ H Q=>wi σ H fun J H1=>gLC J g tc te n (oU σ js) (fun ys H=>∀ p,H p=none→Q (.ref p) (upd H p (.lst ys))) H1
variable {wi:TI}
theorem vR (hc:X.calm=true) (L:mV X scope cl own caps js) (hi:PI X target iter wi)
  (hg:∀ s H C ex,PG (X.blk (own++caps) s H scope cl C ex) target g) (ht:∀ s H C ex,PTs (X.blk (own++caps) s H scope cl C ex) ifs tc) (he:∀ s H C ex,PE (X.blk (own++caps) s H scope cl C ex) elt te)
  (hs:∀ x,foldedSetIterable iter X.env x=pure x:=by intro _; rfl) : PE X (.ListComp elt [⟨target,iter,ifs,0⟩] scope pos) (tG wi g tc te own.length js):=by
 intro pins s σ H Q I h
 rw [eval_ListComp]
 refine wpAny_comprehension_free (use:=none) rfl hs L.clos L.kind L.names (thn (hi pins s σ H _ I h) fun v s1 h1=>thn h1 fun itv s2 h2=>?_)
 obtain ⟨it,fp,tn,J,H2,e,I2,T,st2,f2,G⟩:=h2
 subst e
 refine vQ hc L hg ht he I2 T st2 f2 G ?_
 intro D C H3 ys s' hD O fin
 obtain ⟨m,hn⟩:=O.ns
 exact ⟨m,hn,fun h' sb=>⟨.ref D,_,O.gone sb,rfl,fin D hD⟩⟩
theorem zp {k:Nat} {y:Str} {py spos:Pos} (hc:X.calm=true) (L:mV X scope cl own caps js) (hi:PI X target iter wi)
  (hg:∀ s H C ex,PG (X.blk (own++caps) s H scope cl C ex) target g) (ht:∀ s H C ex,PTs (X.blk (own++caps) s H scope cl C ex) ifs tc) (he:∀ s H C ex,PE (X.blk (own++caps) s H scope cl C ex) elt te)
  (hN:X.N.Nodup) (hk:X.N[k]? = some y) (hy:X.env.scope.names.lookup y=some .local)
  (hsw:swapsWith (.ListComp elt [⟨target,iter,ifs,0⟩] scope pos) (some (.Name y py)) spos.line X.env=pure true:=by rfl)
  (hs:∀ x,foldedSetIterable iter X.env x=pure x:=by intro _; rfl) : PS X (.Assign [.Name y py] (.ListComp elt [⟨target,iter,ifs,0⟩] scope pos) spos) (qV (tG wi g tc te own.length js) (bv k)):=by
 intro pins s σ H De I h
 rw [exec_Assign_Name_used _ _ _ _ hsw]
 refine wpAny_bind (wpAny_standAt (wpAny_bind ?_))
 show wpAny _ _ (do let _ ← comprehension (.ListComp elt [⟨target,iter,ifs,0⟩] scope pos) scope X.env _ (newList []) false (eval iter X.env) (some (assign (.Name y py) X.env))) _ _ s
 refine wpAny_bind (wpAny_mono (wpAny_comprehension_free (use:=some (assign (.Name y py) X.env)) (Q:=fun _ s'=>SP X pins De .next s') rfl hs L.clos L.kind L.names
  (thn (hi pins s σ H _ I h) fun v s1 h1=>thn h1 fun itv s2 h2=>?_)) (fun _ s' hq=>wpAny_pure (wpAny_pure hq)) fun _ _ e=>e)
 obtain ⟨it,fp,tn,J,H2,e,I2,T,st2,f2,G⟩:=h2
 subst e
 refine vQ hc L hg ht he I2 T st2 f2 G ?_
 intro D C H3 ys s' hD O fin
 show wpAny _ _ (assign (.Name y py) X.env (.ref D)) _ _ _
 refine wpAny_assign_Name (ua O.inv hN hk (.inl hy) (show aZ (.ref D) (.ref D) from rfl) (fun s'' I'' sb=>?_) (.inr hy))
 obtain ⟨a,hsb,ha⟩:=sb
 have hne:C≠a:=by
  rcases ha with rfl | ha
  ·exact O.nL
  ·exact Ne.symm (O.nc _ _ ha)
 obtain ⟨m,hn⟩:=O.ns
 refine ⟨m,hn.sameBut hsb hne,fun h' sb'=>⟨_,_,?_,fin D hD⟩⟩
 exact I''.turned (t':=s''.toks) (it:=C) (fun b o hb e=>(sb'.2 b hb).trans e) O.free O.nL (.inr O.new) O.nc O.np
end

section
variable {X:Cx} {elt iter:Expr} {ifs:List Expr} {scope:Scope} {cl:List (Str × Addr)} {pos:Pos} {caps:List Str} {js:List Nat} {tc:TT} {te:TE} {wi:TI} {x:Str} {px:Pos}
theorem AH {J:It} {cv:St} {Fin:List V→Hp→Prop} {H1:Hp} (h:∃ W:Nat→Nat→List V→Hp→Prop,(∃ m,W 0 m [] H1)∧∀ i m ys H,W i m ys H →
  (J.stop i H∧Fin ys H) ∨
  (J.go i H∧ys.length < sizeLine∧∃ N:List V→Hp→Prop,(∀ ys' H',N ys' H'→∃ m',m' < m∧W (i+1) m' ys' H')∧∀ x H',J.yld i H x H' →
   tc (some x :: cv) H' fun b H3=>if b=true then te (some x :: cv) H3 fun y H4=>N (ys++[y]) H4 else N ys H3)) : gLC J (bv 0) tc te 1 cv Fin H1:=by
 obtain ⟨W,w0,turn⟩:=h
 refine ⟨W,w0,fun i m ys H w=>?_⟩
 rcases turn i m ys H w with ⟨a,b⟩ | ⟨a,b,N,hN,c⟩
 ·exact .inl ⟨a,b⟩
 ·refine .inr ⟨a,b,N,hN,fun v H' y own ho=>?_⟩
  match own,ho with
  | [τ],_=>exact ⟨⟨[some v],rfl,rfl⟩,c v H' y⟩
def tLC (wi:TI) (tc:TT) (te:TE) (js:List Nat) : TE:=tG wi (bv 0) tc te 1 js
theorem ir (hc:X.calm=true) (L:mV X scope cl [x] caps js) (hi:PI X (.Name x px) iter wi)
  (ht:∀ s H C ex,PTs (X.blk (x :: caps) s H scope cl C ex) ifs tc) (he:∀ s H C ex,PE (X.blk (x :: caps) s H scope cl C ex) elt te)
  (hN:(x :: caps).Nodup:=by decide +kernel) (hx:(relabel scope X.env).names.lookup x=some .local:=by with_unfolding_all rfl)
  (hs:∀ x,foldedSetIterable iter X.env x=pure x:=by intro _; rfl) : PE X (.ListComp elt [⟨.Name x px,iter,ifs,0⟩] scope pos) (tLC wi tc te js):=
 vR (own:=[x]) (g:=bv 0) hc L hi (fun s H C ex=>aM (i:=0) hN rfl (.inl hx) (.inr hx)) ht he hs
theorem yf {k:Nat} {y:Str} {py spos:Pos} (hc:X.calm=true) (L:mV X scope cl [x] caps js) (hi:PI X (.Name x px) iter wi)
  (ht:∀ s H C ex,PTs (X.blk (x :: caps) s H scope cl C ex) ifs tc) (he:∀ s H C ex,PE (X.blk (x :: caps) s H scope cl C ex) elt te)
  (hXN:X.N.Nodup) (hk:X.N[k]? = some y) (hy:X.env.scope.names.lookup y=some .local) (hN:(x :: caps).Nodup:=by decide +kernel) (hx:(relabel scope X.env).names.lookup x=some .local:=by with_unfolding_all rfl)
  (hsw:swapsWith (.ListComp elt [⟨.Name x px,iter,ifs,0⟩] scope pos) (some (.Name y py)) spos.line X.env=pure true:=by rfl)
  (hs:∀ x,foldedSetIterable iter X.env x=pure x:=by intro _; rfl) : PS X (.Assign [.Name y py] (.ListComp elt [⟨.Name x px,iter,ifs,0⟩] scope pos) spos) (qV (tLC wi tc te js) (bv k)):=
 zp (own:=[x]) (g:=bv 0) hc L hi (fun s H C ex=>aM (i:=0) hN rfl (.inl hx) (.inr hx)) ht he hXN hk hy hsw hs
theorem eO {K:PySem.W.Frag} {a:Addr} {xs:List V} {cv:St} {Fin:List V→Hp→Prop} {H1:Hp} (Pv:Nat→List V→Hp→Prop) (h0:Pv 0 [] H1) (hl:∀ i ys H,i≤xs.length→Pv i ys H→SqL K H a xs) (hz:∀ i ys H,i < xs.length→Pv i ys H→ys.length < sizeLine)
  (hs:∀ i x ys H,xs[i]? = some x→Pv i ys H→tc (some x :: cv) H fun b H3=>if b=true then te (some x :: cv) H3 fun y H4=>Pv (i+1) (ys++[y]) H4 else Pv (i+1) ys H3)
  (hd:∀ ys H,Pv xs.length ys H→Fin ys H) : gLC (Itl K a) (bv 0) tc te 1 cv Fin H1:=by
 refine AH ⟨fun i m ys H=>m=xs.length - i∧i≤xs.length∧Pv i ys H,⟨xs.length,by simp,Nat.zero_le _,h0⟩,?_⟩
 rintro i m ys H ⟨rfl,hi,p⟩
 have q:=hl i ys H hi p
 by_cases hlt:i < xs.length
 ·refine .inr ⟨⟨xs,xs[i],q,by simp [hlt]⟩,hz i ys H hlt p,Pv (i+1),fun ys' H' p'=>⟨xs.length - (i+1),by omega,rfl,hlt,p'⟩,fun v H' y=>?_⟩
  obtain ⟨e,y⟩:=y
  subst e
  exact hs i v ys _ (y xs q) p
 ·have e:i=xs.length:=by omega
  subst e
  exact .inl ⟨⟨xs,q,Nat.le_refl _⟩,hd ys H p⟩
theorem rf {lo:Int} {n:Nat} {cv:St} {Fin:List V→Hp→Prop} {H1:Hp} (Pv:Nat→List V→Hp→Prop) (h0:Pv 0 [] H1) (hz:∀ i ys H,i < n→Pv i ys H→ys.length < sizeLine)
  (hs:∀ i ys H,i < n→Pv i ys H→tc (some (.int (lo+i)) :: cv) H fun b H3=>if b=true then te (some (.int (lo+i)) :: cv) H3 fun y H4=>Pv (i+1) (ys++[y]) H4 else Pv (i+1) ys H3)
  (hd:∀ ys H,Pv n ys H→Fin ys H) : gLC (Itr lo n) (bv 0) tc te 1 cv Fin H1:=by
 refine AH ⟨fun i m ys H=>m=n - i∧i≤n∧Pv i ys H,⟨n,by simp,Nat.zero_le _,h0⟩,?_⟩
 rintro i m ys H ⟨rfl,hi,p⟩
 by_cases hlt:i < n
 ·refine .inr ⟨hlt,hz i ys H hlt p,Pv (i+1),fun ys' H' p'=>⟨n - (i+1),by omega,rfl,hlt,p'⟩,fun v H' y=>?_⟩
  obtain ⟨e,y⟩:=y
  subst e y
  exact hs i ys _ hlt p
 ·have e:i=n:=by omega
  subst e
  exact .inl ⟨Nat.le_refl _,hd ys H p⟩
end

theorem d_ {A B:Hp→Prop} {σ:St} {H:Hp} (h:A H) : CU σ H (fun b H3=>if b=true then A H3 else B H3):=by
 show if true=true then A H else B H
 rw [if_pos rfl]
 exact h
theorem i5 {α:Type} (x:α) (r:List α) : atI (x :: r) 0=some x:=dy (j:=0) rfl

def Its (x:Str) : It:=⟨fun i _=>i < x.cps.size,fun i H v H'=>H' = H∧∃ c,x.cps[i]? = some c∧v = .str ⟨#[c]⟩,fun i _=>i=x.cps.size⟩
theorem AI {P:Program} {w:World} {K:PySem.W.Frag} {tg:Expr} {x:Str} {t:Tok} {it:Addr} {n:String} (hn:["enumerate","zip","dict_itemiterator","dict_reverseitemiterator","odict_iterator","itertools.zip_longest","itertools.pairwise"].contains n=false)
  (W:∀ A':Around,A'.handled=none→Walks P w A' it [it] [it] x.cps.size (SignAt x) (fun i h=>h.IsStrIter it n x t i))
  (slf:∀ (A:Around) (i:Nat) (s:Shared) (Q:Value→Shared→Prop) (E:Value→Shared→Prop),s.heap.IsStrIter it n x t i→Q (.ref it) s→wpAny (model P w) A (pyIter (.ref it)) Q E s) :
  oN P w K tg (Its x) [it] it (fun i h=>h.IsStrIter it n x t i) where
 mem:=by simp
 obj:=fun i h st b hb=>by
  have e:b=it:=by simpa using hb
  subst e
  obtain ⟨o,e,c,d⟩:=st
  exact ⟨o,e,fun v z=>by rw [d] at z; cases z⟩
 keep:=fun i h h' st k=>let ⟨o,ho,r⟩:=st; ⟨o,k it (by simp) o ho,r⟩
 item:=by
  intro X hP hw hK hc i pins s σ H E I hf st hg
  subst hP hw hK
  obtain ⟨f0,f1,f2,f3,f4,f5⟩:=hf it (by simp)
  refine (W X.A (I.ok.hd hc)).item i s _ _ hg st fun v h' tk hv st' kk=>?_
  obtain ⟨c,u,hcx,rfl⟩:=hv
  have I1:Inv X pins σ H { s with heap:=h',toks:=tk }:=I.turned (fun b o hb e=>kk b o (by simpa using hb) e) f0 f1 f3 f4 f5
  obtain ⟨o,e,c',d⟩:=id st'
  exact ⟨_,rfl,uZ (s:={ s with heap:=h',toks:=tk }) e c' d hn ⟨.str ⟨#[c]⟩,H,I1,⟨u,rfl⟩,⟨rfl,c,hcx,rfl⟩,st',fun b hb=>(hf b hb).1⟩⟩
 done:=by
  intro X hP hw hK hc i pins s σ H E I hf st hg
  subst hP hw hK
  obtain ⟨f0,f1,f2,f3,f4,f5⟩:=hf it (by simp)
  have e:i=x.cps.size:=hg
  subst e
  exact (W X.A (I.ok.hd hc)).done s _ _ st fun h' tk kk=>⟨rfl,I.turned (fun b o hb e=>kk b o (by simpa using hb) e) f0 f1 f3 f4 f5⟩
 self:=slf
section
variable {X:Cx} {tg:Expr}
def EC (tl:TE) : TI:=fun σ H R=>tl σ H fun v H1=>∃ x,v = .str x∧R (Its x) H1
theorem zq {l:Expr} {tl:TE} (hl:PE X l tl) : PI X tg l (EC tl):=by
 intro pins s σ H R I h
 refine thn (hl pins s σ H _ I h) fun v s1 ⟨x,H1,I1,r1,q1⟩=>?_
 obtain ⟨z,e,q⟩:=q1
 subst e
 obtain ⟨t,rfl⟩:=r1
 have go:∀ n ob,["enumerate","zip","dict_itemiterator","dict_reverseitemiterator","odict_iterator","itertools.zip_longest","itertools.pairwise"].contains n=false →
   (∀ A':Around,A'.handled=none→Walks X.prog X.w A' s1.heap.objs.size [s1.heap.objs.size] [s1.heap.objs.size] z.cps.size (SignAt z) (fun i h=>h.IsStrIter s1.heap.objs.size n z t i)) →
   (∀ (A:Around) (i:Nat) (s:Shared) (Q:Value→Shared→Prop) (E:Value→Shared→Prop),s.heap.IsStrIter s1.heap.objs.size n z t i→Q (.ref s1.heap.objs.size) s→wpAny (model X.prog X.w) A (pyIter (.ref s1.heap.objs.size)) Q E s) →
   (s1.heap.push ob).IsStrIter s1.heap.objs.size n z t 0→PIE X pins σ tg R (.ref s1.heap.objs.size) { s1 with heap:=s1.heap.push ob }:=fun n ob hn W slf st=>by
  refine ⟨s1.heap.objs.size,[s1.heap.objs.size],_,_,H1,rfl,I1.kept (t':=s1.toks) fun b o e=>Heap.get?_push_of_some _ e,AI hn W slf,st,fun b hb=>?_,q⟩
  have e:b=s1.heap.objs.size:=by simpa using hb
  subst e
  exact I1.fpOk (Nat.le_refl _) (I1.hok.fresh (Nat.le_refl _))
 cases ha:z.cps.all (· < 128)
 ·exact wpAny_pyIter_wide ha (go "str_iterator" _ (by decide) (fun A' hA=>Walks.strWide hA _ z t) (fun _ _ _ _ _ st h=>wpAny_pyIter_striter_wide st h) ⟨_,Heap.get?_push_size _ rfl,rfl,rfl⟩)
 ·exact wpAny_pyIter_ascii ha (go "str_ascii_iterator" _ (by decide) (fun A' hA=>Walks.strAscii hA _ z t) (fun _ _ _ _ _ st h=>wpAny_pyIter_striter_ascii st h) ⟨_,Heap.get?_push_size _ rfl,rfl,rfl⟩)
end
theorem BO {x:Str} {g:TG} {tb:TS} {D:e_} {σ:St} {H:Hp} (Pv:Nat→St→Hp→Prop) (h0:Pv 0 σ H)
  (hs:∀ i c σ H,x.cps[i]? = some c→Pv i σ H→g (.str ⟨#[c]⟩) σ H fun σ2 H2=>tb { D with nx:=Pv (i+1),ct:=Pv (i+1),bk:=D.nx } σ2 H2) (hd:∀ σ H,Pv x.cps.size σ H→D.nx σ H) :
  ∃ W:Nat→Nat→St→Hp→Prop,(∃ m,W 0 m σ H)∧∀ i m σ H,W i m σ H →
   ((Its x).stop i H∧D.nx σ H)∨((Its x).go i H∧∃ N:St→Hp→Prop,(∀ σ' H',N σ' H'→∃ m',m' < m∧W (i+1) m' σ' H')∧∀ v H',(Its x).yld i H v H'→g v σ H' fun σ2 H2=>tb { D with nx:=N,ct:=N,bk:=D.nx } σ2 H2):=by
 refine ⟨fun i m σ H=>m=x.cps.size - i∧i≤x.cps.size∧Pv i σ H,⟨x.cps.size,by simp,Nat.zero_le _,h0⟩,?_⟩
 rintro i m σ H ⟨rfl,hi,p⟩
 by_cases hlt:i < x.cps.size
 ·refine .inr ⟨hlt,Pv (i+1),fun σ' H' p'=>⟨x.cps.size - (i+1),by omega,rfl,hlt,p'⟩,fun v H' y=>?_⟩
  obtain ⟨e,c,hc,y⟩:=y
  subst e y
  exact hs i c σ _ hc p
 ·have e:i=x.cps.size:=by omega
  subst e
  exact .inl ⟨rfl,hd σ H p⟩
theorem CV {x:Str} {tc:TT} {te:TE} {cv:St} {Fin:List V→Hp→Prop} {H1:Hp} (Pv:Nat→List V→Hp→Prop) (h0:Pv 0 [] H1) (hz:∀ i ys H,i < x.cps.size→Pv i ys H→ys.length < sizeLine)
  (hs:∀ i c ys H,x.cps[i]? = some c→Pv i ys H→tc (some (.str ⟨#[c]⟩) :: cv) H fun b H3=>if b=true then te (some (.str ⟨#[c]⟩) :: cv) H3 fun y H4=>Pv (i+1) (ys++[y]) H4 else Pv (i+1) ys H3)
  (hd:∀ ys H,Pv x.cps.size ys H→Fin ys H) : gLC (Its x) (bv 0) tc te 1 cv Fin H1:=by
 refine AH ⟨fun i m ys H=>m=x.cps.size - i∧i≤x.cps.size∧Pv i ys H,⟨x.cps.size,by simp,Nat.zero_le _,h0⟩,?_⟩
 rintro i m ys H ⟨rfl,hi,p⟩
 by_cases hlt:i < x.cps.size
 ·refine .inr ⟨hlt,hz i ys H hlt p,Pv (i+1),fun ys' H' p'=>⟨x.cps.size - (i+1),by omega,rfl,hlt,p'⟩,fun v H' y=>?_⟩
  obtain ⟨e,c,hc,y⟩:=y
  subst e y
  exact hs i c ys _ hc p
 ·have e:i=x.cps.size:=by omega
  subst e
  exact .inl ⟨rfl,hd ys H p⟩

section
variable {X:Cx}
theorem zr {v:Value} {o:Option Int} (p:IsPart v o) : ∃ l:Option (Int × Tok),v=partValue l∧o=l.map (·.1):=by
 cases p with
 | none=>exact ⟨none,rfl,rfl⟩
 | int i t=>exact ⟨some (i,t),rfl,rfl⟩
theorem jk:SlR X (fun x lo hi H Q=>∃ z,x = .str z∧z.length≤sizeLine∧Q (.str (Txt.slice z lo hi)) H):=by
 intro pins s σ H x v vl vu lo hi sl Q I r hs pl pu h
 obtain ⟨z,rfl,hz,q⟩:=h
 obtain ⟨t,rfl⟩:=r
 obtain ⟨l,rfl,rfl⟩:=zr pl
 obtain ⟨u,rfl,rfl⟩:=zr pu
 exact ⟨"str",_,F.slot_str_getitem.lookup,typeIs_str _ _ _,wpAny_getItem_str_slice (l:=l) (u:=u) (st:=none) hs rfl
  (post_val_or_str ⟨Nat.le_trans (Txt.slice_le z _ _) hz,fun t' k=>⟨.str (Txt.slice z _ _),H,I.tok k,⟨t',rfl⟩,q⟩⟩)⟩
theorem mW:OpR X (binaryOp .Mult) (fun x y H Q=>∃ z n,x = .str z∧y = .int n∧MulOk z n∧Q (.str (Txt.mul z n)) H):=by
 intro pins s σ H x y v u Q I rx ry h
 obtain ⟨z,n,rfl,rfl,hm,q⟩:=h
 obtain ⟨t,rfl⟩:=rx
 obtain ⟨t',rfl⟩:=ry
 exact SB.mul hm fun t'' k=>⟨.str _,H,I.tok k,⟨t'',rfl⟩,q⟩
theorem uk:∀ (l:List (Str × Tok)),aU ((l.map (·.1)).map V.str) (strValues l)
 | []=>.nil
 | p :: r=>.cons ⟨p.2,rfl⟩ (uk r)
theorem zt:MtR X "str.split" (fun x xs H Q=>∃ z c,x = .str z∧xs=[.str ⟨#[c]⟩]∧z.length+2≤sizeLine∧∀ p,H p=none→Q (.ref p) (upd H p (.lst ((Txt.split z ⟨#[c]⟩).map V.str)))):=by
 intro pins s σ H x xs v us Q I rx r h
 obtain ⟨z,c,rfl,rfl,hz,q⟩:=h
 obtain ⟨t,rfl⟩:=rx
 obtain ⟨w',rfl,u,rfl⟩:=gk r
 have hy:((⟨#[c]⟩ : Str).length == 0)=false:=rfl
 have len:=split_le z ⟨#[c]⟩
 have new:∀ (l:List (Str × Tok)) (k:Nat),l.map (·.1)=Txt.split z ⟨#[c]⟩→EP X pins σ Q (.ref s.heap.objs.size) { s with heap:=s.heap.push { cls:=.type "list",data:=.seq (strValues l).toArray },toks:=k }:=fun l k e =>
  ⟨.ref _,_,I.lnew (t':=k) (uk l) (by rw [e,List.length_map]; exact Nat.le_trans len hz),rfl,by rw [e]; exact q _ I.fresh⟩
 cases h1:(decide (z.length < (⟨#[c]⟩ : Str).length) || decide (Builtin.Str.strKind z < Builtin.Str.strKind ⟨#[c]⟩))
 ·cases hf:(Builtin.Str.occurrences z ⟨#[c]⟩ 0 z.length (z.length+1)).isEmpty
  ·have e1:Txt.split z ⟨#[c]⟩=Builtin.Str.partsBetween z (Builtin.Str.occurrences z ⟨#[c]⟩ 0 z.length (z.length+1)) (⟨#[c]⟩ : Str).length:=
    (if_neg (ne_true_of_eq_false h1)).trans (if_neg (ne_true_of_eq_false hf))
   refine call_meets F.slot_str_split (typeIs_str _ _ _) F.entry_str_split (F.args_str_split_2 _ _) (meets_str_split_sep z ⟨#[c]⟩ t u h1 hy hf (by omega) (by rw [← e1]; omega)) ?_
   show wants _ _ _ { s with toks:=_,heap:=s.heap.push { cls:=.type "list",data:=.seq (strsFrom s.toks (Builtin.Str.partsBetween z (Builtin.Str.occurrences z ⟨#[c]⟩ 0 z.length (z.length+1)) (⟨#[c]⟩ : Str).length)).toArray } }
   rw [strsFrom_eq]
   exact new _ _ ((numbered_texts _ _).trans e1.symm)
  ·exact call_meets F.slot_str_split (typeIs_str _ _ _) F.entry_str_split (F.args_str_split_2 _ _) (meets_str_split_not_found z ⟨#[c]⟩ t u h1 hy hf)
    (new [(z,t)] _ ((if_neg (ne_true_of_eq_false h1)).trans (if_pos hf)).symm)
 ·exact call_meets F.slot_str_split (typeIs_str _ _ _) F.entry_str_split (F.args_str_split_2 _ _) (meets_str_split_cannot_occur z ⟨#[c]⟩ t u h1)
   (new [(z,t)] _ (if_pos h1).symm)
theorem yg {ys:List Str} : ∀ {us:List Value},aU (ys.map V.str) us→StrsAre us ys:=by
 induction ys with
 | nil=>intro us h; cases h; exact .nil
 | cons y ys ih =>
  intro us h
  cases h with
  | cons r t =>
   obtain ⟨tk,rfl⟩:=r
   exact .cons y tk (ih t)
theorem tH:MtR X "str.join" (fun x xs H Q=>∃ sep a ys,x = .str sep∧xs=[.ref a]∧SqL X.K H a (ys.map V.str)∧sep.length≤16∧(ys.map (·.length)).sum+ys.length≤1048576∧Q (.str (Txt.join sep ys)) H):=by
 intro pins s σ H x xs v us Q I rx r h
 obtain ⟨sep,a,ys,rfl,rfl,hS,h1,h2,q⟩:=h
 obtain ⟨t,rfl⟩:=rx
 obtain ⟨w',rfl,rfl⟩:=gk r
 obtain ⟨its,rv,p,hz⟩:=I.list hS
 exact join_listW p.isList (yg (by simpa using rv)) h1 h2 fun t' k=>⟨.str _,H,I.tok k,⟨t',rfl⟩,q⟩
end
end L2

namespace Tl
open PySem PySem.Builtin PySem.Builtin.Str L2

abbrev tx (l:List Nat) : Str:=⟨l.toArray⟩
theorem u9 (s:Str) : s=tx s.cps.toList:=by cases s; rfl
theorem dB (a b:List Nat) : tx a++tx b=tx (a++b):=by
 show (⟨a.toArray++b.toArray⟩ : Str)=⟨(a++b).toArray⟩
 rw [List.append_toArray]
theorem aQ (l:List Nat) : (tx l).length=l.length:=by show l.toArray.size=_; simp
theorem ik {a b:List Nat} (h:tx a=tx b) : a=b:=by
 have e:a.toArray=b.toArray:=congrArg Str.cps h
 have e2:=congrArg Array.toList e
 simpa using e2
theorem zu (l:List Nat) (i:Nat) : (tx l).cps[i]? = l[i]?:=by show l.toArray[i]? = _; simp
theorem xE (l:List Nat) : (tx l).cps.size=l.length:=by show l.toArray.size=_; simp

def iC {α:Type} (l:List α) (lo hi:Option Int) : List α:=(l.drop (HT.sIx l.length 0 lo)).take (HT.sIx l.length l.length hi - HT.sIx l.length 0 lo)
theorem iY (n d:Nat) (i:Int) : max 0 (min (if i < 0 then i+(n:Int) else i) (n:Int))=((HT.sIx n d (some i) : Nat) : Int):=by
 show _=(((if i < 0 then (i+(n:Int)).toNat else min i.toNat n) : Nat) : Int)
 by_cases h:i < 0
 ·rw [if_pos h,if_pos h]; omega
 ·rw [if_neg h,if_neg h]; omega
theorem oV (lo hi:Option Int) (n:Nat) : strSliceIndices lo hi 1 n=sliceRange ((HT.sIx n 0 lo:Nat) : Int) ((HT.sIx n n hi:Nat) : Int) 1:=by
 cases lo with
 | none =>
  cases hi with
  | none=>rfl
  | some j=>exact congrArg (fun z=>sliceRange 0 z 1) (iY n n j)
 | some i =>
  cases hi with
  | none=>exact congrArg (fun z=>sliceRange z (n:Int) 1) (iY n 0 i)
  | some j =>
   have a:=iY n 0 i
   have b:=iY n n j
   show sliceRange (max 0 (min (if i < 0 then i+(n:Int) else i) (n:Int))) (max 0 (min (if j < 0 then j+(n:Int) else j) (n:Int))) 1=_
   rw [a,b]
theorem eB (l:List Nat) (lo hi:Option Int) : Txt.slice (tx l) lo hi=tx (iC l lo hi):=by
 have h1:=HT.sIx_le l.length 0 (Nat.zero_le _) lo
 have h2:=HT.sIx_le l.length l.length (Nat.le_refl _) hi
 have ei:strSliceIndices lo hi 1 l.length=strSliceIndices (some ((HT.sIx l.length 0 lo:Nat) : Int)) (some ((HT.sIx l.length l.length hi:Nat) : Int)) 1 l.length:=by
  rw [oV lo hi,oV (some _) (some _),HT.sIx_nat,HT.sIx_nat,Nat.min_eq_left h1,Nat.min_eq_left h2]
 have e:Txt.slice (tx l) lo hi=StrLaws.sliceText (tx l) (some ((HT.sIx l.length 0 lo:Nat) : Int)) (some ((HT.sIx l.length l.length hi:Nat) : Int)):=by
  unfold Txt.slice StrLaws.sliceText
  rw [aQ,ei]
 by_cases hab:HT.sIx l.length 0 lo≤HT.sIx l.length l.length hi
 ·rw [e,StrLaws.sliceText_nat (tx l) hab (by rw [aQ]; exact h2)]
  rfl
 ·have e0:strSliceIndices lo hi 1 (tx l).length=[]:=by
   rw [aQ,oV]
   unfold sliceRange
   simp only [show (1:Int) > 0 by decide,if_true]
   rw [if_neg (by omega)]
   rfl
  unfold Txt.slice
  rw [e0]
  have hne:¬ (((1:Int) == 1 && ([] : List Nat).length == (tx l).length)=true):=by
   rw [aQ]
   intro h
   have:0=l.length:=by simpa using h
   omega
  rw [if_neg hne]
  unfold iC
  rw [Nat.sub_eq_zero_of_le (by omega),List.take_zero]
  rfl
theorem cut_to {α:Type} (l:List α) (j:Nat) : iC l none (some (j:Int))=l.take j:=by
 unfold iC
 rw [HT.sIx_none,HT.sIx_nat,List.drop_zero,Nat.sub_zero]
 by_cases h:j≤l.length
 ·rw [Nat.min_eq_left h]
 ·rw [Nat.min_eq_right (by omega),List.take_of_length_le (Nat.le_refl _),List.take_of_length_le (by omega)]
theorem cut_from {α:Type} (l:List α) (i:Nat) : iC l (some (i:Int)) none=l.drop i:=by
 unfold iC
 rw [HT.sIx_none,HT.sIx_nat]
 by_cases h:i≤l.length
 ·rw [Nat.min_eq_left h,List.take_of_length_le (by rw [List.length_drop]; exact Nat.le_refl _)]
 ·rw [Nat.min_eq_right (by omega),Nat.sub_self,List.take_zero,List.drop_eq_nil_of_le (by omega)]
def mX {α:Type} (l:List α) (n:Nat) : List α:=(List.replicate n l).flatten
theorem li {α:Type} (l:List α) (n:Nat) : mX l (n+1)=l++mX l n:=by unfold mX; rw [List.replicate_succ,List.flatten_cons]
theorem vS (l:List Nat) : ∀ (n:Nat) (acc:List Nat),(List.replicate n l.toArray).foldl (·++·) acc.toArray=(acc++mX l n).toArray
 | 0,acc=>by simp [mX]
 | n+1,acc=>by
  rw [List.replicate_succ,List.foldl_cons,List.append_toArray,vS l n,li,List.append_assoc]
theorem zv (l:List Nat) (n:Nat) : Txt.mul (tx l) (n:Int)=tx (mX l n):=by
 unfold Txt.mul
 by_cases h1:(n:Int) < 1
 ·have e:n=0:=by omega
  subst e
  rw [if_pos h1]; rfl
 ·rw [if_neg h1]
  by_cases h2:((n:Int) == 1 || (tx l).length == 0)=true
  ·rw [if_pos h2]
   rcases Bool.or_eq_true _ _ ▸ h2 with h | h
   ·have e:n=1:=by have:=eq_of_beq h; omega
    subst e
    rw [li]; simp [mX]
   ·have e:l=[]:=by
     have:=eq_of_beq h
     rw [aQ] at this
     exact List.eq_nil_of_length_eq_zero this
    subst e
    have:∀ k,mX ([] : List Nat) k=[]:=fun k=>by
     induction k with
     | zero=>rfl
     | succ k ih=>rw [li,ih]; rfl
    rw [this]
  ·rw [if_neg h2]
   have:=vS l n []
   have e:((n:Int)).toNat=n:=by omega
   rw [e]
   show (⟨(List.replicate n l.toArray).foldl (·++·) #[]⟩ : Str)=_
   rw [show (#[] : Array Nat)=([] : List Nat).toArray from rfl,this,List.nil_append]
theorem qN {l:List Nat} {n:Nat} (h1:n≤100000) (h2:l.length≤100) : MulOk (tx l) (n:Int):=by
 have hb:l.length * n≤10000000:=by
  have:=Nat.mul_le_mul h2 h1
  omega
 refine ⟨?_,fun _ _=>?_,fun _ _=>?_⟩
 ·rw [decide_eq_false (by omega),decide_eq_false (by omega)]; rfl
 ·rw [aQ]
  have:(100:Int)≤(2 ^ 63 - 1) / (n:Int):=by
   by_cases e:n=0
   ·omega
   ·exact (Int.le_ediv_iff_mul_le (by omega)).mpr (by omega)
  omega
 ·rw [aQ]
  unfold tooLong
  have e:((n:Int)).toNat=n:=by omega
  rw [e]
  exact decide_eq_false (by show ¬ (_ > 16777216); omega)

def bc (c:Nat) : List Nat→List (List Nat)
 | []=>[[]]
 | x :: r=>if x=c then [] :: bc c r else match bc c r with
  | []=>[[x]]
  | p :: ps=>(x :: p) :: ps
theorem fH (c x:Nat) (r:List Nat) : bc c (x :: r)=if x=c then [] :: bc c r else match bc c r with
  | []=>[[x]]
  | p :: ps=>(x :: p) :: ps:=rfl
theorem um (c:Nat) : ∀ l,bc c l≠[]
 | []=>by simp [bc]
 | x :: r=>by
  unfold bc
  split
  ·simp
  ·split <;> simp
def cj (sep:List Nat) : List (List Nat)→List Nat
 | []=>[]
 | [x]=>x
 | x :: y :: r=>x++sep++cj sep (y :: r)
theorem tI (sep:List Nat) : ∀ ps:List (List Nat),Txt.join (tx sep) (ps.map tx)=tx (cj sep ps):=by
 have go:∀ ps:List (List Nat),Str.join (tx sep) (ps.map tx)=tx (cj sep ps):=by
  intro ps
  induction ps with
  | nil=>rfl
  | cons x r ih =>
   cases r with
   | nil=>rfl
   | cons y r =>
    show tx x++tx sep++Str.join (tx sep) (tx y :: r.map tx)=_
    rw [show Str.join (tx sep) (tx y :: r.map tx)=tx (cj sep (y :: r)) from ih,dB,dB]
    rfl
 intro ps
 show glued (tx sep) (ps.map tx)=_
 rw [StrLaws.glued_eq_join]
 exact go ps
theorem qO (c:Nat) : ∀ ps:List (List Nat),ps≠[]→(∀ p ∈ ps,c ∉ p)→bc c (cj [c] ps)=ps:=by
 have one:∀ p:List Nat,c ∉ p→bc c p=[p]:=by
  intro p
  induction p with
  | nil=>intro _; rfl
  | cons x r ih =>
   intro h
   have hx:x≠c:=fun e=>h (by rw [e]; exact List.mem_cons_self)
   rw [fH,if_neg hx,ih fun z=>h (List.mem_cons_of_mem _ z)]
 have app:∀ (p:List Nat) (l:List Nat),c ∉ p→bc c (p++c :: l)=p :: bc c l:=by
  intro p l
  induction p with
  | nil =>
   intro _
   show bc c (c :: l)=_
   rw [fH,if_pos rfl]
  | cons x r ih =>
   intro h
   have hx:x≠c:=fun e=>h (by rw [e]; exact List.mem_cons_self)
   show bc c (x :: (r++c :: l))=_
   rw [fH,if_neg hx,ih fun z=>h (List.mem_cons_of_mem _ z)]
 intro ps
 induction ps with
 | nil=>intro h; exact absurd rfl h
 | cons x r ih =>
  intro _ h
  cases r with
  | nil=>exact one x (h x List.mem_cons_self)
  | cons y r =>
   show bc c (x++[c]++cj [c] (y :: r))=_
   rw [List.append_assoc,show [c]++cj [c] (y :: r)=c :: cj [c] (y :: r) from rfl,app _ _ (h x List.mem_cons_self),ih (by simp) fun p hp=>h p (List.mem_cons_of_mem _ hp)]
theorem AJ (l:List Nat) (c:Nat) : Txt.split (tx l) ⟨#[c]⟩=(bc c l).map tx:=by
 have h1:=StrLaws.join_split (tx l) ⟨#[c]⟩
 have h2:=StrLaws.split_free (tx l) c
 have h3:=PyProof.Rows.split_pos (tx l) ⟨#[c]⟩
 obtain ⟨ps,e⟩ : ∃ ps:List (List Nat),Txt.split (tx l) ⟨#[c]⟩=ps.map tx:=⟨(Txt.split (tx l) ⟨#[c]⟩).map (fun s=>s.cps.toList),by
  rw [List.map_map]
  exact (List.map_id' _).symm.trans (List.map_congr_left fun s _=>u9 s)⟩
 rw [e] at h1 h2 h3
 have e2:cj [c] ps=l:=by
  have:=tI [c] ps
  have h4:Txt.join (tx [c]) (ps.map tx)=Str.join (tx [c]) (ps.map tx):=StrLaws.glued_eq_join _ _
  rw [h4] at this
  exact ik (this.symm.trans h1)
 have hne:ps≠[]:=by
  intro z
  rw [z] at h3
  simp at h3
 rw [e,← e2,qO c ps hne fun p hp=>?_]
 have:=h2 (tx p) (List.mem_map_of_mem hp)
 simpa using this
theorem sI (l:List Nat) (c:Nat) : (!(occurrences (tx l) ⟨#[c]⟩ 0 (tx l).length 1).isEmpty)=decide (c ∈ l):=by
 have:=StrLaws.found_one (tx l) c
 rw [this]
end Tl

namespace L2
open PySem PySem.Spec PyProof.Rows

def ED (K:PySem.W.Frag) (T:String) (x:V) (H:Hp) (b:Bool) : Prop:=match x with
 | .non=>b=false
 | .bl _=>b=(T == "bool" || T == "int")
 | .int _=>b=(T == "int")
 | .str _=>b=(T == "str")
 | .ref p=>((∃ xs,SqL K H p xs)∧b=(T == "list"))∨((∃ xs,SqT K H p xs)∧b=(T == "tuple"))
 | _=>False
section
variable {X:Cx}
theorem cq:fc X (.builtin "isinstance") (fun xs H Q=>∃ x T b,xs=[x,.ty T]∧(T = "bool"∨T = "int"∨T = "str"∨T = "tuple"∨T = "list")∧ED X.K T x H b∧Q (.bl b) H):=by
 intro pins s σ H xs us Q I r h
 obtain ⟨x,T,b,rfl,hT,hv,q⟩:=h
 obtain ⟨u,w',rfl,r1,r2⟩:=u5 r
 cases r2
 have no:b=false→EP X pins σ Q (.bool false) { s with toks:=s.toks+1 }:=fun e=>⟨.bl false,H,I.tok _,rfl,e ▸ q⟩
 have yes:b=true→EP X pins σ Q (.bool true) s:=fun e=>⟨.bl true,H,I,rfl,e ▸ q⟩
 cases x with
 | non =>
  cases r1
  have hv':b=false:=hv
  rcases hT with rfl | rfl | rfl | rfl | rfl
  ·exact IsiPair.NoneType_bool (no hv')
  ·exact IsiPair.NoneType_int (no hv')
  ·exact IsiPair.NoneType_str (no hv')
  ·exact IsiPair.NoneType_tuple (no hv')
  ·exact IsiPair.NoneType_list (no hv')
 | bl c =>
  cases r1
  rcases hT with rfl | rfl | rfl | rfl | rfl
  ·exact IsiPair.bool_bool (yes (hv.trans (by decide)))
  ·exact IsiPair.bool_int (yes (hv.trans (by decide)))
  ·exact IsiPair.bool_str (no (hv.trans (by decide)))
  ·exact IsiPair.bool_tuple (no (hv.trans (by decide)))
  ·exact IsiPair.bool_list (no (hv.trans (by decide)))
 | int c =>
  obtain ⟨t,rfl⟩:=r1
  rcases hT with rfl | rfl | rfl | rfl | rfl
  ·exact IsiPair.int_bool (no (hv.trans (by decide)))
  ·exact IsiPair.int_int (yes (hv.trans (by decide)))
  ·exact IsiPair.int_str (no (hv.trans (by decide)))
  ·exact IsiPair.int_tuple (no (hv.trans (by decide)))
  ·exact IsiPair.int_list (no (hv.trans (by decide)))
 | str c =>
  obtain ⟨t,rfl⟩:=r1
  rcases hT with rfl | rfl | rfl | rfl | rfl
  ·exact IsiPair.str_bool (no (hv.trans (by decide)))
  ·exact IsiPair.str_int (no (hv.trans (by decide)))
  ·exact IsiPair.str_str (yes (hv.trans (by decide)))
  ·exact IsiPair.str_tuple (no (hv.trans (by decide)))
  ·exact IsiPair.str_list (no (hv.trans (by decide)))
 | ref p =>
  cases r1
  rcases hv with ⟨⟨xs,hq⟩,hb⟩ | ⟨⟨xs,hq⟩,hb⟩
  ·obtain ⟨its,_,p',_⟩:=I.list hq
   obtain ⟨o,n,e,c,_⟩:=p'
   rcases hT with rfl | rfl | rfl | rfl | rfl
   ·exact IsiPair.list_bool e c (no (hb.trans (by decide)))
   ·exact IsiPair.list_int e c (no (hb.trans (by decide)))
   ·exact IsiPair.list_str e c (no (hb.trans (by decide)))
   ·exact IsiPair.list_tuple e c (no (hb.trans (by decide)))
   ·exact IsiPair.list_list e c (yes (hb.trans (by decide)))
  ·obtain ⟨its,_,p',_⟩:=I.tuple hq
   obtain ⟨o,e,c,_⟩:=p'
   rcases hT with rfl | rfl | rfl | rfl | rfl
   ·exact IsiPair.tuple_bool e c (no (hb.trans (by decide)))
   ·exact IsiPair.tuple_int e c (no (hb.trans (by decide)))
   ·exact IsiPair.tuple_str e c (no (hb.trans (by decide)))
   ·exact IsiPair.tuple_tuple e c (yes (hb.trans (by decide)))
   ·exact IsiPair.tuple_list e c (no (hb.trans (by decide)))
 | byt c=>exact hv.elim
 | flt c=>exact hv.elim
 | ty c=>exact hv.elim
end

section
variable {X:Cx}
end
structure bL (K:PySem.W.Frag) (mg:Str→Option Value) (x:Str) (st:Stmt) (ps:List Str) (f:Addr) (fd:FuncData) : Prop where
 fn:Fun K x x st f fd
 bd:gp K fd ps []
 mg:mg x=some (.ref f)
 ba:∀ us:List Value,us.length=ps.length→bindArgs fd ⟨us,[]⟩=pure (ps.zip us)
section
variable {X:Cx} {x:Str} {st:Stmt} {ps:List Str} {f:Addr} {fd:FuncData} {k:Nat} {sp:Sp} {e:Expr} {es:List Expr} {t:TA} {p pos:Pos}
theorem aB (D:bL X.K X.mg x st ps f fd) (G:aX X.prog X.w X.K X.mg X.base CX0 k f fd ps sp) (hr:cc k X.A) (hg:Gl X x) (ha:PA X (e :: es) t) (hd:(x == ("__debug__" : Str))=false:=by decide)
  (he:starEach (e :: es) X.env=(false,eval e X.env) :: starEach es X.env:=by rfl) (hpl:(backTo pos (starEach es X.env)).any (·.1)=false:=by rfl) : PE X (.Call (.Name x p) (e :: es) [] pos) (u6 sp [] E0 t):=tu G hr hg D.mg D.fn.kp D.bd .nil dU ha hd he hpl
theorem AK {K:PySem.W.Frag} {h:Heap} {mg:Str→Option Value} (KX:K.In h) (G:h.Ns mainGlobals mg) {od an:Option Addr} {sl:Array (Option Value)} {oc kV dc pm cd ct:Value} (a:PySem.W.nsIn K mainGlobals x=some (some (.ref f)))
  (l:K.lookup f=some ⟨oc,od,.func (PySem.W.fnOf x x (ci st) (bX st) (av st) .none kV dc pm an cd ct),sl⟩) (c:PySem.W.codeIn K cd x=true) (k:PySem.W.keepIn K (.ref f)=true)
  (b:∀ (kV doc pm:Value) (an:Option Addr) (cdv ct:Value) (us:List Value),us.length=ps.length→bindArgs (PySem.W.fnOf x x (ci st) (bX st) (av st) .none kV doc pm an cdv ct) ⟨us,[]⟩=pure (ps.zip us)) :
  bL K mg x st ps f (PySem.W.fnOf x x (ci st) (bX st) (av st) .none kV dc pm an cd ct):=
 ⟨sF l c k,(sF l c k).binds b,PySem.W.mg_of KX G a,fun us hl=>b _ _ _ _ _ _ us hl⟩
end

theorem c_ {t u:TS} {D:e_} {σ:St} {H:Hp} (Mid:St→Hp→Prop) (h2:∀ σ' H',Mid σ' H'→u D σ' H') (h1:(∀ σ' H',Mid σ' H'→u D σ' H')→t { D with nx:=u D } σ H) : Cw t u D σ H:=h1 h2

section
variable {X:Cx}
theorem AL (hc:X.calm=true) : fc X (.builtin "all") (fun xs H Q=>∃ (l:Addr) (bs:List Bool),xs=[.ref l]∧SqL X.K H l (bs.map V.bl)∧Q (.bl (bs.all id)) H):=by
 intro pins s σ H xs us Q I r h
 obtain ⟨l,bs,rfl,hl,q⟩:=h
 obtain ⟨u,rfl,ru⟩:=gk r
 cases ru
 obtain ⟨its,rv,p,z⟩:=I.list hl
 have hlt:l < s.heap.objs.size:=by obtain ⟨_,_,e,_⟩:=p; exact Heap.lt_size e
 have len:=rv.length
 refine call_all_walk (wpAny_pyIter_list p.isList ?_)
 refine ⟨s.heap.objs.size,[s.heap.objs.size,l],[s.heap.objs.size],its.toArray.size,_,_,fun i=>(bs[i]?).getD true,rfl,Walks.list (A:=X.A.in1) (I.ok.hd hc) _ l (Nat.ne_of_lt hlt) its.toArray,
  ⟨⟨_,Heap.get?_push_size _ rfl,rfl,rfl⟩,p.isList.push _⟩,fun i v s' Q' E' hP hQ=>?_,fun h' tk hk=>?_⟩
 ·have hi:its[i]? = some v:=by simpa using hP
  have hlt2:i < bs.length:=by
   have:=(List.getElem?_eq_some_iff.mp hi).1
   rw [List.length_map] at len
   omega
  have eb:(bs.map V.bl)[i]? = some (V.bl bs[i]):=by rw [List.getElem?_map,List.getElem?_eq_getElem hlt2]; rfl
  obtain ⟨w',hw,rw'⟩:=rv.get eb
  rw [hi] at hw
  cases hw
  cases rw'
  have e2:(bs[i]?).getD true=bs[i]:=by rw [List.getElem?_eq_getElem hlt2]; rfl
  have hQ2:Q' ((bs[i]?).getD true) s':=hQ
  rw [e2] at hQ2
  exact wpAny_truthy_bool hQ2
 ·have e:((List.range its.toArray.size).all fun i=>(bs[i]?).getD true)=bs.all id:=by
   have:its.toArray.size=bs.length:=by rw [List.length_map] at len; simp; omega
   rw [this]
   exact LSm.range_all bs
  rw [e]
  exact ⟨.bl _,H,I.kept fun b x e=>hk b x (fun hm=>by rw [List.mem_singleton.mp hm] at e; exact Nat.lt_irrefl _ (Heap.lt_size e)) (Heap.get?_push_of_some _ e),rfl,q⟩

theorem sJ (hu:X.A.units+1 < cLine) : OpR X (compareOp .In) (fun y x H Q=>∃ a o,x = .ref a∧dR H a y o∧Q (.bl o.isSome) H):=by
 intro pins s σ H y x u v Q I ry rx h
 obtain ⟨a,o,rfl,g,q⟩:=h
 cases rx
 exact EB hu I g ry fun s' I'=>⟨.bl _,H,I',rfl,q⟩
theorem jt (hu:X.A.units+1 < cLine) : OpR X (compareOp .NotIn) (fun y x H Q=>∃ a o,x = .ref a∧dR H a y o∧Q (.bl (!o.isSome)) H):=by
 intro pins s σ H y x u v Q I ry rx h
 obtain ⟨a,o,rfl,g,q⟩:=h
 cases rx
 exact BN hu I g ry fun s' I'=>⟨.bl _,H,I',rfl,q⟩
end

inductive DD where
 | bl (b:Bool)
 | int (i:Int)
 | str (s:Str)
 | tup (l:List DD)
 | lst (l:List DD)
mutual
def DD.deep:DD→Nat
 | .bl _=>0
 | .int _=>0
 | .str _=>0
 | .tup l=>dD l+1
 | .lst l=>dD l+1
def dD:List DD→Nat
 | []=>0
 | d :: r=>max d.deep (dD r)
end
mutual
def Rep (K:PySem.W.Frag) (H:Hp) : DD→V→Prop
 | .bl b,v=>v = .bl b
 | .int i,v=>v = .int i
 | .str s,v=>v = .str s
 | .tup l,v=>∃ a xs,v = .ref a∧SqT K H a xs∧l.length≤1000∧cb K H l xs
 | .lst l,v=>∃ a xs,v = .ref a∧SqL K H a xs∧l.length≤1000∧cb K H l xs
def cb (K:PySem.W.Frag) (H:Hp) : List DD→List V→Prop
 | [],xs=>xs=[]
 | d :: l,xs=>∃ x r,xs=x :: r∧Rep K H d x∧cb K H l r
end
theorem cb.len {K:PySem.W.Frag} {H:Hp} : ∀ {l:List DD} {xs:List V},cb K H l xs→xs.length=l.length
 | [],xs,h=>by
  unfold cb at h
  rw [h]; rfl
 | d :: l,xs,h=>by
  unfold cb at h
  obtain ⟨x,r,rfl,_,h⟩:=h
  rw [List.length_cons,List.length_cons,h.len]
theorem cb.get {K:PySem.W.Frag} {H:Hp} : ∀ {l:List DD} {xs:List V} {i:Nat} {d:DD},cb K H l xs→l[i]? = some d→∃ x,xs[i]? = some x∧Rep K H d x
 | [],_,_,_,_,e=>by simp at e
 | d :: l,xs,0,d',h,e=>by
  unfold cb at h
  obtain ⟨x,r,rfl,hx,h⟩:=h
  have:d=d':=by simpa using e
  subst this
  exact ⟨x,rfl,hx⟩
 | d :: l,xs,i+1,d',h,e=>by
  unfold cb at h
  obtain ⟨x,r,rfl,hx,h⟩:=h
  obtain ⟨y,ey,hy⟩:=h.get (i:=i) (by simpa using e)
  exact ⟨y,by simpa using ey,hy⟩
theorem oW:∀ {l:List DD} {i:Nat} {d:DD},l[i]? = some d→d.deep≤dD l
 | [],_,_,e=>by simp at e
 | d :: l,0,d',e=>by
  have:d=d':=by simpa using e
  subst this
  unfold dD
  exact Nat.le_max_left _ _
 | d :: l,i+1,d',e=>by
  have:=oW (l:=l) (i:=i) (by simpa using e)
  unfold dD
  exact Nat.le_trans this (Nat.le_max_right _ _)
def vT (K:PySem.W.Frag) (n:Nat) : Sp:=fun vs H Q _=>∃ d x y,vs=[x,y]∧d.deep < n∧Rep K H d x∧Rep K H d y∧Q (.bl true) H

def tJ (P:Program) (w:World) (K:PySem.W.Frag) (a:Addr) (kvs:List (Key × V)) : Prop:=(a == sysModules)=false∧∃ o vs,K.lookup a=some o∧KV kvs vs∧o.IsDictOf (bf P w) vs
section
variable {X:Cx} {o i:Expr} {pos:Pos} {td ty:TE}
theorem Inv.modD {pins:List (Addr × Obj)} {σ:St} {H:Hp} {s:Shared} (I:Inv X pins σ H s) {a:Addr} {kvs:List (Key × V)} (m:tJ X.prog X.w X.K a kvs) : ∃ vs,KV kvs vs∧s.heap.DictOf (bf X.prog X.w) a vs:=by
 obtain ⟨_,o,vs,hk,r,d⟩:=m
 exact ⟨vs,r,Heap.dictOf_iff.mpr ⟨o,I.kIn a o hk,d⟩⟩
theorem uo:OpR X (compareOp .In) (fun y x H Q=>∃ a kvs k,x = .ref a∧tJ X.prog X.w X.K a kvs∧y=kV k∧Q (.bl (cN kvs k).isSome) H):=by
 intro pins s σ H y x u v Q I ry rx h
 obtain ⟨a,kvs,k,rfl,m,rfl,q⟩:=h
 cases rx
 obtain ⟨vs,rel,dd⟩:=I.modD m
 refine wpAny_in_of (lg ry) m.1 dd.mapOf ?_
 rw [← (rel.val k).isSome_eq]
 exact ⟨.bl _,H,I.tok _,rfl,q⟩
def CW (P:Program) (w:World) (K:PySem.W.Frag) (td ty:TE) : TE:=fun σ H Q=>td σ H fun x H1=>ty σ H1 fun y H2=>∃ a kvs k v,x = .ref a∧tJ P w K a kvs∧y=kV k∧cN kvs k=some v∧Q v H2
theorem AM (ho:PE X o td) (hi:PE X i ty) (hs:AD i) : PE X (.Subscript o i pos) (CW X.prog X.w X.K td ty):=by
 intro pins s σ H Q I h
 refine xD PySem.F.slot_dict_getitem.lookup hs (thn (ho pins s σ H _ I h) fun u s1 ⟨x,H1,I1,rx,q1⟩=>thn (hi pins s1 σ H1 _ I1 q1) fun iv s2 ⟨y,H2,I2,ry,a,kvs,k,v,ex,m,ey,l,q2⟩=>?_)
 subst ex ey
 obtain rfl:u=Value.ref a:=rx
 obtain ⟨vs,rel,dd⟩:=I2.modD m
 obtain ⟨w',hw,rw'⟩:=gq.some_of (v:=v) (o:=valueAt vs k) (by rw [← l]; exact rel.val k)
 exact ⟨dd.mapOf.typeIs,wpAny_getItem_of (lg ry) dd.mapOf hw ⟨v,H2,I2.tok _,rw',q2⟩⟩
end

def CXe (P:Program) (w:World) : CXT:=fun outer H s E e s' =>
 ∃ (x C:Addr) (H':Hp) (B:Heap) (a0:Value),e = .ref x∧s'.os=s.os∧AllBare s'.gens∧Un (frs outer) [] H H' s.heap s'.heap∧HOk P w H' B ∧
  (∀ b o,s.heap.get? b=some o→H b=none→b ∉ frs outer→B.get? b=some o)∧(∀ b o,s.heap.get? b=some o→b ∉ frs outer→∃ o',B.get? b=some o') ∧
  Heap.FlyingW B outer x (.ref C) a0 s'.heap∧E (.ref C) none H'
def CY (X:Cx) (E:XK) : Prop:=∀ (pins:List (Addr × Obj)) (σ:St) (H:Hp) (s:Shared) (x C:Addr) (vs:List Value) (h':Heap),Inv X pins σ H s→Heap.MadeExcOf s.heap h' x (.ref C) vs→E (.ref C) none H→X.xe (.ref x) { s with heap:=h' }
theorem xF {env:Env} {l:List Env} {b L:Addr} (hf:env.frame=some L) (h:b ∈ frs (env :: l)) : b=L∨b ∈ frs l:=by
 unfold frs at h
 rw [List.filterMap_cons,hf] at h
 exact List.mem_cons.mp h
theorem BP (l:List Env) : ∀ env ∈ l,∀ a,env.frame=some a→a ∈ frs l:=fun env he a hf=>List.mem_filterMap.mpr ⟨env,he,hf⟩
section
variable {P:Program} {w:World} {K:PySem.W.Frag} {mg:Str→Option Value} {base:Heap} {N:List Str} {qual:Str} {scope:Scope} {f:Addr} {cd:Value} {A:Around} {outer:List Env} {s:Shared} {H:Hp} {E:XK}
theorem mG:CY (lH (CXe P w) P w K mg base N qual scope f cd A outer s H E) E:=by
 intro pins σ H1 s1 x C vs h' I hx ee
 have hfr:(envOfC qual scope s.heap.objs.size f cd).frame=some (envOfC qual scope s.heap.objs.size f cd).locals:=rfl
 have hst:=I.stack
 have hfree:=I.stkFree
 have hsub:=I.stkSub
 show wpAny (model P w) (A.deeper (envOfC qual scope s.heap.objs.size f cd)) (leaving (envOfC qual scope s.heap.objs.size f cd) (.ref x)) (fun _ s''=>CXe P w outer H s E (.ref x) s'') _ _
 have hin:=BP (envOfC qual scope s.heap.objs.size f cd :: outer)
 have hff:s1.heap.FunFrames (PySem.W.hideAll s1.heap (frs (envOfC qual scope s.heap.objs.size f cd :: outer))) (envOfC qual scope s.heap.objs.size f cd :: outer):=PySem.W.funFrames_hide hst hin
 have notfr:∀ b,b < s.heap.objs.size→b ∉ frs outer→b ∉ frs (envOfC qual scope s.heap.objs.size f cd :: outer):=fun b hlt hb hm=>by
  rcases xF hfr hm with e | hm
  ·exact absurd (Nat.lt_of_lt_of_le hlt I.ok.above) (by rw [e]; exact Nat.lt_irrefl _)
  ·exact hb hm
 refine wpAny_leaves_madeW (base:=PySem.W.hideAll s1.heap (frs (envOfC qual scope s.heap.objs.size f cd :: outer))) (h:=s1.heap) I.ok.frames hfr (fun b o q=>PySem.W.of_hideAll _ q) hff hx fun h'' t x1 x2 x3 x4=>?_
 have cov1:∀ b o,s.heap.get? b=some o→H b=none→b ∉ frs outer→(PySem.W.hideAll s1.heap (frs (envOfC qual scope s.heap.objs.size f cd :: outer))).get? b=some o:=fun b o q n hb =>
  PySem.W.hideAll_get _ (I.base.keep b o q n hb (show b ∉ ([] : List Addr) by simp)) (notfr b (Heap.lt_size q) hb)
 have cov2:∀ b o,s.heap.get? b=some o→b ∉ frs outer→∃ o',(PySem.W.hideAll s1.heap (frs (envOfC qual scope s.heap.objs.size f cd :: outer))).get? b=some o':=fun b o q hb=>by
  obtain ⟨o',e⟩:=I.base.there b o q (show b ∉ ([] : List Addr) by simp)
  exact ⟨o',PySem.W.hideAll_get _ e (notfr b (Heap.lt_size q) hb)⟩
 have slot:∀ b,b ∈ frs outer→∀ o,s1.heap.get? b=some o→∃ sl,h''.get? b=some { o with slots:=sl }:=fun b hb o q=>by
  have hm:b ∈ frs (envOfC qual scope s.heap.objs.size f cd :: outer):=by
   unfold frs
   rw [List.filterMap_cons,hfr]
   exact List.mem_cons_of_mem _ hb
  obtain ⟨_,o2,e2,nd⟩:=hff.mem hm
  rw [q] at e2
  cases e2
  exact x4 b o (hx.keeps b o q) nd
 refine ⟨x,C,H1,_,_,rfl,I.os,I.bare,⟨fun b o q n hb _=>x1.1 b o (cov1 b o q n hb),fun b o q n hb hx'=>?_,I.base.free,fun b o q _=>?_,I.base.tups,I.base.frzs,I.base.tbls⟩,fun b ob e=>?_,cov1,cov2,x1,ee⟩
 ·obtain ⟨sl,e1⟩:=I.base.slot b o q n hb hx'
  obtain ⟨sl2,e2⟩:=slot b hb _ e1
  exact ⟨sl2,e2⟩
 ·by_cases hb:b ∈ frs outer
  ·obtain ⟨o',e⟩:=I.base.there b o q (show b ∉ ([] : List Addr) by simp)
   obtain ⟨sl2,e2⟩:=slot b hb _ e
   exact ⟨_,e2⟩
  ·obtain ⟨o',e⟩:=cov2 b o q hb
   exact ⟨o',x1.1 b o' e⟩
 ·refine (I.hok b ob e).stay (fun c v hc q=>PySem.W.hideAll_get _ q fun hm=>?_) (fun _ q=>q) fun _ _ q=>q
  have z:=hfree c hm
  rcases hc with rfl | hc
  ·rw [e] at z; cases z
  ·rw [hc] at z; cases z
theorem i6:dP (CXe P w) (lH (CXe P w) P w K mg base N qual scope f cd A outer s H E) E:=by
 intro pins σ H1 s1 e s' I h
 obtain ⟨x,C,H',B,a0,rfl,os,bare,un,hok,cov1,cov2,fl,ee⟩:=h
 have hfr:(envOfC qual scope s.heap.objs.size f cd).frame=some (envOfC qual scope s.heap.objs.size f cd).locals:=rfl
 show wpAny (model P w) (A.deeper (envOfC qual scope s.heap.objs.size f cd)) (leaving (envOfC qual scope s.heap.objs.size f cd) (.ref x)) (fun _ s''=>CXe P w outer H s E (.ref x) s'') _ _
 have notfr:∀ b,b < s.heap.objs.size→b ∉ frs outer→b ∉ frs (envOfC qual scope s.heap.objs.size f cd :: outer):=fun b hlt hb hm=>by
  rcases xF hfr hm with e | hm
  ·exact absurd (Nat.lt_of_lt_of_le hlt I.ok.above) (by rw [e]; exact Nat.lt_irrefl _)
  ·exact hb hm
 refine wpAny_leaves_onW I.ok.frames hfr fl fun h'' f2 up=>?_
 have c1:∀ b o,s.heap.get? b=some o→H b=none→b ∉ frs outer→B.get? b=some o:=fun b o q n hb =>
  cov1 b o (I.base.keep b o q n hb (show b ∉ ([] : List Addr) by simp)) (I.base.free b o q n (show b ∉ ([] : List Addr) by simp)) (notfr b (Heap.lt_size q) hb)
 have c2:∀ b o,s.heap.get? b=some o→b ∉ frs outer→∃ o',B.get? b=some o':=fun b o q hb=>by
  obtain ⟨o',e⟩:=I.base.there b o q (show b ∉ ([] : List Addr) by simp)
  exact cov2 b o' e (notfr b (Heap.lt_size q) hb)
 have fm:∀ b,b ∈ frs outer→b ∈ frs (envOfC qual scope s.heap.objs.size f cd :: outer):=fun b hb=>by
  unfold frs
  rw [List.filterMap_cons,hfr]
  exact List.mem_cons_of_mem _ hb
 refine ⟨x,C,H',B,a0,rfl,os.trans I.os,bare,⟨fun b o q n hb _=>f2.1 b o (c1 b o q n hb),fun b o q n hb hx'=>?_,fun b o q n hx'=>?_,fun b o q _=>?_,fun b xs q=>un.tups b xs (I.base.tups b xs q),fun b o u q=>un.frzs b o u (I.base.frzs b o u q),fun b ps q=>?_⟩,hok,c1,c2,f2,ee⟩
 ·obtain ⟨sl,e1⟩:=I.base.slot b o q n hb hx'
  obtain ⟨sl2,e2⟩:=un.slot b _ e1 (I.base.free b o q n hx') (fm b hb) (by simp)
  obtain ⟨_,o3,e3,nd⟩:=fl.2.2.1.mem (fm b hb)
  rw [e2] at e3
  cases e3
  obtain ⟨sl3,e4⟩:=up b _ e2 nd
  exact ⟨sl3,e4⟩
 ·obtain ⟨o',e⟩:=I.base.there b o q hx'
  exact un.free b o' e (I.base.free b o q n hx') (by simp)
 ·by_cases hb:b ∈ frs outer
  ·obtain ⟨_,o3,e3,_⟩:=f2.2.2.1.mem hb
   exact ⟨o3,e3⟩
  ·obtain ⟨o',e⟩:=c2 b o q hb
   exact ⟨o',f2.1 b o' e⟩
 ·obtain ⟨m1,e1⟩:=I.base.tbls b ps q
  obtain ⟨m2,e2⟩:=un.tbls b _ e1
  exact ⟨m1++m2,by rw [e2,Array.append_assoc]⟩
end

abbrev oX:List Value:=[.type "ValueError",.type "Exception",.type "BaseException",.type "object"]
structure sK (K:PySem.W.Frag) (mg:Str→Option Value) (c:Str) (C:Addr) : Prop where
 mg:mg c=some (.ref C)
 ex:PySem.W.excIn K C oX "ValueError.__new__" = true
theorem BQ {K:PySem.W.Frag} {h:Heap} {C:Addr} {bmB:List Value} {newId:String} (X:K.In h) (q:PySem.W.excIn K C bmB newId=true) :
  ∃ bm N nm q bs hdct sn sub ab col dd k0 k1 k2 k3 k5 mN,h.get? C=some (excClassObj nm q C N bs bm hdct sn sub ab col dd k0 k1 k2 k3 k5 newId)∧h.Ns N mN∧mN "__init__" = none∧OwnTail h bmB bm:=by
 unfold PySem.W.excIn at q
 split at q
 ·rename_i dd cd sl ho
  split at q
  ·rename_i C' bm k0 k1 k2 k3 n k5 hm hs
   simp only [Bool.and_eq_true,beq_iff_eq,Bool.not_eq_true'] at q
   obtain ⟨⟨⟨⟨⟨rfl,rfl⟩,hdel⟩,ht⟩,hok⟩,hni⟩:=q
   obtain ⟨nm,bs,mro,ns,qn,hd,sn,sub,ab,col,del⟩:=cd
   dsimp only at hm hdel hok hni
   subst hm hdel
   have hsl:sl = #[k0,k1,k2,k3,some (.builtin n),k5]:=by
    obtain ⟨l⟩:=sl
    simp only at hs
    rw [hs]
   subst hsl
   exact ⟨bm,ns,nm,qn,bs,hd,sn,sub,ab,col,dd,k0,k1,k2,k3,k5,_,X _ _ ho,.of_isNs (PySem.W.isNs_of_in X hok),PySem.W.nsMap_none_of_in X hok hni,PySem.W.tail_of_in X ht⟩
  ·cases q
 ·cases q
def CZ (E:XK) (C:Addr) (t:TA) : TS:=fun _ σ H=>t σ H fun vs H1=>vs.length≤sizeLine∧E (.ref C) none H1
section
variable {X:Cx} {E:XK} {c:Str} {C:Addr} {e:Expr} {es:List Expr} {t:TA} {np cpos pos:Pos}
theorem jY (hc:X.calm=true) (hw:CY X E) (O:sK X.K X.mg c C) (hg:Gl X c) (ha:PA X (e :: es) t) (hd:(c == ("__debug__" : Str))=false:=by decide)
  (he:starEach (e :: es) X.env=(false,eval e X.env) :: starEach es X.env:=by rfl) (hpl:(backTo cpos (starEach es X.env)).any (·.1)=false:=by rfl) :
  PS X (.Raise (some (.Call (.Name c np) (e :: es) [] cpos)) none pos) (CZ E C t):=by
 intro pins s σ H D I h
 obtain ⟨bm,N,nm,q,bs,hdct,sn,sub,ab,col,dd,k0,k1,k2,k3,k5,mN,hC,hN,hni,T⟩:=BQ I.ok.mod.kin O.ex
 refine wpAny_Raise_call_subU (C:=C) (nm:=nm) (q:=q) (N:=N) (bs:=bs) (bm:=bm) (hdct:=hdct) (sn:=sn) (sub:=sub) (ab:=ab) (col:=col) (dd:=dd) (k0:=k0) (k1:=k1) (k2:=k2) (k3:=k3) (k5:=k5)
  PySem.F.excBase_ValueError (by decide +kernel) PySem.F.excBase_ValueError (mN:=mN) (T.hasType PySem.F.excBase_ValueError.hasBase) (I.ok.hd hc) (by rw [he]; show (false || (backTo cpos (starEach es X.env)).any (·.1))=false; rw [hpl]; rfl) hni
  (mw I hg O.mg ⟨rfl,?_⟩ hd)
 have ha':=ha cpos pins s σ H _ I h
 rw [he] at ha' ⊢
 refine Calls.evalArgs_plain (wpAny_mono ha' (fun vs s₂ h₂=>?_) fun _ _ y=>y)
 obtain ⟨xs,H1,I1,r,hz,ee⟩:=h₂
 exact ⟨rfl,by rw [← r.length]; exact hz,I1.bk _ _ hC,hN.keeps I1.bk,T.keeps I1.bk,fun h' x hm=>hw pins σ H1 s₂ x C _ h' I1 hm ee⟩
end
theorem Fun.okE {P:Program} {w:World} {K:PySem.W.Frag} {mg:Str→Option Value} {base:Heap} {x qual:Str} {st:Stmt} {f:Addr} {fd:FuncData} {N ps:List Str} {k:Nat} {sp:Sp} (F:Fun K x qual st f fd) (S:aJ N ps (av st)) (len:∀ vs H Q E,sp vs H Q E→vs.length=ps.length)
  (hbody:∀ (cdv:Value) (A:Around) (outer:List Env) (s:Shared) (H:Hp) (vs:List V) (Q:VK) (E:XK),cc k (A.deeper (envOfC qual (av st) s.heap.objs.size f cdv))→sp vs H Q E →
   ∃ t,PSs (lH (CXe P w) P w K mg base N qual (av st) f cdv A outer s H E) (bX st) t∧t { nx:=fun _ H'=>Q .non H',rt:=Q } (ip N vs) H) : aX P w K mg base (CXe P w) (k+1) f fd ps sp:=by
 obtain ⟨oc,od,kV,doc,pm,an,cdv,ct,osl,rfl,lk,hcd⟩:=F.ex
 exact ya lk hcd S len fun A outer s H vs Q E hr hsp=>hbody cdv A outer s H vs Q E hr hsp
theorem vU {X:Cx} {x:Str} {st:Stmt} {ps:List Str} {f:Addr} {fd:FuncData} {k:Nat} {sp:Sp} {e:Expr} {es:List Expr} {t:TA} {p pos:Pos} {CX:CXT} {E:XK} (hx:dP CX X E) (D:bL X.K X.mg x st ps f fd) (G:aX X.prog X.w X.K X.mg X.base CX k f fd ps sp) (hr:cc k X.A) (hg:Gl X x) (ha:PA X (e :: es) t) (hd:(x == ("__debug__" : Str))=false:=by decide)
  (he:starEach (e :: es) X.env=(false,eval e X.env) :: starEach es X.env:=by rfl) (hpl:(backTo pos (starEach es X.env)).any (·.1)=false:=by rfl) : PE X (.Call (.Name x p) (e :: es) [] pos) (u6 sp [] E t):=tu G hr hg D.mg D.fn.kp D.bd .nil hx ha hd he hpl

def D1 (K:PySem.W.Frag) (C T:Addr) : Prop:=PySem.W.exmOne K (.ref C) (.ref T)=some true
section
variable {X:Cx} {k:Nat} {f T:Addr} {fd:FuncData} {ps:List Str} {sp:Sp} {fx c:Str} {st:Stmt} {e:Expr} {es:List Expr} {t:TA} {b₀:Stmt} {suite:List Stmt} {th:TS} {np pf cpos apos hpos pos:Pos}
end
end L2

set_option maxHeartbeats 4000000
namespace L2
open PySem PySem.Spec PyProof.Rows Tl

def PP (X:Cx) (v:Expr) (c:St→Prop) : Prop:=∀ (pins:List (Addr × Obj)) (s:Shared) (σ:St) (H:Hp) (Q:Value→Shared→Prop),Inv X pins σ H s→c σ→(∀ (y:Str) (t:Tok) (s':Shared),y.length≤20000→Inv X pins σ H s'→Q (.str y t) s')→wpAny (model X.prog X.w) X.A (eval v X.env) Q X.xe s
def PJ (X:Cx) (vs:List Expr) (c:St→Prop) : Prop:=∀ (pins:List (Addr × Obj)) (s:Shared) (σ:St) (H:Hp) (acc:Str) (Q:Str→Shared→Prop),Inv X pins σ H s→c σ→acc.length+20000 * vs.length≤1000000→(∀ (z:Str) (s':Shared),z.length≤1000000→Inv X pins σ H s'→Q z s')→Joins (model X.prog X.w) X.A X.xe (evalEach vs X.env) acc Q s
section
variable {X:Cx}
theorem oY:PJ X [] (fun _=>True):=fun _ s _ _ acc _ I _ ha q=>q acc s (by simpa using ha) I
theorem dJ {v:Expr} {vs:List Expr} {c d:St→Prop} (h:PP X v c) (hr:PJ X vs d) (he:evalEach (v :: vs) X.env=eval v X.env :: evalEach vs X.env:=by rfl) : PJ X (v :: vs) (fun σ=>c σ∧d σ):=by
 intro pins s σ H acc Q I hc ha q
 rw [he]
 refine h pins s σ H _ I hc.1 fun y t s' hy I'=>?_
 have hl:(acc++y).length=acc.length+y.length:=strLen_append _ _
 rw [List.length_cons] at ha
 refine ⟨y,t,rfl,?_,hr pins s' σ H (acc++y) Q I' hc.2 (by rw [hl]; omega) q⟩
 rw [hl]
 exact Nat.le_trans (show acc.length+y.length≤1000000 by omega) (by decide)
theorem jl {x:Str} {j pos} (hx:x.length≤20000:=by decide +kernel) : PP X (.Constant (.str x) j pos) (fun _=>True):=fun _ s _ _ _ I _ q=>Calls.Constant_str (q x _ _ hx (I.tok _))
theorem BR {pins:List (Addr × Obj)} {s:Shared} {σ:St} {H:Hp} {Q:Value→Shared→Prop} {y:Str} {t:Tok} (I:Inv X pins σ H s) (hy:y.length≤20000) (q:∀ (y:Str) (t:Tok) (s':Shared),y.length≤20000→Inv X pins σ H s'→Q (.str y t) s') :
  wpAny (model X.prog X.w) X.A (formatField (.str y t) Str.empty) Q X.xe s:=
 formatField_str (fun t' tk=>q y t' _ hy (I.tok tk)) (Nat.le_trans hy (by decide))
theorem qA {i:Nat} {e:Expr} {pos:Pos} (he:PE X e (Ap i)) : PP X (.FormattedValue e 114 none pos) (fun σ=>∃ l:List Nat,σ[i]? = some (some (.str (tx l)))∧l.length≤1000∧∀ c ∈ l,c < 127):=by
 intro pins s σ H Q I hc q
 obtain ⟨l,hv,hl,hc⟩:=hc
 refine wpAny_FormattedValue_repr (thn (he pins s σ H (fun v H'=>v = .str (tx l)∧H' = H) I ⟨_,hv,rfl,rfl⟩) fun u s1 ⟨x,H1,I1,r1,e1,e2⟩=>?_)
 subst e1 e2
 obtain ⟨t,rfl⟩:=r1
 have hb:(reprText (tx l)).length≤20000:=by
  have:=StrLaws.reprText_len (tx l) (fun c hm=>Nat.lt_trans (hc c (by simpa using hm)) (by decide))
  have e1:(reprText (tx l)).cps.toList.length=(reprText (tx l)).length:=Array.length_toList
  have e2:=aQ l
  have e3:(tx l).cps.toList.length=(tx l).length:=Array.length_toList
  omega
 exact wpAny_pyReprObj_str (BR (I1.tok _) hb q) (Nat.le_trans hb (by decide))
theorem C0 {n:Int} {e:Expr} {pos:Pos} (he:PE X e (tC (.int n))) (hn:n.natAbs.log2 < 1920:=by decide) (hl:(toString n:Str).length≤20000:=by decide +kernel) : PP X (.FormattedValue e (-1) none pos) (fun _=>True):=by
 intro pins s σ H Q I _ q
 refine wpAny_FormattedValue_plain (thn (he pins s σ H (fun v H'=>v = .int n∧H' = H) I ⟨rfl,rfl⟩) fun u s1 ⟨x,H1,I1,r1,e1,e2⟩=>?_)
 subst e1 e2
 obtain ⟨t,rfl⟩:=r1
 exact wpAny_formatField_int hn (q _ _ _ hl (I1.tok _))
def tFs (c:St→Prop) : TE:=fun σ H Q=>c σ∧∀ z:Str,Q (.str z) H
theorem mH {v v2:Expr} {vs:List Expr} {c:St→Prop} {pos:Pos} (h:PJ X (v :: v2 :: vs) c) (hl:vs.length≤20:=by decide) : PE X (.JoinedStr (v :: v2 :: vs) pos) (tFs c):=by
 intro pins s σ H Q I hw
 refine wpAny_JoinedStr (h pins s σ H _ _ I hw.1 (by show 0+_≤_; simp only [List.length_cons]; omega) fun z s' hz I'=>⟨Nat.le_trans hz (by decide),.str z,H,I'.tok _,⟨_,rfl⟩,hw.2 z⟩)
end

theorem Inv.track {X:Cx} {pins:List (Addr × Obj)} {σ:St} {H:Hp} {s:Shared} {D:Addr} {o:HO} (I:Inv X pins σ H s) (hn:H D=none) (hnew:X.s₀.heap.objs.size≤D) (hL:D≠X.env.locals) (hc:∀ x c,X.env.cells.lookup x=some c→c≠D) (hp:∀ p ∈ X.pn++pins,p.1≠D)
  (ok:bQ X.prog X.w (upd H D o) s.heap D o) : Inv X pins σ (upd H D o) s:=by
 have ne:∀ b u,H b=some u→b≠D:=fun b u q=>cx q hn
 refine ⟨I.ok,I.os,I.bare,⟨I.base.keep,I.base.slot,fun b o q nn hx=>?_,I.base.there,fun b xs q=>?_,fun b o u q=>?_,fun b ps q=>?_⟩,I.loc,I.cell,?_,fun x c q=>?_,fun p hq=>?_,fun b u q=>?_,I.len⟩
 ·rw [aj (Nat.ne_of_lt (Nat.lt_of_lt_of_le (Heap.lt_size q) hnew))]; exact I.base.free b o q nn hx
 ·have z:=I.base.tups b xs q
  rw [aj (ne b _ z)]; exact z
 ·have z:=I.base.frzs b o u q
  rw [aj (ne b _ z)]; exact z
 ·obtain ⟨more,z⟩:=I.base.tbls b ps q
  exact ⟨more,by rw [aj (ne b _ z)]; exact z⟩
 ·rw [aj (Ne.symm hL)]; exact I.free
 ·rw [aj (hc x c q)]; exact I.freeC x c q
 ·obtain ⟨a1,a2,a3⟩:=I.pin p hq
  exact ⟨a1,by rw [aj (hp p hq)]; exact a2,a3⟩
 ·by_cases hb:b=D
  ·subst hb
   rw [ae] at q; cases q
   exact ok
  ·rw [aj hb] at q
   exact (I.hok b u q).stay (fun c v _ r=>r) (fun c r=>by rw [aj (ne c _ r)]; exact r) fun c xs r=>by rw [aj (ne c _ r)]; exact r
def Ite (K:PySem.W.Frag) (a:Addr) : It:=
 ⟨fun i H=>∃ xs x,SqL K H a xs∧xs[i]? = some x,fun i H x H'=>∃ p,H p=none∧x = .ref p∧∀ xs y,SqL K H a xs→xs[i]? = some y→H' = upd H p (.tup [.int (i:Int),y]),fun i H=>∃ xs,SqL K H a xs∧xs.length≤i⟩
theorem zw {P:Program} {w:World} {K:PySem.W.Frag} {elts:List Expr} {k1} {tp:Pos} (a e it:Addr) (hei:e≠it) : oN P w K (.Tuple elts k1 tp) (Ite K a) [e,it] e (fun i h=>(∃ old,IsEnum h e it (i:Nat) old)∧h.IsListIter it a i) where
 mem:=by simp
 obj:=fun i h st b hb=>by
  have hb':b=e∨b=it:=by simpa using hb
  rcases hb' with rfl | rfl
  ·obtain ⟨⟨old,h1⟩,_⟩:=st
   exact ⟨_,h1,fun v z=>by cases z⟩
  ·obtain ⟨_,o,h1,c,d⟩:=st
   exact ⟨o,h1,fun v z=>by rw [d] at z; cases z⟩
 keep:=fun i h h' st k=>⟨let ⟨old,h1⟩:=st.1; ⟨old,k e (by simp) _ h1⟩,st.2.at fun o h1=>k it (by simp) o h1⟩
 item:=by
  intro X hP hw hK hc i pins s σ H E I hf st hg
  subst hP hw hK
  obtain ⟨xs,x,hq,hx⟩:=hg
  obtain ⟨its,rv,p,hz⟩:=I.list hq
  obtain ⟨u,hu,ru⟩:=rv.get hx
  obtain ⟨f0,f1,f2,f3,f4,f5⟩:=hf e (by simp)
  obtain ⟨g0,g1,g2,g3,g4,g5⟩:=hf it (by simp)
  obtain ⟨⟨old,he⟩,hit⟩:=st
  refine wpAny_pyNext_enum_item he hit p.isList (x:=u) (by simpa using hu) hei fun h' heo hit' hT hz' hk=>?_
  have kk:∀ b o,b ∉ [e,it]→s.heap.get? b=some o→h'.get? b=some o:=fun b o hb q=>hk b o (fun z=>hb (by simp [z])) (fun z=>hb (by simp [z])) q
  have nit:∀ b v,H b=some v→b ∉ [e,it]:=fun b v q z=>by
   have z':b=e∨b=it:=by simpa using z
   rcases z' with rfl | rfl
   ·rw [f0] at q; cases q
   ·rw [g0] at q; cases q
  have I1:Inv X pins σ H { s with heap:=h',toks:=s.toks+1 }:=by
   refine I.step (g':=s.gens) (d':=s.drawn) (ch:=[e,it]) (fun b hb=>?_) (fun b o _ _ hb q _=>kk b o hb q) (fun b o _ _ hb q _=>⟨o.slots,kk b o hb q⟩) (fun _ _ _ _ n=>n)
    (fun b o hb q=>⟨o,kk b o hb q⟩) (fun _ _ q=>q) (fun _ _ _ q=>q) (fun b ps q=>⟨#[],by rw [q]; simp⟩) (fun m hm=>?_) (fun b v q=>?_) I.bare
   ·have z':b=e∨b=it:=by simpa using hb
    rcases z' with rfl | rfl
    ·exact ⟨f3,f1,f4,f5⟩
    ·exact ⟨g3,g1,g4,g5⟩
   ·obtain ⟨o,es,ep,ho,r⟩:=hm
    exact ⟨o,es,ep,kk _ o (fun z=>by
     have z':X.env.locals=e∨X.env.locals=it:=by simpa using z
     rcases z' with z' | z'
     ·exact f1 z'.symm
     ·exact g1 z'.symm) ho,r⟩
   ·refine (I.hok b v q).stay (fun c o hc r=>kk c o ?_ r) (fun _ r=>r) fun _ _ r=>r
    rcases hc with rfl | hc
    ·exact nit _ _ q
    ·exact nit _ _ hc
  have hsz:s.heap.objs.size < h'.objs.size:=by rw [hz']; exact Nat.lt_succ_self _
  have hTn:H s.heap.objs.size=none:=I.fresh
  have elt:e < s.heap.objs.size:=Heap.lt_size he
  have I2:Inv X pins σ (upd H s.heap.objs.size (.tup [.int (i:Int),x])) { s with heap:=h',toks:=s.toks+1 }:=by
   refine I1.track hTn I.sz (Nat.ne_of_gt I.lt) (fun y c q=>?_) (fun p hp=>?_) ⟨by show 2≤sizeLine; decide,[.int i s.toks,u],.cons ⟨_,rfl⟩ (.cons ru .nil),⟨_,hT,rfl,_,rfl⟩⟩
   ·obtain ⟨v,q2⟩:=I.cell y c q
    exact Nat.ne_of_lt q2.lt
   ·exact Nat.ne_of_lt (Heap.lt_size (I.pin p hp).1)
  refine ⟨_,rfl,wpAny_letOwnedTupleGo_enum (s:={ s with heap:=h',toks:=s.toks+1 }) heo fun h'' he'' hs''=>?_⟩
  have I3:Inv X pins σ (upd H s.heap.objs.size (.tup [.int (i:Int),x])) { s with heap:=h'',toks:=s.toks+1 }:=Inv.turned (s:={ s with heap:=h',toks:=s.toks+1 }) (h':=h'') (t':=s.toks+1) (it:=e) I2 (fun b o hb q=>(hs''.2 b hb).trans q) (by rw [aj (Nat.ne_of_lt elt)]; exact f0) f1 f3 f4 f5
  refine ⟨.ref s.heap.objs.size,_,I3,rfl,⟨_,hTn,rfl,fun ys y hy hy2=>?_⟩,⟨⟨_,he''⟩,?_⟩,fun b hb=>?_⟩
  ·rw [I.list_inj hy hq,hx] at hy2
   cases hy2
   rfl
  ·exact hit'.at fun o h1=>(hs''.2 it (Ne.symm hei)).trans h1
  ·have z':b=e∨b=it:=by simpa using hb
   rcases z' with rfl | rfl
   ·rw [aj (Nat.ne_of_lt elt)]; exact f0
   ·have ilt:b < s.heap.objs.size:=by
     obtain ⟨o,h1,_⟩:=hit
     exact Heap.lt_size h1
    rw [aj (Nat.ne_of_lt ilt)]; exact g0
 done:=by
  intro X hP hw hK hc i pins s σ H E I hf st hg
  subst hP hw hK
  obtain ⟨xs,hq,hx⟩:=hg
  obtain ⟨its,rv,p,hz⟩:=I.list hq
  obtain ⟨g0,g1,g2,g3,g4,g5⟩:=hf it (by simp)
  obtain ⟨⟨old,he⟩,hit⟩:=st
  have hl:=rv.length
  exact wpAny_pyNext_enum_end (I.ok.hd hc) he hit p.isList (by simp; omega) fun h' eb=>⟨rfl,I.turned (t':=s.toks) (fun b o hb e=>eb b o hb e) g0 g1 g3 g4 g5⟩
 self:=fun _ _ _ _ _ st h=>by
  obtain ⟨⟨old,he⟩,_⟩:=st
  exact wpAny_pyIter_enum he h
section
variable {X:Cx} {elts:List Expr} {k1:Nat} {tp:Pos}
def D2 (K:PySem.W.Frag) (tl:TE) : TI:=fun σ H R=>tl σ H fun x H1=>∃ a,x = .ref a∧(∃ xs,SqL K H1 a xs)∧R (Ite K a) H1
theorem BS {l:Expr} {k1} {tl:TE} {p pos:Pos} (hg:Gl X "enumerate") (hm:X.mg "enumerate" = none) (hl:PE X l tl) (hs:starEach [l] X.env=[(false,eval l X.env)]:=by rfl) : PI X (.Tuple elts k1 tp) (.Call (.Name "enumerate" p) [l] [] pos) (D2 X.K tl):=by
 intro pins s σ H R I h
 have ha:PA X [l] (Bo tl tt):=aa hl ac hs
 refine Call_ (oK I hg hm (by decide +kernel:bootBuiltins "enumerate" = some (.type "enumerate")) (PyProof.Rows.callWith_type1 (thn (ha pos pins s σ H (fun vs H1=>match vs with | [x]=>∃ a,x = .ref a∧(∃ xs,SqL X.K H1 a xs)∧R (Ite X.K a) H1 | _=>False) I h) fun us s1 ⟨vs,H1,I1,r1,q1⟩=>?_) hs rfl))
 match vs,r1,q1 with
 | [x],r1,q1 =>
 obtain ⟨a,rfl,⟨xs,hq⟩,q⟩:=q1
 obtain ⟨u,rfl,ru⟩:=gk r1
 cases ru
 obtain ⟨its,rv,p,hz⟩:=I1.list hq
 refine call_enumerate_list p.isList fun h' he hit hz' hk=>?_
 refine wpAny_pyIter_enum he ?_
 refine ⟨s1.heap.objs.size+1,[s1.heap.objs.size+1,s1.heap.objs.size],_,_,H1,rfl,I1.kept (t':=s1.toks) hk,zw a _ _ (Nat.succ_ne_self _),⟨⟨_,he⟩,hit⟩,fun b hb=>?_,q⟩
 have z':b=s1.heap.objs.size+1∨b=s1.heap.objs.size:=by simpa using hb
 have I2:=I1.kept (h':=h') (t':=s1.toks) hk
 rcases z' with rfl | rfl
 ·exact I1.fpOk (Nat.le_succ _) (I1.hok.fresh (Nat.le_succ _))
 ·exact I1.fpOk (Nat.le_refl _) (I1.hok.fresh (Nat.le_refl _))
end
theorem AN {K:PySem.W.Frag} {a:Addr} {xs:List V} {g:TG} {tb:TS} {D:e_} {σ:St} {H:Hp} (Pv:Nat→St→Hp→Prop) (h0:Pv 0 σ H) (hl:∀ i σ H,i≤xs.length→Pv i σ H→SqL K H a xs)
  (hs:∀ i x σ H p,xs[i]? = some x→Pv i σ H→H p=none→g (.ref p) σ (upd H p (.tup [.int (i:Int),x])) fun σ2 H2=>tb { D with nx:=Pv (i+1),ct:=Pv (i+1),bk:=D.nx } σ2 H2) (hd:∀ σ H,Pv xs.length σ H→D.nx σ H) :
  ∃ W:Nat→Nat→St→Hp→Prop,(∃ m,W 0 m σ H)∧∀ i m σ H,W i m σ H →
   ((Ite K a).stop i H∧D.nx σ H)∨((Ite K a).go i H∧∃ N:St→Hp→Prop,(∀ σ' H',N σ' H'→∃ m',m' < m∧W (i+1) m' σ' H')∧∀ x H',(Ite K a).yld i H x H'→g x σ H' fun σ2 H2=>tb { D with nx:=N,ct:=N,bk:=D.nx } σ2 H2):=by
 refine ⟨fun i m σ H=>m=xs.length - i∧i≤xs.length∧Pv i σ H,⟨xs.length,by simp,Nat.zero_le _,h0⟩,?_⟩
 rintro i m σ H ⟨rfl,hi,p⟩
 have q:=hl i σ H hi p
 by_cases hlt:i < xs.length
 ·refine .inr ⟨⟨xs,xs[i],q,by simp [hlt]⟩,Pv (i+1),fun σ' H' p'=>⟨xs.length - (i+1),by omega,rfl,hlt,p'⟩,fun x H' y=>?_⟩
  obtain ⟨t,ht,e,y⟩:=y
  subst e
  have e2:=y xs xs[i] q (by simp [hlt])
  subst e2
  exact hs i xs[i] σ H t (by simp [hlt]) p ht
 ·have e:i=xs.length:=by omega
  subst e
  exact .inl ⟨⟨xs,q,Nat.le_refl _⟩,hd σ H p⟩

section
variable {X:Cx} {tg:Expr}
end
theorem rg {X:Cx} (hu:X.A.units < cLine) : OpR X (compareOp .Eq) (fun x y H Q=>∃ a b xs,x = .ref a∧y = .ref b∧SqL X.K H a xs∧SqL X.K H b []∧Q (.bl xs.isEmpty) H):=by
 intro pins s σ H x y v u Q I rx ry h
 obtain ⟨a,b,xs,rfl,rfl,ha,hb,q⟩:=h
 cases rx
 cases ry
 obtain ⟨its,r,p,z⟩:=I.list ha
 obtain ⟨its2,r2,p2,z2⟩:=I.list hb
 have l1:=r.length
 have l2:=r2.length
 cases xs with
 | nil =>
  refine SeqAt.eq_listAt (e:=fun _=>true) p.isList p2.isList (by simp at l1 l2 ⊢; omega) hu (fun j h1 h2=>absurd h1 (by simp at l1 ⊢; omega)) ⟨.bl _,H,I,rfl,?_⟩
  have e:its.toArray.size=0:=by rw [List.size_toArray]; exact l1.symm
  rw [e]
  exact q
 | cons x r=>exact SeqAt.eq_list_lengthsAt p.isList p2.isList (by simp at l1 l2 ⊢; omega) hu ⟨.bl false,H,I,rfl,q⟩
def C1:V→List V→Hp→VK→Prop:=fun x vs H Q=>∃ l y xs j,x = .ref l∧vs=[y]∧H l=some (.lst xs)∧iq y=true∧xs.all iq=true∧(∃ v,xs[j]? = some v∧eqV v y=true)∧(∀ (m:Nat) (v:V),m < j→xs[m]? = some v→eqV v y=false)∧Q (.int (j:Nat)) H
theorem AO {X:Cx} : MtM X "list.index" C1:=by
 intro pins s σ H x vs v us Q I rx rv h
 obtain ⟨l,y,xs,j,rfl,rfl,hH,fy,fs,⟨vj,hvj,hit⟩,hno,q⟩:=h
 cases rx
 obtain ⟨u,rfl,ru⟩:=rv.one
 obtain ⟨z,its,n,r,hl,e⟩:=I.lstM hH
 have fl:∀ (m:Nat) (v:V),xs[m]? = some v→iq v=true:=fun m v h=>List.all_eq_true.mp fs v (List.mem_of_getElem? h)
 have hj:j < its.toArray.size:=by
  rw [List.size_toArray,← hl]
  exact (List.getElem?_eq_some_iff.mp hvj).1
 have at':∀ (m:Nat) (hm:m < its.toArray.size) (v:V),xs[m]? = some v→eqU y its.toArray[m]=eqV v y:=fun m hm v h=>by
  obtain ⟨u',hu',ru'⟩:=r.get h
  have hm2:m < its.length:=by rw [List.size_toArray] at hm; exact hm
  have:its[m]=u':=by
   rw [List.getElem?_eq_getElem hm2] at hu'
   exact Option.some.inj hu'
  rw [show its.toArray[m]=its[m] by simp,this]
  exact vJ ru' (fl m v h)
 refine call_meets F.slot_list_index ⟨_,e,rfl⟩ F.entry_list_index (F.args_list_index_2 _ _) (SeqAt.list_indexAt l its.toArray n none #[] u (eqU y) j hj ?_ ?_ ?_) ⟨e,fun w hw=>iZ ru fy r fs w (by simpa using hw),?_⟩
 ·have h1:j < xs.length:=(List.getElem?_eq_some_iff.mp hvj).1
  have h2:xs.length≤100000000:=Nat.le_trans z (by decide)
  omega
 ·rw [at' j hj vj hvj]
  exact hit
 ·intro m hm hlt
  have h1:m < xs.length:=by rw [hl]; rw [List.size_toArray] at hm; exact hm
  rw [at' m hm _ (List.getElem?_eq_getElem h1)]
  exact hno m _ hlt (List.getElem?_eq_getElem h1)
 ·exact ⟨.int (j:Nat),H,I.tok _,⟨_,rfl⟩,q⟩
end L2

namespace L2
open PySem PySem.Spec PyProof.Rows

section
variable {X:Cx}
theorem ah {H:Hp} {p:Addr} (h:H p=none) (o:HO) : ao H (upd H p o):=fun b u q=>by rw [aj (cx q h)]; exact q
theorem ao.tup {K:PySem.W.Frag} {H H':Hp} {a:Addr} {xs:List V} (e:ao H H') (h:SqT K H a xs) : SqT K H' a xs:=by
 rcases h with (h | ⟨o,h⟩) | h
 ·exact .inl (.inl (e _ _ h))
 ·exact .inl (.inr ⟨o,e _ _ h⟩)
 ·exact .inr h
def zx (K:PySem.W.Frag) : Sp:=fun vs H Q _=>∃ (a:Addr) (ns:List Int),vs=[.ref a]∧SqL K H a (ns.map V.int)∧ns.length≤63∧∀ H',Q (.bl true) H'
theorem aW {n:Nat} (h:n≤1000) : n≤sizeLine:=Nat.le_of_lt (aC h)
theorem zy {n:Nat} (h:n≤1000000) : n≤sizeLine:=Nat.le_trans h (by decide)
theorem le1:1≤sizeLine:=by decide
theorem le2:2≤sizeLine:=by decide
theorem le3:3≤sizeLine:=by decide
theorem le4:4≤sizeLine:=by decide
end
end L2

namespace HT
open PySem PyProof.Rows
section
open PySem.SeqAt
open PySem.AutoSeq1 (wpAny_loadPart')
open PySem.MeetsSeq PySem.MeetsSeq2 PySem.MeetsSeq3

end
end HT

namespace L2
open PySem PySem.Spec PyProof.Rows
section
variable {X:Cx}

end
end L2

set_option maxHeartbeats 4000000
namespace L2
open PySem PySem.Spec PyProof.Rows Tl
def fP (n:Nat) : List Nat:=(Nat.toDigits 10 n).map Char.toNat
theorem vV (n:Nat) : (PySem.Str.ofString (toString ((n:Nat) : Int)))=tx (fP n):=by
 have e:=PySem.W.KIN.signs_num n
 rw [u9 (PySem.Str.ofString _),e]
 rfl
theorem sL:∀ d:Nat,d < 10→(Nat.digitChar d).toNat=d+48:=by decide
theorem sM {n:Nat} (h:n < 10) : fP n=[n+48]:=by
 unfold fP
 rw [Nat.toDigits_of_lt_base h,List.map_singleton,sL n h]
theorem zA {n:Nat} (h:10≤n) : fP n=fP (n / 10)++[n % 10+48]:=by
 have hm:n % 10 < 10:=Nat.mod_lt n (by decide)
 have t:Nat.toDigits 10 (n / 10)++Nat.toDigits 10 (n % 10)=Nat.toDigits 10 (10 * (n / 10)+n % 10):=Nat.toDigits_append_toDigits (by decide) (by omega) hm
 rw [Nat.div_add_mod] at t
 unfold fP
 rw [← t,List.map_append,Nat.toDigits_of_lt_base hm,List.map_singleton,sL _ hm]
theorem rh:∀ (k n:Nat),n < 10 ^ (k+1)→(fP n).length≤k+1
 | 0,n,h=>by
  rw [sM (by simpa using h)]
  simp
 | k+1,n,h=>by
  by_cases hn:n < 10
  ·rw [sM hn]; simp
  ·rw [zA (by omega),List.length_append,List.length_singleton]
   have:=rh k (n / 10) (by
    rw [Nat.pow_succ] at h
    omega)
   omega
theorem uq {n:Nat} (h:n < 10 ^ 100) : n.log2 < 1920:=by
 by_cases e:n=0
 ·subst e; decide
 ·refine (Nat.log2_lt e).mpr (Nat.lt_trans h ?_)
  decide +kernel
abbrev pl (x:Int × Int) : List V:=[.int x.1,.int x.2]
abbrev fm (w h f m:Int) : List V:=[.int w,.int h,.int f,.int m]
inductive Say where
 | text (l:List Nat)
 | page (k:Nat)
 | row (k:Nat)
theorem i7 {α:Type} (xs:List α) (x:α) : atI (xs++[x]) (-1)=some x:=by
 unfold atI ixN
 rw [if_neg (by decide),if_pos (by simp; omega)]
 have e:(-1+((xs++[x]).length:Int)).toNat=xs.length:=by simp; omega
 show (xs++[x])[(-1+((xs++[x]).length:Int)).toNat]? = some x
 rw [e]
 simp
section
variable {X:Cx}
theorem xG (ns:List Int) : ∀ k,k≤ns.length→preSum (fun i=>(ns[i]?).getD 0) k=(ns.take k).sum
 | 0,_=>by simp [preSum]
 | k+1,h=>by
  rw [preSum,xG ns k (by omega),List.take_add_one,List.getElem?_eq_getElem (by omega),List.sum_append]
  show _+ns[k]=_+(ns[k]+0)
  rw [Int.add_zero]
theorem AQ (hc:X.calm=true) : fc X (.builtin "sum") (fun xs H Q=>∃ (l:Addr) (ns:List Int),xs=[.ref l]∧SqL X.K H l (ns.map V.int)∧Q (.int ns.sum) H):=by
 intro pins s σ H xs us Q I r h
 obtain ⟨l,ns,rfl,hl,q⟩:=h
 obtain ⟨u,rfl,ru⟩:=gk r
 cases ru
 obtain ⟨its,rv,p,z⟩:=I.list hl
 have hlt:l < s.heap.objs.size:=by obtain ⟨_,_,e,_⟩:=p; exact Heap.lt_size e
 have len:=rv.length
 rw [List.length_map] at len
 refine call_sum_walkG (wpAny_pyIter_list p.isList ?_)
 refine ⟨s.heap.objs.size,[s.heap.objs.size,l],[s.heap.objs.size],its.toArray.size,_,_,fun i=>(ns[i]?).getD 0,rfl,Walks.list (A:=X.A.in1) (I.ok.hd hc) _ l (Nat.ne_of_lt hlt) its.toArray,
  ⟨⟨_,Heap.get?_push_size _ rfl,rfl,rfl⟩,p.isList.push _⟩,fun b hb=>?_,fun i v hP=>?_,fun h' tk t' hk=>?_⟩
 ·show b < (s.heap.push _).objs.size
  rw [Heap.size_push]
  rcases List.mem_cons.mp hb with rfl | hb
  ·exact Nat.lt_succ_self _
  ·rw [List.mem_singleton.mp hb]
   exact Nat.lt_succ_of_lt hlt
 ·have hi:its[i]? = some v:=by simpa using hP
  have hlt2:i < ns.length:=by
   have:=(List.getElem?_eq_some_iff.mp hi).1
   omega
  have eb:(ns.map V.int)[i]? = some (V.int ns[i]):=by rw [List.getElem?_map,List.getElem?_eq_getElem hlt2]; rfl
  obtain ⟨w',hw,t,ht⟩:=rv.get eb
  rw [hi] at hw
  cases hw
  refine ⟨t,?_⟩
  have e2:(ns[i]?).getD 0=ns[i]:=by rw [List.getElem?_eq_getElem hlt2]; rfl
  show v=Value.int ((ns[i]?).getD 0) t
  rw [e2]
  exact ht
 ·have e1:its.toArray.size=ns.length:=by simp; omega
  have e:preSum (fun i=>(ns[i]?).getD 0) its.toArray.size=ns.sum:=by
   rw [e1,xG ns _ (Nat.le_refl _),List.take_length]
  rw [e]
  exact ⟨.int _,H,I.kept fun b x e=>hk b x (fun hm=>by rw [List.mem_singleton.mp hm] at e; exact Nat.lt_irrefl _ (Heap.lt_size e)) (Heap.get?_push_of_some _ e),⟨_,rfl⟩,q⟩
end
theorem AR {α:Type} (f:α→V) (ns:List α) (lo hi:Option Int) : eK (ns.map f) lo hi=(iC ns lo hi).map f:=by
 unfold eK iC
 rw [List.length_map,List.map_take,List.map_drop]
structure Wd where
 lead:Int
 kept:Bool
 say:Say
 foot:List Say

section
variable {prog:Program} {w:World} {A:Around} {R:Result→Shared→Prop} {I:Addr} {fp wr:List Addr} {P:Nat→Value→Prop} {St:Nat→Heap→Prop}
end
section
variable {prog:Program} {w:World} {A:Around} {R:Result→Shared→Prop} {I:Addr} {fp wr:List Addr} {P:Nat→Value→Prop} {St:Nat→Heap→Prop}
end
structure Frm where
 w:Int
 h:Int
 f:Int
 m:Int
theorem mY {X:Cx} (hu:X.A.units < cLine) : OpR X (compareOp .NotEq) (fun x y H Q=>∃ a b xs,x = .ref a∧y = .ref b∧SqL X.K H a xs∧SqL X.K H b []∧Q (.bl (!xs.isEmpty)) H):=by
 intro pins s σ H x y v u Q I rx ry h
 obtain ⟨a,b,xs,rfl,rfl,ha,hb,q⟩:=h
 cases rx
 cases ry
 obtain ⟨its,r,p,z⟩:=I.list ha
 obtain ⟨its2,r2,p2,z2⟩:=I.list hb
 have l1:=r.length
 have l2:=r2.length
 cases xs with
 | nil =>
  refine SeqAt.RcNeAt.lists (e:=fun _=>true) p.isList p2.isList (by simp at l1 l2 ⊢; omega) hu (fun j h1 h2=>absurd h1 (by simp at l1 ⊢; omega)) _ _ _ _ ⟨.bl _,H,I,rfl,?_⟩
  have e:its.toArray.size=0:=by rw [List.size_toArray]; exact l1.symm
  rw [e]
  exact q
 | cons x r=>exact SeqAt.RcNeAt.lists_lengths p.isList p2.isList (by simp at l1 l2 ⊢; omega) hu _ _ _ _ ⟨.bl true,H,I,rfl,q⟩
inductive CL:List Expr→List V→Prop where
 | nil:CL [] []
 | int {i:Int} {j:Nat} {pos:Pos} {es:List Expr} {vs:List V} (h:CL es vs) : CL (.Constant (.int i) j pos :: es) (.int i :: vs)
 | str {x:Str} {j:Nat} {pos:Pos} {es:List Expr} {vs:List V} (h:CL es vs) : CL (.Constant (.str x) j pos :: es) (.str x :: vs)
def tVs (vs:List V) : TA:=fun _ H Q=>Q vs H
theorem sN {X:Cx} : ∀ {es:List Expr} {vs:List V},CL es vs→PA X es (tVs vs)
 | _,_,.nil=>ac
 | _,_,.int h=>aa ai (sN h)
 | _,_,.str h=>aa aq (sN h)
def C2 (K:PySem.W.Frag) : List V→Hp→VK→Prop:=fun xs H Q=>∃ p ys,xs=[.ref p]∧(SqL K H p ys∨SqT K H p ys)∧Q (.int (ys.length:Nat)) H
def kB:Str:=PySem.Str.ofString "behind"
section
variable (F:Frm) (ds:List Wd) (xs:List (Int × Int)) (k:Str) (i:Nat) (j:Int)
end
section
variable {F:Frm} {ds:List Wd} {xs ys:List (Int × Int)}
end
section
variable {prog:Program} {w:World} {A:Around} {R:Result→Shared→Prop} {I:Addr} {fp wr:List Addr} {n:Nat} {P:Nat→Value→Prop} {St:Nat→Heap→Prop}
end
section
variable {F:Frm} {ds:List Wd} {xs:List (Int × Int)} {i:Nat}
end
section
variable {F:Frm} {ds:List Wd} {xs ys:List (Int × Int)} {i:Nat}
end
section
variable {X:Cx} {elts:List Expr} {k1:Nat} {tp:Pos}
end
end L2

set_option maxHeartbeats 4000000
namespace PySem
section
variable {prog:Program} {w:World} {A:Around} {E:Value→Shared→Prop} {s:Shared}
end
section
variable {prog:Program} {w:World} {A:Around} {R:Result→Shared→Prop}
end
namespace F
end F
section
variable {prog:Program} {w:World} {A:Around} {s:Shared} {R:Result→Shared→Prop}
end
section
variable {prog:Program} {w:World} {A:Around} {E:Value→Shared→Prop} {s:Shared}
end
end PySem

set_option maxHeartbeats 4000000
namespace L2
open PySem PySem.Spec PyProof.Rows Tl
structure AS (K:PySem.W.Frag) (x qual:Str) (st:Stmt) (f:Addr) (fd:FuncData) : Prop where
 ex:∃ (oc:Value) (od:Option Addr) (dV kV doc pm:Value) (an:Option Addr) (cdv ct:Value) (osl:Array (Option Value)),fd=PySem.W.fnOf x qual (ci st) (bX st) (av st) dV kV doc pm an cdv ct∧K.lookup f=some ⟨oc,od,.func fd,osl⟩∧PySem.W.codeIn K cdv qual=true
 kp:PySem.W.keepIn K (.ref f)=true
theorem AS.ok {P:Program} {w:World} {K:PySem.W.Frag} {mg:Str→Option Value} {base:Heap} {x qual:Str} {st:Stmt} {f:Addr} {fd:FuncData} {N ps:List Str} {k:Nat} {sp:Sp} (F:AS K x qual st f fd) (S:aJ N ps (av st)) (len:∀ vs H Q E,sp vs H Q E→vs.length=ps.length) (hbody:∀ (cdv:Value) (A:Around) (outer:List Env) (s:Shared) (H:Hp) (vs:List V) (Q:VK) (E:XK),cc k (A.deeper (envOfC qual (av st) s.heap.objs.size f cdv))→sp vs H Q E →
   ∃ t,PSs (lH CX0 P w K mg base N qual (av st) f cdv A outer s H E).nox (bX st) t∧t { nx:=fun _ H'=>Q .non H',rt:=Q } (ip N vs) H) : aX P w K mg base CX0 (k+1) f fd ps sp:=by
 obtain ⟨oc,od,dV,kV,doc,pm,an,cdv,ct,osl,rfl,lk,hcd⟩:=F.ex
 exact ya lk hcd S len fun A outer s H vs Q E hr hsp=>let ⟨t,h,q⟩:=hbody cdv A outer s H vs Q E hr hsp; ⟨t,h.nox,q⟩
structure vW (K:PySem.W.Frag) (mg:Str→Option Value) (x:Str) (st:Stmt) (ps:List Str) (f:Addr) (fd:FuncData) (dv:Value) : Prop where
 fn:AS K x x st f fd
 bd:gp K fd ps []
 bd1:gp K fd ps [dv]
 mg:mg x=some (.ref f)
section
variable {X:Cx} {x:Str} {st:Stmt} {ps:List Str} {f:Addr} {fd:FuncData} {dv:Value} {k:Nat} {sp:Sp} {e:Expr} {es:List Expr} {t:TA} {p pos:Pos}
theorem zB {dx:V} (D:vW X.K X.mg x st ps f fd dv) (hdx:aZ dx dv) (G:aX X.prog X.w X.K X.mg X.base CX0 k f fd ps sp) (hr:cc k X.A) (hg:Gl X x) (ha:PA X (e :: es) t) (hd:(x == ("__debug__" : Str))=false:=by decide)
  (he:starEach (e :: es) X.env=(false,eval e X.env) :: starEach es X.env:=by rfl) (hpl:(backTo pos (starEach es X.env)).any (·.1)=false:=by rfl) : PE X (.Call (.Name x p) (e :: es) [] pos) (u6 sp [dx] E0 t):=tu G hr hg D.mg D.fn.kp D.bd1 (.cons hdx .nil) dU ha hd he hpl
theorem zC {K:PySem.W.Frag} {h:Heap} {mg:Str→Option Value} (KX:K.In h) (G:h.Ns mainGlobals mg) {od an od2:Option Addr} {sl sl2:Array (Option Value)} {oc oc2 kV dc pm cd ct:Value} {T:Addr} {n2:Nat} (a:PySem.W.nsIn K mainGlobals x=some (some (.ref f)))
  (l:K.lookup f=some ⟨oc,od,.func (PySem.W.fnOf x x (ci st) (bX st) (av st) (.ref T) kV dc pm an cd ct),sl⟩) (c:PySem.W.codeIn K cd x=true) (k:PySem.W.keepIn K (.ref f)=true) (lt:K.lookup T=some ⟨oc2,od2,.seq #[dv] n2,sl2⟩)
  (b:∀ (kV doc pm:Value) (an:Option Addr) (cdv ct:Value) (us:List Value),us.length=ps.length→∃ k,bindArgs (PySem.W.fnOf x x (ci st) (bX st) (av st) (.ref T) kV doc pm an cdv ct) ⟨us,[]⟩=seqItems? (.ref T) >>= k∧k (some #[dv])=pure (ps.zip us))
  (b1:∀ (kV doc pm:Value) (an:Option Addr) (cdv ct:Value) (us:List Value),us.length+1=ps.length→∃ k,bindArgs (PySem.W.fnOf x x (ci st) (bX st) (av st) (.ref T) kV doc pm an cdv ct) ⟨us,[]⟩=seqItems? (.ref T) >>= k∧k (some #[dv])=pure (ps.zip (us++[dv]))) :
  vW K mg x st ps f (PySem.W.fnOf x x (ci st) (bX st) (av st) (.ref T) kV dc pm an cd ct) dv:=by
 refine ⟨⟨⟨oc,od,.ref T,kV,dc,pm,an,cd,ct,sl,rfl,l,c⟩,k⟩,fun s us kin hl=>?_,fun s us kin hl=>?_,PySem.W.mg_of KX G a⟩
 ·rw [List.append_nil] at hl ⊢
  obtain ⟨k',e1,e2⟩:=b kV dc pm an cd ct us hl
  exact .of_defaults (T:=T) rfl (kin T _ lt) rfl e1 e2
 ·rw [List.length_append,List.length_singleton] at hl
  obtain ⟨k',e1,e2⟩:=b1 kV dc pm an cd ct us hl
  exact .of_defaults (T:=T) rfl (kin T _ lt) rfl e1 e2
end
section
variable {F:Frm} {ds:List Wd} {xs ys zs:List (Int × Int)} {i j:Nat}
end
section
variable {F:Frm} {ds:List Wd} {x0 xs zs:List (Int × Int)} {np i:Nat}
end
section
variable {F:Frm} {ds:List Wd} {xs:List (Int × Int)} {i j:Nat}
end
section
variable {room:Int} {brk:Nat→Bool}
end
section
variable {F:Frm} {ds:List Wd} {L room:Int} {brk:Nat→Bool}
end
section
variable {F:Frm} {ds:List Wd} {xs:List (Int × Int)} {i j:Nat}
end
section
variable {F:Frm} {ds es:List Wd} {xs ys:List (Int × Int)} {a r:Nat}
end
section
variable {a:Nat} {ds rs:List Wd}
end
section
variable {F:Frm} {ds:List Wd} {xs:List (Int × Int)} {k:Nat}
end
section
variable {F:Frm} {ds es:List Wd} {xs:List (Int × Int)} {k j:Nat} {h h' f w:Int}
end
section
variable {K:PySem.W.Frag} {H0 H H':Hp} {as:List Addr} {ds:List Wd}
end
section
variable {X:Cx}
end
section
variable {prog:Program} {w:World} {A:Around} {E:Value→Shared→Prop} {s:Shared}
end
section
variable {X:Cx} {pos:Pos}
end
section
variable {X:Cx} {elt iter:Expr} {ifs:List Expr} {scope:Scope} {cl:List (Str × Addr)} {pos px py tp:Pos} {k1:Nat} {x y:Str} {caps:List Str} {js:List Nat} {tc:TT} {te:TE} {wi:TI}
def g2 (K:PySem.W.Frag) : TG:=As K 2 (qw (bv 0) (qw (bv 1) Ar))
theorem vX (hc:X.calm=true) (L:mV X scope cl [x,y] caps js) (hi:PI X (.Tuple [.Name x px,.Name y py] k1 tp) iter wi)
  (ht:∀ s H C ex,PTs (X.blk (x :: y :: caps) s H scope cl C ex) ifs tc) (he:∀ s H C ex,PE (X.blk (x :: y :: caps) s H scope cl C ex) elt te)
  (hN:(x :: y :: caps).Nodup:=by decide +kernel) (hx:(relabel scope X.env).names.lookup x=some .local:=by with_unfolding_all rfl) (hy:(relabel scope X.env).names.lookup y=some .local:=by with_unfolding_all rfl)
  (hs:∀ x,foldedSetIterable iter X.env x=pure x:=by intro _; rfl) : PE X (.ListComp elt [⟨.Tuple [.Name x px,.Name y py] k1 tp,iter,ifs,0⟩] scope pos) (tG wi (g2 X.K) tc te 2 js):=
 vR (own:=[x,y]) (g:=g2 X.K) hc L hi (fun s H C ex=>d8 hc (a6 (aM (i:=0) hN rfl (.inl hx) (.inr hx)) (a6 (aM (i:=1) hN rfl (.inl hy) (.inr hy)) dw))) ht he hs
end
end L2

set_option maxHeartbeats 4000000
namespace L2
open PySem PySem.W PySem.Calls PySem.Spec PyProof.Rows Builtin Builtin.ObjectAttr Builtin.Getset_descriptor
section
variable {prog:Program} {w:World} {A:Around} {E:Value→Shared→Prop} {h:Heap} {g:Array GenState} {d:Drawn} {t:Nat} {os:OsState} {K:Frag} {x C:Addr}
end
end L2

namespace L2
open PySem PySem.W PySem.Spec PyProof.Rows
section
variable {X:Cx} {pins:List (Addr × Obj)} {σ:St} {H:Hp} {s:Shared}
end
section
variable {X:Cx} {k:Nat} {f T:Addr} {fd:FuncData} {ps:List Str} {sp:Sp} {fx c n:Str} {i:Nat} {st:Stmt} {e:Expr} {es:List Expr} {t:TA} {b₀:Stmt} {suite:List Stmt} {th:TS} {np pf cpos apos hpos pos:Pos}
end
theorem sO {P:Program} {w:World} {X:Cx} : dP (CXe P w) X (fun _ _ _=>False):=by
 intro pins σ H1 s1 e s' I h
 obtain ⟨x,C,H',B,a0,rfl,os,bare,un,hok,cov1,cov2,fl,ee⟩:=h
 exact ee.elim
end L2

set_option maxHeartbeats 4000000
namespace L2
open PySem PySem.Spec PyProof.Rows Builtin Builtin.ObjectAttr
section
variable {prog:Program} {w:World} {A:Around} {E:Value→Shared→Prop} {h:Heap} {g:Array GenState} {d:Drawn} {t:Nat} {os:OsState} {a:Addr} {o:Obj}
theorem vY:typeLookup (.type "list") "keys" = pure none:=by rw [typeLookup_type,builtinLookup_eq_fast]; kernel_rfl
theorem rj:isSubtype (.type "AttributeError") (.type "AttributeError")=pure true:=by rw [isSubtype_type]; kernel_rfl
theorem yh {α:Type} {ov:Value} {name msg:Str} {Q:α→Shared→Prop} (hm:msg.length≤sizeLine) (hh:A.handled=none)
  (hq:∀ h' t' e,(∀ b o,h.get? b=some o→h'.get? b=some o)→(∃ ob,h'.get? e=some ob∧ob.cls = .type "AttributeError")→E (.ref e) ⟨h',g,d,t',os⟩) :
  wpAny (model prog w) A (raiseAttrError ov name msg:Sem α) Q E ⟨h,g,d,t,os⟩:=by
 unfold raiseAttrError
 refine wpAny_bind (wpAny_mkStr (wpAny_bind ?_) hm)
 unfold newExc newTuple
 refine wpAny_bind (wpAny_newObj_type ?_ (by size_fits))
 refine wpAny_bind (m:=firstArgMember _ _) (wpAny_of_eq (a:=Value.none) (by unfold firstArgMember; kernel_rfl) ?_)
 refine wpAny_newObj_type ?_ (by size_fits)
 have hE:=Heap.get?_push_size (h.push { cls:=.type "tuple",data:=.seq #[Value.str msg t] }) (o:={ cls:=.type "AttributeError",data:=.fields (#[Value.ref h.objs.size,.none,.none,.none,.bool false,.none]++ownMembersOf (.type "AttributeError") [Value.str msg t]) }) rfl
 have hT:(⟨(h.push { cls:=.type "tuple",data:=.seq #[Value.str msg t] }).push { cls:=.type "AttributeError",data:=.fields (#[Value.ref h.objs.size,.none,.none,.none,.bool false,.none]++ownMembersOf (.type "AttributeError") [Value.str msg t]) },g,d,t+1,os⟩ : Shared).TypeIs (.ref (h.push { cls:=.type "tuple",data:=.seq #[Value.str msg t] }).objs.size) "AttributeError":=⟨_,hE,rfl⟩
 have f1:=rj
 unfold noteAttr lacksNameAndObj layMembers
 repeat (any_goals (first | assumption | wp_step))
 unfold raiseNew
 refine wpAny_bind (wpAny_handled ?_)
 rw [hh]
 first
  | refine wpAny_throw ?_
  | refine wpAny_bind (wpAny_pure (wpAny_throw ?_))
 refine hq _ _ _ (fun b o hb=>?_) ⟨_,Heap.get?_update_self _ hE rfl,rfl⟩
 have lt:=Heap.lt_size hb
 refine (Heap.get?_update_other _ _ (fun e=>?_)).trans (Heap.get?_push_of_some _ (Heap.get?_push_of_some _ hb))
 have sz:(h.push { cls:=.type "tuple",data:=.seq #[Value.str msg t] }).objs.size=h.objs.size+1:=Heap.size_push ..
 have e':(h.push { cls:=.type "tuple",data:=.seq #[Value.str msg t] }).objs.size=b:=e
 exact absurd lt (by rw [← e',sz]; exact Nat.not_lt.mpr (Nat.le_succ _))
theorem yi {tk:Tok} {Q:Fin→Shared→Prop} {its:Array Value} {n:Nat} {sl:Array (Option Value)} (hx:h.get? a=some ⟨.type "list",none,.seq its n,sl⟩) (hh:A.handled=none)
  (hq:∀ h' t' e,(∀ b o,h.get? b=some o→h'.get? b=some o)→(∃ ob,h'.get? e=some ob∧ob.cls = .type "AttributeError")→E (.ref e) ⟨h',g,d,t',os⟩) :
  wpAny (model prog w) A (Builtin.«object.__getattribute__» ⟨[.ref a,.str "keys" tk],[]⟩) Q E ⟨h,g,d,t,os⟩:=by
 have hT:(⟨h,g,d,t,os⟩ : Shared).TypeIs (.ref a) "list":=⟨_,hx,rfl⟩
 have f4:=vY
 repeat (any_goals (first | assumption | wp_step))
 exact yh (by decide +kernel) hh hq
theorem uG:typeLookup (.type "list") "__getattr__" = pure none:=by rw [typeLookup_type,builtinLookup_eq_fast]; kernel_rfl
theorem zD {tk:Tok} {R:Result→Shared→Prop} {its:Array Value} {n:Nat} {sl:Array (Option Value)} (hx:h.get? a=some ⟨.type "list",none,.seq its n,sl⟩) (hh:A.handled=none)
  (hq:∀ h' t' e,(∀ b o,h.get? b=some o→h'.get? b=some o)→(∃ ob,h'.get? e=some ob∧ob.cls = .type "AttributeError")→R (.error (.ref e)) ⟨h',g,d,t',os⟩) :
  codeAny (model prog w) A (.call (.builtin "list.__getattribute__") ⟨[.ref a,.str "keys" tk],[]⟩) R ⟨h,g,d,t,os⟩:=
 codeAny_call_builtin F.slot_list_getattribute.plain F.entry_list_ga (F.slot_list_getattribute.check _ _ _ _ _ _ _ _ (show (⟨h,g,d,t,os⟩ : Shared).TypeIs (.ref a) "list" from ⟨_,hx,rfl⟩) (F.args_list_getattribute_2 _ _) (yi hx hh hq))
theorem BT {tk:Tok} {Q:Value→Shared→Prop} {its:Array Value} {n:Nat} {sl:Array (Option Value)} (hx:h.get? a=some ⟨.type "list",none,.seq its n,sl⟩) (hh:A.handled=none)
  (hq:∀ h' t' e,(∀ b o,h.get? b=some o→h'.get? b=some o)→(∃ ob,h'.get? e=some ob∧ob.cls = .type "AttributeError")→E (.ref e) ⟨h',g,d,t',os⟩) :
  wpAny (model prog w) A (getAttrBy (.ref a) (.str "keys" tk) false) Q E ⟨h,g,d,t,os⟩:=by
 have hT:(⟨h,g,d,t,os⟩ : Shared).TypeIs (.ref a) "list":=⟨_,hx,rfl⟩
 have f2:=F.slot_list_getattribute.lookup
 have f3:=F.slot_list_getattribute.bind (.ref a)
 repeat (any_goals (first | assumption | wp_step))
 refine zD hx hh fun h' t' e k ex=>?_
 obtain ⟨ob,he,hec⟩:=id ex
 have hT2:(⟨h',g,d,t',os⟩ : Shared).TypeIs (.ref e) "AttributeError":=⟨_,he,hec⟩
 have f5:=rj
 have f6:=uG
 show wpAny (model prog w) A (getattributeRaised (Value.ref a) (Value.str (Str.ofString "keys") tk) (Value.type "list") (.ref e) none false false) Q E ⟨h',g,d,t',os⟩
 unfold getattributeRaised hookBehind
 repeat (any_goals (first | assumption | wp_step))
 exact hq _ _ _ k ex
theorem zE {Q:Option Value→Shared→Prop} {its:Array Value} {n:Nat} {sl:Array (Option Value)} (hx:h.get? a=some ⟨.type "list",none,.seq its n,sl⟩) (hh:A.handled=none)
  (hq:∀ h' t',(∀ b o,h.get? b=some o→h'.get? b=some o)→Q none ⟨h',g,d,t',os⟩) :
  wpAny (model prog w) A (getAttr? (.ref a) "keys") Q E ⟨h,g,d,t,os⟩:=by
 unfold getAttr? getAttrBy?
 repeat (any_goals (first | assumption | with_reducible apply BT hx hh | wp_step))
 rintro h' t' e k ⟨ob,he,hec⟩
 have hT2:(⟨h',g,d,t',os⟩ : Shared).TypeIs (.ref e) "AttributeError":=⟨_,he,hec⟩
 have f5:=rj
 repeat (any_goals (first | assumption | wp_step))
 exact hq _ _ k
end
end L2

namespace L2
open PySem PySem.Spec PyProof.Rows
def laid (kvs:List (Key × Value)) : List (Key × Value):=kvs.foldl (fun m kv=>stored m kv.1 kv.2) []
theorem oZ (kvs:List (Key × Value)) (kv:Key × Value) : laid (kvs++[kv])=stored (laid kvs) kv.1 kv.2:=by unfold laid; rw [List.foldl_append]; rfl
theorem yj (m:List (Key × Value)) (k:Key) (v:Value) : (stored m k v).length≤m.length+1:=by
 unfold stored
 split
 ·rw [List.length_map]; omega
 ·rw [List.length_append]; simp
theorem mI:entryFor table "dict.update.loop" = some Builtin.«dict.update.loop»:=entryFor_of_tree (by kernel_rfl)
theorem gY:plainId "dict.update.loop" = true:=by decide +kernel
section
variable {prog:Program} {w:World} {A:Around} {R:Result→Shared→Prop} {i0 l d:Addr} {its:Array Value} {kvs:List (Key × Value)}
def Prs (prog:Program) (w:World) (h:Heap) (its:Array Value) (kvs:List (Key × Value)) : Prop:=its.size=kvs.length∧∀ (j:Nat) v k x,its[j]? = some v→kvs[j]? = some (k,x)→∃ p key,v = .ref p∧IsTup h p #[key,x]∧(bf prog w).is k key=true
theorem AT {h h':Heap} {p a:Addr} {xs:Array Value} (t:IsTup h p xs) (s:Heap.SameBut a h h') (n:p≠a) : IsTup h' p xs:=by
 obtain ⟨o,ho,r⟩:=t
 exact ⟨o,(s.2 p n).trans ho,r⟩
theorem Prs.keep {h h':Heap} {a:Addr} (t:Prs prog w h its kvs) (s:Heap.SameBut a h h') (n:∀ o,h.get? a=some o→o.cls≠.type "tuple") : Prs prog w h' its kvs:=⟨t.1,fun j v k x e1 e2=>by
 obtain ⟨p,key,e3,tp,kk⟩:=t.2 j v k x e1 e2
 refine ⟨p,key,e3,AT tp s fun e=>?_,kk⟩
 obtain ⟨o,ho,hc,_⟩:=tp
 exact n o (by rw [← e]; exact ho) hc⟩
theorem uH (ne1:i0≠d) (ne2:l≠d) (ne3:l≠i0) (hh:A.in1.handled=none) (hz:its.size≤100000) :
  ∀ (k i:Nat) (s:Shared),its.size - i=k→i≤its.size→s.heap.IsListIter i0 l i→s.heap.IsList l its→s.heap.DictOf (bf prog w) d (laid (kvs.take i))→(laid (kvs.take i)).length≤i→Prs prog w s.heap its kvs →
  (∀ h' tk,h'.DictOf (bf prog w) d (laid kvs)→(∀ b o,b≠d→b≠i0→s.heap.get? b=some o→h'.get? b=some o)→R (.ok (.ret .none)) { s with heap:=h',toks:=tk }) →
  codeAny (model prog w) A (.builtin "dict.update.loop" ⟨[.ref d,.ref i0,rawInt (i:Int),.none],[]⟩) R s:=by
 intro k
 induction k with
 | zero =>
  intro i s hk hi hit hl hd hdl hp hR
  have ei:i=its.size:=by omega
  refine codeAny_builtin mI ?_
  rw [Around.under_plainId gY _]
  show wpAny _ A.in1 (pyNext (.ref i0) >>= _) _ _ s
  refine wpAny_bind (wpAny_pyNext_list_end hh hit hl (by simp [ei]) fun h' ex=>?_)
  refine wpAny_bind (wpAny_pure ?_)
  have e1:kvs.take i=kvs:=List.take_of_length_le (by rw [ei,hp.1]; exact Nat.le_refl _)
  rw [e1] at hd
  exact wpAny_pure (hR h' _ (hd.extBut ex (Ne.symm ne1)) fun b o _ hb e=>ex b o hb e)
 | succ k ih =>
  intro i s hk hi hit hl hd hdl hp hR
  have hlt:i < its.size:=by omega
  have hkl:i < kvs.length:=by rw [← hp.1]; exact hlt
  refine codeAny_builtin mI ?_
  rw [Around.under_plainId gY _]
  show wpAny _ A.in1 (pyNext (.ref i0) >>= _) _ _ s
  refine wpAny_bind (wpAny_pyNext_list_item hit hl (x:=its[i]) (by simp [hlt]) fun h1 it1 sb1=>?_)
  have hp1:Prs prog w h1 its kvs:=hp.keep sb1 fun o ho hc=>by
   obtain ⟨o2,ho2,hc2,_⟩:=hit
   rw [ho] at ho2
   cases ho2
   rw [hc] at hc2
   exact absurd (Value.type.inj hc2) (by decide)
  obtain ⟨p,key,ev,tp,kk⟩:=hp1.2 i its[i] kvs[i].1 kvs[i].2 (by simp [hlt]) (by rw [List.getElem?_eq_getElem hkl])
  rw [ev]
  have hd1:=hd.sameBut sb1 (Ne.symm ne1)
  have hT:({ s with heap:=h1 } : Shared).TypeIs (.ref p) "tuple":=by
   obtain ⟨o,ho,hc,_⟩:=tp
   exact ⟨o,ho,hc⟩
  obtain ⟨ot,hot,hotc,nt,hotd⟩:=id tp
  show wpAny _ A.in1 (holding [Value.ref p] _ >>= _) _ _ _
  refine wpAny_bind (wpAny_holding (wpAny_bind (wpAny_tryCatch ?_)))
  unfold Builtin.Dict.pairItems
  refine wpAny_bind (wpAny_typeOf hT ?_)
  rw [if_pos (by decide)]
  refine wpAny_bind (wpAny_seqItems hot hotd (wpAny_pure ?_))
  show wpAny _ A.in1 (holding [key,kvs[i].2] (dictSet d key kvs[i].2)) _ _ _
  refine wpAny_holding (wpAny_dictSet_pairs kk hd1 (fun h2 dd sb2=>?_) (Nat.le_trans hdl (Nat.le_trans hi (Nat.le_trans hz (by decide)))))
  have tk1:kvs.take (i+1)=kvs.take i++[kvs[i]]:=by rw [List.take_add_one,List.getElem?_eq_getElem hkl]; rfl
  have dd2:h2.DictOf (bf prog w) d (laid (kvs.take (i+1))):=by rw [tk1,oZ]; exact dd
  have hp2:Prs prog w h2 its kvs:=hp1.keep sb2 fun o ho hc=>by
   have ty:({ s with heap:=h1 } : Shared).TypeIs (.ref d) "dict":=hd1.typeIs
   obtain ⟨o2,ho2,hc2⟩:=ty
   have ho3:h1.get? d=some o2:=ho2
   rw [ho] at ho3
   cases ho3
   rw [hc] at hc2
   exact absurd (Value.type.inj hc2) (by decide)
  have it2:h2.IsListIter i0 l (i+1):=by
   obtain ⟨o2,ho2,r⟩:=it1
   exact ⟨o2,(sb2.2 _ ne1).trans ho2,r⟩
  have hl2:h2.IsList l its:=by
   obtain ⟨o2,ho2,r⟩:=hl
   exact ⟨o2,(sb2.2 _ ne2).trans ((sb1.2 _ ne3).trans ho2),r⟩
  have sl:(laid (kvs.take (i+1))).length≤i+1:=by
   rw [tk1,oZ]
   have:=yj (laid (kvs.take i)) kvs[i].1 kvs[i].2
   omega
  refine wpAny_pure ⟨plainId_quiet gY _,ih (i+1) _ (by omega) hlt it2 hl2 dd2 sl hp2 fun h' tk dd' kp=>hR h' tk dd' fun b o n1 n2 e=>kp b o n1 n2 ?_⟩
  exact (sb2.2 _ n1).trans ((sb1.2 _ n2).trans e)
end
def lj (kvs:List (Key × V)) : List (Key × V):=kvs.foldl (fun m kv=>iB m kv.1 kv.2) []
theorem sP (kvs:List (Key × V)) (kv:Key × V) : lj (kvs++[kv])=iB (lj kvs) kv.1 kv.2:=by unfold lj; rw [List.foldl_append]; rfl
def EE (K:PySem.W.Frag) (H:Hp) (ps:List V) (kvs:List (Key × V)) : Prop:=ps.length=kvs.length∧∀ (j:Nat) p k v,ps[j]? = some p→kvs[j]? = some (k,v)→∃ a,p = .ref a∧SqT K H a [kV k,v]
section
variable {X:Cx}
theorem sQ (hc:X.calm=true) : fc X (.type "dict") (fun xs H Q=>∃ l ps kvs,xs=[.ref l]∧SqL X.K H l ps∧ps.length≤100000∧EE X.K H ps kvs∧∀ p,H p=none→Q (.ref p) (upd H p (.dK (lj kvs)))):=by
 intro pins s σ H xs us Q I r h
 obtain ⟨l,ps,kvs,rfl,hl,hz,hp,q⟩:=h
 obtain ⟨u,rfl,ru⟩:=gk r
 cases ru
 obtain ⟨its,rv,p,z⟩:=I.list hl
 have hh:=I.ok.hd hc
 refine callType_codes (Q₁:=fun obj s₁=>obj = .ref s.heap.objs.size∧s₁={ s with heap:=s.heap.push { cls:=.type "dict",data:=.dict #[] } }) F.kt_called_dict (F.kt_typeCall_dict_1 _) F.entry_dict_init (kt_code_dict_new _ ⟨rfl,rfl⟩) ?_
 rintro obj s₁ ⟨rfl,rfl⟩
 have hnew:(s.heap.push { cls:=.type "dict",data:=.dict #[] }).DictOf (bf X.prog X.w) s.heap.objs.size []:=Heap.DictOf.new s.heap
 refine ⟨hnew.typeIs,F.args_dict_init_2 _ _,?_⟩
 unfold Builtin.«dict.__init__»
 refine wpAny_bind ?_
 unfold Builtin.Dict.selfAndRest
 refine wpAny_bind (wpAny_notOrdered_dict hnew.typeIs ?_)
 show wpAny _ _ (pure (s.heap.objs.size,[Value.ref l])) _ _ _
 refine wpAny_pure ?_
 show wpAny _ _ (Builtin.Dict.updateFrom "dict.__init__" s.heap.objs.size (.ref l) [] .none) _ _ _
 unfold Builtin.Dict.updateFrom
 have pl:=p.isList.push { cls:=.type "dict",data:=.dict #[] }
 refine wpAny_bind (wpAny_typeOf pl.typeIs ?_)
 rw [if_pos (by decide)]
 obtain ⟨o0,n0,ho0,hcl,hdd,hdat⟩:=id p
 obtain ⟨c0,d0,dt0,sl0⟩:=o0
 simp only at hcl hdd hdat
 subst hcl hdd hdat
 have hlt:l < s.heap.objs.size:=Heap.lt_size ho0
 have hx:=Heap.get?_push_of_some { cls:=.type "dict",data:=.dict #[] } ho0
 refine wpAny_bind (zE hx hh fun h1 t1 k1=>?_)
 refine wpAny_bind (wpAny_rule ?_)
 have pl1:h1.IsList l its.toArray:=⟨_,k1 _ _ hx,rfl,_,rfl⟩
 refine wpAny_bind (wpAny_pyIter_list pl1 ?_)
 refine wpAny_pure ⟨plainId_quiet gY _,?_⟩
 have hdn:h1.DictOf (bf X.prog X.w) s.heap.objs.size []:=by
  obtain ⟨o,es,ep,ho,rr⟩:=hnew
  exact ⟨o,es,ep,k1 _ _ ho,rr⟩
 have hdlt:s.heap.objs.size < h1.objs.size:=by
  obtain ⟨o,es,ep,ho,rr⟩:=hdn
  exact Heap.lt_size ho
 have kept:∀ b o,s.heap.get? b=some o→h1.get? b=some o:=fun b o e=>k1 _ _ (Heap.get?_push_of_some _ e)
 have ilen:its.length=ps.length:=rv.length.symm
 have ex:∀ n,n≤kvs.length→∃ vs:List (Key × Value),vs.length=n∧∀ j,(hj:j < n)→∃ x:Key × Value,vs[j]? = some x∧x.1=(kvs[j]?.map (·.1)).getD x.1∧(∀ v,(kvs[j]?.map (·.2))=some v→aZ v x.2)∧∃ a key,its[j]? = some (.ref a)∧IsTup s.heap a #[key,x.2]∧(bf X.prog X.w).is x.1 key=true:=by
  intro n
  induction n with
  | zero=>exact fun _=>⟨[],rfl,fun j hj=>absurd hj (Nat.not_lt_zero _)⟩
  | succ n ih =>
   intro hn
   obtain ⟨vs,vl,hv⟩:=ih (by omega)
   have hk:n < kvs.length:=hn
   have hpn:n < ps.length:=by rw [hp.1]; exact hk
   obtain ⟨a,ea,ha⟩:=hp.2 n ps[n] kvs[n].1 kvs[n].2 (List.getElem?_eq_getElem hpn) (List.getElem?_eq_getElem hk)
   obtain ⟨u,eu,ru⟩:=rv.get (List.getElem?_eq_getElem hpn)
   rw [ea] at ru
   cases ru
   obtain ⟨it2,r2,p2,_⟩:=I.tuple ha
   obtain ⟨u1,u2,rfl,r3,r4⟩:=u5 r2
   refine ⟨vs++[(kvs[n].1,u2)],by simp [vl],fun j hj=>?_⟩
   by_cases c:j < n
   ·obtain ⟨x,e1,e2⟩:=hv j c
    exact ⟨x,by rw [List.getElem?_append_left (by omega)]; exact e1,e2⟩
   ·have ej:j=n:=by omega
    subst ej
    refine ⟨(kvs[j].1,u2),by rw [List.getElem?_append_right (by omega),vl,Nat.sub_self]; rfl,by rw [List.getElem?_eq_getElem hk]; rfl,fun v e=>?_,a,u1,eu,p2,lg r3⟩
    rw [List.getElem?_eq_getElem hk] at e
    cases e
    exact r4
 obtain ⟨vs,vl,hv⟩:=ex kvs.length (Nat.le_refl _)
 have rel:∀ n,n≤kvs.length→KV (lj (kvs.take n)) (laid (vs.take n)):=by
  intro n
  induction n with
  | zero=>exact fun _=>.nil
  | succ n ih =>
   intro hn
   obtain ⟨x,e1,e2,e3,_⟩:=hv n hn
   have hk:n < kvs.length:=hn
   have t1':kvs.take (n+1)=kvs.take n++[kvs[n]]:=by rw [List.take_add_one,List.getElem?_eq_getElem hk]; rfl
   have t2':vs.take (n+1)=vs.take n++[x]:=by rw [List.take_add_one,e1]; rfl
   rw [t1',t2',sP,oZ]
   rw [List.getElem?_eq_getElem hk] at e2 e3
   have ek:x.1=kvs[n].1:=e2
   rw [ek]
   exact (ih (by omega)).put _ (e3 _ rfl)
 have rel':=rel kvs.length (Nat.le_refl _)
 rw [List.take_length,← vl,List.take_length] at rel'
 have prs:Prs X.prog X.w (h1.push { cls:=.type "list_iterator",data:=.fields #[.ref l,.int 0 0] }) its.toArray vs:=by
  refine ⟨by simp [ilen,hp.1,vl],fun j v k x e1 e2=>?_⟩
  have hj:j < kvs.length:=by rw [← vl]; exact (List.getElem?_eq_some_iff.mp e2).1
  obtain ⟨y,f1,f2,f3,a,key,f4,f5,f6⟩:=hv j hj
  rw [e2] at f1
  cases f1
  have e1':its[j]? = some v:=by simpa using e1
  rw [f4] at e1'
  cases e1'
  obtain ⟨oo,hoo,rr⟩:=f5
  exact ⟨a,key,rfl,⟨oo,Heap.get?_push_of_some _ (kept _ _ hoo),rr⟩,f6⟩
 have lz:∀ n,(lj (kvs.take n)).length≤n:=by
  intro n
  induction n with
  | zero=>exact Nat.le_refl _
  | succ n ih =>
   by_cases hk:n < kvs.length
   ·have t1':kvs.take (n+1)=kvs.take n++[kvs[n]]:=by rw [List.take_add_one,List.getElem?_eq_getElem hk]; rfl
    rw [t1',sP]
    have:=lJ (lj (kvs.take n)) kvs[n].1 kvs[n].2
    omega
   ·rw [List.take_of_length_le (by omega)]
    rw [List.take_of_length_le (by omega)] at ih
    omega
 have lz':=lz kvs.length
 rw [List.take_length] at lz'
 refine uH (prog:=X.prog) (w:=X.w) (A:=X.A.in1) (i0:=h1.objs.size) (l:=l) (d:=s.heap.objs.size) (its:=its.toArray) (kvs:=vs) (Nat.ne_of_gt hdlt) (Nat.ne_of_lt hlt) (Nat.ne_of_lt (Nat.lt_trans hlt hdlt)) hh (by simp; omega) its.toArray.size 0 _ (by simp) (Nat.zero_le _) ?_ ?_ ?_ (Nat.le_refl _) ?_ ?_
 ·exact ⟨_,Heap.get?_push_size _ rfl,rfl,rfl⟩
 ·exact pl1.push _
 ·rw [List.take_zero]
  exact hdn.push _
 ·exact prs
 ·intro h' tk dd kp
  refine ⟨rfl,.ref s.heap.objs.size,_,I.laid (a:=s.heap.objs.size) (o:=.dK (lj kvs)) (t':=tk) (fun b o e=>?_) (Nat.le_refl _) (zi (Nat.le_trans lz' (by rw [← hp.1]; exact Nat.le_trans hz (by decide))) (beq_eq_false_iff_ne.mpr (Ne.symm (Nat.ne_of_lt I.big))) rel' dd),rfl,q _ (I.hok.fresh (Nat.le_refl _))⟩
  have hb:=Heap.lt_size e
  exact kp b o (Nat.ne_of_lt hb) (Nat.ne_of_lt (Nat.lt_trans hb hdlt)) (Heap.get?_push_of_some _ (kept _ _ e))
end
end L2

set_option maxHeartbeats 4000000
namespace L2
open PySem PySem.Spec PyProof.Rows Tl
theorem Br {X:Cx} {i:Nat} {x:Str} {es:List Expr} {vs:List V} {p1 p2 p4:Pos} (hN:X.N.Nodup) (hi:X.N[i]? = some x) (hx:Loc X.env.scope x) (hc:CL es vs)
  (hf:X.fn x=true∨X.env.scope.names.lookup x=some .local) : PS X (.Assign [.Name x p1] (.List es p2) p4) (qV (CJ (tVs vs)) (bv i)):=
 aA (i:=i) hN hi hx (aY (sN hc))
section
variable {X:Cx} {fx c:Str} {st:Stmt} {ps:List Str} {f T:Addr} {fd:FuncData} {dv:Value} {k i:Nat} {n:Str} {sp:Sp} {e:Expr} {es:List Expr} {t:TA} {th:TS} {pf cpos apos np hpos pos:Pos} {b₀:Stmt} {suite:List Stmt}
end
section
variable {α β:Type} {P P':α→β→Prop} {as as':List α} {bs bs':List β}
end
abbrev Wd0:=List Nat
def C3:Wd0:=[124]
def C4:Wd0:=[93]
abbrev Mn:=List Wd0 × DD × List Addr
def mF (xs:List Mn) : List Addr:=(xs.map fun x=>x.2.2).flatten
structure Fr where
 t:Addr
 A:Addr
 N:Addr
 n:Wd0
 als:List Addr
 wss:List Mn
 vs:List V
 wn:List Mn
section
variable {H0 H H':Hp} {pl cur c2 A t p:Addr} {fs:List Fr} {f:Fr} {vs:List V} {wn:List Mn}
end
end L2

set_option maxHeartbeats 4000000
namespace PySem
open Sem (wp)
open AutoSeq1 (wpAny_loadPart')
section
variable {prog:Program} {w:World} {A:Around} {E:Value→Shared→Prop} {s:Shared}
end
end PySem
namespace L2
open PySem PySem.Spec PyProof.Rows Tl
section
variable {X:Cx} {elts:List Expr} {k1:Nat} {tp:Pos}
end
mutual
theorem Rep.mono {K:PySem.W.Frag} {H H':Hp} (s:ao H H') : ∀ {d:DD} {v:V},Rep K H d v→Rep K H' d v
 | .bl _,v,h=>by unfold Rep at h ⊢; exact h
 | .int _,v,h=>by unfold Rep at h ⊢; exact h
 | .str _,v,h=>by unfold Rep at h ⊢; exact h
 | .tup l,v,h=>by
  unfold Rep at h ⊢
  obtain ⟨a,xs,h1,h2,h3,h4⟩:=h
  exact ⟨a,xs,h1,s.tup h2,h3,cb.mono s h4⟩
 | .lst l,v,h=>by
  unfold Rep at h ⊢
  obtain ⟨a,xs,h1,h2,h3,h4⟩:=h
  exact ⟨a,xs,h1,s.seq h2,h3,cb.mono s h4⟩
theorem cb.mono {K:PySem.W.Frag} {H H':Hp} (s:ao H H') : ∀ {l:List DD} {xs:List V},cb K H l xs→cb K H' l xs
 | [],xs,h=>by unfold cb at h ⊢; exact h
 | d :: l,xs,h=>by
  unfold cb at h ⊢
  obtain ⟨x,r,h1,h2,h3⟩:=h
  exact ⟨x,r,h1,Rep.mono s h2,cb.mono s h3⟩
end
section
variable {K:PySem.W.Frag} {H:Hp}
end
structure Sh where
 n:Wd0
 c:Nat
 ns:List DD
 r:List Int
 k:Int
section
variable {S:List Sh} {d j:Nat} {n:Wd0} {as:List (List DD)} {w:Wd0} {k:Nat} {s:Sh}
end
structure Gf where
 t:Addr
 D:Addr
 N:Addr
 n:Wd0
 m:Nat
 Dv:List V
 ds:List (List DD)
 vs:List V
 xs:List DD
section
variable {K:PySem.W.Frag} {H0 H H':Hp} {pf t D N:Addr} {gs r:List Gf} {g:Gf} {v:V} {x:DD} {n:Wd0} {m:Nat}
end
end L2

namespace L2
open PySem PySem.Spec PyProof.Rows

structure cO (K:PySem.W.Frag) (C:Addr) (m qual:Str) (st:Stmt) (ps:List Str) (f:Addr) (fd:FuncData) : Prop where
 fn:Fun K m qual st f fd
 bd:gp K fd ps []
 me:x5 K C m f
structure lm (K:PySem.W.Frag) (mg:Str→Option Value) (c:Str) (C:Addr) : Prop where
 mg:mg c=some (.ref C)
 cl:Cls K C
 mks:PySem.W.makesIn K C=true
 kp:PySem.W.keepIn K (.ref C)=true
theorem lm.made {K:PySem.W.Frag} {mg:Str→Option Value} {c qual:Str} {C f:Addr} {st:Stmt} {ps:List Str} {fd:FuncData} (L:lm K mg c C) (D:cO K C "__init__" qual st ps f fd) : Mk K C f:=⟨L.mks,D.me.at_,D.me.fn,L.kp⟩
theorem AU {K:PySem.W.Frag} {C f:Addr} {x q:Str} {st:Stmt} {ps:List Str} {od an:Option Addr} {sl:Array (Option Value)} {oc kV dc pm cd ct:Value} (a:PySem.W.findIn K (.ref C) x=some (some (.ref f))) (fn:PySem.W.isFn K (.ref f)=true)
  (l:K.lookup f=some ⟨oc,od,.func (PySem.W.fnOf x q (ci st) (bX st) (av st) .none kV dc pm an cd ct),sl⟩) (c:PySem.W.codeIn K cd q=true) (k:PySem.W.keepIn K (.ref f)=true)
  (b:∀ (kV doc pm:Value) (an:Option Addr) (cdv ct:Value) (us:List Value),us.length=ps.length→bindArgs (PySem.W.fnOf x q (ci st) (bX st) (av st) .none kV doc pm an cdv ct) ⟨us,[]⟩=pure (ps.zip us)) :
  cO K C x q st ps f (PySem.W.fnOf x q (ci st) (bX st) (av st) .none kV dc pm an cd ct):=
 ⟨sF l c k,(sF l c k).binds b,a,fn,k⟩
section
variable {X:Cx} {CX:CXT} {E:XK} {c m qual:Str} {st:Stmt} {ps:List Str} {C f:Addr} {fd:FuncData} {k:Nat} {sp:Sp} {o e:Expr} {es:List Expr} {ta:TE} {t:TA} {p pos apos:Pos}
theorem dF {pl:Sem Bool} (hx:dP CX X E) (L:lm X.K X.mg c C) (D:cO X.K C m qual st ps f fd) (G:aX X.prog X.w X.K X.mg X.base CX k f fd ps sp) (hr:cc k X.A) (he:PE X o ta) (ha:PA X (e :: es) t)
  (hst:starEach (e :: es) X.env=(false,eval e X.env) :: starEach es X.env:=by rfl) (hpl:(backTo pos (starEach es X.env)).any (·.1)=false:=by rfl)
  (ht:eval (.Call (.Attribute o m apos) (e :: es) [] pos) X.env=(do
   let ov ← eval o X.env
   standAt apos.atName
   let (f,first) ← holding [ov] (getMethod ov m pl)
   callWith pos f first (backTo pos (starEach (e :: es) X.env)) (backToKw pos (keywordEach [] X.env))):=by rfl) :
  PE X (.Call (.Attribute o m apos) (e :: es) [] pos) (u7 C m sp [] E ta t):=BG he L.cl D.me G hr D.bd .nil hx ha hst hpl ht
theorem zF {pl:Sem Bool} (hx:dP CX X E) (L:lm X.K X.mg c C) (D:cO X.K C m qual st ps f fd) (G:aX X.prog X.w X.K X.mg X.base CX k f fd ps sp) (hr:cc k X.A) (he:PE X o ta)
  (ht:eval (.Call (.Attribute o m apos) [] [] pos) X.env=(do
   let ov ← eval o X.env
   standAt apos.atName
   let (f,first) ← holding [ov] (getMethod ov m pl)
   callWith pos f first (backTo pos (starEach [] X.env)) (backToKw pos (keywordEach [] X.env))):=by rfl) :
  PE X (.Call (.Attribute o m apos) [] [] pos) (u7 C m sp [] E ta tt):=Az he L.cl D.me G hr D.bd .nil hx ht
theorem C5 (hx:dP CX X E) (L:lm X.K X.mg c C) (D:cO X.K C "__init__" qual st ps f fd) (G:aX X.prog X.w X.K X.mg X.base CX k f fd ps sp) (hr:cc (k+1) X.A) (hg:Gl X c) (ha:PA X (e :: es) t) (hd:(c == ("__debug__" : Str))=false:=by decide)
  (he:starEach (e :: es) X.env=(false,eval e X.env) :: starEach es X.env:=by rfl) (hpl:(backTo pos (starEach es X.env)).any (·.1)=false:=by rfl) :
  PE X (.Call (.Name c p) (e :: es) [] pos) (u8 C sp [] E t):=BH (L.made D) G hr hg L.mg D.bd .nil hx ha hd he hpl
theorem BU (hx:dP CX X E) (L:lm X.K X.mg c C) (D:cO X.K C "__init__" qual st ps f fd) (G:aX X.prog X.w X.K X.mg X.base CX k f fd ps sp) (hr:cc (k+1) X.A) (hg:Gl X c) (hd:(c == ("__debug__" : Str))=false:=by decide) :
  PE X (.Call (.Name c p) [] [] pos) (u8 C sp [] E tt):=AA (L.made D) G hr hg L.mg D.bd .nil hx hd
end

section
variable {X:Cx} {k:Nat} {f T C:Addr} {fd:FuncData} {ps:List Str} {sp:Sp} {cn qual c:Str} {st:Stmt} {e:Expr} {es:List Expr} {t:TA} {b₀:Stmt} {suite:List Stmt} {th:TS} {np pf cpos apos hpos pos:Pos}
end
end L2

namespace L2
open PySem PySem.Spec PyProof.Rows PySem.W

theorem BV {P:Program} {w:World} {k:Key} {v:Value} (h:(bf P w).is k v=true) : aZ (kV k) v:=by
 rcases cJ (show k_ k v=true from h) with ⟨i,t,rfl,rfl⟩ | ⟨x,t,rfl,rfl⟩
 ·exact ⟨t,rfl⟩
 ·exact ⟨t,rfl⟩
section
variable {X:Cx}
end
section
variable {prog:Program} {w:World} {A:Around} {E:Value→Shared→Prop} {s:Shared} {T:String} {r d:Addr} {n:Nat} {P:Nat→Value→Prop} {OK:Heap→Prop}
end
section
variable {X:Cx}
end

def Hz (X:Cx) (a:Addr) : Prop:=∀ o u,X.H₀ a≠some (.frz o u)
section
variable {X:Cx} {pins:List (Addr × Obj)} {σ:St} {H:Hp} {s:Shared} {a:Addr} {kvs:List (Key × V)}
theorem Inv.hz (I:Inv X pins σ H s) (e:H a=some (.dK kvs)) : Hz X a:=fun o u z=>by
 have:=I.base.frzs a o u z
 rw [e] at this
 cases this
theorem qP {P:Program} {w:World} {h:Heap} {u v:HO} (ok:HOk P w H h) (e:H a=some u) (hu:∀ b,u≠.own b) (ht:∀ xs,u≠.tup xs) (new:bQ P w (upd H a v) h a v) : HOk P w (upd H a v) h:=fun b o q=>by
 by_cases eb:b=a
 ·rw [eb,ae] at q
  cases q
  rw [eb]
  exact new
 ·rw [aj eb] at q
  refine (ok b o q).stay (fun _ _ _ z=>z) (fun c z=>?_) fun c xs z=>?_
  ·rw [aj (fun y=>hu b (by rw [y,e] at z; exact Option.some.inj z))]; exact z
  ·rw [aj (fun y=>ht xs (by rw [y,e] at z; exact Option.some.inj z))]; exact z
theorem sR {P:Program} {w:World} {h:Heap} {H':Hp} (x:bQ P w H h a (.dK kvs)) : bQ P w H' h a (.dK kvs):=x
theorem Inv.freeze (I:Inv X pins σ H s) (e:H a=some (.dK kvs)) : ∃ o,s.heap.get? a=some o∧Inv X pins σ (upd H a (.frz o (.dK kvs))) s:=by
 have x:bQ X.prog X.w H s.heap a (.dK kvs):=I.hok a _ e
 obtain ⟨_,_,vs,_,o,es,ep,ho,_⟩:=id x
 refine ⟨o,ho,?_⟩
 have:=I.step (h':=s.heap) (H':=upd H a (.frz o (.dK kvs))) (g':=s.gens) (d':=s.drawn) (t':=s.toks) (ch:=[]) (fun _ z=>nomatch z) (fun b o _ _ _ z _=>z) (fun b o _ _ _ z _=>⟨o.slots,z⟩)
  (fun b o' _ _ n=>by rw [aj (fun y=>by rw [y,e] at n; cases n)]; exact n) (fun b o _ z=>⟨o,z⟩) (fun b xs z=>by rw [aj (fun y=>by rw [y,e] at z; cases z)]; exact z)
  (fun b o u z=>by rw [aj (fun y=>by rw [y,e] at z; cases z)]; exact z) (fun b ps z=>⟨#[],by rw [aj (fun y=>by rw [y,e] at z; cases z),z]; simp⟩) (fun m hm=>hm)
  (qP I.hok e (fun b z=>by cases z) (fun xs z=>by cases z) ⟨ho,sR x⟩) I.bare
 exact this
theorem Inv.thaw {o:Obj} (I:Inv X pins σ H s) (hz:Hz X a) (e:H a=some (.frz o (.dK kvs))) : Inv X pins σ (upd H a (.dK kvs)) s:=by
 have x:bQ X.prog X.w H s.heap a (.frz o (.dK kvs)):=I.hok a _ e
 have free:∀ b,H b=none→upd H a (.dK kvs) b=none:=fun b n=>by rw [aj (fun y=>by rw [y,e] at n; cases n)]; exact n
 refine ⟨I.ok,I.os,I.bare,⟨I.base.keep,I.base.slot,fun b o' q n hx=>free b (I.base.free b o' q n hx),I.base.there,fun b xs q=>?_,fun b o' u q=>?_,fun b ps q=>?_⟩,I.loc,I.cell,free _ I.free,fun y c q=>free _ (I.freeC y c q),fun p hp=>?_,?_,I.len⟩
 ·have z:=I.base.tups b xs q
  rw [aj (fun y=>by rw [y,e] at z; cases z)]; exact z
 ·have z:=I.base.frzs b o' u q
  rw [aj (fun y=>hz o' u (by rw [← y]; exact q))]; exact z
 ·obtain ⟨m1,z⟩:=I.base.tbls b ps q
  exact ⟨m1,by rw [aj (fun y=>by rw [y,e] at z; cases z)]; exact z⟩
 ·obtain ⟨z1,z2,z3⟩:=I.pin p hp
  exact ⟨z1,free _ z2,z3⟩
 ·exact qP I.hok e (fun b z=>by cases z) (fun xs z=>by cases z) (sR x.2)
end
def epO (o:Obj) : Nat:=match o.data with
 | .dict _ ep=>ep
 | _=>0
theorem i8 {P:Program} {w:World} {H:Hp} {h:Heap} {a:Addr} {o:Obj} {kvs:List (Key × V)} (ok:HOk P w H h) (e:H a=some (.frz o (.dK kvs))) : (a == sysModules)=false∧∃ vs,KV kvs vs∧h.DictAt (bf P w) a vs (epO o):=by
 obtain ⟨ho,_,hs,vs,rel,o',es,ep,ho',hx,hd,r⟩:=(show bQ P w H h a (.frz o (.dK kvs)) from ok a _ e)
 rw [ho] at ho'
 cases ho'
 refine ⟨hs,vs,rel,o,es,ho,hx,?_,r⟩
 unfold epO
 rw [hd]
def u_ (X:Cx) (P:Hp→Prop) : Hp→Prop:=fun H=>∃ a kvs o,Hz X a∧H a=some (.frz o (.dK kvs))∧P (upd H a (.dK kvs))
def fz (X:Cx) (D:e_) : e_:={ nx:=fun σ=>u_ X (D.nx σ),bk:=fun σ=>u_ X (D.bk σ),ct:=fun σ=>u_ X (D.ct σ),rt:=fun v=>u_ X (D.rt v) }
section
variable {X:Cx} {tg:Expr}
theorem SP.thaw {pins:List (Addr × Obj)} {D:e_} {f:Flow} {s':Shared} (h:SP X pins (fz X D) f s') : SP X pins D f s':=by
 cases f with
 | next=>obtain ⟨σ',H',I,a,kvs,o,hz,e,q⟩:=h; exact ⟨σ',_,I.thaw hz e,q⟩
 | brk=>obtain ⟨σ',H',I,a,kvs,o,hz,e,q⟩:=h; exact ⟨σ',_,I.thaw hz e,q⟩
 | cont=>obtain ⟨σ',H',I,a,kvs,o,hz,e,q⟩:=h; exact ⟨σ',_,I.thaw hz e,q⟩
 | ret u=>obtain ⟨v,σ',H',I,r,a,kvs,o,hz,e,q⟩:=h; exact ⟨v,σ',_,I.thaw hz e,r,q⟩
end
def AV (K:PySem.W.Frag) (C T:Addr) : Prop:=PySem.W.exmOne K (.ref C) (.ref T)=some false
def HT (K:PySem.W.Frag) : List (Addr × TS)→Addr→e_→St→Hp→Prop
 | [],_,_,_,_=>False
 | (T,th) :: r,C,D,σ,H=>(D1 K C T∧th D σ H)∨(AV K C T∧HT K r C D σ H)
section
variable {X:Cx}
section
variable {k:Nat} {f C:Addr} {fd:FuncData} {ps:List Str} {sp:Sp} {m qual cn:Str} {st:Stmt} {o e:Expr} {es:List Expr} {ta:TE} {t:TA} {apos pos:Pos} {W:Value→Shared→Prop} {pins:List (Addr × Obj)} {σ:St} {H:Hp} {s:Shared} {Q:VK} {E:XK}
end
end

theorem zG {X:Cx} : fc X (.builtin "isinstance") (fun xs H Q=>∃ a kvs,xs=[.ref a,.ty "dict"]∧H a=some (.dK kvs)∧Q (.bl true) H):=by
 intro pins s σ H xs us Q I r h
 obtain ⟨a,kvs,rfl,ha,q⟩:=h
 obtain ⟨u,w',rfl,r1,r2⟩:=u5 r
 cases r2
 exact ze I r1 (.dK ha) (by rfl) fun tk=>⟨.bl true,H,I.tok _,rfl,q⟩

section
variable {X:Cx} {e:Expr}
def BW:TT:=fun _ _ _=>False
theorem AW:PT X e BW:=fun _ _ _ _ _ _ h=>h.elim
end
theorem xH {kvs:List (Key × V)} {vs:List (Key × Value)} (r:KV kvs vs) : ∀ {i:Nat} {p:Key × V},kvs[i]? = some p→∃ x,vs[i]? = some (p.1,x)∧aZ p.2 x:=by
 unfold KV at r
 induction r with
 | nil=>intro i p h; cases h
 | @cons p q ps qs hq t ih =>
  intro i p' h
  cases i with
  | zero=>cases h; exact ⟨q.2,(by show some q=_; rw [hq.1]),hq.2⟩
  | succ i=>exact ih h
def Itv (a:Addr) (o:Obj) (kvs:List (Key × V)) : It:=
 ⟨fun i H=>H a=some (.frz o (.dK kvs))∧i < kvs.length,fun i H x H'=>H' = H∧∃ p,kvs[i]? = some p∧x=p.2,fun i H=>H a=some (.frz o (.dK kvs))∧kvs.length≤i⟩
theorem zH {P:Program} {w:World} {K:PySem.W.Frag} {tg:Expr} (a it:Addr) (o:Obj) (kvs:List (Key × V)) (hne:a≠it) : oN P w K tg (Itv a o kvs) [it] it (fun i h=>h.IsValIter it a i kvs.length (epO o)) where
 mem:=by simp
 obj:=fun i h st b hb=>by
  have e:b=it:=by simpa using hb
  subst e
  obtain ⟨o,e,c,d⟩:=st
  exact ⟨o,e,fun v z=>by rw [d] at z; cases z⟩
 keep:=fun i h h' st k=>st.at fun o e=>k it (by simp) o e
 item:=by
  intro X hP hw hK hc i pins s σ H E I hf st hg
  subst hP hw hK
  obtain ⟨he,hi⟩:=hg
  obtain ⟨hs,vs,rel,da⟩:=i8 I.hok he
  obtain ⟨x,hx,rx⟩:=xH rel (List.getElem?_eq_getElem hi)
  obtain ⟨f0,f1,f2,f3,f4,f5⟩:=hf it (by simp)
  rw [show kvs.length=vs.length from rel.length] at st
  refine wpAny_pyNext_values_item st da hx fun h' st' sb=>?_
  have I1:Inv X pins σ H { s with heap:=h' }:=I.turned (t':=s.toks) (fun b o hb e=>(sb.2 b hb).trans e) f0 f1 f3 f4 f5
  rw [← show kvs.length=vs.length from rel.length] at st'
  obtain ⟨oi,e,c,d⟩:=id st'
  exact ⟨x,rfl,uZ (s:={ s with heap:=h' }) e c d (by decide) ⟨kvs[i].2,H,I1,rx,⟨rfl,kvs[i],List.getElem?_eq_getElem hi,rfl⟩,st',fun b hb=>(hf b hb).1⟩⟩
 done:=by
  intro X hP hw hK hc i pins s σ H E I hf st hg
  subst hP hw hK
  obtain ⟨he,hi⟩:=hg
  obtain ⟨hs,vs,rel,da⟩:=i8 I.hok he
  obtain ⟨f0,f1,f2,f3,f4,f5⟩:=hf it (by simp)
  rw [show kvs.length=vs.length from rel.length] at st
  exact wpAny_pyNext_values_end (I.ok.hd hc) st da (List.getElem?_eq_none (by rw [← rel.length]; exact hi)) fun h' eb=>⟨rfl,I.turned (t':=s.toks) (fun b o hb e=>eb b o hb e) f0 f1 f3 f4 f5⟩
 self:=fun _ _ _ _ _ st h=>wpAny_pyIter_valiter st h
theorem vZ:entryFor table "dict_itemiterator.__iter__" = some Builtin.«dict_keyiterator.__iter__»:=entryFor_alias (id' := "dict_keyiterator.__iter__") (id (Eq.refl (fastTable "dict_itemiterator.__iter__"))) rfl (by
  show Manifest.canonical (String.map _ "dict_itemiterator.__iter__")++"" = _
  decide +kernel) (id (Eq.refl (fastTable "dict_keyiterator.__iter__")))
theorem oq {prog:Program} {w:World} {A:Around} {E:Value→Shared→Prop} {s:Shared} {it d:Addr} {i n ep:Nat} {ok ov:Value} {Q:Value→Shared→Prop} (st:IsItemIter s.heap it d i n ep ok ov) (h:Q (.ref it) s) : wpAny (model prog w) A (pyIter (.ref it)) Q E s:=by
 have hT:s.TypeIs (.ref it) "dict_itemiterator":=⟨_,st,rfl⟩
 refine wpAny_pyIter_slot hT F.slot_dict_itemiterator_iter (wpAny_call_entry F.slot_dict_itemiterator_iter hT vZ ?_ (F.args_dict_itemiterator_iter_1 _))
 show wpAny _ _ (pure _) _ _ _
 exact wpAny_pure ⟨.ref it,rfl,"dict_itemiterator",.builtin "dict_itemiterator.__next__",hT,F.slot_dict_itemiterator_next.lookup,h⟩
def Itp (a:Addr) (o:Obj) (kvs:List (Key × V)) : It:=
 ⟨fun i H=>H a=some (.frz o (.dK kvs))∧i < kvs.length,fun i H x H'=>∃ p q,H p=none∧x = .ref p∧kvs[i]? = some q∧H' = upd H p (.tup [kV q.1,q.2]),fun i H=>H a=some (.frz o (.dK kvs))∧kvs.length≤i⟩
theorem yk {P:Program} {w:World} {K:PySem.W.Frag} {elts:List Expr} {k1} {tp:Pos} (a it:Addr) (o:Obj) (kvs:List (Key × V)) (hne:a≠it) : oN P w K (.Tuple elts k1 tp) (Itp a o kvs) [it] it (fun i h=>∃ ok ov,IsItemIter h it a i kvs.length (epO o) ok ov) where
 mem:=by simp
 obj:=fun i h st b hb=>by
  have e:b=it:=by simpa using hb
  subst e
  obtain ⟨ok,ov,e⟩:=st
  exact ⟨_,e,fun v z=>by cases z⟩
 keep:=fun i h h' st k=>by
  obtain ⟨ok,ov,e⟩:=st
  exact ⟨ok,ov,k it (by simp) _ e⟩
 item:=by
  intro X hP hw hK hc i pins s σ H E I hf st hg
  subst hP hw hK
  obtain ⟨he,hi⟩:=hg
  obtain ⟨hs,vs,rel,da⟩:=i8 I.hok he
  obtain ⟨x,hx,rx⟩:=xH rel (List.getElem?_eq_getElem hi)
  obtain ⟨f0,f1,f2,f3,f4,f5⟩:=hf it (by simp)
  obtain ⟨ok,ov,st⟩:=st
  rw [show kvs.length=vs.length from rel.length] at st
  refine wpAny_pyNext_items_item st da hx fun key h' hk st' hpair hsz hkeep=>?_
  have I1:Inv X pins σ H { s with heap:=h' }:=I.turned (t':=s.toks) (fun b o hb e=>hkeep b o hb e) f0 f1 f3 f4 f5
  rw [← show kvs.length=vs.length from rel.length] at st'
  have hTn:H s.heap.objs.size=none:=I.fresh
  have zlt:it < s.heap.objs.size:=Heap.lt_size st
  have I2:Inv X pins σ (upd H s.heap.objs.size (.tup [kV kvs[i].1,kvs[i].2])) { s with heap:=h',toks:=s.toks }:=by
   refine I1.track hTn I.sz (Nat.ne_of_gt I.lt) (fun y c q=>?_) (fun p hp=>?_) ⟨by show 2≤sizeLine; decide,[key,x],.cons (BV hk) (.cons rx .nil),⟨_,hpair,rfl,_,rfl⟩⟩
   ·obtain ⟨v,q2⟩:=I.cell y c q
    exact Nat.ne_of_lt q2.lt
   ·exact Nat.ne_of_lt (Heap.lt_size (I.pin p hp).1)
  refine ⟨_,rfl,wpAny_letOwnedTupleGo_items (s:={ s with heap:=h',toks:=s.toks }) st' fun h'' st'' hs''=>?_⟩
  have I3:Inv X pins σ (upd H s.heap.objs.size (.tup [kV kvs[i].1,kvs[i].2])) { s with heap:=h'',toks:=s.toks }:=Inv.turned (s:={ s with heap:=h',toks:=s.toks }) (h':=h'') (t':=s.toks) (it:=it) I2 (fun c o hb q=>(hs''.2 c hb).trans q) (by rw [aj (Nat.ne_of_lt zlt)]; exact f0) f1 f3 f4 f5
  refine ⟨.ref s.heap.objs.size,_,I3,rfl,⟨_,kvs[i],hTn,rfl,List.getElem?_eq_getElem hi,rfl⟩,⟨_,_,st''⟩,fun b hb=>?_⟩
  have e:b=it:=by simpa using hb
  subst e
  rw [aj (Nat.ne_of_lt zlt)]
  exact f0
 done:=by
  intro X hP hw hK hc i pins s σ H E I hf st hg
  subst hP hw hK
  obtain ⟨he,hi⟩:=hg
  obtain ⟨hs,vs,rel,da⟩:=i8 I.hok he
  obtain ⟨f0,f1,f2,f3,f4,f5⟩:=hf it (by simp)
  obtain ⟨ok,ov,st⟩:=st
  rw [show kvs.length=vs.length from rel.length] at st
  exact wpAny_pyNext_items_end (I.ok.hd hc) st da (List.getElem?_eq_none (by rw [← rel.length]; exact hi)) fun h' eb=>⟨rfl,I.turned (t':=s.toks) (fun b o hb e=>eb b o hb e) f0 f1 f3 f4 f5⟩
 self:=fun _ _ _ _ _ st h=>by
  obtain ⟨ok,ov,st⟩:=st
  exact oq st h
def iVw (J:Addr→Obj→List (Key × V)→It) (X:Cx) (tl:TE) : TI:=fun σ H R=>tl σ H fun x H1=>∃ a kvs,x = .ref a∧H1 a=some (.dK kvs)∧(Hz X a→∀ o,R (J a o kvs) (upd H1 a (.frz o (.dK kvs))))
section
variable {X:Cx} {tg:Expr}
theorem BX {l:Expr} {tl:TE} {apos cpos:Pos} (hl:PE X l tl) (hbase:attributeBase l "values" X.env (eval l X.env)=eval l X.env:=by rfl) (hline:(apos.endLine == cpos.line)=true:=by rfl) : PI X tg (.Call (.Attribute l "values" apos) [] [] cpos) (iVw Itv X tl):=by
 intro pins s σ H R I h
 refine wpAny_Call_method0_late hbase hline (thn (hl pins s σ H _ I h) fun v s1 ⟨x,H1,I1,r1,q1⟩=>?_)
 obtain ⟨a,kvs,e,ha,q⟩:=q1
 subst e
 cases r1
 have ad:H1 a=some (.dK kvs):=ha
 obtain ⟨t1,t2,_⟩:=zk I1 (.inl ⟨kvs,.inl ha⟩)
 refine ⟨"dict","dict.values",PySem.F.plainAttrs_dict,PySem.F.slot_dict_values,PySem.F.type_dict_values,t1,t2,Calls.callWith_builtin rfl (PySem.evalArgs_none ?_)⟩
 obtain ⟨o,ho,I2⟩:=I1.freeze ha
 have hf:=q (I1.hz ha) o
 have he:upd H1 a (.frz o (.dK kvs)) a=some (.frz o (.dK kvs)):=ae
 generalize upd H1 a (.frz o (.dK kvs))=H2 at I2 hf he
 obtain ⟨hs,vs,rel,da⟩:=i8 I2.hok he
 have dof:s1.heap.DictOf (bf X.prog X.w) a vs:=by obtain ⟨o,es,r⟩:=da; exact ⟨o,es,_,r⟩
 refine call_meetsIn PySem.F.slot_dict_values dof.typeIs PySem.F.entry_dict_values (PySem.F.args_dict_values_1 _) (meets_dict_values (bf X.prog X.w) a hs) ⟨⟨vs,dof⟩,?_⟩
 refine wpAny_pyIter_values (knd:=bf X.prog X.w) (d:=a) (kvs:=vs) (ep:=epO o) ⟨_,Heap.get?_push_size _ rfl,rfl,rfl⟩ (da.at' fun o e=>Heap.get?_push_of_some _ e) ?_
 have I3:=I2.kept (t':=s1.toks) (h':=s1.heap.push { cls:=Value.type "dict_values",data:=Data.fields #[Value.ref a] }) fun b o e=>Heap.get?_push_of_some _ e
 refine ⟨_,[_],_,_,H2,rfl,I3.kept (t':=s1.toks) fun b o e=>Heap.get?_push_of_some _ e,zH a _ o kvs (fun z=>?_),⟨_,Heap.get?_push_size _ rfl,rfl,?_⟩,fun b hb=>?_,hf⟩
 ·have:=Heap.lt_size ho
  rw [z,size_push'] at this
  exact absurd this (Nat.not_lt.mpr (Nat.le_succ _))
 ·rw [rel.length]; rfl
 ·have e:b=(s1.heap.push { cls:=Value.type "dict_values",data:=Data.fields #[Value.ref a] }).objs.size:=by simpa using hb
  subst e
  exact I3.fpOk (Nat.le_refl _) (I3.hok.fresh (Nat.le_refl _))
theorem AX {l:Expr} {tl:TE} {apos cpos:Pos} {elts:List Expr} {k1} {tp:Pos} (hl:PE X l tl) (hbase:attributeBase l "items" X.env (eval l X.env)=eval l X.env:=by rfl) (hline:(apos.endLine == cpos.line)=true:=by rfl) : PI X (.Tuple elts k1 tp) (.Call (.Attribute l "items" apos) [] [] cpos) (iVw Itp X tl):=by
 intro pins s σ H R I h
 refine wpAny_Call_method0_late hbase hline (thn (hl pins s σ H _ I h) fun v s1 ⟨x,H1,I1,r1,q1⟩=>?_)
 obtain ⟨a,kvs,e,ha,q⟩:=q1
 subst e
 cases r1
 obtain ⟨t1,t2,_⟩:=zk I1 (.inl ⟨kvs,.inl ha⟩)
 refine ⟨"dict","dict.items",PySem.F.plainAttrs_dict,PySem.F.slot_dict_items,PySem.F.type_dict_items,t1,t2,Calls.callWith_builtin rfl (PySem.evalArgs_none ?_)⟩
 obtain ⟨o,ho,I2⟩:=I1.freeze ha
 have hf:=q (I1.hz ha) o
 have he:upd H1 a (.frz o (.dK kvs)) a=some (.frz o (.dK kvs)):=ae
 generalize upd H1 a (.frz o (.dK kvs))=H2 at I2 hf he
 obtain ⟨hs,vs,rel,da⟩:=i8 I2.hok he
 have dof:s1.heap.DictOf (bf X.prog X.w) a vs:=by obtain ⟨o,es,r⟩:=da; exact ⟨o,es,_,r⟩
 refine call_meetsIn PySem.F.slot_dict_items dof.typeIs PySem.F.entry_dict_items (PySem.F.args_dict_items_1 _) (meets_dict_items (bf X.prog X.w) a hs) ⟨⟨vs,dof⟩,?_⟩
 refine wpAny_pyIter_items (knd:=bf X.prog X.w) (d:=a) (kvs:=vs) (ep:=epO o) ⟨_,Heap.get?_push_size _ rfl,rfl,rfl⟩ (da.at' fun o e=>Heap.get?_push_of_some _ e) ?_
 have I3:=I2.kept (t':=s1.toks) (h':=s1.heap.push { cls:=Value.type "dict_items",data:=Data.fields #[Value.ref a] }) fun b o e=>Heap.get?_push_of_some _ e
 refine ⟨_,[_],_,_,H2,rfl,I3.kept (t':=s1.toks) fun b o e=>Heap.get?_push_of_some _ e,yk a _ o kvs (fun z=>?_),⟨.none,.none,?_⟩,fun b hb=>?_,hf⟩
 ·have:=Heap.lt_size ho
  rw [z,size_push'] at this
  exact absurd this (Nat.not_lt.mpr (Nat.le_succ _))
 ·have:=Heap.get?_push_size (s1.heap.push { cls:=Value.type "dict_items",data:=Data.fields #[Value.ref a] }) (o:={ cls:=Value.type "dict_itemiterator",data:=Data.fields #[Value.none,Value.bool false,Value.ref a,Value.int 0 0,Value.int (↑vs.length) 0,Value.int (↑(epO o)) 0,Value.none,Value.none] }) rfl
  rw [rel.length]
  exact this
 ·have e:b=(s1.heap.push { cls:=Value.type "dict_items",data:=Data.fields #[Value.ref a] }).objs.size:=by simpa using hb
  subst e
  exact I3.fpOk (Nat.le_refl _) (I3.hok.fresh (Nat.le_refl _))
def D3 (J:Addr→Obj→List (Key × V)→It) (X:Cx) (tl:TE) (g:TG) (tb:TS) : TS:=fun D σ H=>CC (iVw J X tl) g tb (fz X D) σ H
theorem xI {iter:Expr} {J:Addr→Obj→List (Key × V)→It} {body:List Stmt} {tl:TE} {g:TG} {tb:TS} {pos:Pos} (hp:PassesOwn (model X.prog X.w) X.A X.env X.xe) (hc:X.calm=true) (hi:PI X tg iter (iVw J X tl)) (hg:PG X tg g) (hb:PSs X body tb)
  (hs:∀ x,foldedSetIterable iter X.env x=pure x:=by intro _; rfl) : PS X (.For tg iter body [] pos) (D3 J X tl g tb):=by
 intro pins s σ H D I h
 exact wpAny_mono (b9 hp hc hi hg hb hs pins s σ H (fz X D) I h) (fun _ _ z=>z.thaw) fun _ _ z=>z
end
theorem AY {X:Cx} {a:Addr} {o:Obj} {kvs:List (Key × V)} {g:TG} {tb:TS} {D:e_} {σ:St} {H:Hp} (hz:Hz X a) (Pv:Nat→St→Hp→Prop) (fr:∀ i σ H,Pv i σ H→H a=some (.frz o (.dK kvs))) (h0:Pv 0 σ H)
  (hs:∀ i p σ H,kvs[i]? = some p→Pv i σ H→g p.2 σ H fun σ2 H2=>tb { fz X D with nx:=Pv (i+1),ct:=Pv (i+1),bk:=(fz X D).nx } σ2 H2) (hd:∀ σ H,Pv kvs.length σ H→D.nx σ (upd H a (.dK kvs))) :
  ∃ W:Nat→Nat→St→Hp→Prop,(∃ m,W 0 m σ H)∧∀ i m σ H,W i m σ H →
   ((Itv a o kvs).stop i H∧(fz X D).nx σ H)∨((Itv a o kvs).go i H∧∃ N:St→Hp→Prop,(∀ σ' H',N σ' H'→∃ m',m' < m∧W (i+1) m' σ' H')∧∀ x H',(Itv a o kvs).yld i H x H'→g x σ H' fun σ2 H2=>tb { fz X D with nx:=N,ct:=N,bk:=(fz X D).nx } σ2 H2):=by
 refine ⟨fun i m σ H'=>m=kvs.length - i∧i≤kvs.length∧Pv i σ H',⟨kvs.length,by simp,Nat.zero_le _,h0⟩,?_⟩
 rintro i m σ H' ⟨rfl,hi,p⟩
 by_cases hlt:i < kvs.length
 ·refine .inr ⟨⟨fr i σ H' p,hlt⟩,Pv (i+1),fun σ' H' p'=>⟨kvs.length - (i+1),by omega,rfl,hlt,p'⟩,fun x H'' y=>?_⟩
  obtain ⟨rfl,p',hp',rfl⟩:=y
  exact hs i p' σ _ hp' p
 ·have e:i=kvs.length:=by omega
  subst e
  exact .inl ⟨⟨fr _ σ H' p,Nat.le_refl _⟩,a,kvs,o,hz,fr _ σ H' p,hd σ H' p⟩
theorem zI {X:Cx} {a:Addr} {o:Obj} {kvs:List (Key × V)} {g:TG} {tb:TS} {D:e_} {σ:St} {H:Hp} (hz:Hz X a) (Pv:Nat→St→Hp→Prop) (fr:∀ i σ H,Pv i σ H→H a=some (.frz o (.dK kvs))) (h0:Pv 0 σ H)
  (hs:∀ i q p σ H,kvs[i]? = some q→Pv i σ H→H p=none→g (.ref p) σ (upd H p (.tup [kV q.1,q.2])) fun σ2 H2=>tb { fz X D with nx:=Pv (i+1),ct:=Pv (i+1),bk:=(fz X D).nx } σ2 H2) (hd:∀ σ H,Pv kvs.length σ H→D.nx σ (upd H a (.dK kvs))) :
  ∃ W:Nat→Nat→St→Hp→Prop,(∃ m,W 0 m σ H)∧∀ i m σ H,W i m σ H →
   ((Itp a o kvs).stop i H∧(fz X D).nx σ H)∨((Itp a o kvs).go i H∧∃ N:St→Hp→Prop,(∀ σ' H',N σ' H'→∃ m',m' < m∧W (i+1) m' σ' H')∧∀ x H',(Itp a o kvs).yld i H x H'→g x σ H' fun σ2 H2=>tb { fz X D with nx:=N,ct:=N,bk:=(fz X D).nx } σ2 H2):=by
 refine ⟨fun i m σ H'=>m=kvs.length - i∧i≤kvs.length∧Pv i σ H',⟨kvs.length,by simp,Nat.zero_le _,h0⟩,?_⟩
 rintro i m σ H' ⟨rfl,hi,p⟩
 by_cases hlt:i < kvs.length
 ·refine .inr ⟨⟨fr i σ H' p,hlt⟩,Pv (i+1),fun σ' H' p'=>⟨kvs.length - (i+1),by omega,rfl,hlt,p'⟩,fun x H'' y=>?_⟩
  obtain ⟨p1,q,hp1,rfl,hq,rfl⟩:=y
  exact hs i q p1 σ _ hq p hp1
 ·have e:i=kvs.length:=by omega
  subst e
  exact .inl ⟨⟨fr _ σ H' p,Nat.le_refl _⟩,a,kvs,o,hz,fr _ σ H' p,hd σ H' p⟩
section
variable {X:Cx} {o:Expr}
end
section
variable {X:Cx} {a b c o:Expr} {a9:List Expr} {ta tb to:TE} {tA tB':TT} {pos:Pos}
def PT1 (X:Cx) (e:Expr) (t:TT) : Prop:=
 ∀ (pins:List (Addr × Obj)) (s:Shared) (σ:St) (H:Hp) (Q:Bool→Hp→Prop),Inv X pins σ H s→t σ H Q→wpAny (model X.prog X.w) X.A (isTrue e X.env (eval e X.env)) (fun d s'=>1≤s'.toks∧TP X pins σ Q d s') X.xe s
def PE1 (X:Cx) (e:Expr) (t:TE) : Prop:=
 ∀ (pins:List (Addr × Obj)) (s:Shared) (σ:St) (H:Hp) (Q:VK),1≤s.toks→Inv X pins σ H s→t σ H Q→wpAny (model X.prog X.w) X.A (eval e X.env) (EP X pins σ Q) X.xe s
def C6 (X:Cx) (st:List Stmt) (t:TS) : Prop:=
 ∀ (pins:List (Addr × Obj)) (s:Shared) (σ:St) (H:Hp) (D:e_),1≤s.toks→Inv X pins σ H s→t D σ H→wpAny (model X.prog X.w) X.A (execs st X.env) (SP X pins D) X.xe s
theorem yl {α:Type} {M:Model} {A:Around} {s:Shared} {t:Sem α} {Q:α→Shared→Prop} {E:Value→Shared→Prop} (h:1≤s.toks) (w:wpAny M A t Q E s) : wpAny M A t (fun a s'=>1≤s'.toks∧Q a s') E s:=
 wpAny_with_toks h (wpAny_mono w (fun _ _ q z=>⟨z,q⟩) fun _ _ q _=>q)
theorem BY {op:CmpOp} {r:R2} {i:Int} {j:Nat} {p2:Pos} (ho:OpR X (compareOp op) r) (ha:PE X a ta) (hm:behindInMarks op (.Constant (.int i) j p2)=false) : PT1 X (.Compare a [op] [.Constant (.int i) j p2] pos) (Bn (tOp r ta (tC (.int i)))):=by
 intro pins s σ H Q I h
 refine wpAny_isTrue_Compare1 (thn (ha pins s σ H _ I h) fun v s1 ⟨x,H1,I1,r1,q1⟩=>wpAny_Constant_int ?_) hm
 refine thn (yl (Nat.succ_le_succ (Nat.zero_le _)) (ho pins _ σ H1 x (.int i) v _ _ (I1.tok _) r1 ⟨_,rfl⟩ q1)) fun c s3 ⟨tk,z,H3,I3,r3,k,e,q3⟩=>?_
 subst e
 cases r3
 exact wpAny_truthy_bool ⟨tk,H3,I3,q3⟩
theorem BZ (ha:PT1 X a tA) (hb:PW X (.BoolOp .And (b :: a9) pos) tB') : PT1 X (.BoolOp .And (a :: b :: a9) pos) (Cu tA tB'):=by
 intro pins s σ H Q I h
 refine isTrue_and (thn (ha pins s σ H _ I h) fun c s1 ⟨tk,H1,I1,q1⟩=>?_)
 cases c with
 | true=>exact yl tk (hb _ pins s1 σ H1 Q I1 q1)
 | false=>exact ⟨tk,H1,I1,q1⟩
theorem C7 {a b:List Stmt} {tc:TT} {t u:TS} (hc:PT1 X c tc) (ha:C6 X a t) (hb:PSs X b u) : PS X (.If c a b pos) (Cy tc t u):=by
 intro pins s σ H D I h
 refine wpAny_If (thn (hc pins s σ H _ I h) fun d s1 ⟨tk,H1,I1,q1⟩=>?_)
 cases d with
 | true=>exact ha pins s1 σ H1 D tk I1 q1
 | false=>exact hb pins s1 σ H1 D I1 q1
theorem AZ {i:Nat} {x:Str} {e:Expr} {te:TE} {pos':Pos} (hN:X.N.Nodup) (hi:X.N[i]? = some x) (hx:Loc X.env.scope x) (he:PE1 X e te) (hs:swapsWith e (some (.Name x pos')) pos.line X.env=pure false:=by rfl) (hf:X.fn x=true∨X.env.scope.names.lookup x=some .local:=by first | exact .inl rfl | exact .inr rfl | assumption) :
  C6 X [.Assign [.Name x pos'] e pos] (qV te (bv i)):=by
 intro pins s σ H D tk I h
 refine wpAny_execs_cons (wpAny_Assign_Name (thn (he pins s σ H _ tk I h) fun v s1 ⟨y,H1,I1,r1,q1⟩=>?_) hs)
 exact qU I1 hN hi hx r1 (fun s2 I2=>wpAny_execs_nil ⟨_,H1,I2,q1⟩) hf
def D4 (y z:Str) (to:TE) : TE:=fun σ H Q=>to σ H fun x H1=>∃ u:Str,x = .str u∧u.length≤1048576∧Q (.str (Txt.replace u y z)) H1
theorem xk {y z:Str} {j1 j2:Nat} {p1 p2 apos cpos:Pos} (ho:PE X o to) (hyz:(y == z)=false) (hz:z.length≤14)
  (hbase:attributeBase o "replace" X.env (eval o X.env)=eval o X.env:=by rfl)
  (hfew:((backTo cpos (starEach [.Constant (.str y) j1 p1,.Constant (.str z) j2 p2] X.env)).all (fun x=>!x.1) && (backToKw cpos (keywordEach [] X.env)).all (fun x=>x.1.isSome)
   && decide (([.Constant (.str y) j1 p1,.Constant (.str z) j2 p2] : List Expr).length+([] : List Keyword).length+(if ([] : List Keyword).isEmpty then 0 else 1) < 30))=true:=by rfl)
  (hline:(apos.endLine == cpos.line)=true:=by rfl) (ht:backTo cpos (starEach [.Constant (.str y) j1 p1,.Constant (.str z) j2 p2] X.env)=[(false,eval (.Constant (.str y) j1 p1) X.env),(false,eval (.Constant (.str z) j2 p2) X.env)]:=by rfl) :
  PE1 X (.Call (.Attribute o "replace" apos) [.Constant (.str y) j1 p1,.Constant (.str z) j2 p2] [] cpos) (D4 y z to):=by
 intro pins s σ H Q tk I h
 refine wpAny_Call_method_late hbase hfew hline ht (thn (yl tk (ho pins s σ H _ I h)) fun v s1 ⟨tk1,x,H1,I1,r1,u,e,hu,q⟩=>?_)
 subst e
 obtain ⟨t,rfl⟩:=(show ∃ t,v=Value.str u t from r1)
 refine ⟨"str","str.replace",PySem.F.plainAttrs_str,PySem.F.slot_str_replace,PySem.F.type_str_replace,rfl,(fun b z=>by cases z),Calls.callWith_builtin rfl (Calls.evalArgs_plain (Calls.spliced_cons (Calls.Constant_str (Calls.spliced_cons (Calls.Constant_str (Calls.spliced_nil ?_))))))⟩
 refine SC.replaceW (Nat.ne_of_gt tk1) (Nat.ne_of_gt (Nat.succ_pos _)) (Nat.ne_of_lt (Nat.lt_succ_self _)) hyz hu hz fun t' k=>⟨.str _,H1,I1.tok _,⟨_,rfl⟩,q⟩
end
end L2

set_option maxHeartbeats 4000000

namespace Tl
open PySem PySem.Spec L2
inductive Kw where
 | plain | mark | number | page | row | foot | entry
 deriving DecidableEq
def Kw.s:Kw→Str
 | .plain=>"plain" | .mark=>"mark" | .number=>"number" | .page=>"page" | .row=>"row" | .foot=>"foot" | .entry=>"entry"
theorem Kw.inj:∀ {a b:Kw},a.s=b.s→a=b:=by
 intro a b h
 cases a <;> cases b <;> first | rfl | exact absurd h (by decide +kernel)
theorem Kw.beq (a b:Kw) : (a.s == b.s)=decide (a=b):=by
 cases a <;> cases b <;> decide +kernel
abbrev Wk:=Kw × V
inductive Tg where
 | page | odd | lst | head (n:Nat) (ws:List Wk) | par (ws:List Wk)
def WkA (F:Hp) (v:V) (w:Wk) : Prop:=∃ a,v = .ref a∧F a=some (.tup [.str w.1.s,w.2])
def aR {α:Type} (P:V→α→Prop) : List V→List α→Prop
 | [],[]=>True
 | v :: r,w :: s=>P v w∧aR P r s
 | _,_=>False
section
variable {α:Type} {P Q:V→α→Prop}
theorem aR.len:∀ {vs:List V} {ws:List α},aR P vs ws→vs.length=ws.length
 | [],[],_=>rfl
 | _ :: _,_ :: _,h=>congrArg (·+1) (aR.len h.2)
theorem aR.imp (m:∀ v w,P v w→Q v w) : ∀ {vs:List V} {ws:List α},aR P vs ws→aR Q vs ws
 | [],[],_=>trivial
 | _ :: _,_ :: _,h=>⟨m _ _ h.1,h.2.imp m⟩
theorem aR.app:∀ {vs vs':List V} {ws ws':List α},aR P vs ws→aR P vs' ws'→aR P (vs++vs') (ws++ws')
 | [],_,[],_,_,h=>h
 | _ :: _,_,_ :: _,_,h,h'=>⟨h.1,h.2.app h'⟩
theorem aR.one {v:V} {w:α} (h:P v w) : aR P [v] [w]:=⟨h,trivial⟩
theorem aR.snoc {v:V} {w:α} {vs:List V} {ws:List α} (h:aR P vs ws) (h':P v w) : aR P (vs++[v]) (ws++[w]):=h.app (.one h')
theorem aR.getL:∀ {vs:List V} {ws:List α} {i:Nat} {v:V},aR P vs ws→vs[i]? = some v→∃ w,ws[i]? = some w∧P v w
 | v :: _,w :: _,0,x,h,e=>by cases e; exact ⟨w,rfl,h.1⟩
 | _ :: _,_ :: _,i+1,x,h,e=>aR.getL (i:=i) h.2 (by simpa using e)
 | [],[],_,_,_,e=>by simp at e
theorem aR.getR:∀ {vs:List V} {ws:List α} {i:Nat} {w:α},aR P vs ws→ws[i]? = some w→∃ v,vs[i]? = some v∧P v w
 | v :: _,w :: _,0,x,h,e=>by cases e; exact ⟨v,rfl,h.1⟩
 | _ :: _,_ :: _,i+1,x,h,e=>aR.getR (i:=i) h.2 (by simpa using e)
 | [],[],_,_,_,e=>by simp at e
end
abbrev bW (F:Hp) : List V→List Wk→Prop:=aR (WkA F)
theorem WkA.mono {F F':Hp} (s:ao F F') {v:V} {w:Wk} (h:WkA F v w) : WkA F' v w:=by
 obtain ⟨a,e,h⟩:=h
 exact ⟨a,e,s _ _ h⟩
theorem bW.mono {F F':Hp} (s:ao F F') {vs:List V} {ws:List Wk} (h:bW F vs ws) : bW F' vs ws:=h.imp fun _ _=>WkA.mono s
def cg (F:Hp) (l:Addr) (ws:List Wk) : Prop:=∃ vs,F l=some (.lst vs)∧bW F vs ws
theorem cg.mono {F F':Hp} (s:ao F F') {l:Addr} {ws:List Wk} (h:cg F l ws) : cg F' l ws:=by
 obtain ⟨vs,e,h⟩:=h
 exact ⟨vs,s _ _ e,bW.mono s h⟩
def TgA (F:Hp) (v:V) : Tg→Prop
 | .page=>∃ a,v = .ref a∧F a=some (.tup [.str "page"])
 | .odd=>∃ a,v = .ref a∧F a=some (.tup [.str "odd"])
 | .lst=>∃ a,v = .ref a∧F a=some (.tup [.str "list"])
 | .head n ws=>∃ a l,v = .ref a∧F a=some (.tup [.str "head",.int n,.ref l])∧cg F l ws
 | .par ws=>∃ a l,v = .ref a∧F a=some (.tup [.str "paragraph",.ref l])∧cg F l ws
theorem TgA.mono {F F':Hp} (s:ao F F') {v:V} {t:Tg} (h:TgA F v t) : TgA F' v t:=by
 cases t with
 | page=>obtain ⟨a,e,h⟩:=h; exact ⟨a,e,s _ _ h⟩
 | odd=>obtain ⟨a,e,h⟩:=h; exact ⟨a,e,s _ _ h⟩
 | lst=>obtain ⟨a,e,h⟩:=h; exact ⟨a,e,s _ _ h⟩
 | head n ws=>obtain ⟨a,l,e,h,h2⟩:=h; exact ⟨a,l,e,s _ _ h,h2.mono s⟩
 | par ws=>obtain ⟨a,l,e,h,h2⟩:=h; exact ⟨a,l,e,s _ _ h,h2.mono s⟩
abbrev eP (F:Hp) : List V→List Tg→Prop:=aR (TgA F)
theorem eP.mono {F F':Hp} (s:ao F F') {vs:List V} {ws:List Tg} (h:eP F vs ws) : eP F' vs ws:=h.imp fun _ _=>TgA.mono s
def FtE (F:Hp) (p:Key × V) (q:Str × List Wk) : Prop:=p.1 = .inr q.1∧∃ l,p.2 = .ref l∧cg F l q.2
def FtA (F:Hp) : List (Key × V)→List (Str × List Wk)→Prop
 | [],[]=>True
 | v :: r,w :: s=>FtE F v w∧FtA F r s
 | _,_=>False
theorem FtA.mono {F F':Hp} (s:ao F F') : ∀ {vs:List (Key × V)} {ws:List (Str × List Wk)},FtA F vs ws→FtA F' vs ws
 | [],[],_=>trivial
 | _ :: _,_ :: _,⟨⟨h1,l,h2,h3⟩,h⟩=>⟨⟨h1,l,h2,h3.mono s⟩,h.mono s⟩
theorem FtA.len {F:Hp} : ∀ {vs:List (Key × V)} {ws:List (Str × List Wk)},FtA F vs ws→vs.length=ws.length
 | [],[],_=>rfl
 | _ :: _,_ :: _,h=>congrArg (·+1) (FtA.len h.2)
theorem FtA.app {F:Hp} {p:Key × V} {q:Str × List Wk} (e:FtE F p q) : ∀ {vs:List (Key × V)} {ws:List (Str × List Wk)},FtA F vs ws→FtA F (vs++[p]) (ws++[q])
 | [],[],_=>⟨e,trivial⟩
 | _ :: _,_ :: _,h=>⟨h.1,h.2.app e⟩
def lkS {β:Type} (n:Str) : List (Str × β)→Option β
 | []=>none
 | p :: r=>if p.1=n then some p.2 else lkS n r
theorem FtA.val {F:Hp} {n:Str} : ∀ {vs:List (Key × V)} {ws:List (Str × List Wk)},FtA F vs ws→(lkS n ws=none→cN vs (.inr n)=none)∧∀ f,lkS n ws=some f→∃ l,cN vs (.inr n)=some (.ref l)∧cg F l f
 | [],[],_=>⟨fun _=>rfl,fun f h=>by cases h⟩
 | (k,v) :: r,(m,g) :: s,⟨⟨h1,l,h2,h3⟩,h⟩=>by
  have ih:=FtA.val (n:=n) h
  obtain rfl:k = .inr m:=h1
  obtain rfl:v = .ref l:=h2
  by_cases c:m=n
  ·subst c
   have e:cN ((Sum.inr m,V.ref l) :: r) (.inr m)=some (.ref l):=by unfold cN; simp
   refine ⟨fun z=>?_,fun f z=>?_⟩
   ·unfold lkS at z; simp at z
   ·unfold lkS at z; simp at z; subst z; exact ⟨l,e,h3⟩
  ·have e:cN ((Sum.inr m,V.ref l) :: r) (.inr n)=cN r (.inr n):=by
    unfold cN
    have:¬ ((Sum.inr m:Key) = .inr n):=fun z=>c (by cases z; rfl)
    simp [this]
   have e2:lkS n ((m,g) :: s)=lkS n s:=by unfold lkS; rw [if_neg c]; cases s <;> rfl
   rw [e,e2]
   exact ih
def hid (os:List Addr) (H:Hp) : Hp:=fun b=>if b ∈ os then none else H b
theorem iN {os:List Addr} {H:Hp} {b:Addr} {o:HO} : hid os H b=some o↔b ∉ os∧H b=some o:=by
 unfold hid
 by_cases c:b ∈ os
 ·rw [if_pos c]; exact ⟨(fun z=>by cases z),fun z=>absurd c z.1⟩
 ·rw [if_neg c]; exact ⟨fun z=>⟨c,z⟩,fun z=>z.2⟩
theorem a8 {os:List Addr} {H:Hp} {b:Addr} {o:HO} (c:b ∉ os) (h:H b=some o) : hid os H b=some o:=iN.mpr ⟨c,h⟩
theorem bJ {os:List Addr} {H:Hp} : ao (hid os H) H:=fun _ _ h=>(iN.mp h).2
theorem bY {os:List Addr} {H:Hp} {p:Addr} {o:HO} (h:p ∈ os) : hid os (upd H p o)=hid os H:=by
 funext b
 unfold hid
 by_cases c:b ∈ os
 ·rw [if_pos c,if_pos c]
 ·have n:b≠p:=fun e=>c (by rw [e]; exact h)
  rw [if_neg c,if_neg c,aj n]
theorem bb {os:List Addr} {H H':Hp} (s:ao H H') : ao (hid os H) (hid os H'):=fun b u z=>by
 obtain ⟨c,z⟩:=iN.mp z
 exact a8 c (s _ _ z)
theorem xJ {os:List Addr} {G H:Hp} (s:ao G H) (n:∀ b ∈ os,G b=none) : ao G (hid os H):=fun b u z=>a8 (fun c=>by rw [n b c] at z; cases z) (s _ _ z)
theorem bn {G H:Hp} {p:Addr} {o:HO} (s:ao G H) (h:G p=none) : ao G (upd H p o):=fun b u z=>by
 rw [aj (fun e=>by rw [e,h] at z; cases z)]
 exact s _ _ z
structure Rs where
 things:List Tg
 feet:List (Str × List Wk)
 g:Bool
inductive Rw where
 | empty | foot (n:Str) (ws:List Wk) | page | odd | lst | head (n:Nat) (ws:List Wk) | par (ws:List Wk)
def cp (ws:List Wk) : List Tg→List Tg
 | []=>[.par ws]
 | [.par vs]=>[.par (vs++ws)]
 | t :: r=>t :: cp ws r
theorem qQ (ws vs:List Wk) : ∀ l:List Tg,cp ws (l++[.par vs])=l++[.par (vs++ws)]
 | []=>rfl
 | [t]=>by cases t <;> rfl
 | t :: u :: r=>by
  have:=qQ ws vs (u :: r)
  cases t <;> exact congrArg _ this
def bM (s:Rs) : Rw→Rs
 | .empty=>{ s with g:=false }
 | .foot n ws=>{ s with feet:=s.feet++[(n,ws)] }
 | .page=>{ s with things:=s.things++[.page],g:=false }
 | .odd=>{ s with things:=s.things++[.odd],g:=false }
 | .lst=>{ s with things:=s.things++[.lst],g:=false }
 | .head n ws=>{ s with things:=s.things++[.head n ws],g:=false }
 | .par ws=>if s.g then { s with things:=cp ws s.things } else { s with things:=s.things++[.par ws],g:=true }
def bp:Rs→List Rw→Rs
 | s,[]=>s
 | s,r :: l=>bp (bM s r) l
theorem zJ (l l':List Rw) : ∀ s:Rs,bp s (l++l')=bp (bp s l) l':=by
 induction l with
 | nil=>intro s; rfl
 | cons a l ih=>intro s; exact ih _
inductive Xc where
 | twice | nofoot | toolong | nomark
 deriving DecidableEq
structure Sc where
 nums:List Str
 titles:List (List Wk)
 feet:List (Str × List Wk)
structure Wt where
 lead:Int
 kept:Bool
 w:Wk
 foot:List Wk
structure Ss where
 fs:Nat
 ws:List Wt
 ms:List (Str × Nat)
 hs:List (Str × Nat)
 lp:Int
 bh:Bool
def a9:V→Str
 | .str n=>n
 | _=>Str.empty
def eQ (s:Ss) (n:Str) : Except Xc Ss:=if (lkS n s.ms).isSome then .error .twice else .ok { s with ms:=s.ms++[(n,s.ws.length)] }
def iu (s:Ss) (lead:Int) (w:Wk) (foot:List Wk) : Except Xc Ss:=
 if s.ws.length=400 then .error .toolong
 else .ok { s with lp:=if 0 < s.lp then 0 else s.lp,ws:=s.ws++[⟨if 0 < s.lp then s.lp else lead,s.bh && decide ((if 0 < s.lp then s.lp else lead)≤2),w,foot⟩] }
def gu (k:Nat) : Str := "("++tx (fP k)++")"
def gv (c:Sc) (s:Ss) (n:Str) : Except Xc (Ss × List Wk):=
 match lkS n c.feet with
 | none=>.error .nofoot
 | some f=>.ok ({ s with fs:=s.fs+1 },(.plain,.str (gu (s.fs+1))) :: f)
def cB (c:Sc) (s:Ss) (lead:Int) (w:Wk) : Except Xc Ss:=
 if w.1 = .foot then
  match gv c s (a9 w.2) with
  | .error x=>.error x
  | .ok (s',f)=>iu s' lead (f.headD w) f
 else iu s lead w []
def cQ (c:Sc) (s:Ss) (lead:Int) (byh:Bool) : List Wk→Except Xc Ss
 | []=>.ok s
 | w :: r =>
  if w.1 = .mark then
   match eQ s (a9 w.2) with
   | .error x=>.error x
   | .ok s'=>cQ c s' lead byh r
  else
   match cB c s lead w with
   | .error x=>.error x
   | .ok s'=>cQ c { s' with bh:=byh } 0 byh r
def C8 (c:Sc) (s:Ss) (k:Nat) : Except Xc Ss:=
 cQ c { s with hs:=s.hs++[(c.nums.getD k Str.empty,s.ws.length)] } 2 true ((.plain,.str (c.nums.getD k Str.empty)) :: c.titles.getD k [])
def EF (ws:List Wk) : List Wk:=ws.filter fun w=>!decide (w.1 = .mark)
def B1 (c:Sc) (k:Nat) (n:Str) : List Wk:=(.plain,.str n) :: (EF (c.titles.getD k [])++[(.entry,.int k)])
def zK (c:Sc) (s:Ss) (lead:Int) (k:Nat) : List Str→Except Xc Ss
 | []=>.ok s
 | n :: r =>
  match cQ c s lead false (B1 c k n) with
  | .error x=>.error x
  | .ok s'=>zK c s' 1 (k+1) r
def gZ (c:Sc) (s:Ss) : Tg→Except Xc Ss
 | .page=>.ok { s with lp:=if s.lp < 3 then 3 else s.lp }
 | .odd=>.ok { s with lp:=if s.lp < 4 then 4 else s.lp }
 | .head _ _=>C8 c s s.hs.length
 | .lst=>zK c s 2 0 c.nums
 | .par ws=>cQ c s (if s.bh then 1 else 2) false ws
def je (c:Sc) : Ss→List Tg→Except Xc Ss
 | s,[]=>.ok s
 | s,t :: r =>
  match gZ c s t with
  | .error x=>.error x
  | .ok s'=>je c s' r
def fg (k:Kw) : Bool:=k = .number || k = .page || k = .row
def iy (s:Ss) (w:Wk) : Bool:=fg w.1 && (lkS (a9 w.2) s.ms).isNone
def dL (c:Sc) (s:Ss) : Option Xc:=
 if s.ms.any (fun m=>m.2=s.ws.length) then some .nomark
 else if (s.ws.map (·.w)++c.feet.flatMap (·.2)).any (iy s) then some .nomark
 else none
def fh (k:Nat) : Str→List (Str × Nat)→Str
 | n,[]=>n
 | n,(t,at_) :: r=>fh k (if at_≤k then t else n) r
def iO (s:Ss) (n:Str) : Nat:=(lkS n s.ms).getD 0
def o4 (s:Ss) (w:Wk) : DD:=
 match w.1 with
 | .plain=>.tup [.str "text",.str (a9 w.2)]
 | .entry=>.tup [.str "page",.int (match w.2 with | .int k=>((s.hs.getD k.toNat (Str.empty,0)).2:Nat) | _=>0)]
 | .number=>.tup [.str "text",.str (fh (iO s (a9 w.2)) "0" s.hs)]
 | k=>.tup [.str k.s,.int (iO s (a9 w.2))]
def bg:List Tg→List (Nat × List Wk)
 | []=>[]
 | .head n ws :: r=>(n,ws) :: bg r
 | _ :: r=>bg r
def ss0:Ss:=⟨0,[],[],[],0,false⟩

def fsR (sa fa ta:Addr) (g:Bool) : List (Str × V):=[("shorts",.ref sa),("feet",.ref fa),("things",.ref ta),("going_on",.bl g)]
section
variable {sa fa ta:Addr} {g:Bool}
theorem zL:List.lookup ("shorts" : Str) (fsR sa fa ta g)=some (.ref sa):=rfl
theorem tK:List.lookup ("feet" : Str) (fsR sa fa ta g)=some (.ref fa):=by
 have e:(("feet" : Str) == "shorts")=false:=by decide +kernel
 simp [fsR,List.lookup,e]
theorem o5:List.lookup ("things" : Str) (fsR sa fa ta g)=some (.ref ta):=by
 have e:(("things" : Str) == "shorts")=false:=by decide +kernel
 have e2:(("things" : Str) == "feet")=false:=by decide +kernel
 simp [fsR,List.lookup,e,e2]
theorem xl:List.lookup ("going_on" : Str) (fsR sa fa ta g)=some (.bl g):=by
 have e:(("going_on" : Str) == "shorts")=false:=by decide +kernel
 have e2:(("going_on" : Str) == "feet")=false:=by decide +kernel
 have e3:(("going_on" : Str) == "things")=false:=by decide +kernel
 simp [fsR,List.lookup,e,e2,e3]
theorem lK {m:Str} (h:((m == "shorts") || (m == "feet") || (m == "things") || (m == "going_on"))=false) : (fsR sa fa ta g).lookup m=none:=by
 simp only [Bool.or_eq_false_iff] at h
 simp [fsR,List.lookup,h.1.1.1,h.1.1.2,h.1.2,h.2]
theorem o6 {b:Bool} : bx "going_on" (.bl b) (fsR sa fa ta g)=fsR sa fa ta b:=by
 have e:¬ (("shorts" : Str) = "going_on"):=by decide +kernel
 have e2:¬ (("feet" : Str) = "going_on"):=by decide +kernel
 have e3:¬ (("things" : Str) = "going_on"):=by decide +kernel
 simp [fsR,bx,e,e2,e3]
theorem tL:(fsR sa fa ta g).length < 1000:=by show 4 < 1000; decide
end
theorem B2 {sa fa ta sa' fa' ta':Addr} {g g':Bool} (h:fsR sa fa ta g=fsR sa' fa' ta' g') : sa=sa'∧fa=fa'∧ta=ta'∧g=g':=by
 simpa [fsR] using h
structure RdA (C:Addr) (H0 H:Hp) (r:Addr) (s:Rs) : Prop where
 old:ao H0 H
 mid:∃ dx sa fa ta la kvs vs,H r=some (.ins C dx (fsR sa fa ta s.g))∧hid [r,fa,ta,la] H sa=some (.lst [])∧H fa=some (.dK kvs)∧H ta=some (.lst vs) ∧
  (H0 r=none∧H0 fa=none∧H0 ta=none∧H0 la=none)∧FtA (hid [r,fa,ta,la] H) kvs s.feet ∧
  ((s.g=false∧la=ta∧eP (hid [r,fa,ta,la] H) vs s.things) ∨
    (s.g=true∧la≠ta∧∃ vi a wvs ini ws,vs=vi++[.ref a]∧s.things=ini++[.par ws]∧hid [r,fa,ta,la] H a=some (.tup [.str "paragraph",.ref la])∧H la=some (.lst wvs)∧bW (hid [r,fa,ta,la] H) wvs ws∧eP (hid [r,fa,ta,la] H) vi ini))
theorem RdA.same {C:Addr} {H0 H H':Hp} {r:Addr} {s:Rs} (R:RdA C H0 H r s) (m:ao H H') : RdA C H0 H' r s:=by
 obtain ⟨old,dx,sa,fa,ta,la,kvs,vs,h1,h2,h3,h4,h5,h6,h7⟩:=R
 refine ⟨old.trans m,dx,sa,fa,ta,la,kvs,vs,m _ _ h1,bb m _ _ h2,m _ _ h3,m _ _ h4,h5,h6.mono (bb m),?_⟩
 rcases h7 with ⟨e1,e2,h⟩ | ⟨e1,e2,vi,a,wvs,ini,ws,q1,q2,q3,q4,q5,q6⟩
 ·exact .inl ⟨e1,e2,eP.mono (bb m) h⟩
 ·exact .inr ⟨e1,e2,vi,a,wvs,ini,ws,q1,q2,bb m _ _ q3,m _ _ q4,bW.mono (bb m) q5,eP.mono (bb m) q6⟩
theorem mJ {os:List Addr} {H:Hp} (n:∀ b ∈ os,∀ us,H b≠some (.tup us)) {vs:List V} {ws:List Wk} (h:bW H vs ws) : bW (hid os H) vs ws:=h.imp fun v w ⟨a,e,h⟩=>⟨a,e,a8 (fun c=>n a c _ h) h⟩
def TgN (F H:Hp) (v:V) : Tg→Prop
 | .page=>∃ a,v = .ref a∧H a=some (.tup [.str "page"])
 | .odd=>∃ a,v = .ref a∧H a=some (.tup [.str "odd"])
 | .lst=>∃ a,v = .ref a∧H a=some (.tup [.str "list"])
 | .head n ws=>∃ a l,v = .ref a∧H a=some (.tup [.str "head",.int n,.ref l])∧F l=none∧cg H l ws
 | .par ws=>∃ a l,v = .ref a∧H a=some (.tup [.str "paragraph",.ref l])∧F l=none∧cg H l ws
theorem TgN.hid {F H:Hp} {os:List Addr} {v:V} {t:Tg} (n:∀ b ∈ os,∀ us,H b≠some (.tup us)) (f:∀ b ∈ os,F b≠none) (h:TgN F H v t) : TgA (hid os H) v t:=by
 have ls:∀ {l:Addr} {ws:List Wk},F l=none→cg H l ws→cg (Tl.hid os H) l ws:=fun e ⟨vs,h1,h2⟩=>⟨vs,a8 (fun c=>f _ c e) h1,mJ n h2⟩
 cases t with
 | page=>obtain ⟨a,e,h⟩:=h; exact ⟨a,e,a8 (fun c=>n a c _ h) h⟩
 | odd=>obtain ⟨a,e,h⟩:=h; exact ⟨a,e,a8 (fun c=>n a c _ h) h⟩
 | lst=>obtain ⟨a,e,h⟩:=h; exact ⟨a,e,a8 (fun c=>n a c _ h) h⟩
 | head k ws=>obtain ⟨a,l,e,h,h1,h2⟩:=h; exact ⟨a,l,e,a8 (fun c=>n a c _ h) h,ls h1 h2⟩
 | par ws=>obtain ⟨a,l,e,h,h1,h2⟩:=h; exact ⟨a,l,e,a8 (fun c=>n a c _ h) h,ls h1 h2⟩
theorem fF {H:Hp} {a:Addr} {o:HO} (h:H a=some o) (n:∀ us,o≠.tup us) : ∀ us,H a≠some (.tup us):=fun us z=>by
 rw [h] at z
 exact n us (Option.some.inj z)
theorem qB {H:Hp} {a:Addr} {o:HO} (h:H a=some o) : H a≠none:=fun z=>by rw [h] at z; cases z
theorem RdA.use {C:Addr} {H0 H:Hp} {r:Addr} {s:Rs} (R:RdA C H0 H r s) : ∃ dx sa fa ta kvs vs,H r=some (.ins C dx (fsR sa fa ta s.g))∧H sa=some (.lst [])∧H fa=some (.dK kvs)∧H ta=some (.lst vs)∧vs.length=s.things.length∧kvs.length=s.feet.length∧(∀ n,lkS n s.feet=none→cN kvs (.inr n)=none) ∧
  (∀ H' v t,ao H H'→TgN H H' v t→RdA C H0 (upd (upd H' ta (.lst (vs++[v]))) r (.ins C dx (fsR sa fa ta false))) r { s with things:=s.things++[t],g:=false }) ∧
  (∀ H',ao H H'→RdA C H0 (upd H' r (.ins C dx (fsR sa fa ta false))) r { s with g:=false }) ∧
  (∀ H' n l ws,ao H H'→H l=none→cg H' l ws→RdA C H0 (upd H' fa (.dK (kvs++[(.inr n,.ref l)]))) r { s with feet:=s.feet++[(n,ws)] }) ∧
  (s.g=true→∃ vi a la wvs ini ws,vs=vi++[.ref a]∧H a=some (.tup [.str "paragraph",.ref la])∧H la=some (.lst wvs)∧s.things=ini++[.par ws]∧wvs.length=ws.length∧∀ H' us ws',ao H H'→bW H' us ws'→RdA C H0 (upd H' la (.lst (wvs++us))) r { s with things:=cp ws' s.things }) ∧
  (∀ H' a l ws,ao H H'→H' a=some (.tup [.str "paragraph",.ref l])→H l=none→cg H' l ws→RdA C H0 (upd (upd (upd H' ta (.lst (vs++[.ref a]))) r (.ins C dx (fsR sa fa ta false))) r (.ins C dx (fsR sa fa ta true))) r { s with things:=s.things++[.par ws],g:=true }) ∧
  FtA H kvs s.feet∧eP H vs s.things∧H0 fa=none∧H0 ta=none:=by
 obtain ⟨old,dx,sa,fa,ta,la,kvs,vs,h1,h2,h3,h4,h5,h6,h7⟩:=R
 have n1:r≠fa:=fun z=>by rw [z,h3] at h1; cases h1
 have n2:r≠ta:=fun z=>by rw [z,h4] at h1; cases h1
 have n3:fa≠ta:=fun z=>by rw [z,h4] at h3; cases h3
 have hla:∃ us,H la=some (.lst us):=by
  rcases h7 with ⟨e1,e2,h⟩ | ⟨e1,e2,vi,a,wvs,ini,ws,q1,q2,q3,q4,q5,q6⟩
  ·rw [e2]; exact ⟨_,h4⟩
  ·exact ⟨_,q4⟩
 obtain ⟨us0,hla⟩:=hla
 have n4:la≠r:=fun z=>by rw [z,h1] at hla; cases hla
 have n5:la≠fa:=fun z=>by rw [z,h3] at hla; cases hla
 have nt:∀ {H':Hp},ao H H'→∀ b ∈ [r,fa,ta,la],∀ us,H' b≠some (.tup us):=fun {H'} m b hb=>by
  simp only [List.mem_cons,List.not_mem_nil,or_false] at hb
  rcases hb with rfl | rfl | rfl | rfl
  ·exact fF (m _ _ h1) (fun us z=>by cases z)
  ·exact fF (m _ _ h3) (fun us z=>by cases z)
  ·exact fF (m _ _ h4) (fun us z=>by cases z)
  ·exact fF (m _ _ hla) (fun us z=>by cases z)
 have nn:∀ b ∈ [r,fa,ta,la],H b≠none:=fun b hb=>by
  simp only [List.mem_cons,List.not_mem_nil,or_false] at hb
  rcases hb with rfl | rfl | rfl | rfl
  ·exact qB h1
  ·exact qB h3
  ·exact qB h4
  ·exact qB hla
 have sub:∀ b ∈ [r,fa,ta,ta],b ∈ [r,fa,ta,la]:=fun b hb=>by
  simp only [List.mem_cons,List.not_mem_nil,or_false] at hb ⊢
  rcases hb with h | h | h | h <;> simp [h]
 have m0:∀ {H':Hp},ao H H'→ao (hid [r,fa,ta,la] H) (hid [r,fa,ta,ta] H'):=fun {H'} m b o z=>by
  obtain ⟨c,z⟩:=iN.mp z
  exact a8 (fun w=>c (sub b w)) (m _ _ z)
 have cl:∀ {H':Hp},ao H H'→eP (hid [r,fa,ta,ta] H') vs s.things:=fun {H'} m=>by
  rcases h7 with ⟨e1,e2,h⟩ | ⟨e1,e2,vi,a,wvs,ini,ws,q1,q2,q3,q4,q5,q6⟩
  ·exact eP.mono (m0 m) h
  ·rw [q1,q2]
   exact (eP.mono (m0 m) q6).snoc ⟨a,la,rfl,m0 m _ _ q3,wvs,a8 (by simp [n4,n5,e2]) (m _ _ q4),bW.mono (m0 m) q5⟩
 refine ⟨dx,sa,fa,ta,kvs,vs,h1,bJ _ _ h2,h3,h4,(cl (ao.refl _)).len,h6.len,fun n hn=>(h6.val).1 hn,?_,?_,?_,?_,?_,h6.mono bJ,eP.mono bJ (cl (ao.refl _)),h5.2.1,h5.2.2.1⟩
 ·intro H' v t m tn
  have e:hid [r,fa,ta,ta] (upd (upd H' ta (.lst (vs++[v]))) r (.ins C dx (fsR sa fa ta false)))=hid [r,fa,ta,ta] H':=by
   rw [bY (by simp),bY (by simp)]
  refine ⟨?_,dx,sa,fa,ta,ta,kvs,vs++[v],ae,?_,?_,?_,⟨h5.1,h5.2.1,h5.2.2.1,h5.2.2.1⟩,?_,.inl ⟨rfl,rfl,?_⟩⟩
  ·exact bn (bn (old.trans m) h5.2.2.1) h5.1
  ·rw [e]; exact m0 m _ _ h2
  ·rw [aj (Ne.symm n1),aj n3]; exact m _ _ h3
  ·rw [aj (Ne.symm n2)]; exact ae
  ·rw [e]; exact h6.mono (m0 m)
  ·rw [e]; exact (cl m).snoc (tn.hid (fun b hb=>nt m b (sub b hb)) (fun b hb=>nn b (sub b hb)))
 ·intro H' m
  have e:hid [r,fa,ta,ta] (upd H' r (.ins C dx (fsR sa fa ta false)))=hid [r,fa,ta,ta] H':=bY (by simp)
  refine ⟨bn (old.trans m) h5.1,dx,sa,fa,ta,ta,kvs,vs,ae,?_,?_,?_,⟨h5.1,h5.2.1,h5.2.2.1,h5.2.2.1⟩,?_,.inl ⟨rfl,rfl,?_⟩⟩
  ·rw [e]; exact m0 m _ _ h2
  ·rw [aj (Ne.symm n1)]; exact m _ _ h3
  ·rw [aj (Ne.symm n2)]; exact m _ _ h4
  ·rw [e]; exact h6.mono (m0 m)
  ·rw [e]; exact cl m
 ·intro H' n l ws m hl lw
  have e:hid [r,fa,ta,la] (upd H' fa (.dK (kvs++[(.inr n,.ref l)])))=hid [r,fa,ta,la] H':=bY (by simp)
  have hm:=bb (os:=[r,fa,ta,la]) m
  refine ⟨bn (old.trans m) h5.2.1,dx,sa,fa,ta,la,kvs++[(.inr n,.ref l)],vs,?_,?_,ae,?_,h5,?_,?_⟩
  ·rw [aj n1]; exact m _ _ h1
  ·rw [e]; exact hm _ _ h2
  ·rw [aj (Ne.symm n3)]; exact m _ _ h4
  ·rw [e]
   obtain ⟨us,l1,l2⟩:=lw
   exact (h6.mono hm).app ⟨rfl,l,rfl,us,a8 (fun c=>nn _ c hl) l1,mJ (nt m) l2⟩
  ·rw [e]
   rcases h7 with ⟨e1,e2,h⟩ | ⟨e1,e2,vi,a,wvs,ini,ws,q1,q2,q3,q4,q5,q6⟩
   ·exact .inl ⟨e1,e2,eP.mono hm h⟩
   ·exact .inr ⟨e1,e2,vi,a,wvs,ini,ws,q1,q2,hm _ _ q3,by rw [aj n5]; exact m _ _ q4,bW.mono hm q5,eP.mono hm q6⟩
 ·intro hg
  rcases h7 with ⟨e1,e2,h⟩ | ⟨e1,e2,vi,a,wvs,ini,ws,q1,q2,q3,q4,q5,q6⟩
  ·rw [hg] at e1; cases e1
  refine ⟨vi,a,la,wvs,ini,ws,q1,bJ _ _ q3,q4,q2,q5.len,fun H' us ws' m al=>?_⟩
  have e:hid [r,fa,ta,la] (upd H' la (.lst (wvs++us)))=hid [r,fa,ta,la] H':=bY (by simp)
  have hm:=bb (os:=[r,fa,ta,la]) m
  refine ⟨bn (old.trans m) h5.2.2.2,dx,sa,fa,ta,la,kvs,vs,?_,?_,?_,?_,h5,?_,.inr ⟨e1,e2,vi,a,wvs++us,ini,ws++ws',q1,?_,?_,ae,?_,?_⟩⟩
  ·rw [aj (Ne.symm n4)]; exact m _ _ h1
  ·rw [e]; exact hm _ _ h2
  ·rw [aj (Ne.symm n5)]; exact m _ _ h3
  ·rw [aj (Ne.symm e2)]; exact m _ _ h4
  ·rw [e]; exact h6.mono hm
  ·show cp ws' s.things=_
   rw [q2,qQ]
  ·rw [e]; exact hm _ _ q3
  ·rw [e]; exact (bW.mono hm q5).app (mJ (nt m) al)
  ·rw [e]; exact eP.mono hm q6
 ·intro H' a l ws m ha hl lw
  have lr:l≠r:=fun z=>by rw [z,h1] at hl; cases hl
  have lfa:l≠fa:=fun z=>by rw [z,h3] at hl; cases hl
  have lta:l≠ta:=fun z=>by rw [z,h4] at hl; cases hl
  have lla:l≠la:=fun z=>by rw [z,hla] at hl; cases hl
  obtain ⟨us,l1,l2⟩:=lw
  have nt':∀ b ∈ [r,fa,ta,l],∀ us,H' b≠some (.tup us):=fun b hb=>by
   simp only [List.mem_cons,List.not_mem_nil,or_false] at hb
   rcases hb with rfl | rfl | rfl | rfl
   ·exact fF (m _ _ h1) (fun us z=>by cases z)
   ·exact fF (m _ _ h3) (fun us z=>by cases z)
   ·exact fF (m _ _ h4) (fun us z=>by cases z)
   ·exact fF l1 (fun us z=>by cases z)
  have e:hid [r,fa,ta,l] (upd (upd (upd H' ta (.lst (vs++[.ref a]))) r (.ins C dx (fsR sa fa ta false))) r (.ins C dx (fsR sa fa ta true)))=hid [r,fa,ta,l] H':=by
   rw [bY (by simp),bY (by simp),bY (by simp)]
  have mm:ao (hid [r,fa,ta,ta] H) (hid [r,fa,ta,l] H'):=fun b o z=>by
   obtain ⟨c,z⟩:=iN.mp z
   refine a8 (fun w=>?_) (m _ _ z)
   simp only [List.mem_cons,List.not_mem_nil,or_false] at w c
   rcases w with w | w | w | w
   ·exact c (.inl w)
   ·exact c (.inr (.inl w))
   ·exact c (.inr (.inr (.inl w)))
   ·rw [w,hl] at z; cases z
  refine ⟨bn (bn (bn (old.trans m) h5.2.2.1) h5.1) h5.1,dx,sa,fa,ta,l,kvs,vs++[.ref a],ae,?_,?_,?_,⟨h5.1,h5.2.1,h5.2.2.1,old.free hl⟩,?_,.inr ⟨rfl,lta,vs,a,us,s.things,ws,rfl,rfl,?_,?_,?_,?_⟩⟩
  ·rw [e]; exact mm _ _ (m0 (ao.refl _) _ _ h2)
  ·rw [aj (Ne.symm n1),aj (Ne.symm n1),aj n3]; exact m _ _ h3
  ·rw [aj (Ne.symm n2),aj (Ne.symm n2)]; exact ae
  ·rw [e]; exact h6.mono ((m0 (ao.refl _)).trans mm)
  ·rw [e]; exact a8 (fun c=>nt' a c _ ha) ha
  ·rw [aj lr,aj lr,aj lta]; exact l1
  ·rw [e]; exact mJ nt' l2
  ·rw [e]; exact eP.mono mm (cl (ao.refl _))
def tgN:Tg→Nat
 | .head _ ws=>ws.length
 | .par ws=>ws.length
 | _=>0
def rwN:Rw→Nat
 | .foot _ ws=>ws.length
 | .head _ ws=>ws.length
 | .par ws=>ws.length
 | _=>0
def tgS (l:List Tg) : Nat:=(l.map tgN).sum
theorem v_ (ws:List Wk) : ∀ l:List Tg,tgS (cp ws l)=tgS l+ws.length∧(cp ws l).length≤l.length+1
 | []=>by simp [cp,tgS,tgN]
 | [t]=>by
  cases t <;> simp [cp,tgS,tgN]
 | t :: u :: r=>by
  have ih:=v_ ws (u :: r)
  have e:cp ws (t :: u :: r)=t :: cp ws (u :: r):=by cases t <;> rfl
  rw [e]
  unfold tgS at ih ⊢
  simp only [List.map_cons,List.sum_cons,List.length_cons] at ih ⊢
  omega
theorem B3 (s:Rs) (w:Rw) : tgS (bM s w).things≤tgS s.things+rwN w∧(bM s w).things.length≤s.things.length+1∧(bM s w).feet.length≤s.feet.length+1:=by
 have snoc:∀ (l:List Tg) (t:Tg),tgS (l++[t])=tgS l+tgN t:=fun l t=>by simp [tgS]
 cases w with
 | empty=>exact ⟨Nat.le_refl _,Nat.le_succ _,Nat.le_succ _⟩
 | foot n ws=>exact ⟨Nat.le_add_right _ _,Nat.le_succ _,by simp [bM]⟩
 | page=>simp [bM,snoc,tgN,rwN]
 | odd=>simp [bM,snoc,tgN,rwN]
 | lst=>simp [bM,snoc,tgN,rwN]
 | head n ws=>simp [bM,snoc,tgN,rwN]
 | par ws =>
  unfold bM
  by_cases g:s.g=true
  ·simp only [g,if_true]
   have:=v_ ws s.things
   exact ⟨by rw [this.1]; exact Nat.le_refl _,this.2,Nat.le_succ _⟩
  ·simp only [Bool.not_eq_true] at g
   simp [g,snoc,tgN,rwN]
theorem tM:∀ (l:List Rw) (s:Rs),tgS (bp s l).things≤tgS s.things+(l.map rwN).sum∧(bp s l).things.length≤s.things.length+l.length∧(bp s l).feet.length≤s.feet.length+l.length
 | [],s=>by simp [bp]
 | w :: l,s=>by
  have h:=B3 s w
  have ih:=tM l (bM s w)
  have e:bp s (w :: l)=bp (bM s w) l:=rfl
  rw [e]
  simp only [List.map_cons,List.sum_cons,List.length_cons]
  omega
theorem qR (f:Rw→Nat) : ∀ (l:List Rw) (k:Nat),((l.take k).map f).sum≤(l.map f).sum
 | [],k=>by simp
 | a :: l,0=>by simp
 | a :: l,k+1=>by
  have:=qR f l k
  simp only [List.take_succ_cons,List.map_cons,List.sum_cons]
  omega
def rs0:Rs:=⟨[],[],false⟩
theorem B4 {ini:List Tg} {ws:List Wk} : ws.length≤tgS (ini++[.par ws]):=by simp [tgS,tgN]
def FrX (H H':Hp) (x:Addr) : Prop:=∀ b u,b≠x→H b=some u→H' b=some u
theorem FrX.refl {H:Hp} {x:Addr} : FrX H H x:=fun _ _ _ h=>h
theorem FrX.same {H H1 H':Hp} {x:Addr} (f:FrX H H1 x) (s:ao H1 H') : FrX H H' x:=fun b u n h=>s _ _ (f b u n h)
theorem FrX.at {H H':Hp} {x:Addr} {o:HO} (f:FrX H H' x) : FrX H (upd H' x o) x:=fun b u n h=>by
 rw [aj n]
 exact f b u n h
theorem FrX.free {H H':Hp} {x p:Addr} {o:HO} (f:FrX H H' x) (hx:H' x=some o) (hp:H' p=none) : H p=none:=by
 cases z:H p with
 | none=>rfl
 | some u =>
  by_cases e:p=x
  ·rw [e,hx] at hp; cases hp
  ·rw [f p u e z] at hp; cases hp
theorem FrX.old {G H H':Hp} {x:Addr} (f:FrX H H' x) (s:ao G H) (hx:G x=none) : ao G H':=fun b u h=>f b u (fun z=>by rw [z,hx] at h; cases h) (s _ _ h)
end Tl

set_option maxHeartbeats 4000000

namespace Tl
open PySem PySem.Spec L2
structure Sad where
 x:Addr
 dx:Addr
 na:Addr
 ta:Addr
 fa:Addr
 wa:Addr
 ma:Addr
 ha:Addr
def Sad.os (A:Sad) : List Addr:=[A.x,A.wa,A.ma,A.ha]
def fsS (A:Sad) (fs lp:Int) (bh:Bool) : List (Str × V):=[("numbers",.ref A.na),("titles",.ref A.ta),("feet",.ref A.fa),("feet_set",.int fs),("words",.ref A.wa),("marks",.ref A.ma),("heads",.ref A.ha),("leap",.int lp),("behind_head",.bl bh)]
section
variable {A:Sad} {fs lp:Int} {bh:Bool}
theorem tN:List.lookup ("feet" : Str) (fsS A fs lp bh)=some (.ref A.fa):=by
 have e0:(("feet" : Str) == "numbers")=false:=by decide +kernel
 have e1:(("feet" : Str) == "titles")=false:=by decide +kernel
 simp [fsS,List.lookup,e0,e1]
theorem qS:List.lookup ("feet_set" : Str) (fsS A fs lp bh)=some (.int fs):=by
 have e0:(("feet_set" : Str) == "numbers")=false:=by decide +kernel
 have e1:(("feet_set" : Str) == "titles")=false:=by decide +kernel
 have e2:(("feet_set" : Str) == "feet")=false:=by decide +kernel
 simp [fsS,List.lookup,e0,e1,e2]
theorem i9:List.lookup ("words" : Str) (fsS A fs lp bh)=some (.ref A.wa):=by
 have e0:(("words" : Str) == "numbers")=false:=by decide +kernel
 have e1:(("words" : Str) == "titles")=false:=by decide +kernel
 have e2:(("words" : Str) == "feet")=false:=by decide +kernel
 have e3:(("words" : Str) == "feet_set")=false:=by decide +kernel
 simp [fsS,List.lookup,e0,e1,e2,e3]
theorem iD:List.lookup ("marks" : Str) (fsS A fs lp bh)=some (.ref A.ma):=by
 have e0:(("marks" : Str) == "numbers")=false:=by decide +kernel
 have e1:(("marks" : Str) == "titles")=false:=by decide +kernel
 have e2:(("marks" : Str) == "feet")=false:=by decide +kernel
 have e3:(("marks" : Str) == "feet_set")=false:=by decide +kernel
 have e4:(("marks" : Str) == "words")=false:=by decide +kernel
 simp [fsS,List.lookup,e0,e1,e2,e3,e4]
theorem rk:List.lookup ("heads" : Str) (fsS A fs lp bh)=some (.ref A.ha):=by
 have e0:(("heads" : Str) == "numbers")=false:=by decide +kernel
 have e1:(("heads" : Str) == "titles")=false:=by decide +kernel
 have e2:(("heads" : Str) == "feet")=false:=by decide +kernel
 have e3:(("heads" : Str) == "feet_set")=false:=by decide +kernel
 have e4:(("heads" : Str) == "words")=false:=by decide +kernel
 have e5:(("heads" : Str) == "marks")=false:=by decide +kernel
 simp [fsS,List.lookup,e0,e1,e2,e3,e4,e5]
theorem xK:List.lookup ("leap" : Str) (fsS A fs lp bh)=some (.int lp):=by
 have e0:(("leap" : Str) == "numbers")=false:=by decide +kernel
 have e1:(("leap" : Str) == "titles")=false:=by decide +kernel
 have e2:(("leap" : Str) == "feet")=false:=by decide +kernel
 have e3:(("leap" : Str) == "feet_set")=false:=by decide +kernel
 have e4:(("leap" : Str) == "words")=false:=by decide +kernel
 have e5:(("leap" : Str) == "marks")=false:=by decide +kernel
 have e6:(("leap" : Str) == "heads")=false:=by decide +kernel
 simp [fsS,List.lookup,e0,e1,e2,e3,e4,e5,e6]
theorem mK:List.lookup ("behind_head" : Str) (fsS A fs lp bh)=some (.bl bh):=by
 have e0:(("behind_head" : Str) == "numbers")=false:=by decide +kernel
 have e1:(("behind_head" : Str) == "titles")=false:=by decide +kernel
 have e2:(("behind_head" : Str) == "feet")=false:=by decide +kernel
 have e3:(("behind_head" : Str) == "feet_set")=false:=by decide +kernel
 have e4:(("behind_head" : Str) == "words")=false:=by decide +kernel
 have e5:(("behind_head" : Str) == "marks")=false:=by decide +kernel
 have e6:(("behind_head" : Str) == "heads")=false:=by decide +kernel
 have e7:(("behind_head" : Str) == "leap")=false:=by decide +kernel
 simp [fsS,List.lookup,e0,e1,e2,e3,e4,e5,e6,e7]
theorem uI {fs':Int} : bx "feet_set" (.int fs') (fsS A fs lp bh)=fsS A fs' lp bh:=by
 have e0:¬ (("numbers" : Str) = "feet_set"):=by decide +kernel
 have e1:¬ (("titles" : Str) = "feet_set"):=by decide +kernel
 have e2:¬ (("feet" : Str) = "feet_set"):=by decide +kernel
 simp [fsS,bx,e0,e1,e2]
theorem zM {lp':Int} : bx "leap" (.int lp') (fsS A fs lp bh)=fsS A fs lp' bh:=by
 have e0:¬ (("numbers" : Str) = "leap"):=by decide +kernel
 have e1:¬ (("titles" : Str) = "leap"):=by decide +kernel
 have e2:¬ (("feet" : Str) = "leap"):=by decide +kernel
 have e3:¬ (("feet_set" : Str) = "leap"):=by decide +kernel
 have e4:¬ (("words" : Str) = "leap"):=by decide +kernel
 have e5:¬ (("marks" : Str) = "leap"):=by decide +kernel
 have e6:¬ (("heads" : Str) = "leap"):=by decide +kernel
 simp [fsS,bx,e0,e1,e2,e3,e4,e5,e6]
theorem rm {bh':Bool} : bx "behind_head" (.bl bh') (fsS A fs lp bh)=fsS A fs lp bh':=by
 have e0:¬ (("numbers" : Str) = "behind_head"):=by decide +kernel
 have e1:¬ (("titles" : Str) = "behind_head"):=by decide +kernel
 have e2:¬ (("feet" : Str) = "behind_head"):=by decide +kernel
 have e3:¬ (("feet_set" : Str) = "behind_head"):=by decide +kernel
 have e4:¬ (("words" : Str) = "behind_head"):=by decide +kernel
 have e5:¬ (("marks" : Str) = "behind_head"):=by decide +kernel
 have e6:¬ (("heads" : Str) = "behind_head"):=by decide +kernel
 have e7:¬ (("leap" : Str) = "behind_head"):=by decide +kernel
 simp [fsS,bx,e0,e1,e2,e3,e4,e5,e6,e7]

theorem jZ {m:Str} (h:[("numbers" : Str),("titles" : Str),("feet" : Str),("feet_set" : Str),("words" : Str),("marks" : Str),("heads" : Str),("leap" : Str),("behind_head" : Str)].all (fun n=>!(m == n))=true) : (fsS A fs lp bh).lookup m=none:=by
 simp only [List.all_cons,List.all_nil,Bool.and_true,Bool.and_eq_true,Bool.not_eq_true'] at h
 obtain ⟨h1,h2,h3,h4,h5,h6,h7,h8,h9⟩:=h
 simp [fsS,List.lookup,h1,h2,h3,h4,h5,h6,h7,h8,h9]
theorem tO:(fsS A fs lp bh).length < 1000:=by show 9 < 1000; decide
end
theorem eC {n:Str} {v:V} : ∀ {l:List (Str × V)},(bx n v l).length≤l.length+1
 | []=>Nat.le_refl _
 | (m,x) :: r=>by
  by_cases e:m=n
  ·simp [bx,e]
  ·have:=eC (n:=n) (v:=v) (l:=r)
   simp [bx,e]
   exact this
theorem g9 {n:Str} {v:V} : ∀ {l:List (Str × V)},(l.map Prod.fst).all (fun m=>m != n)=true→bx n v l=l++[(n,v)]
 | [],_=>rfl
 | (m,x) :: r,h=>by
  rw [List.map_cons,List.all_cons,Bool.and_eq_true] at h
  have e:¬ (m=n):=by simpa using h.1
  have ih:=g9 (n:=n) (v:=v) h.2
  simp [bx,e] at ih ⊢
  exact ih
theorem B5 (A:Sad) : (bx "behind_head" (.bl false) (bx "leap" (.int 0) (bx "heads" (.ref A.ha) (bx "marks" (.ref A.ma) (bx "words" (.ref A.wa) (bx "feet_set" (.int 0) (bx "feet" (.ref A.fa) (bx "titles" (.ref A.ta) (bx "numbers" (.ref A.na) [])))))))))=fsS A 0 0 false:=by
 rw [show bx "numbers" (.ref A.na) []=([("numbers",.ref A.na)] : List (Str × V)) from rfl]
 rw [g9 (n := "titles") (by show (["numbers"] : List Str).all (fun m=>m != "titles")=true; decide +kernel)]
 rw [g9 (n := "feet") (by show (["numbers","titles"] : List Str).all (fun m=>m != "feet")=true; decide +kernel)]
 rw [g9 (n := "feet_set") (by show (["numbers","titles","feet"] : List Str).all (fun m=>m != "feet_set")=true; decide +kernel)]
 rw [g9 (n := "words") (by show (["numbers","titles","feet","feet_set"] : List Str).all (fun m=>m != "words")=true; decide +kernel)]
 rw [g9 (n := "marks") (by show (["numbers","titles","feet","feet_set","words"] : List Str).all (fun m=>m != "marks")=true; decide +kernel)]
 rw [g9 (n := "heads") (by show (["numbers","titles","feet","feet_set","words","marks"] : List Str).all (fun m=>m != "heads")=true; decide +kernel)]
 rw [g9 (n := "leap") (by show (["numbers","titles","feet","feet_set","words","marks","heads"] : List Str).all (fun m=>m != "leap")=true; decide +kernel)]
 rw [g9 (n := "behind_head") (by show (["numbers","titles","feet","feet_set","words","marks","heads","leap"] : List Str).all (fun m=>m != "behind_head")=true; decide +kernel)]
 rfl
def WtA (F:Hp) (v:V) (t:Wt) : Prop:=∃ a w f,v = .ref a∧F a=some (.tup [.int t.lead,.bl t.kept,.ref w,.ref f])∧WkA F (.ref w) t.w∧cg F f t.foot
def HdA (F:Hp) (v:V) (h:Str × Nat) : Prop:=∃ a,v = .ref a∧F a=some (.tup [.str h.1,.int (h.2:Int)])
def TlA (F:Hp) (v:V) (ws:List Wk) : Prop:=∃ l,v = .ref l∧cg F l ws
def mkV (ms:List (Str × Nat)) : List (Key × V):=ms.map fun m=>(.inr m.1,.int (m.2:Int))
theorem i_ {n:Str} : ∀ ms:List (Str × Nat),cN (mkV ms) (.inr n)=(lkS n ms).map fun (k:Nat)=>V.int (k:Int)
 | []=>rfl
 | (m,k) :: r=>by
  have ih:=i_ (n:=n) r
  by_cases c:m=n
  ·subst c
   have e:lkS m ((m,k) :: r)=some k:=by unfold lkS; simp
   rw [e]
   unfold mkV
   rw [List.map_cons,mT rfl]
   rfl
  ·have e:lkS n ((m,k) :: r)=lkS n r:=by
    show (if m=n then some k else lkS n r)=lkS n r
    exact if_neg c
   rw [e,← ih]
   unfold mkV
   rw [List.map_cons,dQ (fun z=>c (by injection z))]
theorem A1 (ms:List (Str × Nat)) (n:Str) (k:Nat) : mkV (ms++[(n,k)])=mkV ms++[(.inr n,.int (k:Int))]:=by simp [mkV]
theorem tP (ms:List (Str × Nat)) : (mkV ms).length=ms.length:=by unfold mkV; rw [List.length_map]
theorem WtA.mono {F F':Hp} (s:ao F F') {v:V} {t:Wt} (h:WtA F v t) : WtA F' v t:=by
 obtain ⟨a,w,f,e,h1,h2,h3⟩:=h
 exact ⟨a,w,f,e,s _ _ h1,h2.mono s,h3.mono s⟩
theorem HdA.mono {F F':Hp} (s:ao F F') {v:V} {h:Str × Nat} (z:HdA F v h) : HdA F' v h:=by
 obtain ⟨a,e,h1⟩:=z
 exact ⟨a,e,s _ _ h1⟩
structure ScA (G:Hp) (A:Sad) (c:Sc) : Prop where
 nums:G A.na=some (.lst (c.nums.map V.str))
 titles:∃ tvs,G A.ta=some (.lst tvs)∧aR (TlA G) tvs c.titles
 feet:∃ kvs,G A.fa=some (.dK kvs)∧FtA G kvs c.feet
structure StA (C:Addr) (G H:Hp) (A:Sad) (c:Sc) (σ:Ss) : Prop where
 old:ao G H
 ins:H A.x=some (.ins C A.dx (fsS A (σ.fs:Int) σ.lp σ.bh))
 cl:ScA G A c
 fr:∀ b ∈ A.os,G b=none
 ne:A.wa≠A.ha
 words:∃ wvs,H A.wa=some (.lst wvs)∧aR (WtA (hid A.os H)) wvs σ.ws
 marks:H A.ma=some (.dK (mkV σ.ms))
 heads:∃ hvs,H A.ha=some (.lst hvs)∧aR (HdA (hid A.os H)) hvs σ.hs
section
variable {C:Addr} {G H H':Hp} {A:Sad} {c:Sc} {σ:Ss}
theorem StA.same (S:StA C G H A c σ) (m:ao H H') : StA C G H' A c σ:=by
 obtain ⟨w1,w2,w3⟩:=S.words
 obtain ⟨h1,h2,h3⟩:=S.heads
 exact ⟨S.old.trans m,m _ _ S.ins,S.cl,S.fr,S.ne,⟨w1,m _ _ w2,w3.imp fun _ _=>WtA.mono (bb m)⟩,m _ _ S.marks,⟨h1,m _ _ h2,h3.imp fun _ _=>HdA.mono (bb m)⟩⟩
theorem StA.nt (S:StA C G H A c σ) : ∀ b ∈ A.os,∀ us,H b≠some (.tup us):=fun b hb=>by
 obtain ⟨w1,w2,w3⟩:=S.words
 obtain ⟨h1,h2,h3⟩:=S.heads
 simp only [Sad.os,List.mem_cons,List.not_mem_nil,or_false] at hb
 rcases hb with rfl | rfl | rfl | rfl
 ·exact fF S.ins (fun us z=>by cases z)
 ·exact fF w2 (fun us z=>by cases z)
 ·exact fF S.marks (fun us z=>by cases z)
 ·exact fF h2 (fun us z=>by cases z)
theorem StA.nes (S:StA C G H A c σ) : A.x≠A.wa∧A.x≠A.ma∧A.x≠A.ha∧A.wa≠A.ma∧A.ma≠A.ha:=by
 obtain ⟨w1,w2,w3⟩:=S.words
 obtain ⟨h1,h2,h3⟩:=S.heads
 have i:=S.ins
 have k:=S.marks
 refine ⟨fun z=>?_,fun z=>?_,fun z=>?_,fun z=>?_,fun z=>?_⟩
 ·rw [z,w2] at i; cases i
 ·rw [z,k] at i; cases i
 ·rw [z,h2] at i; cases i
 ·rw [z,k] at w2; cases w2
 ·rw [z,h2] at k; cases k
theorem A2:A.x ∈ A.os:=by simp [Sad.os]
theorem Bs:A.wa ∈ A.os:=by simp [Sad.os]
theorem va:A.ma ∈ A.os:=by simp [Sad.os]
theorem D5:A.ha ∈ A.os:=by simp [Sad.os]
theorem StA.flds (S:StA C G H A c σ) (fs':Nat) (lp':Int) (bh':Bool) : StA C G (upd H A.x (.ins C A.dx (fsS A (fs':Int) lp' bh'))) A c { σ with fs:=fs',lp:=lp',bh:=bh' }:=by
 obtain ⟨w1,w2,w3⟩:=S.words
 obtain ⟨h1,h2,h3⟩:=S.heads
 obtain ⟨n1,n2,n3,n4,n5⟩:=S.nes
 have e:hid A.os (upd H A.x (.ins C A.dx (fsS A (fs':Int) lp' bh')))=hid A.os H:=bY A2
 refine ⟨bn S.old (S.fr _ A2),ae,S.cl,S.fr,S.ne,⟨w1,?_,?_⟩,?_,⟨h1,?_,?_⟩⟩
 ·rw [aj (Ne.symm n1)]; exact w2
 ·rw [e]; exact w3
 ·rw [aj (Ne.symm n2)]; exact S.marks
 ·rw [aj (Ne.symm n3)]; exact h2
 ·rw [e]; exact h3
theorem StA.mark (S:StA C G H A c σ) (n:Str) (k:Nat) : StA C G (upd H A.ma (.dK (mkV (σ.ms++[(n,k)])))) A c { σ with ms:=σ.ms++[(n,k)] }:=by
 obtain ⟨w1,w2,w3⟩:=S.words
 obtain ⟨h1,h2,h3⟩:=S.heads
 obtain ⟨n1,n2,n3,n4,n5⟩:=S.nes
 have e:hid A.os (upd H A.ma (.dK (mkV (σ.ms++[(n,k)]))))=hid A.os H:=bY va
 refine ⟨bn S.old (S.fr _ va),?_,S.cl,S.fr,S.ne,⟨w1,?_,?_⟩,ae,⟨h1,?_,?_⟩⟩
 ·rw [aj n2]; exact S.ins
 ·rw [aj n4]; exact w2
 ·rw [e]; exact w3
 ·rw [aj (Ne.symm n5)]; exact h2
 ·rw [e]; exact h3
theorem B6 {os:List Addr} (nt:∀ b ∈ os,∀ us,H b≠some (.tup us)) {l:Addr} {ws:List Wk} (n:l ∉ os) (h:cg H l ws) : cg (hid os H) l ws:=by
 obtain ⟨vs,h1,h2⟩:=h
 exact ⟨vs,a8 n h1,mJ nt h2⟩
theorem xL {os:List Addr} (nt:∀ b ∈ os,∀ us,H b≠some (.tup us)) {a:Addr} {us:List V} (h:H a=some (.tup us)) : hid os H a=some (.tup us):=a8 (fun z=>nt a z us h) h
theorem StA.word (S:StA C G H A c σ) {wvs:List V} (hw:H A.wa=some (.lst wvs)) {v:V} {t:Wt} {a w f:Addr} (e1:v = .ref a) (h1:H a=some (.tup [.int t.lead,.bl t.kept,.ref w,.ref f])) (h2:WkA H (.ref w) t.w) (h3:cg H f t.foot) (n1:f≠A.wa) (n2:f≠A.ha) : StA C G (upd H A.wa (.lst (wvs++[v]))) A c { σ with ws:=σ.ws++[t] }:=by
 obtain ⟨w1,w2,w3⟩:=S.words
 obtain ⟨hv,hh2,hh3⟩:=S.heads
 obtain ⟨m1,m2,m3,m4,m5⟩:=S.nes
 rw [hw] at w2
 injection w2 with w2
 injection w2 with w2
 subst w2
 have e:hid A.os (upd H A.wa (.lst (wvs++[v])))=hid A.os H:=bY Bs
 have nf:f ∉ A.os:=fun z=>by
  obtain ⟨fv,hf,_⟩:=h3
  simp only [Sad.os,List.mem_cons,List.not_mem_nil,or_false] at z
  rcases z with z | z | z | z
  ·rw [z,S.ins] at hf; cases hf
  ·exact n1 z
  ·rw [z,S.marks] at hf; cases hf
  ·exact n2 z
 refine ⟨bn S.old (S.fr _ Bs),?_,S.cl,S.fr,S.ne,⟨wvs++[v],ae,?_⟩,?_,⟨hv,?_,?_⟩⟩
 ·rw [aj m1]; exact S.ins
 ·rw [e]
  obtain ⟨b,z1,z2⟩:=h2
  exact w3.snoc ⟨a,w,f,e1,xL S.nt h1,⟨b,z1,xL S.nt z2⟩,B6 S.nt nf h3⟩
 ·rw [aj (Ne.symm m4)]; exact S.marks
 ·rw [aj (Ne.symm S.ne)]; exact hh2
 ·rw [e]; exact hh3
theorem StA.fresh (S:StA C G H A c σ) {p:Addr} (hp:H p=none) : p ∉ A.os:=fun z=>by
 obtain ⟨w1,w2,w3⟩:=S.words
 obtain ⟨h1,h2,h3⟩:=S.heads
 simp only [Sad.os,List.mem_cons,List.not_mem_nil,or_false] at z
 rcases z with rfl | rfl | rfl | rfl
 ·rw [S.ins] at hp; cases hp
 ·rw [w2] at hp; cases hp
 ·rw [S.marks] at hp; cases hp
 ·rw [h2] at hp; cases hp
end
theorem jT {β:Type} {n:Str} {v:β} : ∀ {l:List (Str × β)},lkS n l=some v→(n,v) ∈ l
 | [],h=>by cases h
 | (m,k) :: r,h=>by
  by_cases c:m=n
  ·have e:lkS n ((m,k) :: r)=some k:=if_pos c
   rw [e] at h
   cases h
   rw [c]
   exact List.mem_cons_self
  ·have e:lkS n ((m,k) :: r)=lkS n r:=if_neg c
   rw [e] at h
   exact List.mem_cons_of_mem _ (jT h)
def rn (tw nf tl nm:Addr) : Xc→Addr
 | .twice=>tw
 | .nofoot=>nf
 | .toolong=>tl
 | .nomark=>nm
structure Bd (σ:Ss) (n:Nat) : Prop where
 ws:σ.ws.length≤400
 fs:σ.fs≤σ.ws.length
 ms:σ.ms.length+n≤1000000
theorem wc {σ σ':Ss} {ld:Int} {w:Wk} {f:List Wk} (h:iu σ ld w f = .ok σ') : σ.ws.length≠400∧σ'.ws.length=σ.ws.length+1∧σ'.fs=σ.fs∧σ'.ms=σ.ms∧σ'.hs=σ.hs:=by
 unfold iu at h
 by_cases c:σ.ws.length=400
 ·rw [if_pos c] at h; cases h
 ·rw [if_neg c] at h; cases h; exact ⟨c,by simp,rfl,rfl,rfl⟩
theorem zN {c:Sc} {σ σ':Ss} {ld:Int} {w:Wk} (h:cB c σ ld w = .ok σ') : σ.ws.length≠400∧σ'.ws.length=σ.ws.length+1∧σ'.fs≤σ.fs+1∧σ'.ms=σ.ms:=by
 unfold cB at h
 by_cases k:w.1 = .foot
 ·rw [if_pos k] at h
  unfold gv at h
  cases hv:lkS (a9 w.2) c.feet with
  | none=>rw [hv] at h; cases h
  | some g =>
   rw [hv] at h
   obtain ⟨h1,h2,h3,h4,h5⟩:=wc h
   exact ⟨h1,h2,by rw [h3]; exact Nat.le_refl _,h4⟩
 ·rw [if_neg k] at h
  obtain ⟨h1,h2,h3,h4,h5⟩:=wc h
  exact ⟨h1,h2,by rw [h3]; exact Nat.le_succ _,h4⟩
def GWk (w:Wk) : Prop:=(w.1≠.entry∧∃ n:List Nat,n.length≤200∧(∀ d ∈ n,d < 127)∧w.2 = .str (tx n))∨(w.1 = .entry∧∃ k:Nat,w.2 = .int (k:Int))
structure tQ (c:Sc) : Prop where
 few:c.nums.length≤200
 tl:c.titles.length=c.nums.length
 tw:∀ t ∈ c.titles,t.length≤130∧∀ w ∈ t,GWk w
 fl:c.feet.length≤200
 fw:∀ p ∈ c.feet,p.2.length≤39∧∀ w ∈ p.2,GWk w∧w.1≠.mark∧w.1≠.foot
 nl:∀ n ∈ c.nums,∃ l:List Nat,n=tx l∧l.length≤100
 nc:∀ l:List Nat,tx l ∈ c.nums→∀ d ∈ l,d < 127
def o7 (c:Sc) (w:Wk) : Prop:=(w.1 = .plain∧∃ n:List Nat,w.2 = .str (tx n))∨(w.1 = .entry∧∃ k:Nat,w.2 = .int (k:Int)∧k < c.nums.length)∨(fg w.1=true∧∃ n:List Nat,n.length≤200∧(∀ d ∈ n,d < 127)∧w.2 = .str (tx n))
structure rp (c:Sc) (σ:Ss) : Prop where
 ws:∀ t ∈ σ.ws,o7 c t.w∧t.foot.length≤40∧∀ w ∈ t.foot,o7 c w∧(w.1 = .plain∨∃ p ∈ c.feet,w ∈ p.2)
 ms:∀ m ∈ σ.ms,∃ l:List Nat,m.1=tx l∧l.length≤200∧∀ d ∈ l,d < 127
theorem FtA.get {F:Hp} : ∀ {vs:List (Key × V)} {ws:List (Str × List Wk)} {i:Nat} {p:Key × V},FtA F vs ws→vs[i]? = some p→∃ q,ws[i]? = some q∧FtE F p q
 | v :: _,w :: _,0,x,h,e=>by cases e; exact ⟨w,rfl,h.1⟩
 | _ :: _,_ :: _,i+1,x,h,e=>FtA.get (i:=i) h.2 (by simpa using e)
 | [],[],_,_,_,e=>by simp at e
theorem zO {H:Hp} {a:Addr} {o o':HO} : upd (upd H a o) a o' = upd H a o':=by
 funext b
 by_cases e:b=a
 ·subst e; rw [ae,ae]
 ·rw [aj e,aj e,aj e]
theorem A3 {H:Hp} {a:Addr} {o:HO} (h:H a=some o) : upd H a o=H:=by
 funext b
 by_cases e:b=a
 ·subst e; rw [ae,h]
 ·rw [aj e]
theorem zP {H H2:Hp} {a:Addr} {o:Obj} {kvs:List (Key × V)} (h:H a=some (.dK kvs)) (s:ao (upd H a (.frz o (.dK kvs))) H2) : ao H (upd H2 a (.dK kvs)):=fun b u z=>by
 by_cases e:b=a
 ·subst e
  rw [ae]
  rw [h] at z
  exact z
 ·rw [aj e]
  exact s _ _ (by rw [aj e]; exact z)
theorem D6 (k:Kw) : inV (.str k.s) [.str (PySem.Str.ofString "number"),.str (PySem.Str.ofString "page"),.str (PySem.Str.ofString "row")]=fg k:=by
 cases k <;> decide +kernel
def iP (s:Ss) (w:Wk) : V × V:=
 match w.1 with
 | .plain=>(.str "text",.str (a9 w.2))
 | .entry=>(.str "page",.int (match w.2 with | .int k=>((s.hs.getD k.toNat (Str.empty,0)).2:Nat) | _=>0))
 | .number=>(.str "text",.str (fh (iO s (a9 w.2)) "0" s.hs))
 | k=>(.str k.s,.int (iO s (a9 w.2) : Nat))
def SyA (F:Hp) (v:V) (s:V × V) : Prop:=∃ a,v = .ref a∧F a=some (.tup [s.1,s.2])
theorem SyA.mono {F F':Hp} (m:ao F F') {v:V} {s:V × V} (h:SyA F v s) : SyA F' v s:=by
 obtain ⟨a,e,h⟩:=h
 exact ⟨a,e,m _ _ h⟩
def TwA (σ:Ss) (F:Hp) (v:V) (t:Wt × Addr) : Prop:=∃ a s us,v = .ref a∧F a=some (.tup [.int t.1.lead,.bl t.1.kept,.ref s,.ref t.2])∧SyA F (.ref s) (iP σ t.1.w)∧F t.2=some (.lst us)∧aR (SyA F) us (t.1.foot.map (iP σ))
theorem TwA.mono {σ:Ss} {F F':Hp} (m:ao F F') {v:V} {t:Wt × Addr} (h:TwA σ F v t) : TwA σ F' v t:=by
 obtain ⟨a,s,us,e,h1,h2,h3,h4⟩:=h
 exact ⟨a,s,us,e,m _ _ h1,h2.mono m,m _ _ h3,h4.imp fun _ _=>SyA.mono m⟩
def fi (σ:Ss) (w:Wk) : Prop:=(w.1 = .plain∧∃ n:List Nat,w.2 = .str (tx n))∨(w.1 = .entry∧∃ k:Nat,w.2 = .int (k:Int)∧k < σ.hs.length)∨(fg w.1=true∧∃ (n:List Nat) (k:Nat),w.2 = .str (tx n)∧lkS (tx n) σ.ms=some k)
def sS (σ:Ss) : Prop:=∀ t ∈ σ.ws,fi σ t.w∧t.foot.length≤40∧∀ w ∈ t.foot,fi σ w
structure lq (H F:Hp) (σ:Ss) (p:Addr) (vs:List V) (fs:List Addr) : Prop where
 at_:F p=some (.lst vs)
 new:H p=none
 len:fs.length=σ.ws.length
 nd:fs.Nodup
 fr:∀ f ∈ fs,H f=none∧f≠p
 all:aR (TwA σ (hid [p] F)) vs (σ.ws.zip fs)
theorem ftX {F F':Hp} (m:∀ l ws,cg F l ws→cg F' l ws) : ∀ {vs:List (Key × V)} {ws:List (Str × List Wk)},FtA F vs ws→FtA F' vs ws
 | [],[],_=>trivial
 | _ :: _,_ :: _,⟨⟨h1,l,h2,h3⟩,h⟩=>⟨⟨h1,l,h2,m _ _ h3⟩,ftX m h⟩
theorem FrX.get {H H':Hp} {x b:Addr} {u:HO} (f:FrX H H' x) (h:H b=some u) (n:b≠x) : H' b=some u:=f b u n h
def RnW (c:Sc) (w:Wk) : Prop:=GWk w∧(w.1 = .entry→∃ k:Nat,w.2 = .int (k:Int)∧k < c.nums.length)
theorem RnW.ws {c:Sc} {w:Wk} (h:RnW c w) (n1:w.1≠.mark) (n2:w.1≠.foot) : o7 c w:=by
 obtain ⟨g,en⟩:=h
 rcases g with ⟨ne,n,l1,l2,e⟩ | ⟨e,_⟩
 ·cases hk:w.1 with
  | plain=>exact .inl ⟨hk,n,e⟩
  | entry=>exact absurd hk ne
  | mark=>exact absurd hk n1
  | foot=>exact absurd hk n2
  | number=>exact .inr (.inr ⟨by rw [hk]; rfl,n,l1,l2,e⟩)
  | page=>exact .inr (.inr ⟨by rw [hk]; rfl,n,l1,l2,e⟩)
  | row=>exact .inr (.inr ⟨by rw [hk]; rfl,n,l1,l2,e⟩)
 ·exact .inr (.inl ⟨e,en e⟩)
structure wd (c:Sc) : Prop where
 fw:∀ p ∈ c.feet,p.2.length≤39∧∀ w ∈ p.2,o7 c w
structure StB (c:Sc) (σ σ':Ss) (n:Nat) : Prop where
 ok:rp c σ→rp c σ'
 ms:σ'.ms.length≤σ.ms.length+n
 ws:σ.ws.length≤400→σ'.ws.length≤400
 fs:σ.fs≤σ.ws.length→σ'.fs≤σ'.ws.length
theorem StB.refl {c:Sc} {σ:Ss} {n:Nat} : StB c σ σ n:=⟨id,Nat.le_add_right _ _,id,id⟩
theorem StB.trans {c:Sc} {σ σ1 σ2:Ss} {n m:Nat} (a:StB c σ σ1 n) (b:StB c σ1 σ2 m) : StB c σ σ2 (n+m):=⟨fun h=>b.ok (a.ok h),by have:=a.ms; have:=b.ms; omega,fun h=>b.ws (a.ws h),fun h=>b.fs (a.fs h)⟩
theorem StB.more {c:Sc} {σ σ1:Ss} {n m:Nat} (a:StB c σ σ1 n) (h:n≤m) : StB c σ σ1 m:=⟨a.ok,by have:=a.ms; omega,a.ws,a.fs⟩
theorem xM {c:Sc} {σ σ':Ss} {ld:Int} {w:Wk} {f:List Wk} (h:iu σ ld w f = .ok σ') (hw:o7 c w) (hf:f.length≤40∧∀ w ∈ f,o7 c w∧(w.1 = .plain∨∃ p ∈ c.feet,w ∈ p.2)) : (rp c σ→rp c σ')∧σ'.ms=σ.ms∧σ'.hs=σ.hs∧σ'.fs=σ.fs∧σ'.ws.length=σ.ws.length+1∧σ.ws.length≠400:=by
 unfold iu at h
 by_cases e:σ.ws.length=400
 ·rw [if_pos e] at h; cases h
 ·rw [if_neg e] at h
  cases h
  refine ⟨fun s=>⟨?_,s.ms⟩,rfl,rfl,rfl,by simp,e⟩
  intro t ht
  rcases List.mem_append.mp ht with ht | ht
  ·exact s.ws t ht
  ·rw [List.mem_singleton.mp ht]
   exact ⟨hw,hf⟩
theorem A4 {c:Sc} (fo:wd c) {σ σ':Ss} {ld:Int} {w:Wk} (h:cB c σ ld w = .ok σ') (hw:RnW c w) (nm:w.1≠.mark) : StB c σ σ' 0∧σ'.hs=σ.hs:=by
 unfold cB at h
 by_cases k:w.1 = .foot
 ·rw [if_pos k] at h
  unfold gv at h
  cases hv:lkS (a9 w.2) c.feet with
  | none=>rw [hv] at h; cases h
  | some g =>
   rw [hv] at h
   have gm:=fo.fw _ (jT hv)
   have pl:o7 c (.plain,.str (gu (σ.fs+1))):=.inl ⟨rfl,(gu (σ.fs+1)).cps.toList,by rw [← u9]⟩
   obtain ⟨h1,h2,h3,h4,h5,h6⟩:=xM (c:=c) h pl ⟨by simp only [List.length_cons]; have:=gm.1; dsimp only at this; omega,fun x hx=>by
    rcases List.mem_cons.mp hx with rfl | hx
    ·exact ⟨pl,.inl rfl⟩
    ·exact ⟨gm.2 x hx,.inr ⟨_,jT hv,hx⟩⟩⟩
   refine ⟨⟨fun s=>h1 ⟨s.ws,s.ms⟩,by rw [h2]; exact Nat.le_refl _,fun z=>?_,fun z=>?_⟩,h3⟩
   ·have:σ.ws.length≠400:=h6
    have:σ'.ws.length=σ.ws.length+1:=h5
    omega
   ·have:σ'.ws.length=σ.ws.length+1:=h5
    have:σ'.fs=σ.fs+1:=h4
    omega
 ·rw [if_neg k] at h
  obtain ⟨h1,h2,h3,h4,h5,h6⟩:=xM (c:=c) h (hw.ws nm k) ⟨by simp,by simp⟩
  exact ⟨⟨h1,by rw [h2]; exact Nat.le_refl _,fun z=>by omega,fun z=>by omega⟩,h3⟩
theorem sT {c:Sc} {σ:Ss} {ld:Int} {byh:Bool} {w:Wk} {r:List Wk} : cQ c σ ld byh (w :: r)=(if w.1 = .mark then (match eQ σ (a9 w.2) with | .error x=>.error x | .ok s'=>cQ c s' ld byh r) else (match cB c σ ld w with | .error x=>.error x | .ok s'=>cQ c { s' with bh:=byh } 0 byh r)):=rfl
theorem tR {c:Sc} (fo:wd c) {byh:Bool} : ∀ {ws:List Wk} {σ σ':Ss} {ld:Int},(∀ w ∈ ws,RnW c w)→cQ c σ ld byh ws = .ok σ'→StB c σ σ' ws.length∧σ'.hs=σ.hs
 | [],σ,σ',ld,_,h=>by cases h; exact ⟨.refl,rfl⟩
 | w :: r,σ,σ',ld,hw,h=>by
  rw [sT] at h
  have hr:∀ x ∈ r,RnW c x:=fun x hx=>hw x (List.mem_cons_of_mem _ hx)
  have h0:=hw w List.mem_cons_self
  by_cases k:w.1 = .mark
  ·rw [if_pos k] at h
   cases e:eQ σ (a9 w.2) with
   | error x=>rw [e] at h; cases h
   | ok s' =>
    rw [e] at h
    obtain ⟨b,hs⟩:=tR fo hr h
    unfold eQ at e
    by_cases z:(lkS (a9 w.2) σ.ms).isSome=true
    ·rw [if_pos z] at e; cases e
    ·rw [if_neg z] at e
     cases e
     have b0:StB c σ { σ with ms:=σ.ms++[(a9 w.2,σ.ws.length)] } 1:=⟨fun s=>⟨s.ws,fun m hm=>by
      rcases List.mem_append.mp hm with hm | hm
      ·exact s.ms m hm
      ·rw [List.mem_singleton.mp hm]
       rcases h0.1 with ⟨_,n,l1,l2,e⟩ | ⟨e,_⟩
       ·exact ⟨n,by rw [e]; rfl,l1,l2⟩
       ·rw [k] at e; cases e⟩,by simp,id,id⟩
     exact ⟨(b0.trans b).more (by simp only [List.length_cons]; omega),hs⟩
  ·rw [if_neg k] at h
   cases e:cB c σ ld w with
   | error x=>rw [e] at h; cases h
   | ok s' =>
    rw [e] at h
    obtain ⟨b1,h1⟩:=A4 fo e h0 k
    obtain ⟨b2,h2⟩:=tR fo hr h
    have b3:StB c s' { s' with bh:=byh } 0:=⟨fun s=>⟨s.ws,s.ms⟩,Nat.le_refl _,id,id⟩
    exact ⟨((b1.trans b3).trans b2).more (by simp only [List.length_cons]; omega),h2.trans h1⟩
def RdW (w:Wk) : Prop:=GWk w∧w.1≠.entry
def TgG:Tg→Prop
 | .head n ws=>1≤n∧n≤3∧ws.length≤130∧∀ w ∈ ws,RdW w
 | .par ws=>ws.length≤600∧∀ w ∈ ws,RdW w
 | _=>True
def FtG (feet:List (Str × List Wk)) : Prop:=feet.length≤200∧∀ p ∈ feet,p.2.length≤39∧∀ w ∈ p.2,RdW w∧w.1≠.mark∧w.1≠.foot
def iQ (c:Sc) (things:List Tg) : Except Xc Ss:=
 match je c ss0 things with
 | .error e=>.error e
 | .ok σ=>match dL c σ with
  | some e=>.error e
  | none=>.ok σ
theorem RdW.run {c:Sc} {w:Wk} (h:RdW w) : RnW c w:=⟨h.1,fun z=>absurd z h.2⟩
def wj:Tg→Nat
 | .head _ _=>1
 | _=>0
theorem C9 {c:Sc} {σ:Ss} (ss:rp c σ) (fo:wd c) (hl:σ.hs.length=c.nums.length) (ck:dL c σ=none) : sS σ:=by
 have nb:∀ w ∈ σ.ws.map (·.w)++c.feet.flatMap (·.2),iy σ w=false:=by
  unfold dL at ck
  by_cases a:(σ.ms.any fun m=>m.2=σ.ws.length)=true
  ·rw [if_pos a] at ck; cases ck
  rw [if_neg a] at ck
  by_cases b:((σ.ws.map (·.w)++c.feet.flatMap (·.2)).any (iy σ))=true
  ·rw [if_pos b] at ck; cases ck
  rw [Bool.not_eq_true,List.any_eq_false] at b
  intro w hw
  exact Bool.eq_false_iff.mpr (b w hw)
 have one:∀ w,o7 c w→(fg w.1=true→iy σ w=false)→fi σ w:=fun w h z=>by
  rcases h with h | ⟨h,k,e,kl⟩ | ⟨h,n,l1,l2,e⟩
  ·exact .inl h
  ·exact .inr (.inl ⟨h,k,e,by rw [hl]; exact kl⟩)
  ·have z:=z h
   unfold iy at z
   rw [h,e] at z
   change (true && (lkS (tx n) σ.ms).isNone)=false at z
   cases hv:lkS (tx n) σ.ms with
   | none=>rw [hv] at z; cases z
   | some k=>exact .inr (.inr ⟨h,n,k,e,hv⟩)
 intro t ht
 obtain ⟨h1,h2,h3⟩:=ss.ws t ht
 refine ⟨one _ h1 fun _=>nb _ (List.mem_append_left _ (List.mem_map_of_mem ht)),h2,fun w hw=>one _ (h3 w hw).1 fun z=>?_⟩
 rcases (h3 w hw).2 with e | ⟨p,hp,hw⟩
 ·rw [e] at z; cases z
 ·exact nb _ (List.mem_append_right _ (List.mem_flatMap.mpr ⟨p,hp,hw⟩))
theorem lq.base {G H F:Hp} {σ:Ss} {p:Addr} {vs:List V} {fs:List Addr} (T:lq H F σ p vs fs) (s:ao G H) : lq G F σ p vs fs:=⟨T.at_,s.free T.new,T.len,T.nd,fun f hf=>⟨s.free (T.fr f hf).1,(T.fr f hf).2⟩,T.all⟩
theorem lq.same {H F F':Hp} {σ:Ss} {p:Addr} {vs:List V} {fs:List Addr} (T:lq H F σ p vs fs) (s:ao F F') : lq H F' σ p vs fs:=⟨s _ _ T.at_,T.new,T.len,T.nd,T.fr,T.all.imp fun _ _=>TwA.mono (bb s)⟩
end Tl

namespace L2
open PySem PySem.Spec PyProof.Rows Tl
theorem A5 {X:Cx} {K:PySem.W.Frag} {tg l:Expr} {tl:TE} (hK:X.K=K) (hl:PE X l tl) : PI X tg l (Bm K tl):=by
 subst hK
 exact a7 hl
theorem mZ {K:PySem.W.Frag} {a:Addr} {xs:List V} {cv:St} {tc:TT} {te:TE} {Fin:List V→Hp→Prop} {H1:Hp} (Pv:Nat→List V→Hp→Prop) (h0:Pv 0 [] H1) (hl:∀ i ys H,i≤xs.length→Pv i ys H→SqL K H a xs) (hz:∀ i ys H,i < xs.length→Pv i ys H→ys.length < sizeLine)
  (hs:∀ i x ys H,xs[i]? = some x→Pv i ys H→∃ b u v,x = .ref b∧SqT K H b [u,v]∧tc (some u :: some v :: cv) H fun b H3=>if b=true then te (some u :: some v :: cv) H3 fun y H4=>Pv (i+1) (ys++[y]) H4 else Pv (i+1) ys H3)
  (hd:∀ ys H,Pv xs.length ys H→Fin ys H) : gLC (Itl K a) (g2 K) tc te 2 cv Fin H1:=by
 refine ⟨fun i m ys H=>m=xs.length - i∧i≤xs.length∧Pv i ys H,⟨xs.length,by simp,Nat.zero_le _,h0⟩,?_⟩
 rintro i m ys H ⟨rfl,hi,p⟩
 have q:=hl i ys H hi p
 by_cases hlt:i < xs.length
 ·refine .inr ⟨⟨xs,xs[i],q,by simp [hlt]⟩,hz i ys H hlt p,Pv (i+1),fun ys' H' p'=>⟨xs.length - (i+1),by omega,rfl,hlt,p'⟩,fun v H' y own ho=>?_⟩
  obtain ⟨e,y⟩:=y
  subst e
  obtain ⟨b,u,w,rfl,hb,h⟩:=hs i v ys _ (y xs q) p
  match own,ho with
  | [o1,o2],_=>exact ⟨b,_,rfl,hb,rfl,_,_,rfl,_,_,rfl,rfl,⟨[some u,some w],rfl,rfl⟩,h⟩
 ·have e:i=xs.length:=by omega
  subst e
  exact .inl ⟨⟨xs,q,Nat.le_refl _⟩,hd ys H p⟩
section
variable {X:Cx} {elt iter:Expr} {ifs:List Expr} {scope:Scope} {cl:List (Str × Addr)} {pos px py pz' tp:Pos} {k1:Nat} {x y z:Str} {caps:List Str} {js:List Nat} {tc:TT} {te:TE} {wi:TI}
def g3 (K:PySem.W.Frag) : TG:=As K 3 (qw (bv 0) (qw (bv 1) (qw (bv 2) Ar)))
theorem C_ (hc:X.calm=true) (L:mV X scope cl [x,y,z] caps js) (hi:PI X (.Tuple [.Name x px,.Name y py,.Name z pz'] k1 tp) iter wi)
  (ht:∀ s H C ex,PTs (X.blk (x :: y :: z :: caps) s H scope cl C ex) ifs tc) (he:∀ s H C ex,PE (X.blk (x :: y :: z :: caps) s H scope cl C ex) elt te)
  (hN:(x :: y :: z :: caps).Nodup:=by decide +kernel) (hx:(relabel scope X.env).names.lookup x=some .local:=by with_unfolding_all rfl) (hy:(relabel scope X.env).names.lookup y=some .local:=by with_unfolding_all rfl) (hz:(relabel scope X.env).names.lookup z=some .local:=by with_unfolding_all rfl)
  (hs:∀ x,foldedSetIterable iter X.env x=pure x:=by intro _; rfl) : PE X (.ListComp elt [⟨.Tuple [.Name x px,.Name y py,.Name z pz'] k1 tp,iter,ifs,0⟩] scope pos) (tG wi (g3 X.K) tc te 3 js):=
 vR (own:=[x,y,z]) (g:=g3 X.K) hc L hi (fun s H C ex=>d8 hc (a6 (aM (i:=0) hN rfl (.inl hx) (.inr hx)) (a6 (aM (i:=1) hN rfl (.inl hy) (.inr hy)) (a6 (aM (i:=2) hN rfl (.inl hz) (.inr hz)) dw)))) ht he hs
end
theorem Da {X:Cx} {elt iter:Expr} {ifs:List Expr} {scope:Scope} {cl:List (Str × Addr)} {pos px py tp:Pos} {k1:Nat} {x y:Str} {caps:List Str} {js:List Nat} {tc:TT} {te:TE} {wi:TI} {k:Nat} {v:Str} {pv' spos:Pos} (hc:X.calm=true) (L:mV X scope cl [x,y] caps js) (hi:PI X (.Tuple [.Name x px,.Name y py] k1 tp) iter wi)
  (ht:∀ s H C ex,PTs (X.blk (x :: y :: caps) s H scope cl C ex) ifs tc) (he:∀ s H C ex,PE (X.blk (x :: y :: caps) s H scope cl C ex) elt te)
  (hXN:X.N.Nodup) (hk:X.N[k]? = some v) (hv:X.env.scope.names.lookup v=some .local) (hN:(x :: y :: caps).Nodup:=by decide +kernel) (hx:(relabel scope X.env).names.lookup x=some .local:=by with_unfolding_all rfl) (hy:(relabel scope X.env).names.lookup y=some .local:=by with_unfolding_all rfl)
  (hsw:swapsWith (.ListComp elt [⟨.Tuple [.Name x px,.Name y py] k1 tp,iter,ifs,0⟩] scope pos) (some (.Name v pv')) spos.line X.env=pure true:=by rfl)
  (hs:∀ x,foldedSetIterable iter X.env x=pure x:=by intro _; rfl) : PS X (.Assign [.Name v pv'] (.ListComp elt [⟨.Tuple [.Name x px,.Name y py] k1 tp,iter,ifs,0⟩] scope pos) spos) (qV (tG wi (g2 X.K) tc te 2 js) (bv k)):=
 zp (own:=[x,y]) (g:=g2 X.K) hc L hi (fun s H C ex=>d8 hc (a6 (aM (i:=0) hN rfl (.inl hx) (.inr hx)) (a6 (aM (i:=1) hN rfl (.inl hy) (.inr hy)) dw))) ht he hXN hk hv hsw hs
theorem A6 {K:PySem.W.Frag} {a:Addr} {xs:List V} {cv:St} {tc:TT} {te:TE} {Fin:List V→Hp→Prop} {H1:Hp} (Pv:Nat→List V→Hp→Prop) (h0:Pv 0 [] H1) (hl:∀ i ys H,i≤xs.length→Pv i ys H→SqL K H a xs) (hz:∀ i ys H,i < xs.length→Pv i ys H→ys.length < sizeLine)
  (hs:∀ i x ys H,xs[i]? = some x→Pv i ys H→∃ b u v w,x = .ref b∧SqT K H b [u,v,w]∧tc (some u :: some v :: some w :: cv) H fun b H3=>if b=true then te (some u :: some v :: some w :: cv) H3 fun y H4=>Pv (i+1) (ys++[y]) H4 else Pv (i+1) ys H3)
  (hd:∀ ys H,Pv xs.length ys H→Fin ys H) : gLC (Itl K a) (g3 K) tc te 3 cv Fin H1:=by
 refine ⟨fun i m ys H=>m=xs.length - i∧i≤xs.length∧Pv i ys H,⟨xs.length,by simp,Nat.zero_le _,h0⟩,?_⟩
 rintro i m ys H ⟨rfl,hi,p⟩
 have q:=hl i ys H hi p
 by_cases hlt:i < xs.length
 ·refine .inr ⟨⟨xs,xs[i],q,by simp [hlt]⟩,hz i ys H hlt p,Pv (i+1),fun ys' H' p'=>⟨xs.length - (i+1),by omega,rfl,hlt,p'⟩,fun v H' y own ho=>?_⟩
  obtain ⟨e,y⟩:=y
  subst e
  obtain ⟨b,u,w,z,rfl,hb,h⟩:=hs i v ys _ (y xs q) p
  match own,ho with
  | [o1,o2,o3],_=>exact ⟨b,_,rfl,hb,rfl,_,_,rfl,_,_,rfl,_,_,rfl,rfl,⟨[some u,some w,some z],rfl,rfl⟩,h⟩
 ·have e:i=xs.length:=by omega
  subst e
  exact .inl ⟨⟨xs,q,Nat.le_refl _⟩,hd ys H p⟩
def isK (k:Int) : V→Bool
 | .int i=>i == k
 | _=>false
def ym (k:Int) : Value→Bool
 | .int i _=>i == k
 | _=>false
def zQ (K:PySem.W.Frag) : V→List V→Hp→VK→Prop:=fun x vs H Q=>∃ l k xs,x = .ref l∧vs=[.int k]∧H l=some (.lst xs)∧(∀ v ∈ xs,(∃ i,v = .int i)∨∃ a ys,v = .ref a∧SqT K H a ys)∧Q (.int ((xs.countP (isK k) : Nat) : Int)) H
theorem ur {k:Int} : ∀ {xs:List V} {us:List Value},aU xs us→(∀ v ∈ xs,(∃ i,v = .int i)∨∃ a,v = .ref a)→us.countP (ym k)=xs.countP (isK k)
 | _,_,.nil,_=>rfl
 | x :: _,u :: _,.cons r t,h=>by
  rw [List.countP_cons,List.countP_cons,ur t fun v hv=>h v (List.mem_cons_of_mem _ hv)]
  have:ym k u=isK k x:=by
   rcases h x List.mem_cons_self with ⟨i,rfl⟩ | ⟨a,rfl⟩
   ·obtain ⟨t,rfl⟩:=r
    rfl
   ·cases r
    rfl
  rw [this]
theorem A7 {X:Cx} (hu:X.A.units+1 < cLine) : MtM X "list.count" (zQ X.K):=by
 intro pins s σ H x vs v us Q I rx rv h
 obtain ⟨l,k,xs,rfl,rfl,hH,hk,q⟩:=h
 cases rx
 obtain ⟨u,rfl,t,rfl⟩:=rv.one
 obtain ⟨z,its,n,r,hl,e⟩:=I.lstM hH
 have eq:∀ y ∈ its.toArray,SeqAt.EqAt X.A.in1 s y (.int k t) (ym k y):=fun y hy=>by
  have hy:y ∈ its:=by simpa using hy
  obtain ⟨m,hm,e⟩:=List.getElem_of_mem hy
  have hx:m < xs.length:=by rw [hl]; exact hm
  obtain ⟨u',hu',ru'⟩:=r.get (List.getElem?_eq_getElem hx)
  rw [List.getElem?_eq_getElem hm,e] at hu'
  cases hu'
  rcases hk _ (List.getElem_mem hx) with ⟨i,ei⟩ | ⟨a,ys,ei,hs⟩
  ·rw [ei] at ru'
   obtain ⟨t',rfl⟩:=ru'
   exact SeqAt.EqAt.int_int i t' k t
  ·rw [ei] at ru'
   cases ru'
   obtain ⟨its',r',p,_⟩:=I.tuple hs
   exact SeqAt.EqAt.tuple_int (items:=its'.toArray) k t p hu
 refine call_meets F.slot_list_count ⟨_,e,rfl⟩ F.entry_list_count (F.args_list_count_2 _ _) (SeqAt.list_countAt l its.toArray n none #[] (.int k t) (ym k)) ⟨e,eq,?_⟩
 refine ⟨.int ((xs.countP (isK k) : Nat) : Int),H,I.tok _,?_,q⟩
 rw [← ur (k:=k) r fun v hv=>(hk v hv).imp id fun ⟨a,_,e,_⟩=>⟨a,e⟩]
 exact ⟨_,rfl⟩
theorem Db {X:Cx} {K:PySem.W.Frag} {o e:Expr} {es:List Expr} {to:TE} {t:TA} {name:Str} {apos cpos:Pos} {T id:String} {r:V→List V→Hp→VK→Prop} (hK:X.K=K) (pa:PlainAttrs T) (slot:Slot T name id) (hty:typeOf (.builtin id)=pure (.type "method_descriptor")) (hm:MtR X id r) (ho:PE X o to) (ha:PA X (e :: es) t)
  (hbase:attributeBase o name X.env (eval o X.env)=eval o X.env:=by rfl)
  (hfew:((backTo cpos (starEach (e :: es) X.env)).all (fun x=>!x.1) && (backToKw cpos (keywordEach [] X.env)).all (fun x=>x.1.isSome)
   && decide ((e :: es).length+([] : List Keyword).length+(if ([] : List Keyword).isEmpty then 0 else 1) < 30))=true:=by rfl)
  (hline:(apos.endLine == cpos.line)=true:=by rfl) (hs:starEach (e :: es) X.env=(false,eval e X.env) :: starEach es X.env:=by rfl) (hplain:(backTo cpos (starEach es X.env)).any (·.1)=false:=by rfl) :
  PE X (.Call (.Attribute o name apos) (e :: es) [] cpos) (tBM K T r to t):=by
 subst hK
 exact cH pa slot hty hm ho ha hbase hfew hline hs hplain
theorem zR {X:Cx} {K:PySem.W.Frag} (hK:X.K=K) (hu:X.A.units+1 < cLine) : MtM X "list.count" (zQ K):=by
 subst hK
 exact A7 hu
end L2

namespace K60
open PySem PySem.Spec L2 Tl

def neW (ps:List (List Nat)) : List (List Nat):=ps.filter fun w=>!w.isEmpty
def cC (l:List Nat) : List (List Nat):=neW (bc 32 l)
theorem sU (c:Nat) : ∀ l:List Nat,((bc c l).map (·.length)).sum+(bc c l).length=l.length+1
 | []=>rfl
 | x :: r=>by
  have ih:=sU c r
  rw [fH]
  by_cases hx:x=c
  ·rw [if_pos hx,List.map_cons,List.sum_cons,List.length_cons,List.length_cons]
   simp only [List.length_nil]
   omega
  ·rw [if_neg hx]
   cases e:bc c r with
   | nil=>exact absurd e (um c r)
   | cons q qs =>
    rw [e] at ih
    simp only [List.map_cons,List.sum_cons,List.length_cons] at ih ⊢
    omega
theorem j0 {ls:List (List Nat)} {i:Nat} {y:V} (h:((ls.map tx).map V.str)[i]? = some y) : ∃ w,ls[i]? = some w∧y=V.str (tx w):=by
 rw [List.getElem?_map,List.getElem?_map] at h
 cases e:ls[i]? with
 | none=>rw [e] at h; cases h
 | some w=>rw [e] at h; exact ⟨w,rfl,(Option.some.inj h).symm⟩
theorem A8 (ps:List (List Nat)) (w:List Nat) : neW (ps++[w])=if w=[] then neW ps else neW ps++[w]:=by
 unfold neW
 rw [List.filter_append]
 cases w with
 | nil=>simp
 | cons a r=>simp

def isL (c:Nat) : Bool:=decide (97≤c∧c≤122)
def isF (c:Nat) : Bool:=decide (48≤c∧c≤57)
def LL:List Nat:=[97,98,99,100,101,102,103,104,105,106,107,108,109,110,111,112,113,114,115,116,117,118,119,120,121,122]
def FF:List Nat:=[48,49,50,51,52,53,54,55,56,57]
theorem EG:(PySem.Str.ofString "abcdefghijklmnopqrstuvwxyz")=tx LL:=by decide +kernel
theorem EH:(PySem.Str.ofString "0123456789")=tx FF:=by decide +kernel
theorem D7:(PySem.Str.ofString "abcdefghijklmnopqrstuvwxyz0123456789")=tx (LL++FF):=by decide +kernel
theorem zS (c:Nat) : decide (c ∈ LL)=isL c:=by
 by_cases h:c < 123
 ·have:∀ c < 123,decide (c ∈ LL)=isL c:=by decide +kernel
  exact this c h
 ·have h1:c ∉ LL:=fun hm=>h ((show ∀ x ∈ LL,x < 123 by decide) c hm)
  unfold isL
  rw [decide_eq_false h1,decide_eq_false (by omega)]
theorem zT (c:Nat) : decide (c ∈ FF)=isF c:=by
 by_cases h:c < 123
 ·have:∀ c < 123,decide (c ∈ FF)=isF c:=by decide +kernel
  exact this c h
 ·have h1:c ∉ FF:=fun hm=>h ((show ∀ x ∈ FF,x < 123 by decide) c hm)
  unfold isF
  rw [decide_eq_false h1,decide_eq_false (by omega)]
theorem zU (c:Nat) : (!(Builtin.Str.occurrences (PySem.Str.ofString "abcdefghijklmnopqrstuvwxyz") ⟨#[c]⟩ 0 (PySem.Str.ofString "abcdefghijklmnopqrstuvwxyz").length 1).isEmpty)=isL c:=by rw [EG,sI,zS]
theorem zV (c:Nat) : (!(Builtin.Str.occurrences (PySem.Str.ofString "0123456789") ⟨#[c]⟩ 0 (PySem.Str.ofString "0123456789").length 1).isEmpty)=isF c:=by rw [EH,sI,zT]
theorem B7 (c:Nat) : (!(Builtin.Str.occurrences (PySem.Str.ofString "abcdefghijklmnopqrstuvwxyz0123456789") ⟨#[c]⟩ 0 (PySem.Str.ofString "abcdefghijklmnopqrstuvwxyz0123456789").length 1).isEmpty)=(isL c || isF c):=by
 rw [D7,sI,← zS,← zT]
 by_cases h1:c ∈ LL
 ·rw [decide_eq_true (List.mem_append_left _ h1),decide_eq_true h1]; rfl
 ·by_cases h2:c ∈ FF
  ·rw [decide_eq_true (List.mem_append_right _ h2),decide_eq_true h2,Bool.or_true]
  ·rw [decide_eq_false h1,decide_eq_false h2,decide_eq_false (fun h=>(List.mem_append.mp h).elim h1 h2)]; rfl
theorem B8 {c:Nat} (h:isL c=true) : isF c=false:=by
 unfold isL at h
 have:=of_decide_eq_true h
 exact decide_eq_false (by omega)
def bE:List Nat→Bool
 | []=>false
 | c :: r=>decide ((c :: r).length≤12) && (isL c && (c :: r).all fun d=>isL d || isF d)
theorem ut {c:Nat} {r:List Nat} (h:¬ (c :: r).length≤12) : bE (c :: r)=false:=by
 show (decide _ && _)=false
 rw [decide_eq_false h,Bool.false_and]
theorem m_ {c:Nat} {r:List Nat} (h:(c :: r).length≤12) : bE (c :: r)=(isL c && (c :: r).all fun d=>isL d || isF d):=by
 show (decide _ && _)=_
 rw [decide_eq_true h,Bool.true_and]
theorem ce:(PySem.Str.ofString "")=tx []:=by decide +kernel
theorem wq (c:Nat) (r:List Nat) : decide (V.str (tx (c :: r))=V.str (PySem.Str.ofString ""))=false:=by
 refine decide_eq_false fun h=>?_
 have h2:=V.str.inj h
 rw [ce] at h2
 have h3:=ik h2
 cases h3
theorem wt:decide (V.str (tx [])=V.str (PySem.Str.ofString ""))=true:=decide_eq_true (by rw [ce])
theorem EI (c:Nat) (r:List Nat) : Txt.slice (tx (c :: r)) none (some 1)=tx [c]:=by
 rw [show (some (1:Int))=some ((1:Nat) : Int) from rfl,eB,cut_to]; rfl
theorem EJ (c:Nat) (r:List Nat) : Txt.slice (tx (c :: r)) (some 1) none=tx r:=by
 rw [show (some (1:Int))=some ((1:Nat) : Int) from rfl,eB,cut_from]; rfl
theorem c33:(PySem.Str.ofString "!")=tx [33]:=by decide +kernel
theorem D8 (c:Nat) : decide (V.str (tx [c])=V.str (PySem.Str.ofString "!"))=decide (c=33):=by
 rw [c33]
 by_cases h:c=33
 ·subst h; rw [decide_eq_true rfl,decide_eq_true rfl]
 ·rw [decide_eq_false h]
  refine decide_eq_false fun e=>h ?_
  have:=ik (V.str.inj e)
  simpa using this
theorem Dc (l:List Nat) (f:Nat→Bool) : ((l.map f).all id)=l.all f:=by rw [List.all_map]; rfl

def opn:List Nat→Bool
 | c :: r=>decide (c=91) && bE r
 | []=>false
section
variable {cn:Option Nat} {w:List Nat} {t:List (List Nat)} {m:Nat}
end
theorem cz {s:Str} {l:List Nat} (h:s=tx l) (w:List Nat) : decide (V.str (tx w)=V.str s)=decide (w=l):=by
 rw [h]
 by_cases e:w=l
 ·rw [decide_eq_true e,e]; exact decide_eq_true rfl
 ·rw [decide_eq_false e]
  exact decide_eq_false fun z=>e (ik (V.str.inj z))
theorem c91:(PySem.Str.ofString "[")=tx [91]:=by decide +kernel
theorem EK:(PySem.Str.ofString "|")=tx C3:=by decide +kernel
theorem Dd:(PySem.Str.ofString "]")=tx C4:=by decide +kernel
def NdA (F:Hp) (v:V) (t:List Nat) : Prop:=∃ b,v = .ref b∧F b=some (.tup [.str "word",.str (tx t)])
theorem NdA.mono {F F':Hp} (s:ao F F') {v:V} {t:List Nat} (h:NdA F v t) : NdA F' v t:=by
 obtain ⟨b,e,h⟩:=h
 exact ⟨b,e,s _ _ h⟩
theorem NdsA.mono {F F':Hp} (s:ao F F') {vs:List V} {ts:List (List Nat)} (h:aR (NdA F) vs ts) : aR (NdA F') vs ts:=h.imp fun _ _=>NdA.mono s
theorem aP {α:Type} {l:List α} {i:Nat} {x:α} (h:l[i]? = some x) : l.take (i+1)=l.take i++[x]:=by
 obtain ⟨hi,e⟩:=List.getElem?_eq_some_iff.mp h
 rw [List.take_add_one,h]
 rfl

def jM:List (Key × V):=[(.inr (PySem.Str.ofString "#"),.str (PySem.Str.ofString "mark")),(.inr (PySem.Str.ofString "@"),.str (PySem.Str.ofString "number")),(.inr (PySem.Str.ofString "&"),.str (PySem.Str.ofString "page")),(.inr (PySem.Str.ofString "^"),.str (PySem.Str.ofString "row")),(.inr (PySem.Str.ofString "~"),.str (PySem.Str.ofString "foot"))]
inductive mL (w:World) : List DictEntry→List (Key × V)→Prop
 | nil:mL w [] []
 | cons {e:DictEntry} {k:Key} {v:V} {es:List DictEntry} {kvs:List (Key × V)} : k_ k e.key=true→e.hash=Cn w k→aZ v e.val→mL w es kvs→mL w (e :: es) ((k,v) :: kvs)
def wu (w:World) (es:Array DictEntry) (kvs:List (Key × V)) : Prop:=mL w es.toList kvs∧(kvs.map (·.1)).Nodup
theorem zW {P:Program} {w:World} {es:List DictEntry} {kvs:List (Key × V)} (h:mL w es kvs) : ∃ vs,KV kvs vs∧Pairs (bf P w) es vs∧vs.map (·.1)=kvs.map (·.1)∧∀ e ∈ es,∃ k,(bf P w).is k e.key=true∧e.hash=(bf P w).hash k:=by
 induction h with
 | nil=>exact ⟨[],.nil,.nil,rfl,fun e he=>nomatch he⟩
 | @cons e k v es kvs h1 h2 h3 _ ih =>
  obtain ⟨vs,a,b,c,d⟩:=ih
  refine ⟨(k,e.val) :: vs,.cons ⟨rfl,h3⟩ a,.cons h1 rfl b,by rw [List.map_cons,List.map_cons,c],fun x hx=>?_⟩
  rcases List.mem_cons.mp hx with rfl | hx
  ·exact ⟨k,h1,h2⟩
  ·exact d x hx
theorem xN {P:Program} {w:World} {K:PySem.W.Frag} {a:Addr} {oc:Value} {od:Option Addr} {es:Array DictEntry} {ep:Nat} {sl:Array (Option Value)} {kvs:List (Key × V)} (b:(a == sysModules)=false)
  (l:K.lookup a=some ⟨oc,od,.dict es ep,sl⟩) (c:(⟨oc,od,.dict es ep,sl⟩ : Obj).ExactDict) (e:wu w es kvs) : tJ P w K a kvs:=by
 obtain ⟨vs,h1,h2,h3,h4⟩:=zW (P:=P) e.1
 exact ⟨b,_,vs,l,h1,es,ep,c,rfl,fun x hx=>h4 x (by simpa using hx),h2,by rw [h3]; exact e.2⟩
def mk (c:Nat) : Option String:=if c=35 then some "mark" else if c=64 then some "number" else if c=38 then some "page" else if c=94 then some "row" else if c=126 then some "foot" else none
def jN:List Nat→String × List Nat
 | []=>("plain",[])
 | c :: r=>match mk c,bE r with
  | some s,true=>(s,r)
  | _,_=>if c=33∧r≠[] then ("plain",r) else ("plain",c :: r)
theorem A9 (c:Nat) (h:mk c=none) : cN jM (.inr ⟨#[c]⟩)=none:=by
 unfold mk at h
 split at h
 ·cases h
 split at h
 ·cases h
 split at h
 ·cases h
 split at h
 ·cases h
 split at h
 ·cases h
 rename_i h1 h2 h3 h4 h5
 have key:∀ d:Nat,c≠d→¬ ((Sum.inr (tx [d]) : Key)=Sum.inr (tx [c])):=fun d hd e=>hd (by
  have e2:=ik (Sum.inr.inj e)
  have e3:d=c:=by simpa using e2
  exact e3.symm)
 unfold jM
 rw [show (PySem.Str.ofString "#")=tx [35] by decide +kernel,show (PySem.Str.ofString "@")=tx [64] by decide +kernel,show (PySem.Str.ofString "&")=tx [38] by decide +kernel,show (PySem.Str.ofString "^")=tx [94] by decide +kernel,show (PySem.Str.ofString "~")=tx [126] by decide +kernel]
 show cN _ (Sum.inr (tx [c]))=none
 rw [dQ (key 35 h1),dQ (key 64 h2),dQ (key 38 h3),dQ (key 94 h4),dQ (key 126 h5)]
 rfl
theorem A_ (c:Nat) (s:String) (h:mk c=some s) : cN jM (.inr ⟨#[c]⟩)=some (.str (PySem.Str.ofString s)):=by
 have hc:c=35∨c=64∨c=38∨c=94∨c=126:=by
  unfold mk at h
  split at h
  ·omega
  split at h
  ·omega
  split at h
  ·omega
  split at h
  ·omega
  split at h
  ·omega
  cases h
 rcases hc with rfl | rfl | rfl | rfl | rfl
 all_goals
  have e:=Option.some.inj h
  subst e
  decide +kernel

def plL (c:Nat) (r:List Nat) : Kw × List Nat:=if c=33∧r≠[] then (.plain,r) else (.plain,c :: r)
def kwC (c:Nat) (r:List Nat) : Kw × List Nat:=if bE r=true then (if c=35 then (.mark,r) else if c=64 then (.number,r) else if c=38 then (.page,r) else if c=94 then (.row,r) else if c=126 then (.foot,r) else plL c r) else plL c r
def kwL:List Nat→Kw × List Nat
 | []=>(.plain,[])
 | c :: r=>kwC c r
theorem B9:∀ t:List Nat,PySem.Str.ofString (jN t).1=(kwL t).1.s∧(jN t).2=(kwL t).2
 | []=>⟨rfl,rfl⟩
 | c :: r=>by
  have pl:∀ q:String × List Nat,q=(if c=33∧r≠[] then ("plain",r) else ("plain",c :: r))→PySem.Str.ofString q.1=(plL c r).1.s∧q.2=(plL c r).2:=fun q e=>by
   rw [e]
   unfold plL
   by_cases h:c=33∧r≠[]
   ·rw [if_pos h,if_pos h]; exact ⟨rfl,rfl⟩
   ·rw [if_neg h,if_neg h]; exact ⟨rfl,rfl⟩
  have hk:jN (c :: r)=match mk c,bE r with
   | some s,true=>(s,r)
   | _,_=>if c=33∧r≠[] then ("plain",r) else ("plain",c :: r):=rfl
  show PySem.Str.ofString (jN (c :: r)).1=(kwC c r).1.s∧(jN (c :: r)).2=(kwC c r).2
  rw [hk]
  unfold kwC mk
  cases hn:bE r with
  | false =>
   rw [if_neg (show ¬ (false=true) by decide)]
   refine pl _ ?_
   split
   ·rename_i h; cases h
   ·rfl
  | true =>
   rw [if_pos rfl]
   by_cases h1:c=35
   ·simp [h1,Kw.s]
   by_cases h2:c=64
   ·simp [h2,Kw.s]
   by_cases h3:c=38
   ·simp [h3,Kw.s]
   by_cases h4:c=94
   ·simp [h4,Kw.s]
   by_cases h5:c=126
   ·simp [h5,Kw.s]
   simp only [h1,h2,h3,h4,h5,if_false]
   exact pl _ rfl
def wkL (t:List Nat) : Wk:=((kwL t).1,.str (tx (kwL t).2))
structure ng (t:List Nat) : Prop where
 ne:t≠[]
 len:t.length≤61
 opn:opn t=false
 pl:(kwL t).1 = .plain→(kwL t).2.length≤60
 sg:∀ d ∈ t,d < 127
def sV:List (Key × V):=[(.inr (PySem.Str.ofString "page"),.int 3),(.inr (PySem.Str.ofString "odd"),.int 4)]
def kwV (k:Kw) : V:=.str k.s
theorem qT {k:Kw} : ∀ {bs:List Kw},k ∉ bs→inV (kwV k) (bs.map kwV)=false
 | [],_=>rfl
 | b :: r,h=>by
  have e:¬ (b=k):=fun z=>h (by rw [z]; exact List.mem_cons_self)
  have ih:=qT (bs:=r) fun z=>h (List.mem_cons_of_mem _ z)
  unfold inV at ih ⊢
  rw [List.map_cons,List.any_cons,ih,Bool.or_false]
  show (b.s == k.s)=false
  rw [Kw.beq,decide_eq_false e]
theorem ww:∀ bs:List Kw,(bs.map kwV).all iq=true
 | []=>rfl
 | _ :: r=>by rw [List.map_cons,List.all_cons,ww r]; rfl

theorem c32:(PySem.Str.ofString " ")=tx [32]:=by decide +kernel
def cY:List Nat:=[46,102,111,111,116]
def qC:List Nat:=[46,112,97,103,101]
def tS:List Nat:=[46,111,100,100]
def qD:List Nat:=[46,108,105,115,116]
def EL:List Nat:=[46,108,101,116]
theorem iR:(PySem.Str.ofString ".foot")=tx cY:=by decide +kernel
theorem yo:(PySem.Str.ofString ".let")=tx EL:=by decide +kernel
theorem Bt:(PySem.Str.ofString ".page")=tx qC:=by decide +kernel
theorem Df:(PySem.Str.ofString ".odd")=tx tS:=by decide +kernel
theorem Bu:(PySem.Str.ofString ".list")=tx qD:=by decide +kernel
theorem cH1:(PySem.Str.ofString "=")=tx [61]:=by decide +kernel
theorem cH2:(PySem.Str.ofString "==")=tx [61,61]:=by decide +kernel
theorem cH3:(PySem.Str.ofString "===")=tx [61,61,61]:=by decide +kernel
theorem EM:(PySem.Str.ofString ".")=tx [46]:=by decide +kernel
def Bv (w:List Nat) (r:Rw) : Prop:=(w=qC∧r = .page)∨(w=tS∧r = .odd)∨(w=qD∧r = .lst)
inductive iS:List (List Nat)→Rw→Prop
 | empty:iS [] .empty
 | foot {n:List Nat} {ts:List (List Nat)} : bE n=true→n.length≤12→ts.length≤39→(∀ t ∈ ts,ng t∧(kwL t).1 ∉ [Kw.mark,Kw.foot])→iS (cY :: n :: ts) (.foot (tx n) (ts.map wkL))
 | alone {w:List Nat} {r:Rw} : Bv w r→iS [w] r
 | head {k:Nat} {ts:List (List Nat)} : k < 3→ts.length≤129→(∀ t ∈ ts,ng t∧(kwL t).1 ∉ [Kw.foot])→iS (List.replicate (k+1) 61 :: ts) (.head (k+1) (ts.map wkL))
 | par {c:Nat} {u:List Nat} {ts:List (List Nat)} : c≠46→(c :: u) ∉ [[61],[61,61],[61,61,61]]→ts.length≤129→(∀ t ∈ (c :: u) :: ts,ng t)→iS ((c :: u) :: ts) (.par (((c :: u) :: ts).map wkL))
def Ba (s:Rs) : Rw→Prop
 | .foot n _=>lkS n s.feet=none
 | _=>True
def lx:Rs→List Rw→Prop
 | _,[]=>True
 | s,r :: l=>Ba s r∧lx (bM s r) l
theorem lx.at:∀ {l:List Rw} {s:Rs} {k:Nat} {r:Rw},lx s l→l[k]? = some r→Ba (bp s (l.take k)) r
 | x :: l,s,0,r,h,e=>by cases e; exact h.1
 | x :: l,s,k+1,r,h,e=>lx.at (l:=l) (k:=k) h.2 (by simpa using e)
 | [],_,_,_,_,e=>by simp at e
theorem o8 {w:List Nat} : ∀ (ls:List (List Nat)),inV (.str (tx w)) (ls.map fun l=>.str (tx l))=decide (w ∈ ls)
 | []=>rfl
 | l :: r=>by
  have ih:=o8 (w:=w) r
  unfold inV at ih ⊢
  rw [List.map_cons,List.any_cons,ih]
  show ((tx l == tx w) || _)=_
  by_cases e:w=l
  ·subst e; simp
  ·have:(tx l == tx w)=false:=by
    rw [beq_eq_false_iff_ne]
    exact fun z=>e (ik z.symm)
   rw [this,Bool.false_or]
   simp [e]
theorem ni {n:Str} {v:V} : ∀ {l:List (Str × V)},(l.map Prod.fst).all (fun m=>m != n)=true→bx n v l=l++[(n,v)]
 | [],_=>rfl
 | (m,x) :: r,h=>by
  rw [List.map_cons,List.all_cons,Bool.and_eq_true] at h
  have e:¬ (m=n):=by simpa using h.1
  have ih:=ni (n:=n) (v:=v) h.2
  simp [bx,e] at ih ⊢
  exact ih

def Dg (l:List Nat) (r:Rw) : Prop:=l.length≤20000∧iS (cC l) r
def lL:List (List Nat)→List Rw→Prop
 | [],[]=>True
 | l :: ls,r :: rs=>Dg l r∧lL ls rs
 | _,_=>False
theorem lL.len:∀ {ls:List (List Nat)} {rs:List Rw},lL ls rs→ls.length=rs.length
 | [],[],_=>rfl
 | _ :: _,_ :: _,h=>congrArg (·+1) (lL.len h.2)
theorem lL.get:∀ {ls:List (List Nat)} {rs:List Rw} {i:Nat} {l:List Nat},lL ls rs→ls[i]? = some l→∃ r,rs[i]? = some r∧Dg l r
 | l :: _,r :: _,0,x,h,e=>by cases e; exact ⟨r,rfl,h.1⟩
 | _ :: _,_ :: _,i+1,x,h,e=>lL.get (i:=i) h.2 (by simpa using e)
 | [],[],_,_,_,e=>by simp at e
def al (b:Nat) : Nat:=(LL++FF).getD b 0
theorem B_:∀ k:Nat,k < 36→atI (PySem.Str.ofString "abcdefghijklmnopqrstuvwxyz0123456789").cps.toList (k:Int)=some (al k):=by decide +kernel
theorem Dh:∀ b:Nat,b < 36→∀ c:Nat,c < 36→al b=al c→b=c:=by decide +kernel
theorem Di:∀ b:Nat,b < 26→isL (al b)=true:=by decide +kernel
theorem Dj:∀ b:Nat,b < 36→(isL (al b) || isF (al b))=true:=by decide +kernel
structure Ix (xs:List Nat) : Prop where
 ne:xs≠[]
 len:xs.length≤12
 fst:∀ b,xs.head? = some b→b < 26
 all:∀ b ∈ xs,b < 36
theorem Ix.name {xs:List Nat} (h:Ix xs) : bE (xs.map al)=true:=by
 cases xs with
 | nil=>exact absurd rfl h.ne
 | cons b r =>
  have hl:(al b :: r.map al).length≤12:=by have:=h.len; simp at this ⊢; omega
  show bE (al b :: r.map al)=true
  rw [m_ hl,Di b (h.fst b rfl),Bool.true_and]
  refine List.all_eq_true.mpr fun d hd=>?_
  obtain ⟨b',hb',rfl⟩:=List.mem_map.mp (show d ∈ (b :: r).map al from hd)
  exact Dj b' (h.all b' hb')
theorem wx:∀ cs:List Nat,cj [] (cs.map fun c=>[c])=cs
 | []=>rfl
 | [c]=>rfl
 | c :: d :: r=>by
  show [c]++[]++cj [] ((d :: r).map fun c=>[c])=_
  rw [wx (d :: r)]
  rfl
theorem tT:∀ cs:List Nat,((cs.map fun c=>tx [c]).map (·.length)).sum=cs.length
 | []=>rfl
 | c :: r=>by
  rw [List.map_cons,List.map_cons,List.sum_cons,tT r,aQ]
  simp only [List.length_cons,List.length_nil]
  omega

theorem o9:(PySem.Str.ofString "")=tx []:=by decide +kernel
theorem ej1 (cs:List Nat) : Txt.join (PySem.Str.ofString "") (cs.map fun d=>tx [d])=tx cs:=by
 rw [o9,show (cs.map fun d=>tx [d])=((cs.map fun d=>[d]).map tx) by rw [List.map_map]; rfl,tI,wx]
def nmB (bs:List Nat) (a j:Nat) : List Nat:=bs.take a++[j / 36 % 36]++[j % 36]++bs.drop a
structure rq (bs:List Nat) (a:Nat) : Prop where
 len:bs.length≤10
 fst:∀ b,bs.head? = some b→b < 26
 all:∀ b ∈ bs,b < 36
 lo:1≤a
 hi:a≤bs.length
theorem rq.ix {bs:List Nat} {a:Nat} (h:rq bs a) (j:Nat) : Ix (nmB bs a j):=by
 have l1:=h.lo
 have l2:=h.hi
 have l3:=h.len
 match bs,h with
 | [],h=>simp at l2; omega
 | b :: r,h =>
 obtain ⟨a',rfl⟩ : ∃ a',a=a'+1:=⟨a - 1,by omega⟩
 refine ⟨by simp [nmB],?_,?_,?_⟩
 ·have e1:(List.take (a'+1) (b :: r)).length=a'+1:=by rw [List.length_take]; omega
  have e2:(List.drop (a'+1) (b :: r)).length=(b :: r).length - (a'+1):=by rw [List.length_drop]
  unfold nmB
  simp only [List.length_append,e1,e2,List.length_cons,List.length_nil] at l2 l3 ⊢
  omega
 ·intro x hx
  have:x=b:=by simpa [nmB] using hx.symm
  rw [this]
  exact h.fst b rfl
 ·intro x hx
  simp only [nmB,List.mem_append,List.mem_singleton] at hx
  rcases hx with ((hx | hx) | hx) | hx
  ·exact h.all x (List.mem_of_mem_take hx)
  ·rw [hx]; exact Nat.mod_lt _ (by decide)
  ·rw [hx]; exact Nat.mod_lt _ (by decide)
  ·exact h.all x (List.mem_of_mem_drop hx)
theorem sW:∀ {xs ys:List Nat},(∀ x ∈ xs,x < 36)→(∀ y ∈ ys,y < 36)→xs.map al=ys.map al→xs=ys
 | [],[],_,_,_=>rfl
 | x :: xs,y :: ys,h1,h2,e=>by
  rw [List.map_cons,List.map_cons] at e
  injection e with e1 e2
  rw [Dh x (h1 x List.mem_cons_self) y (h2 y List.mem_cons_self) e1,sW (fun z hz=>h1 z (List.mem_cons_of_mem _ hz)) (fun z hz=>h2 z (List.mem_cons_of_mem _ hz)) e2]
theorem rq.inj {bs:List Nat} {a:Nat} (h:rq bs a) {i j:Nat} (hi:i < 1296) (hj:j < 1296) (e:(nmB bs a i).map al=(nmB bs a j).map al) : i=j:=by
 have e:=sW (h.ix i).all (h.ix j).all e
 unfold nmB at e
 rw [List.append_assoc,List.append_assoc,List.append_assoc,List.append_assoc] at e
 have e:=List.append_cancel_left e
 simp only [List.singleton_append,List.cons.injEq] at e
 omega
structure NmF (nm:Nat→List Nat) : Prop where
 name:∀ j,bE (nm j)=true
 len:∀ j,(nm j).length≤12
 sg:∀ j,∀ d ∈ nm j,33≤d∧d < 127
 inj:∀ i j,i < 1296→j < 1296→nm i=nm j→i=j
theorem D9:∀ b:Nat,b < 36→33≤al b∧al b < 127:=by decide +kernel
theorem rq.nmF {bs:List Nat} {a:Nat} (h:rq bs a) : NmF fun j=>(nmB bs a j).map al:=
 ⟨fun j=>(h.ix j).name,fun j=>by rw [List.length_map]; exact (h.ix j).len,fun j d hd=>by
  obtain ⟨b,hb,rfl⟩:=List.mem_map.mp hd
  exact D9 b ((h.ix j).all b hb),fun i j hi hj e=>h.inj hi hj e⟩
abbrev NWd:=Kw × List Nat
structure Bb (l:List Nat) : Prop where
 ne:l≠[]
 len:l.length≤60
 sg:∀ d ∈ l,33≤d∧d < 127
def eR (k:Kw) (marks feet:Nat) : Nat:=if k = .foot then feet else marks
def WdG (nm:Nat→List Nat) (k:Kw) (at_ marks feet:Nat) (w:NWd) : Prop:=
 (k = .mark∧w=(.mark,nm at_))∨(k≠.mark∧w.1 = .plain∧Bb w.2∧(k≠.plain→eR k marks feet=0))∨(k≠.mark∧k≠.plain∧w.1=k∧∃ j,j < eR k marks feet∧w.2=nm j)
def sgK:Kw→Nat
 | .mark=>35 | .number=>64 | .page=>38 | .row=>94 | .foot=>126 | _=>33
def iE (w:NWd) : Prop:=w.1≠.entry∧(∀ d ∈ w.2,33≤d∧d < 127)∧((w.1 = .plain∧w.2≠[]∧w.2.length≤60)∨(w.1≠.plain∧bE w.2=true∧w.2.length≤12))
theorem WdG.ok {nm:Nat→List Nat} (hn:NmF nm) {k:Kw} {at_ marks feet:Nat} {w:NWd} (ke:k≠.entry) (h:WdG nm k at_ marks feet w) : iE w:=by
 rcases h with ⟨_,rfl⟩ | ⟨_,h1,h2,_⟩ | ⟨_,h0,h1,j,_,h2⟩
 ·exact ⟨by show Kw.mark≠Kw.entry; decide,hn.sg _,.inr ⟨by show Kw.mark≠Kw.plain; decide,hn.name _,hn.len _⟩⟩
 ·exact ⟨by rw [h1]; decide,h2.sg,.inl ⟨h1,h2.ne,h2.len⟩⟩
 ·exact ⟨by rw [h1]; exact ke,by rw [h2]; exact hn.sg _,.inr ⟨by rw [h1]; exact h0,by rw [h2]; exact hn.name _,by rw [h2]; exact hn.len _⟩⟩
def isM (c:Nat) : Bool:=decide (c ∈ [35,64,38,94,126])
def jO (tight:Bool) : List Nat→Bool
 | []=>false
 | c :: r=>decide (c ∈ [46,33,91]) || (if tight then decide (c=61) else decide ((c :: r) ∈ [[61],[61,61],[61,61,61]])) || (isM c && bE r)
theorem uu (tight:Bool) (c:Nat) (r:List Nat) : jO tight (c :: r)=(decide (c ∈ [46,33,91]) || (if tight then decide (c=61) else decide ((c :: r) ∈ [[61],[61,61],[61,61,61]])) || (isM c && bE r)):=rfl
def wrW (tight:Bool) (w:NWd) : List Nat:=if w.1 = .plain then (if jO tight w.2=true then 33 :: w.2 else w.2) else sgK w.1 :: w.2
structure Dk (t:List Nat) (w:NWd) : Prop where
 good:ng t
 back:kwL t=w
 nb:32 ∉ t
 dot:t.head?≠some 46
 hd:t ∉ [[61],[61,61],[61,61,61]]
theorem Bc {k:Kw} {r:List Nat} (hk:k≠.plain) (he:k≠.entry) (hn:bE r=true) : kwC (sgK k) r=(k,r):=by
 unfold kwC
 rw [if_pos hn]
 cases k <;> first | rfl | exact absurd rfl hk | exact absurd rfl he
theorem Be {r:List Nat} (h:r≠[]) : kwC 33 r=(.plain,r):=by
 have p:plL 33 r=(.plain,r):=by unfold plL; rw [if_pos ⟨rfl,h⟩]
 unfold kwC
 by_cases hn:bE r=true
 ·rw [if_pos hn]; exact p
 ·rw [if_neg hn]; exact p
theorem zX {c:Nat} {r:List Nat} (h1:c≠33) (h2:(isM c && bE r)=false) : kwC c r=(.plain,c :: r):=by
 have p:plL c r=(.plain,c :: r):=by unfold plL; rw [if_neg (fun z=>h1 z.1)]
 unfold kwC
 by_cases hn:bE r=true
 ·rw [hn,Bool.and_true] at h2
  have m:=of_decide_eq_false h2
  simp only [List.mem_cons,List.not_mem_nil,or_false,not_or] at m
  rw [if_pos hn,if_neg m.1,if_neg m.2.1,if_neg m.2.2.1,if_neg m.2.2.2.1,if_neg m.2.2.2.2]
  exact p
 ·rw [if_neg hn]; exact p
theorem yp (tight:Bool) {w:NWd} (h:iE w) : Dk (wrW tight w) w:=by
 obtain ⟨k,r⟩:=w
 obtain ⟨he,sg,h⟩:=h
 dsimp only at he sg h
 have n32:∀ l:List Nat,(∀ d ∈ l,33≤d∧d < 127)→32 ∉ l:=fun l hl z=>by have:=hl 32 z; omega
 rcases h with ⟨hk,hne,hl⟩ | ⟨hk,hn,hl⟩
 ·subst hk
  unfold wrW
  rw [if_pos rfl]
  by_cases b:jO tight r=true
  ·rw [if_pos b]
   have kb:kwL (33 :: r)=(.plain,r):=Be hne
   have sg':∀ d ∈ 33 :: r,33≤d∧d < 127:=fun d hd=>by
    rcases List.mem_cons.mp hd with rfl | hd
    ·exact ⟨by decide,by decide⟩
    ·exact sg d hd
   refine ⟨⟨by simp,by simp only [List.length_cons]; omega,rfl,fun _=>by rw [kb]; exact hl,fun d hd=>(sg' d hd).2⟩,kb,n32 _ sg',by simp,by simp⟩
  ·rw [if_neg b]
   rw [Bool.not_eq_true] at b
   match r,hne,b with
   | c :: u,_,b =>
   unfold jO at b
   simp only [Bool.or_eq_false_iff] at b
   obtain ⟨⟨b1,b2⟩,b3⟩:=b
   have b1:=of_decide_eq_false b1
   simp only [List.mem_cons,List.not_mem_nil,or_false,not_or] at b1
   have kb:kwL (c :: u)=(.plain,c :: u):=zX b1.2.1 b3
   have op:opn (c :: u)=false:=by show (decide (c=91) && bE u)=false; rw [decide_eq_false b1.2.2]; rfl
   refine ⟨⟨by simp,(by show (c :: u).length≤61; omega),op,fun _=>by rw [kb]; exact hl,fun d hd=>(sg d hd).2⟩,kb,n32 _ sg,by simp; exact b1.1,?_⟩
   cases tight with
   | true =>
    have b2:¬ (c=61):=of_decide_eq_false b2
    simp [b2]
   | false=>exact of_decide_eq_false b2
 ·unfold wrW
  rw [if_neg hk]
  have kb:kwL (sgK k :: r)=(k,r):=Bc hk he hn
  have s1:33≤sgK k∧sgK k < 127∧sgK k≠91∧sgK k≠46∧sgK k≠61:=by cases k <;> decide
  have sg':∀ d ∈ sgK k :: r,33≤d∧d < 127:=fun d hd=>by
   rcases List.mem_cons.mp hd with rfl | hd
   ·exact ⟨s1.1,s1.2.1⟩
   ·exact sg d hd
  have op:opn (sgK k :: r)=false:=by show (decide (sgK k=91) && bE r)=false; rw [decide_eq_false s1.2.2.1]; rfl
  refine ⟨⟨by simp,by simp only [List.length_cons]; omega,op,fun z=>by rw [kb] at z; exact absurd z hk,fun d hd=>(sg' d hd).2⟩,kb,n32 _ sg',by simp; exact s1.2.2.2.1,by simp [s1.2.2.2.2]⟩
inductive Wy where
 | words | empty | h1 | h2 | h3 | page | odd | lst | foot
 deriving DecidableEq
def Wy.t:Wy→List Nat
 | .words=>[119,111,114,100,115] | .empty=>[] | .h1=>[61] | .h2=>[61,61] | .h3=>[61,61,61]
 | .page=>qC | .odd=>tS | .lst=>qD | .foot=>cY
def Wy.hd:Wy→Bool
 | .h1=>true | .h2=>true | .h3=>true | _=>false
def Wy.bare:Wy→Bool
 | .empty=>true | .page=>true | .odd=>true | .lst=>true | _=>false
theorem Wy.inj:∀ {a b:Wy},a.t=b.t→a=b:=by
 intro a b h
 cases a <;> cases b <;> first | rfl | exact absurd h (by decide)
abbrev cu:=Wy × List (Kw × Int)
structure yq (kds:List Kw) (r:cu) : Prop where
 bare:r.1.bare=true→r.2=[]
 len:r.2.length≤6
 head:r.1.hd=true→∀ w ∈ r.2,w.1≠.foot
 foot:r.1 = .foot→∀ w ∈ r.2,w.1≠.mark∧w.1≠.foot
 kds:∀ w ∈ r.2,w.1 ∈ kds∨w.1 = .plain
abbrev bN:=Wy × List Nat × List NWd
structure ja (r:bN) : Prop where
 bare:r.1.bare=true→r.2.2=[]
 len:r.2.2.length≤129
 words:r.1 = .words→r.2.2≠[]
 head:r.1.hd=true→∀ w ∈ r.2.2,w.1≠.foot
 foot:r.1 = .foot→bE r.2.1=true∧r.2.1.length≤12∧(∀ d ∈ r.2.1,33≤d∧d < 127)∧r.2.2.length≤39∧∀ w ∈ r.2.2,w.1≠.mark∧w.1≠.foot
 ok:∀ w ∈ r.2.2,iE w
def rz (w:NWd) : Wk:=(w.1,.str (tx w.2))
def wkS (ws:List NWd) : List Wk:=ws.map rz
def dY (tight:Bool) (r:bN) : List (List Nat):=(if r.1 = .empty∨r.1 = .words then [] else [r.1.t])++(if r.1 = .foot then [r.2.1] else [])++r.2.2.map (wrW tight)
def cI (r:bN) : Rw:=
 match r.1 with
 | .words=>.par (wkS r.2.2)
 | .empty=>.empty
 | .h1=>.head 1 (wkS r.2.2)
 | .h2=>.head 2 (wkS r.2.2)
 | .h3=>.head 3 (wkS r.2.2)
 | .page=>.page
 | .odd=>.odd
 | .lst=>.lst
 | .foot=>.foot (tx r.2.1) (wkS r.2.2)
theorem Ca {tight:Bool} {ws:List NWd} (h:∀ w ∈ ws,iE w) : (ws.map (wrW tight)).map wkL=wkS ws:=by
 rw [List.map_map]
 refine List.map_congr_left fun w hw=>?_
 show wkL (wrW tight w)=rz w
 unfold wkL rz
 rw [(yp tight (h w hw)).back]
theorem Dl (tight:Bool) {r:bN} (h:ja r) : iS (dY tight r) (cI r):=by
 obtain ⟨wy,n,ws⟩:=r
 have g:∀ t ∈ ws.map (wrW tight),∃ w ∈ ws,Dk t w:=fun t ht=>by
  obtain ⟨w,hw,rfl⟩:=List.mem_map.mp ht
  exact ⟨w,hw,yp tight (h.ok w hw)⟩
 have bk:=Ca (tight:=tight) h.ok
 have ln:=h.len
 dsimp only at bk ln
 have hd:∀ k,k < 3→(∀ w ∈ ws,w.1≠.foot)→iS (List.replicate (k+1) 61 :: ws.map (wrW tight)) (.head (k+1) (wkS ws)):=fun k hk hf=>by
  rw [← bk]
  refine .head hk (by rw [List.length_map]; exact ln) fun t ht=>?_
  obtain ⟨w,hw,o⟩:=g t ht
  exact ⟨o.good,by rw [o.back]; simpa using hf w hw⟩
 cases wy with
 | words =>
  show iS (ws.map (wrW tight)) (.par (wkS ws))
  rw [← bk]
  have ne:=h.words rfl
  match ws,ne,g,ln with
  | w :: r,_,g,ln =>
  obtain ⟨w',_,o⟩:=g (wrW tight w) List.mem_cons_self
  rw [List.map_cons]
  cases e:wrW tight w with
  | nil=>exact absurd e o.good.ne
  | cons c u =>
   rw [e] at o
   refine .par (fun z=>o.dot (by rw [z]; rfl)) o.hd (by rw [List.length_map]; simp only [List.length_cons] at ln; omega) fun t ht=>?_
   rw [← e,← List.map_cons] at ht
   obtain ⟨_,_,o'⟩:=g t ht
   exact o'.good
 | empty =>
  have e:ws=[]:=h.bare rfl
  subst e
  exact .empty
 | h1=>exact hd 0 (by decide) (h.head rfl)
 | h2=>exact hd 1 (by decide) (h.head rfl)
 | h3=>exact hd 2 (by decide) (h.head rfl)
 | page =>
  have e:ws=[]:=h.bare rfl
  subst e
  exact .alone (.inl ⟨rfl,rfl⟩)
 | odd =>
  have e:ws=[]:=h.bare rfl
  subst e
  exact .alone (.inr (.inl ⟨rfl,rfl⟩))
 | lst =>
  have e:ws=[]:=h.bare rfl
  subst e
  exact .alone (.inr (.inr ⟨rfl,rfl⟩))
 | foot =>
  obtain ⟨f1,f2,f3,f4,f5⟩:=h.foot rfl
  show iS (cY :: n :: ws.map (wrW tight)) (.foot (tx n) (wkS ws))
  rw [← bk]
  refine .foot f1 f2 (by rw [List.length_map]; exact f4) fun t ht=>?_
  obtain ⟨w,hw,o⟩:=g t ht
  exact ⟨o.good,by rw [o.back]; simpa using f5 w hw⟩
theorem ly (tight:Bool) {r:bN} (h:ja r) : ∀ t ∈ dY tight r,32 ∉ t∧t≠[]∧t.length≤61:=fun t ht=>by
 unfold dY at ht
 rcases List.mem_append.mp ht with ht | ht
 ·rcases List.mem_append.mp ht with ht | ht
  ·by_cases c:r.1 = .empty∨r.1 = .words
   ·rw [if_pos c] at ht; cases ht
   ·rw [if_neg c] at ht
    rw [List.mem_singleton.mp ht]
    revert c
    cases r.1 <;> decide
  ·by_cases c:r.1 = .foot
   ·rw [if_pos c] at ht
    rw [List.mem_singleton.mp ht]
    obtain ⟨f1,f2,f3,_⟩:=h.foot c
    exact ⟨fun z=>(by have:=f3 32 z; omega),(fun z=>by rw [z] at f1; cases f1),(by omega)⟩
   ·rw [if_neg c] at ht; cases ht
 ·obtain ⟨w,hw,rfl⟩:=List.mem_map.mp ht
  have o:=yp tight (h.ok w hw)
  exact ⟨o.nb,o.good.ne,o.good.len⟩
theorem xO (tight:Bool) {r:bN} (h:ja r) : (dY tight r).length≤131:=by
 have:=h.len
 unfold dY
 simp only [List.length_append,List.length_map]
 have a:(if r.1 = .empty∨r.1 = .words then ([] : List (List Nat)) else [r.1.t]).length≤1:=by split <;> simp
 have b:(if r.1 = .foot then [r.2.1] else ([] : List (List Nat))).length≤1:=by split <;> simp
 omega
abbrev lM (l:List Nat) : List Nat:=PySem.StrLaws.dbl 32 l
def lA (a b:Nat) (d:Bool) (l:List Nat) : List Nat:=List.replicate a 32++(if d then lM l else l)++List.replicate b 32
theorem rA (c:Nat) : ∀ n:Nat,mX [c] n=List.replicate n c
 | 0=>rfl
 | n+1=>by
  rw [li,rA c n,List.replicate_succ]
  rfl
theorem wz:∀ (l:List (List Nat)),(∀ t ∈ l,t.length≤61)→((l.map tx).map (·.length)).sum≤61 * l.length
 | [],_=>Nat.le_refl _
 | x :: r,h=>by
  have h1:=wz r fun t ht=>h t (List.mem_cons_of_mem _ ht)
  have h2:=h x List.mem_cons_self
  rw [List.map_cons,List.map_cons,List.sum_cons,aQ,List.length_cons]
  omega
theorem sX (n:Nat) : Txt.mul (PySem.Str.ofString " ") (n:Int)=tx (List.replicate n 32):=by
 rw [show (PySem.Str.ofString " ")=tx [32] by decide +kernel,zv,rA]
theorem xP {n:Nat} (h:n≤10) : MulOk (PySem.Str.ofString " ") (n:Int):=by
 rw [show (PySem.Str.ofString " ")=tx [32] by decide +kernel]
 exact qN (by omega) (by simp)
def nj:List (List Nat)→List (List Nat)→Prop
 | [],[]=>True
 | r :: rs,s :: ss=>(∃ a b d,a≤10∧b≤10∧s=lA a b d r)∧nj rs ss
 | _,_=>False
theorem Bf (l:List Nat) : ∃ h r,bc 32 l=h :: r:=by
 cases e:bc 32 l with
 | nil=>exact absurd e (um 32 l)
 | cons h r=>exact ⟨h,r,rfl⟩
theorem qE {c:Nat} {l h:List Nat} {r:List (List Nat)} (e:bc 32 l=h :: r) (n:c≠32) : bc 32 (c :: l)=(c :: h) :: r:=by
 rw [fH,if_neg n,e]
theorem jU (l:List Nat) : bc 32 (32 :: l)=[] :: bc 32 l:=by rw [fH,if_pos rfl]
theorem xQ (r:List (List Nat)) : neW ([] :: r)=neW r:=rfl
theorem zY (l:List Nat) : cC (lM l)=cC l:=by
 have key:∀ l:List Nat,∃ h r r',bc 32 l=h :: r∧bc 32 (lM l)=h :: r'∧neW r=neW r':=fun l=>by
  induction l with
  | nil=>exact ⟨[],[],[],rfl,rfl,rfl⟩
  | cons c l ih =>
   obtain ⟨h,r,r',e1,e2,e3⟩:=ih
   by_cases hc:c=32
   ·subst hc
    refine ⟨[],h :: r,[] :: h :: r',by rw [jU,e1],?_,?_⟩
    ·show bc 32 (PySem.StrLaws.dbl 32 (32 :: l))=_
     rw [show PySem.StrLaws.dbl 32 (32 :: l)=32 :: 32 :: lM l from by simp [PySem.StrLaws.dbl],jU,jU,e2]
    ·rw [xQ]
     unfold neW at e3 ⊢
     rw [List.filter_cons,List.filter_cons,e3]
   ·refine ⟨c :: h,r,r',qE e1 hc,?_,e3⟩
    show bc 32 (PySem.StrLaws.dbl 32 (c :: l))=_
    rw [show PySem.StrLaws.dbl 32 (c :: l)=c :: lM l from by simp [PySem.StrLaws.dbl,hc]]
    exact qE e2 hc
 obtain ⟨h,r,r',e1,e2,e3⟩:=key l
 unfold cC
 rw [e1,e2]
 unfold neW at e3 ⊢
 rw [List.filter_cons,List.filter_cons,e3]
theorem sY (l:List Nat) : ∀ a:Nat,cC (List.replicate a 32++l)=cC l
 | 0=>rfl
 | a+1=>by
  rw [List.replicate_succ,List.cons_append]
  unfold cC
  rw [jU,xQ]
  exact sY l a
theorem yr (l:List Nat) : cC (l++[32])=cC l:=by
 have key:∀ l:List Nat,bc 32 (l++[32])=bc 32 l++[[]]:=fun l=>by
  induction l with
  | nil=>rfl
  | cons c l ih =>
   rw [List.cons_append]
   by_cases hc:c=32
   ·subst hc; rw [jU,jU,ih]; rfl
   ·obtain ⟨h,r,e⟩:=Bf l
    rw [qE (by rw [ih,e]; rfl) hc,qE e hc]
    rfl
 unfold cC
 rw [key]
 unfold neW
 rw [List.filter_append]
 simp
theorem uv (l:List Nat) : ∀ b:Nat,cC (l++List.replicate b 32)=cC l
 | 0=>by rw [List.replicate_zero,List.append_nil]
 | b+1=>by
  rw [List.replicate_succ',← List.append_assoc,yr]
  exact uv l b
theorem wA {ws:List (List Nat)} (h:∀ t ∈ ws,32 ∉ t∧t≠[]) : cC (cj [32] ws)=ws:=by
 by_cases e:ws=[]
 ·subst e; rfl
 ·unfold cC
  rw [qO 32 ws e fun p hp=>(h p hp).1]
  unfold neW
  refine List.filter_eq_self.mpr fun w hw=>?_
  have:=(h w hw).2
  cases w with
  | nil=>exact absurd rfl this
  | cons _ _=>rfl
abbrev Dm:=@lA
theorem zZ (a b:Nat) (d:Bool) (l:List Nat) : cC (Dm a b d l)=cC l:=by
 show cC (lA a b d l)=_
 unfold lA
 rw [uv,sY]
 cases d with
 | true=>exact zY l
 | false=>rfl
theorem xR (l:List Nat) : (lM l).length≤2 * l.length:=by
 induction l with
 | nil=>exact Nat.le_refl _
 | cons c l ih =>
  by_cases hc:c=32
  ·subst hc
   show (PySem.StrLaws.dbl 32 (32 :: l)).length≤_
   rw [show PySem.StrLaws.dbl 32 (32 :: l)=32 :: 32 :: lM l from by simp [PySem.StrLaws.dbl]]
   simp only [List.length_cons]
   omega
  ·show (PySem.StrLaws.dbl 32 (c :: l)).length≤_
   rw [show PySem.StrLaws.dbl 32 (c :: l)=c :: lM l from by simp [PySem.StrLaws.dbl,hc]]
   simp only [List.length_cons]
   omega
theorem z0 {b:Nat} : ∀ (l:List (List Nat)),(∀ t ∈ l,t.length≤b)→(cj [32] l).length≤l.length * (b+1)
 | [],_=>by simp [cj]
 | [a],h=>by
  have:=h a List.mem_cons_self
  simp [cj]
  omega
 | a :: c :: r,h=>by
  have h1:=h a List.mem_cons_self
  have h2:=z0 (c :: r) fun t ht=>h t (List.mem_cons_of_mem _ ht)
  show (a++[32]++cj [32] (c :: r)).length≤_
  rw [List.length_append,List.length_append]
  simp only [List.length_cons,List.length_nil] at h2 ⊢
  have:(r.length+1+1) * (b+1)=(r.length+1) * (b+1)+(b+1):=by rw [Nat.add_mul (r.length+1) 1,Nat.one_mul]
  omega
theorem o_ (tight:Bool) {r:bN} (h:ja r) : (cj [32] (dY tight r)).length≤8200:=by
 have h1:=z0 (b:=61) (dY tight r) fun t ht=>(ly tight h t ht).2.2
 have h2:=xO tight h
 omega
structure SpR (tight:Bool) (l:List Nat) (r:bN) : Prop where
 len:l.length≤20000
 ws:cC l=dY tight r
theorem SpR.of (tight:Bool) {r:bN} (h:ja r) (a b:Nat) (d:Bool) (ha:a≤10) (hb:b≤10) : SpR tight (Dm a b d (cj [32] (dY tight r))) r:=by
 refine ⟨?_,?_⟩
 ·have h1:=o_ tight h
  have h2:=xR (cj [32] (dY tight r))
  show (lA a b d _).length≤_
  unfold lA
  simp only [List.length_append,List.length_replicate]
  split <;> omega
 ·rw [zZ,wA fun t ht=>⟨(ly tight h t ht).1,(ly tight h t ht).2.1⟩]
def vb (tight:Bool) : List (List Nat)→List bN→Prop
 | [],[]=>True
 | l :: ls,r :: rs=>SpR tight l r∧vb tight ls rs
 | _,_=>False
theorem nj.snoc {r s:List Nat} (h:∃ a b d,a≤10∧b≤10∧s=lA a b d r) : ∀ {rs ss:List (List Nat)},nj rs ss→nj (rs++[r]) (ss++[s])
 | [],[],_=>⟨h,trivial⟩
 | _ :: _,_ :: _,z=>⟨z.1,z.2.snoc h⟩
theorem nj.all {tight:Bool} : ∀ {ns:List bN} {ss:List (List Nat)},(∀ r ∈ ns,ja r)→nj (ns.map fun r=>cj [32] (dY tight r)) ss→vb tight ss ns
 | [],[],_,_=>trivial
 | r :: ns,s :: ss,h,z=>by
  obtain ⟨⟨a,b,d,ha,hb,rfl⟩,z2⟩:=z
  exact ⟨SpR.of tight (h r List.mem_cons_self) a b d ha hb,nj.all (fun x hx=>h x (List.mem_cons_of_mem _ hx)) z2⟩
 | [],_ :: _,_,z=>z.elim
 | _ :: _,[],_,z=>z.elim
theorem vb.rows {tight:Bool} : ∀ {ls:List (List Nat)} {rs:List bN},vb tight ls rs→(∀ r ∈ rs,ja r)→lL ls (rs.map cI)
 | [],[],_,_=>trivial
 | l :: _,r :: _,a,h=>⟨⟨a.1.len,by rw [a.1.ws]; exact Dl tight (h r List.mem_cons_self)⟩,a.2.rows fun x hx=>h x (List.mem_cons_of_mem _ hx)⟩

def KcA (F:Hp) (v:V) (w:Kw × Int) : Prop:=∃ a,v = .ref a∧F a=some (.tup [.str w.1.s,.int w.2])
def RrA (F:Hp) (v:V) (r:cu) : Prop:=∃ a l us,v = .ref a∧F a=some (.tup [.str (tx r.1.t),.ref l])∧F l=some (.lst us)∧aR (KcA F) us r.2
theorem KcA.mono {F F':Hp} (s:ao F F') {v:V} {w:Kw × Int} (h:KcA F v w) : KcA F' v w:=by
 obtain ⟨a,e,h⟩:=h
 exact ⟨a,e,s _ _ h⟩
theorem RrA.mono {F F':Hp} (s:ao F F') {v:V} {r:cu} (h:RrA F v r) : RrA F' v r:=by
 obtain ⟨a,l,us,e,h1,h2,h3⟩:=h
 exact ⟨a,l,us,e,s _ _ h1,s _ _ h2,h3.imp fun _ _=>KcA.mono s⟩
structure g_ (H G:Hp) (p:Addr) (rows:List cu) : Prop where
 old:ao H G
 fr:H p=none
 st:∃ vs lo,G p=some (.lst vs)∧H lo=none∧vs.length=rows.length ∧
  ((rows=[]∧lo=p)∨∃ vi a us ini w ws,vs=vi++[.ref a]∧rows=ini++[(w,ws)]∧lo≠p∧hid [p,lo] G a=some (.tup [.str (tx w.t),.ref lo])∧G lo=some (.lst us)∧aR (KcA (hid [p,lo] G)) us ws∧aR (RrA (hid [p,lo] G)) vi ini)
theorem g_.same {H G G':Hp} {p:Addr} {rows:List cu} (R:g_ H G p rows) (m:ao G G') : g_ H G' p rows:=by
 obtain ⟨old,fr,vs,lo,h1,h2,h3,h4⟩:=R
 refine ⟨old.trans m,fr,vs,lo,m _ _ h1,h2,h3,?_⟩
 rcases h4 with h4 | ⟨vi,a,us,ini,w,ws,e1,e2,e3,e4,e5,e6,e7⟩
 ·exact .inl h4
 ·exact .inr ⟨vi,a,us,ini,w,ws,e1,e2,e3,bb m _ _ e4,m _ _ e5,e6.imp fun _ _=>KcA.mono (bb m),e7.imp fun _ _=>RrA.mono (bb m)⟩
theorem g_.all {H G:Hp} {p:Addr} {rows:List cu} (R:g_ H G p rows) : ∃ vs,G p=some (.lst vs)∧vs.length=rows.length∧aR (RrA (hid [p] G)) vs rows:=by
 obtain ⟨old,fr,vs,lo,h1,h2,h3,h4⟩:=R
 refine ⟨vs,h1,h3,?_⟩
 rcases h4 with ⟨rfl,_⟩ | ⟨vi,a,us,ini,w,ws,rfl,rfl,e3,e4,e5,e6,e7⟩
 ·match vs,h3 with
  | [],_=>trivial
 ·have m:ao (hid [p,lo] G) (hid [p] G):=fun b o z=>by
   obtain ⟨c,z⟩:=iN.mp z
   exact a8 (fun w=>c (by simp at w ⊢; exact .inl w)) z
  exact (e7.imp fun _ _=>RrA.mono m).snoc ⟨a,lo,us,rfl,m _ _ e4,a8 (by simpa using e3) e5,e6.imp fun _ _=>KcA.mono m⟩
theorem g_.add {H G G':Hp} {p pl pt:Addr} {rows:List cu} {w:Wy} {vs:List V} (R:g_ H G p rows) (m:ao G G') (n1:G pl=none) (k1:G' pl=some (.lst [])) (n2:G pt=none) (k2:G' pt=some (.tup [.str (tx w.t),.ref pl])) (hv:G' p=some (.lst vs)) : g_ H (upd G' p (.lst (vs++[.ref pt]))) p (rows++[(w,[])]):=by
 obtain ⟨vs',h1,h2,h3⟩:=R.all
 obtain ⟨old,fr,_⟩:=R
 rw [m _ _ h1] at hv
 injection hv with hv
 injection hv with hv
 subst hv
 have npl:pl≠p:=fun z=>by rw [z,h1] at n1; cases n1
 have npt:pt≠p:=fun z=>by rw [z,h1] at n2; cases n2
 have ntl:pt≠pl:=fun z=>by rw [z,k1] at k2; cases k2
 have e:hid [p,pl] (upd G' p (.lst (vs'++[.ref pt])))=hid [p,pl] G':=bY (by simp)
 have mm:ao (hid [p] G) (hid [p,pl] G'):=fun b o z=>by
  obtain ⟨c,z⟩:=iN.mp z
  refine a8 (fun w=>?_) (m _ _ z)
  simp only [List.mem_cons,List.not_mem_nil,or_false] at w c
  rcases w with w | w
  ·exact c w
  ·rw [w,n1] at z; cases z
 refine ⟨bn (old.trans m) fr,fr,vs'++[.ref pt],pl,ae,old.free n1,by simp [h2],.inr ⟨vs',pt,[],rows,w,[],rfl,rfl,npl,?_,?_,trivial,?_⟩⟩
 ·rw [e]; exact a8 (by simp [npt,ntl]) k2
 ·rw [aj npl]; exact k1
 ·rw [e]; exact h3.imp fun _ _=>RrA.mono mm
theorem g_.last {H G:Hp} {p:Addr} {ini:List cu} {w:Wy} {ws:List (Kw × Int)} (R:g_ H G p (ini++[(w,ws)])) : ∃ vi a lo us,G p=some (.lst (vi++[.ref a]))∧G a=some (.tup [.str (tx w.t),.ref lo])∧G lo=some (.lst us)∧us.length=ws.length∧∀ G' pk kc,ao G G'→G pk=none→G' pk=some (.tup [.str kc.1.s,.int kc.2])→g_ H (upd G' lo (.lst (us++[.ref pk]))) p (ini++[(w,ws++[kc])]):=by
 obtain ⟨old,fr,vs,lo,h1,h2,h3,h4⟩:=R
 rcases h4 with ⟨e,_⟩ | ⟨vi,a,us,ini',w',ws',e1,e2,e3,e4,e5,e6,e7⟩
 ·simp at e
 ·have e2':=List.append_inj' e2 rfl
  obtain ⟨rfl,e2'⟩:=e2'
  injection e2' with e2' _
  injection e2' with e2a e2b
  subst e2a
  subst e2b
  subst e1
  refine ⟨vi,a,lo,us,h1,bJ _ _ e4,e5,e6.len,fun G' pk kc m nk kk=>?_⟩
  have e:hid [p,lo] (upd G' lo (.lst (us++[.ref pk])))=hid [p,lo] G':=bY (by simp)
  have n1:pk≠p:=fun z=>by rw [z,h1] at nk; cases nk
  have n2:pk≠lo:=fun z=>by rw [z,e5] at nk; cases nk
  refine ⟨bn (old.trans m) h2,fr,vi++[.ref a],lo,?_,h2,by simpa using h3,.inr ⟨vi,a,us++[.ref pk],ini,w,ws++[kc],rfl,rfl,e3,?_,ae,?_,?_⟩⟩
  ·rw [aj (Ne.symm e3)]; exact m _ _ h1
  ·rw [e]; exact bb m _ _ e4
  ·rw [e]; exact (e6.imp fun _ _=>KcA.mono (bb m)).snoc ⟨pk,rfl,a8 (by simp [n1,n2]) kk⟩
  ·rw [e]; exact e7.imp fun _ _=>RrA.mono (bb m)
inductive WyD where
 | word | eq | way (w:Wy)
def WyD.t:WyD→List Nat
 | .word=>[119,111,114,100] | .eq=>[61] | .way w=>w.t
def yt (wys:List WyD) (w:Wy) : Prop:=w = .words∨.way w ∈ wys∨(w.hd=true∧.eq ∈ wys)
structure j9 (wys:List WyD) (kds:List Kw) (n:Nat) (rows:List cu) : Prop where
 len:rows.length≤n
 sum:(rows.map (·.2.length)).sum≤n
 ok:∀ r ∈ rows,yq kds r∧yt wys r.1
theorem j9.add {wys:List WyD} {kds:List Kw} {n:Nat} {rows:List cu} (h:j9 wys kds n rows) {w:Wy} (hw:yt wys w) : j9 wys kds (n+1) (rows++[(w,[])]):=by
 refine ⟨by rw [List.length_append]; have:=h.len; simp only [List.length_cons,List.length_nil]; omega,by rw [List.map_append,List.sum_append]; have:=h.sum; simp; omega,fun r hr=>?_⟩
 rcases List.mem_append.mp hr with hr | hr
 ·exact h.ok r hr
 ·rw [List.mem_singleton.mp hr]
  exact ⟨⟨fun _=>rfl,by simp,(fun _ x hx=>by cases hx),(fun _ x hx=>by cases hx),(fun x hx=>by cases hx)⟩,hw⟩
theorem z5:(PySem.Str.ofString "word")=tx [119,111,114,100]:=by decide +kernel
theorem jm:(PySem.Str.ofString "words")=tx [119,111,114,100,115]:=by decide +kernel
theorem at3:∀ k:Nat,k < 3→∃ w:Wy,w.hd=true∧atI [V.str (PySem.Str.ofString "="),V.str (PySem.Str.ofString "=="),V.str (PySem.Str.ofString "===")] (k:Int)=some (.str (tx w.t))
 | 0,_=>⟨.h1,rfl,congrArg (fun z=>some (V.str z)) cH1⟩
 | 1,_=>⟨.h2,rfl,congrArg (fun z=>some (V.str z)) cH2⟩
 | 2,_=>⟨.h3,rfl,congrArg (fun z=>some (V.str z)) cH3⟩
theorem Dn (w:Wy) : inV (.str (tx w.t)) [V.str (PySem.Str.ofString ""),V.str (PySem.Str.ofString ".page"),V.str (PySem.Str.ofString ".odd"),V.str (PySem.Str.ofString ".list")]=w.bare:=by
 rw [o9,Bt,Df,Bu]
 refine (o8 [[],qC,tS,qD]).trans ?_
 cases w <;> decide
theorem EN (k:Kw) : inV (.str k.s) [V.str (PySem.Str.ofString "mark"),V.str (PySem.Str.ofString "foot")]=(decide (k = .mark) || decide (k = .foot)):=by
 cases k <;> decide +kernel
theorem D_ {w:Wy} (h:w.bare=false) : ∃ c u,w.t=c :: u∧(decide (c=61)=w.hd):=by
 cases w <;> first | exact ⟨_,_,rfl,rfl⟩ | cases h
end K60
namespace K60
open PySem PySem.Spec L2 Tl

theorem lts {t:TS} {D:e_} {σ:St} {H:Hp} (k:let D':=D; let s':=σ; t D' s' H) : t D σ H:=k
local macro_rules | `(tactic| refine ⟨$a,$as,*⟩)=>`(tactic| ((try (refine lts ?_; intro _ _)); refine (⟨$a,$as,*⟩)))
local macro_rules | `(tactic| exact ⟨$a,$as,*⟩)=>`(tactic| ((try (refine lts ?_; intro _ _)); exact (⟨$a,$as,*⟩)))
local macro_rules | `(tactic| walk_at "c")=>`(tactic| exact (⟨rfl,rfl,rfl,by decide +kernel,rfl,by decide +kernel,by decide +kernel⟩))
noncomputable abbrev lN:Stmt:=top 57
noncomputable abbrev rB:Stmt:=top 58
noncomputable abbrev rC:Stmt:=top 62
noncomputable abbrev pc:Stmt:=top 59
noncomputable abbrev rD:Stmt:=top 70
noncomputable abbrev rE:Stmt:=top 73
noncomputable abbrev nq:Stmt:=top 71
noncomputable abbrev pe:Stmt:=top 72
noncomputable abbrev pi:Stmt:=top 74
noncomputable abbrev rF:Stmt:=top 63
noncomputable abbrev lO:Stmt:=top 60
noncomputable abbrev j_:Stmt:=top 64
noncomputable abbrev rG:Stmt:=top 66
noncomputable abbrev pj:Stmt:=top 68
noncomputable abbrev rH:Stmt:=top 67
noncomputable abbrev ny:Stmt:=top 75
noncomputable abbrev lP:Stmt:=top 61
noncomputable abbrev lQ:Stmt:=top 65
noncomputable abbrev rJ:Stmt:=top 69
noncomputable abbrev kg:Stmt:=top 23
noncomputable abbrev ju:Stmt:=bi 55 0
noncomputable abbrev fj:Stmt:=bi 55 8
noncomputable abbrev hJ:Stmt:=bi 55 5
noncomputable abbrev ki:Stmt:=top 20
noncomputable abbrev gx:Stmt:=bi 55 7
noncomputable abbrev hU:Stmt:=bi 55 6
noncomputable abbrev iF:Stmt:=bi 55 4
noncomputable abbrev gy:Stmt:=bi 55 1
noncomputable abbrev gz:Stmt:=bi 55 11
noncomputable abbrev gB:Stmt:=bi 55 10
noncomputable abbrev fQ:Stmt:=bi 55 9
noncomputable abbrev jv:Stmt:=bi 49 0
noncomputable abbrev gC:Stmt:=bi 49 6
noncomputable abbrev fR:Stmt:=bi 49 4
noncomputable abbrev pp:Stmt:=top 19
noncomputable abbrev pz:Stmt:=top 21
noncomputable abbrev pA:Stmt:=top 39
noncomputable abbrev kj:Stmt:=top 41
noncomputable abbrev lR:Stmt:=top 43
noncomputable abbrev pB:Stmt:=top 38
noncomputable abbrev pC:Stmt:=top 30
noncomputable abbrev ko:Stmt:=top 28
noncomputable abbrev pE:Stmt:=top 26
noncomputable abbrev gD:Stmt:=bi 49 7
noncomputable abbrev gE:Stmt:=bi 49 3
noncomputable abbrev fS:Stmt:=bi 49 5
noncomputable abbrev hV:Stmt:=bi 49 1
noncomputable abbrev nz:Stmt:=top 18
noncomputable abbrev lS:Stmt:=top 48
noncomputable abbrev lT:Stmt:=top 54
noncomputable abbrev yu:Stmt:=top 76
set_option genInjectivity false in
structure AdD where
 (l_:Addr) (kQ:FuncData) (rT:Addr) (ql:FuncData) (rW:Addr) (qo:FuncData) (lG:Addr) (jS:FuncData) (rZ:Addr) (qr:FuncData) (rV:Addr) (qm:FuncData) (nV:Addr) (mr:FuncData) (qh:Addr) (og:FuncData) (qf:Addr) (oa:FuncData) (rX:Addr) (qp:FuncData) (mf:Addr) (kS:FuncData) (kM:Addr) (jC:FuncData) (r_:Addr) (qu:FuncData) (qg:Addr) (oe:FuncData) (rY:Addr) (qq:FuncData) (nX:Addr) (mt:FuncData) (md:Addr) (kR:FuncData) (mh:Addr) (kT:FuncData) (r9:Addr) (qt:FuncData) (kN:Addr) (jD:FuncData) (jA:Addr) (jd:FuncData) (fB:Addr) (eU:FuncData) (ie:Addr) (gW:FuncData) (kL:Addr) (jB:FuncData) (gQ:Addr) (gg:FuncData) (ig:Addr) (gX:FuncData) (iH:Addr) (ii:FuncData) (gT:Addr) (gj:FuncData) (gR:Addr) (gh:FuncData) (gS:Addr) (gi:FuncData) (gb:Addr) (fE:FuncData) (jz:Addr) (jc:FuncData) (gN:Addr) (gc:FuncData) (f_:Addr) (fC:FuncData) (qc:Addr) (n9:FuncData) (qd:Addr) (n_:FuncData) (qb:Addr) (nZ:FuncData) (kP:Addr) (jF:FuncData) (mq:Addr) (kX:FuncData) (qj:Addr) (oj:FuncData) (qi:Addr) (oh:FuncData) (kO:Addr) (jE:FuncData) (qk:Addr) (om:FuncData) (gP:Addr) (gf:FuncData) (gO:Addr) (ge:FuncData) (ga:Addr) (fD:FuncData) (ic:Addr) (gU:FuncData) (nY:Addr) (mv:FuncData) (mi:Addr) (kU:FuncData) (mo:Addr) (kW:FuncData) (yT:Addr) (tq:FuncData) (aH:Addr) (ak:Addr)
set_option genInjectivity false in
structure Adr extends AdD where
 (iL iM dZ fI eo db de cE dM:Addr)
structure TxD (K:PySem.W.Frag) (mg:Str→Option Value) (a:AdD) : Prop where
 bo:lm K mg "Reader" a.aH
 iI:cK K a.aH "shorts"
 eW:cK K a.aH "feet"
 dS:cK K a.aH "things"
 cF:cK K a.aH "going_on"
 aI:lm K mg "Setter" a.ak
 jH:cK K a.ak "numbers"
 kY:cK K a.ak "titles"
 eX:cK K a.ak "feet"
 dt:cK K a.ak "feet_set"
 cr:cK K a.ak "words"
 ca:cK K a.ak "marks"
 ez:cK K a.ak "heads"
 eY:cK K a.ak "leap"
 cG:cK K a.ak "behind_head"
 lV:bL K mg "_law_cell_at" lN ["script","k"] a.l_ a.kQ
 bG:bL K mg "_law_draw" rB ["cell","k","many"] a.rT a.ql
 rP:bL K mg "_law_form" rC ["cell"] a.rW a.qo
 e9:bL K mg "_law_alike" pc ["found","due"] a.lG a.jS
 nS:bL K mg "_law_said" rD ["kind","rest","marks","heads"] a.rZ a.qr
 rO:bL K mg "_law_feet" rE ["stream","feet","marks"] a.rV a.qm
 nR:bL K mg "_law_marked" nq ["stream","marks"] a.nV a.mr
 pX:bL K mg "_law_shape" pe ["found","form"] a.qh a.og
 lF:bL K mg "_law_holds" pi ["found","form","stream","feet"] a.qf a.oa
 kG:bL K mg "_law_name" rF ["cell","j"] a.rX a.qp
 jf:bL K mg "_law_sign_by" lO ["cell","k"] a.mf a.kS
 kH:bL K mg "_law_plain_by" j_ ["cell"] a.kM a.jC
 rS:bL K mg "_law_word" rG ["first","kind","cell","at","marks","feet"] a.r_ a.qu
 pW:bL K mg "_law_named" pj ["rows","first"] a.qg a.oe
 rQ:bL K mg "_law_rows" rH ["script","ways","kinds"] a.rY a.qq
 nT:bL K mg "_law_spaced" ny ["rows","first"] a.nX a.mt
 lW:bL K mg "_law_is_name" lP ["word"] a.md a.kR
 lX:bL K mg "_law_written" lQ ["kind","rest"] a.mh a.kT
 rR:bL K mg "_law_text" rJ ["way","name","words"] a.r9 a.qt
 kI:bL K mg "numbers_of" kg ["levels"] a.kN a.jD
 jy:cO K a.ak "__init__" "Setter.__init__" ju ["self","all_heads","feet"] a.jA a.jd
 fq:cO K a.ak "check_marks" "Setter.check_marks" fj ["self"] a.fB a.eU
 ia:cO K a.ak "set_mark" "Setter.set_mark" hJ ["self","name"] a.ie a.gW
 kE:bL K mg "figures_of" ki ["number"] a.kL a.jB
 gK:cO K a.ak "next_foot" "Setter.next_foot" gx ["self","name"] a.gQ a.gg
 ib:cO K a.ak "set_word" "Setter.set_word" hU ["self","lead","word"] a.ig a.gX
 fA:cO K a.ak "set_run" "Setter.set_run" iF ["self","lead","words","by_head"] a.iH a.ii
 gM:cO K a.ak "set_thing" "Setter.set_thing" gy ["self","thing"] a.gT a.gj
 gL:cO K a.ak "number_at" "Setter.number_at" gz ["self","k"] a.gR a.gh
 et:cO K a.ak "saying_of" "Setter.saying_of" gB ["self","word"] a.gS a.gi
 fZ:cO K a.ak "words_told" "Setter.words_told" fQ ["self"] a.gb a.fE
 jx:cO K a.aH "__init__" "Reader.__init__" jv ["self"] a.jz a.jc
 dm:cO K a.aH "add_thing" "Reader.add_thing" gC ["self","thing"] a.gN a.gc
 fX:cO K a.aH "read_alone" "Reader.read_alone" fR ["self","words"] a.f_ a.fC
 jq:bL K mg "is_name" pp ["word"] a.qc a.n9
 pV:bL K mg "kind_of" pz ["word"] a.qd a.n_
 pU:bL K mg "by_name" pA ["shorts"] a.qb a.nZ
 kK:bL K mg "size_among" kj ["named","nodes","count"] a.kP a.jF
 lZ:bL K mg "words_out" lR ["named","nodes","arguments"] a.mq a.kX
 pZ:bL K mg "put_out" pB ["shorts","nodes"] a.qj a.oj
 pY:bL K mg "node_of" pC ["word","count"] a.qi a.oh
 kJ:bL K mg "opens_call" ko ["word"] a.kO a.jE
 p_:vW K mg "tree_of" pE ["words","count"] a.qk a.om .none
 dq:cO K a.aH "words_out" "Reader.words_out" gD ["self","words","barred"] a.gP a.gf
 gJ:cO K a.aH "read_foot" "Reader.read_foot" gE ["self","words"] a.gO a.ge
 fY:cO K a.aH "read_words" "Reader.read_words" fS ["self","words"] a.ga a.fD
 h_:cO K a.aH "read_row" "Reader.read_row" hV ["self","words"] a.ic a.gU
 nU:bL K mg "words_in" nz ["row"] a.nY a.mv
 lY:bL K mg "read_rows" lS ["rows"] a.mi a.kU
 jg:bL K mg "set_words" lT ["rows","form"] a.mo a.kW
 vc:bL K mg "law" yu ["script"] a.yT a.tq
structure Txt (P:Program) (w:World) (K:PySem.W.Frag) (mg:Str→Option Value) (a:Adr) : Prop extends TxD K mg a.toAdD where
 qH:mg "all" = none
 il:mg "bool" = none
 kZ:mg "dict" = none
 fN:mg "enumerate" = none
 jh:mg "int" = none
 aV:mg "isinstance" = none
 bS:mg "len" = none
 fG:mg "list" = none
 on:mg "max" = none
 eZ:mg "range" = none
 iV:mg "str" = none
 qI:mg "sum" = none
 d7:mg "tuple" = none
 xg:sK K mg "NoFoot" a.db
 se:sK K mg "NoMark" a.de
 uE:sK K mg "TooLong" a.cE
 xX:sK K mg "Twice" a.dM
 fJ:mg "ALONE" = some (.ref a.iL)∧∀ H,SqT K H a.iL [.str (PySem.Str.ofString ".page"),.str (PySem.Str.ofString ".odd"),.str (PySem.Str.ofString ".list")]
 dH:∃ t,mg "FIGURES" = some (.str (PySem.Str.ofString "0123456789") t)
 fK:mg "HEADS" = some (.ref a.iM)∧∀ H,SqT K H a.iM [.str (PySem.Str.ofString "="),.str (PySem.Str.ofString "=="),.str (PySem.Str.ofString "===")]
 eV:mg "KINDS" = some (.ref a.dZ)∧tJ P w K a.dZ jM
 fL:mg "LEAPS" = some (.ref a.fI)∧tJ P w K a.fI sV
 dr:∃ t,mg "LETTERS" = some (.str (PySem.Str.ofString "abcdefghijklmnopqrstuvwxyz") t)
 bZ:∃ t,mg "LONGEST_NAME" = some (.int 12 t)
 b7:∃ t,mg "LONGEST_TEXT" = some (.int 60 t)
 cw:∃ t,mg "MOST_CALLS" = some (.int 400 t)
 bK:∃ t,mg "MOST_FOOT_WORDS" = some (.int 39 t)
 bu:∃ t,mg "MOST_WORDS_books" = some (.int 400 t)
 bw:∃ t,mg "MOST_WORDS_shorts" = some (.int 400 t)
 dh:mg "POINTING" = some (.ref a.eo)∧∀ H,SqT K H a.eo [.str (PySem.Str.ofString "number"),.str (PySem.Str.ofString "page"),.str (PySem.Str.ofString "row")]
section
variable {P:Program} {w:World} {K:PySem.W.Frag} {mg:Str→Option Value} {base:Heap} {a:Adr}

def wB (K:PySem.W.Frag) : Sp:=fun vs H Q _=>∃ (b:Addr) (ns:List Int) (k:Nat),vs=[.ref b,.int (k:Int)]∧SqL K H b (ns.map V.int)∧Q (.int (ns.getD k 0)) H
theorem wC:aJ ["script","k"] ["script","k"] (av lN):=by walk_at "c"
theorem wD (T:Txt P w K mg a) : aX P w K mg base CX0 1 a.l_ a.kQ ["script","k"] (wB K):=by
 refine T.lV.fn.ok wC (fun vs H Q E h=>?_) (fun cdv A outer s H vs Q E hr h=>?_)
 ·obtain ⟨b,ns,k,rfl,_⟩:=h
  rfl
 obtain ⟨b,ns,k,rfl,hS,q⟩:=h
 refine ⟨_,(af (aG (au u0 (pv 1) (aK bD rfl T.bS PySem.boot_len (aa (pv 0) ac)) (nomark _)) (ag (aF (aD bU (pv 0) (pv 1) (fun _ _=>rfl)))) aE)
   (ag (aF ai))),?_⟩
 refine ⟨_,rfl,_,rfl,_,_,rfl,.inl hS,_,_,rfl,rfl,_,rfl,?_⟩
 refine dX (fun c=>?_) (fun c=>?_)
 ·have hk:k < ns.length:=by
   have:=of_decide_eq_true c
   rw [List.length_map] at this
   omega
  refine ⟨_,rfl,_,rfl,_,_,_,_,rfl,rfl,hS,dy (j:=k) (v:=.int (ns.getD k 0)) ?_,q⟩
  rw [List.getElem?_map,List.getElem?_eq_getElem hk,List.getD_eq_getElem?_getD,List.getElem?_eq_getElem hk]
  rfl
 ·have hk:ns.length≤k:=by
   refine Nat.le_of_not_lt fun hk=>c (decide_eq_true ?_)
   rw [List.length_map]
   omega
  have e:ns.getD k 0=0:=by rw [List.getD_eq_getElem?_getD,List.getElem?_eq_none hk]; rfl
  rw [e] at q
  exact q
def br (c k m:Int) : Int:=(c+1) * (48271+7919 * k * k) % 2147483647 * ((c+1) * (48271+7919 * k * k) % 2147483647) % 2147483629 / 7 % m
theorem cT (c k:Int) {m:Int} (h:0 < m) : 0≤br c k m∧br c k m < m:=⟨Int.emod_nonneg _ (by omega),Int.emod_lt_of_pos _ h⟩
theorem Ea {k:Int} (h0:0≤k) (h1:k≤100000) : 0≤7919 * k * k∧7919 * k * k≤79190000000000:=by
 have a:=Int.mul_nonneg h0 h0
 have b:k * k≤100000 * 100000:=Int.mul_le_mul h1 h1 h0 (by decide)
 rw [Int.mul_assoc]
 omega
def z6:Sp:=fun vs H Q _=>∃ c k m:Int,vs=[.int c,.int k,.int m]∧(0≤k∧k≤100000)∧0 < m∧Q (.int (br c k m)) H
theorem uw:aJ ["cell","k","many","number"] ["cell","k","many"] (av rB):=by walk_at "c"
theorem bA (T:Txt P w K mg a) : aX P w K mg base CX0 1 a.rT a.ql ["cell","k","many"] z6:=by
 refine T.bG.fn.ok uw (fun vs H Q E h=>?_) (fun cdv A outer s H vs Q E hr h=>?_)
 ·obtain ⟨c,k,m,rfl,_⟩:=h
  rfl
 obtain ⟨c,k,m,rfl,⟨h0,h1⟩,hm,q⟩:=h
 refine ⟨_,(af (aA (i:=3) uw.nd rfl (Or.inl rfl) (aO mx (aO sA (aO b_ (pv 0) ai) (aO b_ ai (aO sA (aO sA ai (pv 1)) (pv 1)))) ai))
   (ag (aF (aO mx (aO xx (aO mx (aO sA (pv 3) (pv 3)) ai) ai) (pv 2))))),?_⟩
 have sq:=Ea h0 h1
 refine ⟨_,rfl,_,_,rfl,rfl,_,rfl,_,_,rfl,rfl,.inl ⟨by decide,by decide⟩,_,rfl,_,_,rfl,rfl,.inr ⟨by omega,by omega⟩,_,_,rfl,rfl,_,_,rfl,rfl,.inr ⟨by omega,by omega⟩,_,_,rfl,rfl,(by decide:(0:Int) < 2147483647),?_⟩
 refine ⟨_,rfl,_,rfl,_,_,rfl,rfl,.inl ⟨by omega,by omega⟩,_,_,rfl,rfl,(by decide:(0:Int) < 2147483629),_,_,rfl,rfl,⟨by decide,by decide⟩,_,rfl,_,_,rfl,rfl,hm,?_⟩
 exact q
theorem jb (c k:Int) {m:Nat} (h:0 < m) : ∃ d:Nat,br c k (m:Int)=(d:Int)∧d < m:=by
 have:=cT c k (show (0:Int) < (m:Int) by omega)
 exact ⟨(br c k m).toNat,by omega,by omega⟩

theorem at4 (a b c d:Int) : ∀ k:Nat,k < 4→∃ w,atI [V.int a,V.int b,V.int c,V.int d] (k:Int)=some (V.int w)
 | 0,_=>⟨a,rfl⟩
 | 1,_=>⟨b,rfl⟩
 | 2,_=>⟨c,rfl⟩
 | 3,_=>⟨d,rfl⟩

def z7:Sp:=fun vs H Q _=>∃ c:Int,vs=[.int c]∧∀ p H' (x y z u:Int),H p=none→ao H H'→H' p=some (.tup [.int x,.int y,.int z,.int u])→Q (.ref p) H'
theorem ux:aJ ["cell","wide"] ["cell"] (av rC):=by walk_at "c"
theorem z8 (T:Txt P w K mg a) : aX P w K mg base CX0 2 a.rW a.qo ["cell"] z7:=by
 refine T.rP.fn.ok ux (fun vs H Q E h=>?_) (fun cdv A outer s H vs Q E hr h=>?_)
 ·obtain ⟨c,rfl,_⟩:=h
  rfl
 obtain ⟨c,rfl,q⟩:=h
 refine ⟨_,(af (aA (i:=1) ux.nd rfl (Or.inl rfl) (aD bU (aY (aa (aO b_ ai (aB T.bG (bA T) (hr.mono (by decide)) rfl (aa (pv 0) (aa ai (aa ai ac))))) (aa ai (aa ai (aa (aO b_ ai (aB T.bG (bA T) (hr.mono (by decide)) rfl (aa (pv 0) (aa ai (aa ai ac))))) ac))))) (aB T.bG (bA T) (hr.mono (by decide)) rfl (aa (pv 0) (aa ai (aa ai ac)))) (fun _ _=>rfl)))
   (ag (aF (aS (aa (pv 1) (aa (aO b_ ai (aB T.bG (bA T) (hr.mono (by decide)) rfl (aa (pv 0) (aa ai (aa ai ac))))) (aa (aO mx (pv 0) (aO b_ (aO CF ai ai) ai)) (aa (aO b_ ai (aB T.bG (bA T) (hr.mono (by decide)) rfl (aa (pv 0) (aa ai (aa ai ac))))) ac)))))))),?_⟩
 obtain ⟨n,en,hn⟩:=jb c 77 (show 0 < 4 by decide)
 have en:br c 77 4=(n:Int):=en
 refine ⟨_,rfl,_,75,200,rfl,⟨by decide,by decide⟩,by decide,_,_,rfl,rfl,_,rfl,_,76,30,rfl,⟨by decide,by decide⟩,by decide,_,_,rfl,rfl,le4,fun p1 hp1=>?_⟩
 obtain ⟨w,hw⟩:=at4 (1+br c 75 200) 1 200 (1+br c 76 30) n hn
 refine ⟨_,rfl,_,77,4,rfl,⟨by decide,by decide⟩,by decide,_,_,_,_,rfl,rfl,SqL.of ae,(by rw [en]; exact hw),?_⟩
 refine ⟨_,rfl,_,rfl,_,78,60,rfl,⟨by decide,by decide⟩,by decide,_,_,rfl,rfl,_,rfl,_,_,rfl,rfl,⟨by decide,by decide,by decide⟩,_,_,rfl,rfl,_,_,rfl,rfl,(by show (0:Int) < 10 ^ Int.toNat 60+1; decide),_,rfl,_,79,60,rfl,⟨by decide,by decide⟩,by decide,_,_,rfl,rfl,le4,fun p2 hp2=>?_⟩
 exact q p2 _ _ _ _ _ ((ah hp1 _).free hp2) ((ah hp1 _).trans (ah hp2 _)) ae

theorem sZ:aJ ["found","due","k"] ["found","due"] (av pc):=by walk_at "c"
theorem pF (T:Txt P w K mg a) : ∀ n:Nat,aX P w K mg base CX0 n a.lG a.jS ["found","due"] (vT K n)
 | 0=>⟨fun vs H Q E h=>(by obtain ⟨d,x,y,_,h0,_⟩:=h; exact absurd h0 (Nat.not_lt_zero _)),fun A outer s H args us vs Q E _ _ _ _ h=>(by obtain ⟨d,x,y,_,h0,_⟩:=h; exact absurd h0 (Nat.not_lt_zero _))⟩
 | n+1=>by
  have g_l_alike:=pF T n
  have e9:=T.e9
  have il:=T.il
  have jh:=T.jh
  have aV:=T.aV
  have bS:=T.bS
  have fG:=T.fG
  have eZ:=T.eZ
  have iV:=T.iV
  have d7:=T.d7

  refine T.e9.fn.ok sZ (fun vs H Q E h=>?_) (fun cdv A outer s H vs Q E hr h=>?_)
  ·obtain ⟨d,x,y,rfl,_⟩:=h
   rfl
  obtain ⟨d,x,y,rfl,hd,rx,ry,q⟩:=h
  refine ⟨_,(af (aG (b8 (aK cq rfl aV PyProof.Rows.boot_isinstance (aa (pv 1) (aa (cA (v:=.ty "bool") rfl il PyProof.Rows.boot_bool rfl) ac))) (fun _=>rfl)) (ag (aF (jW (aK cq rfl aV PyProof.Rows.boot_isinstance (aa (pv 0) (aa (cA (v:=.ty "bool") rfl il PyProof.Rows.boot_bool rfl) ac))) (jV (eI a_ (pv 0) (pv 1) (nomark _)))))) aE)
   (af (aG (b8 (aK cq rfl aV PyProof.Rows.boot_isinstance (aa (pv 1) (aa (cA (v:=.ty "int") rfl jh PyProof.Rows.boot_int rfl) ac))) (fun _=>rfl)) (ag (aF (jW (aK cq rfl aV PyProof.Rows.boot_isinstance (aa (pv 0) (aa (cA (v:=.ty "int") rfl jh PyProof.Rows.boot_int rfl) ac))) (jW (Cv (aK cq rfl aV PyProof.Rows.boot_isinstance (aa (pv 0) (aa (cA (v:=.ty "bool") rfl il PyProof.Rows.boot_bool rfl) ac)))) (jV (eI a_ (pv 0) (pv 1) (nomark _))))))) aE)
   (af (aG (b8 (aK cq rfl aV PyProof.Rows.boot_isinstance (aa (pv 1) (aa (cA (v:=.ty "str") rfl iV PyProof.Rows.boot_str rfl) ac))) (fun _=>rfl)) (ag (aF (jW (aK cq rfl aV PyProof.Rows.boot_isinstance (aa (pv 0) (aa (cA (v:=.ty "str") rfl iV PyProof.Rows.boot_str rfl) ac))) (jV (eI a_ (pv 0) (pv 1) (nomark _)))))) aE)
   (af (aG (b8 (aK cq rfl aV PyProof.Rows.boot_isinstance (aa (pv 1) (aa (cA (v:=.ty "tuple") rfl d7 PyProof.Rows.boot_tuple rfl) ac))) (fun _=>rfl)) (ag (aG (dO (b8 (aK cq rfl aV PyProof.Rows.boot_isinstance (aa (pv 0) (aa (cA (v:=.ty "tuple") rfl d7 PyProof.Rows.boot_tuple rfl) ac))) (fun _=>rfl))) (ag (aF cW)) aE)) (ag (aG (dO (b8 (aK cq rfl aV PyProof.Rows.boot_isinstance (aa (pv 0) (aa (cA (v:=.ty "list") rfl fG PyProof.Rows.boot_list rfl) ac))) (fun _=>rfl))) (ag (aF cW)) aE)))
   (af (aG (au io (aK mS rfl bS PySem.boot_len (aa (pv 0) ac)) (aK mS rfl bS PySem.boot_len (aa (pv 1) ac)) (nomark _)) (ag (aF cW)) aE)
   (af (b9 PassesOwn.never rfl (le rfl eZ (aa (aK mS rfl bS PySem.boot_len (aa (pv 1) ac)) ac)) (aM (i:=2) sZ.nd rfl (Or.inl rfl)) (ag (aG (dO (b8 (aB e9 g_l_alike hr rfl (aa (aD zg (pv 0) (pv 2) (fun _ _=>rfl)) (aa (aD zg (pv 1) (pv 2) (fun _ _=>rfl)) ac))) (fun _=>rfl))) (ag (aF cW)) aE)))
   (ag (aF cW)))))))),?_⟩
  cases d with
  | bl b =>
   unfold Rep at rx ry
   subst rx ry
   refine ⟨_,rfl,_,"bool",true,rfl,by decide,rfl,_,rfl,?_⟩
   refine aT ?_
   refine ⟨_,rfl,_,"bool",true,rfl,by decide,rfl,_,rfl,?_⟩
   refine aT ?_
   refine ⟨_,rfl,_,rfl,rfl,?_⟩
   rw [decide_eq_true rfl]
   exact q
  | int i =>
   unfold Rep at rx ry
   subst rx ry
   refine ⟨_,rfl,_,"bool",false,rfl,by decide,rfl,_,rfl,?_⟩
   refine ay ?_
   refine ⟨_,rfl,_,"int",true,rfl,by decide,rfl,_,rfl,?_⟩
   refine aT ?_
   refine ⟨_,rfl,_,"int",true,rfl,by decide,rfl,_,rfl,?_⟩
   refine aT ?_
   refine ⟨_,rfl,_,"bool",false,rfl,by decide,rfl,_,rfl,_,rfl,?_⟩
   refine aT ?_
   refine ⟨_,rfl,_,rfl,rfl,?_⟩
   rw [decide_eq_true rfl]
   exact q
  | str i =>
   unfold Rep at rx ry
   subst rx ry
   refine ⟨_,rfl,_,"bool",false,rfl,by decide,rfl,_,rfl,?_⟩
   refine ay ?_
   refine ⟨_,rfl,_,"int",false,rfl,by decide,rfl,_,rfl,?_⟩
   refine ay ?_
   refine ⟨_,rfl,_,"str",true,rfl,by decide,rfl,_,rfl,?_⟩
   refine aT ?_
   refine ⟨_,rfl,_,"str",true,rfl,by decide,rfl,_,rfl,?_⟩
   refine aT ?_
   refine ⟨_,rfl,_,rfl,rfl,?_⟩
   rw [decide_eq_true rfl]
   exact q
  | lst l =>
   unfold Rep at rx ry
   unfold DD.deep at hd
   obtain ⟨a1,xs,rfl,s1,hl,r1⟩:=rx
   obtain ⟨a2,ys,rfl,s2,_,r2⟩:=ry
   have l1:=r1.len
   have l2:=r2.len
   refine ⟨_,rfl,_,"bool",false,rfl,by decide,.inl ⟨⟨_,s2⟩,rfl⟩,_,rfl,?_⟩
   refine ay ?_
   refine ⟨_,rfl,_,"int",false,rfl,by decide,.inl ⟨⟨_,s2⟩,rfl⟩,_,rfl,?_⟩
   refine ay ?_
   refine ⟨_,rfl,_,"str",false,rfl,by decide,.inl ⟨⟨_,s2⟩,rfl⟩,_,rfl,?_⟩
   refine ay ?_
   refine ⟨_,rfl,_,"tuple",false,rfl,by decide,.inl ⟨⟨_,s2⟩,rfl⟩,_,rfl,?_⟩
   refine ay ?_
   refine ⟨_,rfl,_,"list",true,rfl,by decide,.inl ⟨⟨_,s1⟩,rfl⟩,_,rfl,?_⟩
   refine ay ?_
   refine ⟨_,rfl,_,_,rfl,.inl ⟨_,s1,rfl⟩,_,rfl,_,_,rfl,.inl ⟨_,s2,rfl⟩,rfl,_,rfl,?_⟩
   refine Bq (by rw [l1,l2]) ?_
   refine ⟨_,rfl,_,_,rfl,.inl ⟨_,s2,rfl⟩,_,rfl,by omega,by omega,ub (fun i σ H2=>H2=H∧∃ v,σ=[some (.ref a1),some (.ref a2),v]) ⟨rfl,none,rfl⟩ ?_ ?_⟩
   ·rintro i σ H2 hi ⟨rfl,v,rfl⟩
    have hi2:i < l.length:=by simp at hi; omega
    obtain ⟨x,ex,hx⟩:=r1.get (List.getElem?_eq_getElem hi2)
    obtain ⟨y,ey,hy⟩:=r2.get (List.getElem?_eq_getElem hi2)
    have hdd:=oW (List.getElem?_eq_getElem hi2)
    have ix:∀ {zs:List V} {z:V},zs[i]? = some z→atI zs (0+(i:Int))=some z:=fun e=>by rw [Int.zero_add]; exact dy e
    refine ⟨_,rfl,_,rfl,.inl ⟨_,_,_,_,rfl,rfl,s1,ix ex,_,rfl,_,rfl,.inl ⟨_,_,_,_,rfl,rfl,s2,ix ey,_,_,_,rfl,by omega,hx,hy,_,rfl,?_⟩⟩⟩
    refine ay ?_
    exact ⟨rfl,_,rfl⟩
   ·rintro σ H2 ⟨rfl,v,rfl⟩
    exact q
  | tup l =>
   unfold Rep at rx ry
   unfold DD.deep at hd
   obtain ⟨a1,xs,rfl,s1,hl,r1⟩:=rx
   obtain ⟨a2,ys,rfl,s2,_,r2⟩:=ry
   have l1:=r1.len
   have l2:=r2.len
   refine ⟨_,rfl,_,"bool",false,rfl,by decide,.inr ⟨⟨_,s2⟩,rfl⟩,_,rfl,?_⟩
   refine ay ?_
   refine ⟨_,rfl,_,"int",false,rfl,by decide,.inr ⟨⟨_,s2⟩,rfl⟩,_,rfl,?_⟩
   refine ay ?_
   refine ⟨_,rfl,_,"str",false,rfl,by decide,.inr ⟨⟨_,s2⟩,rfl⟩,_,rfl,?_⟩
   refine ay ?_
   refine ⟨_,rfl,_,"tuple",true,rfl,by decide,.inr ⟨⟨_,s2⟩,rfl⟩,_,rfl,?_⟩
   refine aT ?_
   refine ⟨_,rfl,_,"tuple",true,rfl,by decide,.inr ⟨⟨_,s1⟩,rfl⟩,_,rfl,?_⟩
   refine ay ?_
   refine ⟨_,rfl,_,_,rfl,.inr ⟨_,s1,rfl⟩,_,rfl,_,_,rfl,.inr ⟨_,s2,rfl⟩,rfl,_,rfl,?_⟩
   refine Bq (by rw [l1,l2]) ?_
   refine ⟨_,rfl,_,_,rfl,.inr ⟨_,s2,rfl⟩,_,rfl,by omega,by omega,ub (fun i σ H2=>H2=H∧∃ v,σ=[some (.ref a1),some (.ref a2),v]) ⟨rfl,none,rfl⟩ ?_ ?_⟩
   ·rintro i σ H2 hi ⟨rfl,v,rfl⟩
    have hi2:i < l.length:=by simp at hi; omega
    obtain ⟨x,ex,hx⟩:=r1.get (List.getElem?_eq_getElem hi2)
    obtain ⟨y,ey,hy⟩:=r2.get (List.getElem?_eq_getElem hi2)
    have hdd:=oW (List.getElem?_eq_getElem hi2)
    have ix:∀ {zs:List V} {z:V},zs[i]? = some z→atI zs (0+(i:Int))=some z:=fun e=>by rw [Int.zero_add]; exact dy e
    refine ⟨_,rfl,_,rfl,.inr (.inl ⟨_,_,_,_,rfl,rfl,s1,ix ex,_,rfl,_,rfl,.inr (.inl ⟨_,_,_,_,rfl,rfl,s2,ix ey,_,_,_,rfl,by omega,hx,hy,_,rfl,?_⟩)⟩)⟩
    refine ay ?_
    exact ⟨rfl,_,rfl⟩
   ·rintro σ H2 ⟨rfl,v,rfl⟩
    exact q
theorem nA (T:Txt P w K mg a) : aX P w K mg base CX0 5 a.lG a.jS ["found","due"] (vT K 5):=pF T 5

theorem Do (k:Kw) (h:k≠.entry) : inV (.str k.s) [V.str (PySem.Str.ofString "head"),V.str (PySem.Str.ofString "entry")]=false:=by
 cases k <;> first | exact absurd rfl h | decide +kernel
theorem Bg (k:Kw) : ¬ (V.str k.s=V.str (PySem.Str.ofString "goal")):=by
 intro z
 have z:=V.str.inj z
 revert z
 cases k <;> decide +kernel

def z9 (K:PySem.W.Frag) : Sp:=fun vs H Q _=>∃ (ma ha:Addr) (k:Kw) (r:List Nat) (σ:Ss) (hvs:List V),vs=[.str k.s,.str (tx r),.ref ma,.ref ha]∧H ma=some (.dK (mkV σ.ms))∧H ha=some (.lst hvs)∧aR (HdA H) hvs σ.hs∧k≠.entry∧fi σ (k,.str (tx r))∧∀ p H' x y,H p=none→ao H H'→H' p=some (.tup [x,y])→iP σ (k,.str (tx r))=(x,y)→Q (.ref p) H'
theorem lB:aJ ["kind","rest","marks","heads","number","one"] ["kind","rest","marks","heads"] (av rD):=by walk_at "c"
theorem uy (T:Txt P w K mg a) : aX P w K mg base CX0 1 a.rZ a.qr ["kind","rest","marks","heads"] (z9 K):=by
 refine T.nS.fn.ok lB (fun vs H Q E h=>?_) (fun cdv A outer s H vs Q E hr h=>?_)
 ·obtain ⟨ma,ha,k,r,σ,hvs,rfl,_⟩:=h
  rfl
 obtain ⟨ma,ha,k,r,σ,hvs,rfl,hma,hha,hal,ke,ok,q⟩:=h
 refine ⟨_,(af (aG (au a_ (pv 0) aq (nomark _)) (ag (aF (aS (aa aq (aa (pv 1) ac))))) aE)
   (af (aG (au gr (pv 0) (aS (aa aq (aa aq ac))) (by with_unfolding_all rfl)) (ag (aF (aS (aa aq (aa (aD aN (aD bU (pv 3) (pv 1) (fun _ _=>rfl)) ai (fun _ _=>rfl)) ac))))) aE)
   (af (aG (au a_ (pv 0) aq (nomark _)) (ag (aF (aS (aa aq (aa (aD aN (aD bU (pv 3) (pv 1) (fun _ _=>rfl)) ai (fun _ _=>rfl)) ac))))) aE)
   (af (aG (au io (pv 0) aq (nomark _)) (ag (aF (aS (aa (pv 0) (aa (i4 (df hr) (pv 2) (pv 1) (fun _ _=>rfl)) ac))))) aE)
   (af (aA (i:=4) lB.nd rfl (Or.inl rfl) aq)
   (af (b9 PassesOwn.never rfl (a7 (pv 3)) (aM (i:=5) lB.nd rfl (Or.inl rfl)) (ag (aG (au xZ (aD aN (pv 5) ai (fun _ _=>rfl)) (i4 (df hr) (pv 2) (pv 1) (fun _ _=>rfl)) (nomark _)) (ag (aA (i:=4) lB.nd rfl (Or.inl rfl) (aD aN (pv 5) ai (fun _ _=>rfl)))) aE)))
   (ag (aF (aS (aa aq (aa (pv 4) ac))))))))))),?_⟩
 refine ⟨_,rfl,rfl,_,rfl,?_⟩
 by_cases hp:k = .plain
 ·subst hp
  rw [decide_eq_true (show V.str Kw.plain.s=V.str "plain" from rfl)]
  refine aT ?_
  exact ⟨_,rfl,le2,fun p1 hp1=>q p1 _ _ _ hp1 (ah hp1 _) ae rfl⟩
 rw [decide_eq_false (show ¬ (V.str k.s=V.str "plain") from fun z=>hp (Kw.inj (b:=.plain) (V.str.inj z)))]
 refine ay ?_
 dsimp only [cX]
 obtain ⟨z,_⟩ | ⟨z,_⟩ | ⟨hk,n,at_,hn,km⟩:=ok
 ·exact absurd z hp
 ·exact absurd z ke
 dsimp only at hk hn
 have hn:r=n:=ik (V.str.inj hn)
 subst hn
 refine ⟨_,rfl,le2,fun p2 hp2=>?_⟩
 have s2:=ah hp2 (.tup [V.str (PySem.Str.ofString "head"),V.str (PySem.Str.ofString "entry")])
 refine ⟨_,_,rfl,.inr (SqT.of ae),rfl,rfl,_,rfl,?_⟩
 refine dX (fun c2=>?_) (fun c2=>?_)
 ·exact absurd ((Do k ke).symm.trans c2) Bool.false_ne_true
 generalize upd H p2 (.tup [V.str (PySem.Str.ofString "head"),V.str (PySem.Str.ofString "entry")])=H2 at s2 ⊢
 dsimp only [cX]
 refine ⟨_,rfl,rfl,_,rfl,?_⟩
 rw [decide_eq_false (Bg k)]
 refine ay ?_
 dsimp only [cX]
 refine ⟨_,rfl,rfl,_,rfl,?_⟩
 have hg:dR H2 ma (kV (.inr (tx r))) (some (.int (at_:Int))):=by
  have:=dR.k (k:=.inr (tx r)) (s2 _ _ hma)
  rw [i_,km] at this
  exact this
 have em:iO σ (a9 (.str (tx r)))=at_:=by unfold iO; show (lkS (tx r) σ.ms).getD 0=at_; rw [km]; rfl
 by_cases h3:k = .number
 ·subst h3
  rw [decide_eq_true (show V.str Kw.number.s=V.str "number" from rfl)]
  refine ay ?_
  dsimp only [cX]
  have lh:=hal.len
  refine ⟨_,rfl,ha,rfl,⟨_,SqL.of (s2 _ _ hha)⟩,bT (K:=K) (a:=ha) (xs:=hvs) (fun i σ' G=>G=H2∧∃ (n:Str) (v5:Option V),σ' = [some (.str Kw.number.s),some (.str (tx r)),some (.ref ma),some (.ref ha),some (.str n),v5]∧fh at_ "0" σ.hs=fh at_ n (σ.hs.drop i)) ⟨rfl,_,none,rfl,rfl⟩ (fun i σ' G _ g=>by rw [g.1]; exact SqL.of (s2 _ _ hha)) ?_ ?_⟩
  ·rintro i y σ' G hy ⟨rfl,n,v5,rfl,en⟩
   obtain ⟨⟨t,at2⟩,hw,b,rfl,hb⟩:=hal.getL hy
   have ed:σ.hs.drop i=(t,at2) :: σ.hs.drop (i+1):=by
    obtain ⟨hi,e⟩:=List.getElem?_eq_some_iff.mp hw
    rw [List.drop_eq_getElem_cons hi,e]
   rw [ed] at en
   have hb2:=s2 _ _ hb
   refine ⟨_,rfl,_,_,_,_,rfl,rfl,SqT.of hb2,rfl,_,rfl,_,rfl,_,_,rfl,hg,_,_,rfl,rfl,_,rfl,?_⟩
   by_cases c1:at2≤at_
   ·rw [decide_eq_true (show ((at2:Nat) : Int)≤(at_:Int) by omega)]
    refine aT ?_
    refine ⟨_,rfl,_,_,_,_,rfl,rfl,SqT.of hb2,rfl,rfl,_,_,rfl,?_⟩
    rw [en]
    show fh at_ (if at2≤at_ then t else n) _=_
    rw [if_pos c1]
   ·rw [decide_eq_false (show ¬ (((at2:Nat) : Int)≤(at_:Int)) by omega)]
    refine ay ?_
    refine ⟨rfl,_,_,rfl,?_⟩
    rw [en]
    show fh at_ (if at2≤at_ then t else n) _=_
    rw [if_neg c1]
  rintro σ' G ⟨rfl,n,v5,rfl,en⟩
  rw [lh,List.drop_length] at en
  refine ⟨_,rfl,le2,fun p3 hp3=>q p3 _ _ _ (s2.free hp3) (s2.trans (ah hp3 _)) ae ?_⟩
  show (V.str "text",V.str (fh (iO σ (a9 (.str (tx r)))) "0" σ.hs))=_
  rw [em,en]
  rfl
 ·rw [decide_eq_false (show ¬ (V.str k.s=V.str "number") from fun z=>h3 (Kw.inj (b:=.number) (V.str.inj z)))]
  refine aT ?_
  refine ⟨_,rfl,_,rfl,_,rfl,_,_,rfl,hg,le2,fun p4 hp4=>q p4 _ _ _ (s2.free hp4) (s2.trans (ah hp4 _)) ae ?_⟩
  cases hk1:k with
  | page=>show (V.str "page",V.int ((iO σ (a9 (.str (tx r))) : Nat) : Int))=_; rw [em]; rfl
  | row=>show (V.str "row",V.int ((iO σ (a9 (.str (tx r))) : Nat) : Int))=_; rw [em]; rfl
  | number=>exact absurd hk1 h3
  | plain=>exact absurd hk1 hp
  | mark=>rw [hk1] at hk; cases hk
  | foot=>rw [hk1] at hk; cases hk
  | entry=>exact absurd hk1 ke

def bz:List Wk→Nat→List (Str × Nat)
 | [],_=>[]
 | w :: r,n=>if w.1 = .mark then (a9 w.2,n) :: bz r n else bz r (n+1)
def bH (ws:List Wk) : Nat:=(ws.filter fun w=>!decide (w.1 = .mark)).length
theorem iG:∀ (a b:List Wk) (n:Nat),bz (a++b) n=bz a n++bz b (n+bH a)
 | [],b,n=>by simp [bz,bH]
 | w :: r,b,n=>by
  by_cases h:w.1 = .mark
  ·have e:bH (w :: r)=bH r:=by unfold bH; simp [h]
   rw [e]
   show (if w.1 = .mark then _ else _)=(if w.1 = .mark then _ else _)++_
   rw [if_pos h,if_pos h]
   show (a9 w.2,n) :: bz (r++b) n=_
   rw [iG r b n]
   rfl
  ·have e:bH (w :: r)=bH r+1:=by unfold bH; simp [h]
   rw [e]
   show (if w.1 = .mark then _ else bz (r++b) (n+1))=(if w.1 = .mark then _ else bz r (n+1))++_
   rw [if_neg h,if_neg h,iG r b (n+1),show n+1+bH r=n+(bH r+1) by omega]
theorem z_ (ws:List Wk) (w:Wk) : bH (ws++[w])=bH ws+(if w.1 = .mark then 0 else 1):=by
 unfold bH
 rw [List.filter_append,List.length_append]
 by_cases h:w.1 = .mark <;> simp [h]
theorem xS {β:Type} {n:Str} {k:β} : ∀ {l1 l2:List (Str × β)},n ∉ l1.map (·.1)→lkS n (l1++(n,k) :: l2)=some k
 | [],_,_=>if_pos rfl
 | (m,j) :: r,l2,h=>by
  have h1:m≠n:=fun z=>h (by rw [z]; exact List.mem_cons_self)
  show (if m=n then some j else lkS n (r++(n,k) :: l2))=some k
  rw [if_neg h1]
  exact xS fun z=>h (List.mem_cons_of_mem _ z)
theorem Cb {ws:List Wk} {i:Nat} {w:Wk} (hw:ws[i]? = some w) (hm:w.1 = .mark) (nd:((bz ws 0).map (·.1)).Nodup) : lkS (a9 w.2) (bz ws 0)=some (bH (ws.take i)):=by
 obtain ⟨hi,e⟩:=List.getElem?_eq_some_iff.mp hw
 have es:ws=ws.take i++w :: ws.drop (i+1):=by rw [← e,← List.drop_eq_getElem_cons hi,List.take_append_drop]
 have em:bz ws 0=bz (ws.take i) 0++(a9 w.2,bH (ws.take i)) :: bz (ws.drop (i+1)) (bH (ws.take i)):=by
  conv=>lhs; rw [es]
  rw [iG,Nat.zero_add]
  show _++(if w.1 = .mark then _ else _)=_
  rw [if_pos hm]
 rw [em] at nd ⊢
 refine xS fun z=>?_
 rw [List.map_append,List.nodup_append] at nd
 exact nd.2.2 _ z _ (by rw [List.map_cons]; exact List.mem_cons_self) rfl

theorem xT {K:PySem.W.Frag} {F:Hp} {σ:Ss} {w:Wk} {v:V} (h:SyA F v (iP σ w)) : Rep K F (o4 σ w) v:=by
 obtain ⟨a,rfl,h⟩:=h
 have two:∀ (d e:DD) (x y:V),F a=some (.tup [x,y])→Rep K F d x→Rep K F e y→Rep K F (.tup [d,e]) (.ref a):=fun d e x y hF h1 h2=>by
  unfold Rep
  refine ⟨a,[x,y],rfl,SqT.of hF,by show 2≤1000; decide,?_⟩
  unfold cb
  refine ⟨x,[y],rfl,h1,?_⟩
  unfold cb
  refine ⟨y,[],rfl,h2,?_⟩
  unfold cb
  rfl
 have s:∀ t:Str,Rep K F (.str t) (.str t):=fun t=>by unfold Rep; rfl
 have n:∀ t:Int,Rep K F (.int t) (.int t):=fun t=>by unfold Rep; rfl
 obtain ⟨k,r⟩:=w
 cases k with
 | plain=>exact two _ _ _ _ h (s _) (s _)
 | entry=>exact two _ _ _ _ h (s _) (n _)
 | number=>exact two _ _ _ _ h (s _) (s _)
 | mark=>exact two _ _ _ _ h (s _) (n _)
 | page=>exact two _ _ _ _ h (s _) (n _)
 | row=>exact two _ _ _ _ h (s _) (n _)
 | foot=>exact two _ _ _ _ h (s _) (n _)
theorem uz {K:PySem.W.Frag} {F:Hp} {σ:Ss} : ∀ {ws:List Wk} {vs:List V},aR (fun v w=>SyA F v (iP σ w)) vs ws→cb K F (ws.map (o4 σ)) vs
 | [],[],_=>by rw [List.map_nil]; unfold cb; rfl
 | w :: ws,v :: vs,h=>by
  rw [List.map_cons]
  unfold cb
  exact ⟨v,vs,rfl,xT h.1,uz h.2⟩
theorem Bh {K:PySem.W.Frag} {F:Hp} {σ:Ss} {ws:List Wk} {vs:List V} {p:Addr} (hp:F p=some (.lst vs)) (h:aR (fun v w=>SyA F v (iP σ w)) vs ws) (hl:ws.length≤1000) : Rep K F (.lst (ws.map (o4 σ))) (.ref p):=by
 unfold Rep
 exact ⟨p,vs,rfl,SqL.of hp,by rw [List.length_map]; exact hl,uz h⟩
theorem wE (σ:Ss) (w:Wk) : (o4 σ w).deep≤1:=by
 obtain ⟨k,r⟩:=w
 cases k <;> (show (DD.tup [_,_]).deep≤1; unfold DD.deep dD DD.deep dD; simp [DD.deep,dD])
theorem Aa (σ:Ss) (ws:List Wk) : (DD.lst (ws.map (o4 σ))).deep≤2:=by
 have:∀ l:List DD,(∀ d ∈ l,d.deep≤1)→dD l≤1:=fun l=>by
  induction l with
  | nil=>intro _; unfold dD; exact Nat.zero_le _
  | cons d l ih =>
   intro h
   unfold dD
   exact Nat.max_le.mpr ⟨h d List.mem_cons_self,ih fun x hx=>h x (List.mem_cons_of_mem _ hx)⟩
 unfold DD.deep
 have:=this (ws.map (o4 σ)) fun d hd=>by
  obtain ⟨w,_,rfl⟩:=List.mem_map.mp hd
  exact wE σ w
 omega

def bq (ns:List bN) : List NWd:=ns.flatMap fun r=>if r.1 = .words then r.2.2 else []
def bI (ns:List bN) : List (Str × List Wk):=ns.flatMap fun r=>if r.1 = .foot then [(tx r.2.1,wkS r.2.2)] else []
def ftC (ws:List Wk) : Nat:=(ws.filter fun w=>decide (w.1 = .foot)).length
def eS (n:Nat) : Wk:=(.plain,.str (gu n))
def bO (ft:List (Str × List Wk)) : Nat→List Wk→List (Wk × List Wk)
 | _,[]=>[]
 | n,w :: r =>
  if w.1 = .mark then bO ft n r
  else if w.1 = .foot then (eS (n+1),eS (n+1) :: (lkS (a9 w.2) ft).getD []) :: bO ft (n+1) r
  else (w,[]) :: bO ft n r
theorem dg (ft:List (Str × List Wk)) (n:Nat) (w:Wk) (r:List Wk) : bO ft n (w :: r)=if w.1 = .mark then bO ft n r else if w.1 = .foot then (eS (n+1),eS (n+1) :: (lkS (a9 w.2) ft).getD []) :: bO ft (n+1) r else (w,[]) :: bO ft n r:=rfl
theorem rK (w:Wk) (r:List Wk) : ftC (w :: r)=(if w.1 = .foot then 1 else 0)+ftC r:=by
 unfold ftC
 by_cases h:w.1 = .foot <;> simp [h]; omega
theorem pG (w:Wk) (r:List Wk) : bH (w :: r)=(if w.1 = .mark then 0 else 1)+bH r:=by
 unfold bH
 by_cases h:w.1 = .mark <;> simp [h]; omega
theorem iJ (ft:List (Str × List Wk)) : ∀ (a b:List Wk) (n:Nat),bO ft n (a++b)=bO ft n a++bO ft (n+ftC a) b
 | [],b,n=>rfl
 | w :: a,b,n=>by
  rw [List.cons_append,dg,dg,rK]
  by_cases h:w.1 = .mark
  ·rw [if_pos h,if_pos h,if_neg (by rw [h]; decide),iJ ft a b n,Nat.zero_add]
  ·rw [if_neg h,if_neg h]
   by_cases h2:w.1 = .foot
   ·rw [if_pos h2,if_pos h2,if_pos h2,iJ ft a b (n+1),Nat.add_assoc]
    rfl
   ·rw [if_neg h2,if_neg h2,if_neg h2,iJ ft a b n,Nat.zero_add]
    rfl
theorem gF (ft:List (Str × List Wk)) : ∀ (a:List Wk) (n:Nat),(bO ft n a).length=bH a
 | [],_=>rfl
 | w :: a,n=>by
  rw [dg,pG]
  by_cases h:w.1 = .mark
  ·rw [if_pos h,if_pos h,gF ft a n,Nat.zero_add]
  ·rw [if_neg h,if_neg h]
   by_cases h2:w.1 = .foot
   ·rw [if_pos h2,List.length_cons,gF ft a (n+1),Nat.add_comm]
   ·rw [if_neg h2,List.length_cons,gF ft a n,Nat.add_comm]
theorem lC (ft:List (Str × List Wk)) : ∀ (a:List Wk) (n:Nat),∀ p ∈ bO ft n a,(∃ m f,p=(eS m,eS m :: f)∧(f=[]∨∃ q ∈ ft,f=q.2))∨(p.1 ∈ a∧p.1.1≠.mark∧p.1.1≠.foot∧p.2=[])
 | [],_,p,h=>by cases h
 | w :: a,n,p,h=>by
  have up:(∃ m f,p=(eS m,eS m :: f)∧(f=[]∨∃ q ∈ ft,f=q.2))∨(p.1 ∈ a∧p.1.1≠.mark∧p.1.1≠.foot∧p.2=[])→(∃ m f,p=(eS m,eS m :: f)∧(f=[]∨∃ q ∈ ft,f=q.2))∨(p.1 ∈ w :: a∧p.1.1≠.mark∧p.1.1≠.foot∧p.2=[]):=fun z=>z.imp id fun ⟨z1,z2⟩=>⟨List.mem_cons_of_mem _ z1,z2⟩
  rw [dg] at h
  by_cases h1:w.1 = .mark
  ·rw [if_pos h1] at h; exact up (lC ft a n p h)
  ·rw [if_neg h1] at h
   by_cases h2:w.1 = .foot
   ·rw [if_pos h2] at h
    rcases List.mem_cons.mp h with rfl | h
    ·refine .inl ⟨_,_,rfl,?_⟩
     cases e:lkS (a9 w.2) ft with
     | none=>exact .inl rfl
     | some f=>exact .inr ⟨_,jT e,rfl⟩
    ·exact up (lC ft a (n+1) p h)
   ·rw [if_neg h2] at h
    rcases List.mem_cons.mp h with rfl | h
    ·exact .inr ⟨List.mem_cons_self,h1,h2,rfl⟩
    ·exact up (lC ft a n p h)

def lU (σ:Ss) (p:Wk × List Wk) : DD:=.tup [o4 σ p.1,.lst (p.2.map (o4 σ))]
def DuA (σ:Ss) (F:Hp) (v:V) (p:Wk × List Wk) : Prop:=∃ a s l us,v = .ref a∧F a=some (.tup [.ref s,.ref l])∧SyA F (.ref s) (iP σ p.1)∧F l=some (.lst us)∧aR (SyA F) us (p.2.map (iP σ))
theorem DuA.mono {σ:Ss} {F F':Hp} (m:ao F F') {v:V} {p:Wk × List Wk} (h:DuA σ F v p) : DuA σ F' v p:=by
 obtain ⟨a,s,l,us,e,h1,h2,h3,h4⟩:=h
 exact ⟨a,s,l,us,e,m _ _ h1,h2.mono m,m _ _ h3,h4.imp fun _ _=>SyA.mono m⟩
theorem xU {F:Hp} {pd:Addr} {vs:List V} (h:F pd=some (.lst vs)) {v:V} {s:V × V} (g:SyA F v s) : SyA (hid [pd] F) v s:=by
 obtain ⟨a,e,g⟩:=g
 exact ⟨a,e,a8 (fun z=>by rw [List.mem_singleton.mp z,h] at g; cases g) g⟩
theorem DuA.at_ {σ:Ss} {F:Hp} {pd:Addr} {vs us:List V} {p:Wk × List Wk} {a s l:Addr} (h:F pd=some (.lst vs)) (ha:F a=some (.tup [.ref s,.ref l])) (hs:SyA F (.ref s) (iP σ p.1)) (hl:F l=some (.lst us)) (nl:l≠pd) (al:aR (SyA F) us (p.2.map (iP σ))) : DuA σ (hid [pd] F) (.ref a) p:=
 ⟨a,s,l,us,rfl,a8 (fun z=>by rw [List.mem_singleton.mp z,h] at ha; cases ha) ha,xU h hs,a8 (fun z=>nl (List.mem_singleton.mp z)) hl,al.imp fun _ _=>xU h⟩
theorem s_ {α β:Type} {P:V→β→Prop} {f:α→β} : ∀ {vs:List V} {ws:List α},aR P vs (ws.map f)→aR (fun v w=>P v (f w)) vs ws
 | [],[],_=>trivial
 | _ :: _,_ :: _,h=>⟨h.1,s_ h.2⟩
theorem Cc {K:PySem.W.Frag} {F:Hp} {σ:Ss} {p:Wk × List Wk} {v:V} (hl:p.2.length≤1000) (h:DuA σ F v p) : Rep K F (lU σ p) v:=by
 obtain ⟨a,s,l,us,rfl,h1,h2,h3,h4⟩:=h
 unfold lU Rep
 refine ⟨a,[.ref s,.ref l],rfl,SqT.of h1,by show 2≤1000; decide,?_⟩
 unfold cb
 refine ⟨_,_,rfl,xT h2,?_⟩
 unfold cb
 refine ⟨_,_,rfl,Bh h3 (s_ h4) hl,?_⟩
 unfold cb
 rfl
theorem wF {K:PySem.W.Frag} {F:Hp} {σ:Ss} : ∀ {ps:List (Wk × List Wk)} {vs:List V},(∀ p ∈ ps,p.2.length≤1000)→aR (DuA σ F) vs ps→cb K F (ps.map (lU σ)) vs
 | [],[],_,_=>by rw [List.map_nil]; unfold cb; rfl
 | p :: ps,v :: vs,hl,h=>by
  rw [List.map_cons]
  unfold cb
  exact ⟨v,vs,rfl,Cc (hl p List.mem_cons_self) h.1,wF (fun q hq=>hl q (List.mem_cons_of_mem _ hq)) h.2⟩
theorem wG {K:PySem.W.Frag} {F:Hp} {σ:Ss} {ps:List (Wk × List Wk)} {vs:List V} {a:Addr} (ha:F a=some (.lst vs)) (hl:∀ p ∈ ps,p.2.length≤1000) (h:aR (DuA σ F) vs ps) (hn:ps.length≤1000) : Rep K F (.lst (ps.map (lU σ))) (.ref a):=by
 unfold Rep
 exact ⟨a,vs,rfl,SqL.of ha,by rw [List.length_map]; exact hn,wF hl h⟩
theorem Ab (σ:Ss) (ps:List (Wk × List Wk)) : (DD.lst (ps.map (lU σ))).deep≤4:=by
 have one:∀ p:Wk × List Wk,(lU σ p).deep≤3:=fun p=>by
  have h1:=wE σ p.1
  have h2:=Aa σ p.2
  unfold lU
  unfold DD.deep dD
  unfold dD
  unfold dD
  omega
 have:∀ l:List DD,(∀ d ∈ l,d.deep≤3)→dD l≤3:=fun l=>by
  induction l with
  | nil=>intro _; unfold dD; exact Nat.zero_le _
  | cons d l ih =>
   intro h
   unfold dD
   exact Nat.max_le.mpr ⟨h d List.mem_cons_self,ih fun x hx=>h x (List.mem_cons_of_mem _ hx)⟩
 unfold DD.deep
 have:=this (ps.map (lU σ)) fun d hd=>by
  obtain ⟨p,_,rfl⟩:=List.mem_map.mp hd
  exact one p
 omega
theorem Dp (ws:List Wk) : ftC ws≤ws.length:=List.length_filter_le _ _
theorem cLp:(PySem.Str.ofString "(")=tx [40]:=by decide +kernel
theorem cRp:(PySem.Str.ofString ")")=tx [41]:=by decide +kernel

def Ac (K:PySem.W.Frag) : Sp:=fun vs H Q _=>∃ (sa fa ma:Addr) (ws:List Wk) (kvs:List (Key × V)) (ft:List (Str × List Wk)) (σ:Ss),vs=[.ref sa,.ref fa,.ref ma]∧cg H sa ws∧H fa=some (.dK kvs)∧FtA H kvs ft∧H ma=some (.dK (mkV σ.ms))∧σ.hs=[]∧ws.length≤400∧(∀ w ∈ ws,w.1≠.entry∧∃ n,w.2 = .str (tx n))∧(∀ w ∈ ws,w.1 = .foot→∃ f,lkS (a9 w.2) ft=some f)∧(∀ p ∈ ft,∀ w ∈ p.2,w.1≠.entry∧∃ n,w.2 = .str (tx n))∧(∀ p ∈ bO ft 0 ws,fi σ p.1∧p.2.length≤40∧∀ w ∈ p.2,fi σ w)∧∀ p H',ao H H'→Rep K H' (.lst ((bO ft 0 ws).map (lU σ))) (.ref p)→Q (.ref p) H'
theorem gG:aJ ["stream","feet","marks","due","many","kind","rest","number"] ["stream","feet","marks"] (av rE):=by walk_at "c"
theorem Ad (T:Txt P w K mg a) : aX P w K mg base CX0 2 a.rV a.qm ["stream","feet","marks"] (Ac K):=by
 refine T.rO.fn.ok gG (fun vs H Q E h=>?_) (fun cdv A outer s H vs Q E hr h=>?_)
 ·obtain ⟨sa,fa,ma,ws,kvs,ft,σ,rfl,_⟩:=h
  rfl
 obtain ⟨sa,fa,ma,ws,kvs,ft,σ,rfl,hl,hf,hft,hm,hs,wl,wk,wft,fts,wsy,q⟩:=h
 refine ⟨_,(af (aA (i:=3) gG.nd rfl (Or.inl rfl) (aY ac))
   (af (aA (i:=4) gG.nd rfl (Or.inl rfl) ai)
   (af (b9 PassesOwn.never rfl (a7 (pv 0)) (d8 rfl (a6 (aM (i:=5) gG.nd rfl (Or.inl rfl)) (a6 (aM (i:=6) gG.nd rfl (Or.inl rfl)) dw))) (ag (aG (au a_ (pv 5) aq (nomark _)) (af (aA (i:=4) gG.nd rfl (Or.inl rfl) (aO b_ (pv 4) ai))
   (af (aA (i:=7) gG.nd rfl (Or.inl rfl) (aS (aa aq (aa (aO cy (aO cy aq (jj oQ rfl T.iV PyProof.Rows.boot_str (aa (pv 4) ac))) aq) ac))))
   (ag (bj (cH PySem.F.plainAttrs_list PySem.F.slot_list_append PySem.F.type_list_append cf (pv 3) (aa (aS (aa (pv 7) (aa (aO mD (aY (aa (pv 7) ac)) (vX rfl (eN (caps:=["marks"]) (js:=[2]) (cap:=⟨⟨rfl,.inl rfl,rfl,.inl rfl⟩,trivial⟩)) (a7 (i4 (df hr) (pv 1) (pv 6) (fun _ _=>rfl))) (fun _ _ _ _=>c9) (fun _ _ _ _=>(aB T.nS (uy T) (hr.mono (by decide)) rfl (aa (pv 0) (aa (pv 1) (aa (pv 2) (aa (aY ac) ac)))))))) ac))) ac)))))) (ag (aG (au io (pv 5) aq (nomark _)) (ag (bj (cH PySem.F.plainAttrs_list PySem.F.slot_list_append PySem.F.type_list_append cf (pv 3) (aa (aS (aa (aB T.nS (uy T) (hr.mono (by decide)) rfl (aa (pv 5) (aa (pv 6) (aa (pv 2) (aa (aY ac) ac))))) (aa (aY ac) ac))) ac)))) aE)))))
   (ag (aF (pv 3)))))),?_⟩
 obtain ⟨su,u1,u2⟩:=hl
 have lsu:=u2.len
 refine ⟨aW (by simp),fun pd hpd=>?_⟩
 have s1:=ah hpd (.lst [])
 have k1:upd H pd (.lst []) pd=some (.lst []):=ae
 generalize upd H pd (.lst [])=H1 at s1 k1 ⊢
 refine ⟨_,rfl,sa,rfl,⟨_,SqL.of (s1 _ _ u1)⟩,bT (K:=K) (a:=sa) (xs:=su) (fun i σ' G=>∃ (v5 v6 v7:Option V) (vs:List V),σ' = [some (.ref sa),some (.ref fa),some (.ref ma),some (.ref pd),some (.int ((ftC (ws.take i) : Nat) : Int)),v5,v6,v7]∧ao H G∧G pd=some (.lst vs)∧vs.length≤i∧aR (DuA σ (hid [pd] G)) vs (bO ft 0 (ws.take i))) ⟨none,none,none,[],rfl,s1,k1,Nat.le_refl _,trivial⟩ (fun i σ' G _ g=>by obtain ⟨_,_,_,_,_,m,_⟩:=g; exact SqL.of (m _ _ u1)) ?_ ?_⟩
 ·rintro i y σ' G hy ⟨v5,v6,v7,vs,rfl,m,g1,vl,al⟩
  obtain ⟨w,hw,b,rfl,hb⟩:=u2.getL hy
  have hi:=(List.getElem?_eq_some_iff.mp hw).1
  have hwm:=List.mem_of_getElem? hw
  obtain ⟨we,n,hn⟩:=wk w hwm
  have en:bO ft 0 (ws.take (i+1))=bO ft 0 (ws.take i)++bO ft (ftC (ws.take i)) [w]:=by rw [aP hw,iJ,Nat.zero_add]
  have ec:ftC (ws.take (i+1))=ftC (ws.take i)+(if w.1 = .foot then 1 else 0):=by
   rw [aP hw]
   unfold ftC
   rw [List.filter_append,List.length_append]
   by_cases z:w.1 = .foot <;> simp [z]
  have hin:∀ p ∈ bO ft 0 (ws.take (i+1)),fi σ p.1∧p.2.length≤40∧∀ w ∈ p.2,fi σ w:=fun p hp=>wsy p (by
   rw [← List.take_append_drop (i+1) ws,iJ]
   exact List.mem_append_left _ hp)
  have cl:=Dp (ws.take i)
  rw [List.length_take] at cl
  generalize ftC (ws.take i)=N at *
  refine ⟨b,_,rfl,SqT.of (m _ _ hb),rfl,_,_,rfl,_,_,rfl,rfl,?_⟩
  refine ⟨_,rfl,rfl,_,rfl,?_⟩
  by_cases hk:w.1 = .foot
  ·rw [decide_eq_true (show V.str w.1.s=V.str "foot" by rw [hk]; rfl)]
   refine aT ?_
   rw [if_pos hk] at ec
   obtain ⟨f,ef⟩:=wft w hwm hk
   have ew:bO ft N [w]=[(eS (N+1),eS (N+1) :: f)]:=by
    rw [dg,if_neg (by rw [hk]; decide),if_pos hk,ef]
    rfl
   have hin:=hin (eS (N+1),eS (N+1) :: f) (by rw [en,ew]; exact List.mem_append_right _ List.mem_cons_self)
   have ff:=fts _ (jT ef)
   rw [ew] at en
   have ef:lkS (tx n) ft=some f:=by rw [hn] at ef; exact ef
   obtain ⟨l,hv,fv,l1,l2⟩:=(FtA.val (n:=tx n) hft).2 f ef
   have lf:=l2.len
   refine ⟨_,rfl,_,_,rfl,rfl,?_⟩
   dsimp only [bv]
   rw [show ((N:Nat) : Int)+1=((N+1:Nat) : Int) from rfl]
   have fl:(fP (N+1)).length≤4:=rh 3 _ (by omega)
   refine ⟨_,rfl,_,rfl,uq (n:=N+1) (Nat.lt_of_le_of_lt (show N+1≤1001 by omega) (by decide +kernel)),?_⟩
   rw [vV]
   refine ⟨_,_,rfl,rfl,(by rw [cLp,aQ,aQ]; exact Nat.le_of_lt (aC (by simp only [List.length_cons,List.length_nil]; omega))),_,_,rfl,rfl,(by rw [cLp,cRp,dB,aQ,aQ]; exact Nat.le_of_lt (aC (by simp only [List.length_append,List.length_cons,List.length_nil]; omega))),le2,fun p1 hp1=>?_⟩
   have s2:ao G _:=ah hp1 (.tup [.str "text",.str (gu (N+1))])
   have k2:upd G p1 (.tup [.str "text",.str (gu (N+1))]) p1=some (.tup [.str "text",.str (gu (N+1))]):=ae
   generalize eG2:upd G p1 (.tup [.str "text",.str (gu (N+1))])=G2 at s2 k2
   rw [show upd G p1 (.tup [.str (PySem.Str.ofString "text"),.str (PySem.Str.ofString "("++tx (fP (N+1))++PySem.Str.ofString ")")])=G2 from eG2]
   clear eG2
   refine ⟨_,rfl,.inl ⟨rfl,_,SqL.of (s2 _ _ g1)⟩,_,rfl,_,rfl,le1,fun p2 hp2=>?_⟩
   have s3:=ah hp2 (.lst [.ref p1])
   have k3:upd G2 p2 (.lst [.ref p1]) p2=some (.lst [.ref p1]):=ae
   generalize upd G2 p2 (.lst [.ref p1])=G3 at s3 k3 ⊢
   have s13:=m.trans (s2.trans s3)
   refine ⟨_,rfl,_,rfl,_,_,rfl,(by rw [hn,← hv]; exact dR.k (k:=.inr (tx n)) (s13 _ _ hf)),l,rfl,⟨_,SqL.of (s13 _ _ l1)⟩,mZ (K:=K) (a:=l) (xs:=fv) (fun j ys G'=>ao G3 G'∧ys.length=j∧aR (SyA G') ys ((f.take j).map (iP σ))) ⟨ao.refl _,rfl,trivial⟩ (fun j ys G' _ z=>SqL.of ((s13.trans z.1) _ _ l1)) ?_ ?_ ?_⟩
   ·rintro j ys G' hj ⟨_,z,_⟩
    have:=hin.2.1
    simp only [List.length_cons] at this
    exact aC (by omega)
   ·rintro j x ys G' hx ⟨mj,zl,az⟩
    obtain ⟨⟨kx,rx⟩,hwx,c,rfl,hc⟩:=l2.getL hx
    have hxm:=List.mem_of_getElem? hwx
    obtain ⟨xe,nx,hnx⟩:=ff _ hxm
    have ok:=hin.2.2 _ (List.mem_cons_of_mem _ hxm)
    dsimp only at hnx xe
    subst hnx
    have mc:=s13.trans mj
    refine ⟨c,_,_,rfl,SqT.of (mc _ _ hc),d_ ?_⟩
    refine ⟨_,rfl,_,rfl,_,rfl,aW (by simp),fun p4 hp4=>?_⟩
    have m4:=ah hp4 (.lst [])
    refine ⟨ma,p4,kx,nx,σ,[],rfl,(mc.trans m4) _ _ hm,ae,(by rw [hs]; trivial),xe,ok,fun p5 G5 x y hp5 m5 k5 es=>?_⟩
    have m6:=m4.trans m5
    refine ⟨mj.trans m6,by rw [List.length_append,zl]; rfl,?_⟩
    rw [aP hwx,List.map_append]
    exact (az.imp fun _ _=>SyA.mono m6).snoc ⟨p5,rfl,by rw [es]; exact k5⟩
   rintro ys G' ⟨mj,zl,az⟩ p3 hp3
   rw [lf,List.take_length] at az
   have s4:=ah hp3 (.lst ys)
   have k4:upd G' p3 (.lst ys) p3=some (.lst ys):=ae
   have az:=az.imp fun _ _=>SyA.mono s4
   have s34:=mj.trans s4
   generalize upd G' p3 (.lst ys)=G4 at s4 k4 az s34 ⊢
   have lys:=az.len
   rw [List.length_map] at lys
   have h41:=hin.2.1
   simp only [List.length_cons] at h41
   refine ⟨_,_,_,_,rfl,rfl,s34 _ _ k3,k4,aW (show 1+ys.length≤1000 by omega),fun p5 hp5=>?_⟩
   have s5:=ah hp5 (.lst ([.ref p1]++ys))
   have k5:upd G4 p5 (.lst ([.ref p1]++ys)) p5=some (.lst ([.ref p1]++ys)):=ae
   have gp4:=(s3.trans s34) _ _ (s2 _ _ g1)
   have n5:p5≠pd:=fun z=>by rw [z,gp4] at hp5; cases hp5
   generalize upd G4 p5 (.lst ([.ref p1]++ys))=G5 at s5 k5 ⊢
   refine ⟨le2,fun p6 hp6=>?_⟩
   have s6:=ah hp6 (.tup [.ref p1,.ref p5])
   have k6:upd G5 p6 (.tup [.ref p1,.ref p5]) p6=some (.tup [.ref p1,.ref p5]):=ae
   generalize upd G5 p6 (.tup [.ref p1,.ref p5])=G6 at s6 k6 ⊢
   have s56:=s5.trans s6
   have g6:=s56 _ _ gp4
   have mz:=s2.trans (s3.trans (s34.trans s56))
   refine ⟨_,_,_,rfl,rfl,g6,aC (by omega),?_⟩
   refine ⟨_,_,_,vs++[.ref p6],by rw [ec]; rfl,bn (m.trans mz) hpd,ae,by rw [List.length_append]; simp only [List.length_cons,List.length_nil]; omega,?_⟩
   rw [en,bY (List.mem_singleton.mpr rfl)]
   exact (al.imp fun _ _=>DuA.mono (bb mz)).snoc (DuA.at_ g6 k6 ⟨p1,rfl,((s3.trans s34).trans s56) _ _ k2⟩ (s6 _ _ k5) n5 ⟨⟨p1,rfl,((s3.trans s34).trans s56) _ _ k2⟩,az.imp fun _ _=>SyA.mono s56⟩)
  ·rw [decide_eq_false (show ¬ (V.str w.1.s=V.str "foot") from fun z=>hk (Kw.inj (b:=.foot) (V.str.inj z)))]
   refine ay ?_
   rw [if_neg hk] at ec
   refine ⟨_,rfl,rfl,_,rfl,?_⟩
   by_cases hm2:w.1 = .mark
   ·have ew:bO ft N [w]=[]:=by rw [dg,if_pos hm2]; rfl
    rw [ew,List.append_nil] at en
    rw [decide_eq_true (show V.str w.1.s=V.str "mark" by rw [hm2]; rfl)]
    refine ay ?_
    refine ⟨_,_,_,vs,by rw [ec]; rfl,m,g1,by omega,?_⟩
    rw [en]
    exact al
   ·have ew:bO ft N [w]=[(w,[])]:=by rw [dg,if_neg hm2,if_neg hk]; rfl
    rw [ew] at en
    have ok:=(hin (w,[]) (by rw [en]; exact List.mem_append_right _ List.mem_cons_self)).1
    rw [decide_eq_false (show ¬ (V.str w.1.s=V.str "mark") from fun z=>hm2 (Kw.inj (b:=.mark) (V.str.inj z)))]
    refine aT ?_
    refine ⟨_,rfl,.inl ⟨rfl,_,SqL.of g1⟩,_,rfl,_,rfl,_,rfl,aW (by simp),fun p1 hp1=>?_⟩
    have s2:=ah hp1 (.lst [])
    have ok:fi σ (w.1,.str (tx n)):=by
     have:w=(w.1,V.str (tx n)):=by rw [← hn]
     rw [← this]; exact ok
    refine ⟨ma,p1,w.1,n,σ,[],by rw [hn]; rfl,(m.trans s2) _ _ hm,ae,(by rw [hs]; trivial),we,ok,fun p2 G2 x y hp2 s3 k2 es=>?_⟩
    have s23:=s2.trans s3
    refine ⟨aW (by simp),fun p3 hp3=>?_⟩
    have s4:=ah hp3 (.lst [])
    have k3:upd G2 p3 (.lst []) p3=some (.lst []):=ae
    have gp2:=s23 _ _ g1
    have n3:p3≠pd:=fun z=>by rw [z,gp2] at hp3; cases hp3
    generalize upd G2 p3 (.lst [])=G3 at s4 k3 ⊢
    refine ⟨le2,fun p4 hp4=>?_⟩
    have s5:=ah hp4 (.tup [.ref p2,.ref p3])
    have k4:upd G3 p4 (.tup [.ref p2,.ref p3]) p4=some (.tup [.ref p2,.ref p3]):=ae
    generalize upd G3 p4 (.tup [.ref p2,.ref p3])=G4 at s5 k4 ⊢
    have s45:=s4.trans s5
    have g4:=s45 _ _ gp2
    have mz:=s23.trans s45
    have sy:SyA G4 (.ref p2) (iP σ w):=⟨p2,rfl,by rw [show w=(w.1,V.str (tx n)) from by rw [← hn],es]; exact s45 _ _ k2⟩
    refine ⟨_,_,_,rfl,rfl,g4,aC (by omega),?_⟩
    refine ⟨_,_,_,vs++[.ref p4],by rw [ec]; rfl,bn (m.trans mz) hpd,ae,by rw [List.length_append]; simp only [List.length_cons,List.length_nil]; omega,?_⟩
    rw [en,bY (List.mem_singleton.mpr rfl)]
    exact (al.imp fun _ _=>DuA.mono (bb mz)).snoc (DuA.at_ g4 k4 sy (s5 _ _ k3) n3 trivial)
 rintro σ' G ⟨v5,v6,v7,vs,rfl,m,g1,vl,al⟩
 rw [lsu,List.take_length] at al
 have ln:=gF ft ws 0
 have lc:bH ws≤ws.length:=List.length_filter_le _ _
 exact ⟨_,rfl,q pd G m (wG g1 (fun p hp=>by have:=(wsy p hp).2.1; omega) (al.imp fun _ _=>DuA.mono bJ) (by omega))⟩
def xm (K:PySem.W.Frag) : Sp:=fun vs H Q _=>∃ (sa ma:Addr) (ws:List Wk),vs=[.ref sa,.ref ma]∧cg H sa ws∧H ma=some (.dK (mkV (bz ws 0)))∧((bz ws 0).map (·.1)).Nodup∧(∀ w ∈ ws,∃ n,w.2 = .str (tx n))∧∀ H',ao H H'→Q (.bl true) H'
theorem eD:aJ ["stream","marks","at","many","kind","rest"] ["stream","marks"] (av nq):=by walk_at "c"
theorem xn (T:Txt P w K mg a) : aX P w K mg base CX0 6 a.nV a.mr ["stream","marks"] (xm K):=by
 refine T.nR.fn.ok eD (fun vs H Q E h=>?_) (fun cdv A outer s H vs Q E hr h=>?_)
 ·obtain ⟨sa,ma,ws,rfl,_⟩:=h
  rfl
 obtain ⟨sa,ma,ws,rfl,hl,hma,nd,hs,q⟩:=h
 refine ⟨_,(af (aA (i:=2) eD.nd rfl (Or.inl rfl) ai)
   (af (aA (i:=3) eD.nd rfl (Or.inl rfl) ai)
   (af (b9 PassesOwn.never rfl (a7 (pv 0)) (d8 rfl (a6 (aM (i:=4) eD.nd rfl (Or.inl rfl)) (a6 (aM (i:=5) eD.nd rfl (Or.inl rfl)) dw))) (ag (aG (au io (pv 4) aq (nomark _)) (ag (aA (i:=2) eD.nd rfl (Or.inl rfl) (aO b_ (pv 2) ai))) (ag (aG (PW.pt (du (au (jt (df hr)) (pv 5) (pv 1) (by with_unfolding_all rfl)) (dN (dO (b8 (aB T.e9 (nA T) (hr.mono (by decide)) rfl (aa (i4 (df hr) (pv 1) (pv 5) (fun _ _=>rfl)) (aa (pv 2) ac))) (fun _=>rfl)))))) (ag (aF cW)) (ag (aA (i:=3) eD.nd rfl (Or.inl rfl) (aO b_ (pv 3) ai))))))))
   (ag (aF (eI a_ (aK zo rfl T.bS PySem.boot_len (aa (pv 1) ac)) (pv 3) (nomark _))))))),?_⟩
 obtain ⟨us,u1,u2⟩:=hl
 have lu:=u2.len
 refine ⟨_,rfl,sa,rfl,⟨_,SqL.of u1⟩,bT (K:=K) (a:=sa) (xs:=us) (fun i σ' G=>G=H∧∃ (v4 v5:Option V),σ' = [some (.ref sa),some (.ref ma),some (.int ((bH (ws.take i) : Nat) : Int)),some (.int (((bz (ws.take i) 0).length:Nat) : Int)),v4,v5]) ⟨rfl,none,none,rfl⟩ (fun i σ' G _ g=>by rw [g.1]; exact SqL.of u1) ?_ ?_⟩
 ·rintro i y σ' G hy ⟨rfl,v4,v5,rfl⟩
  obtain ⟨w,hw,b,rfl,hb⟩:=u2.getL hy
  obtain ⟨n,hn⟩:=hs w (List.mem_of_getElem? hw)
  have ec:=z_ (ws.take i) w
  have em:=iG (ws.take i) [w] 0
  rw [← aP hw] at ec em
  refine ⟨b,_,rfl,SqT.of hb,rfl,_,_,rfl,_,_,rfl,rfl,?_⟩
  refine ⟨_,rfl,rfl,_,rfl,?_⟩
  by_cases hm:w.1 = .mark
  ·rw [decide_eq_true (show V.str w.1.s=V.str "mark" by rw [hm]; rfl)]
   refine ay ?_
   have at1:=Cb hw hm nd
   have er:a9 w.2=tx n:=by rw [hn]; rfl
   rw [er] at at1
   have hg:dR G ma (kV (.inr (tx n))) (some (.int ((bH (ws.take i) : Nat) : Int))):=by
    have:=dR.k (k:=.inr (tx n)) hma
    rw [i_,at1] at this
    exact this
   have hg':=hg
   change dR G ma (.str (tx n)) _ at hg'
   rw [← hn] at hg'
   refine ⟨_,rfl,_,rfl,_,_,rfl,hg',_,rfl,?_⟩
   refine ay ?_
   refine ⟨_,rfl,_,rfl,_,_,rfl,hg',_,rfl,.int ((bH (ws.take i) : Nat) : Int),_,_,rfl,(by show 0 < 5; decide),rfl,rfl,_,rfl,?_⟩
   refine ay ?_
   refine ⟨_,rfl,_,_,rfl,rfl,rfl,some (.str w.1.s),some w.2,?_⟩
   have e1:(bz (ws.take (i+1)) 0).length=(bz (ws.take i) 0).length+1:=by
    rw [em,List.length_append]
    show _+(if w.1 = .mark then _ else _:List (Str × Nat)).length=_
    rw [if_pos hm]
    rfl
   rw [ec,e1,if_pos hm]
   rfl
  ·rw [decide_eq_false (show ¬ (V.str w.1.s=V.str "mark") from fun zz=>hm (Kw.inj (b:=.mark) (V.str.inj zz)))]
   refine aT ?_
   refine ⟨_,rfl,_,_,rfl,rfl,rfl,some (.str w.1.s),some w.2,?_⟩
   have e1:(bz (ws.take (i+1)) 0).length=(bz (ws.take i) 0).length:=by
    rw [em,List.length_append]
    show _+(if w.1 = .mark then _ else _:List (Str × Nat)).length=_
    rw [if_neg hm]
    rfl
   rw [ec,e1,if_neg hm]
   rfl
 rintro σ' G ⟨rfl,v4,v5,rfl⟩
 rw [lu,List.take_length]
 refine ⟨_,rfl,_,_,rfl,hma,_,rfl,rfl,?_⟩
 rw [tP,decide_eq_true rfl]
 exact q _ (ao.refl _)
def yv (K:PySem.W.Frag) : Sp:=fun vs H Q _=>∃ (fd fo qa tp ma ha:Addr) (us hvs:List V) (fs:List Addr) (σ:Ss) (d:DD) (kvs:List (Key × V)),vs=[.ref fd,.ref fo]∧H fd=some (.tup [.ref qa,.ref ma,.ref ha])∧H qa=some (.tup [.ref fo,.ref tp])∧Rep K H d (.ref fo)∧d.deep≤2∧H tp=some (.lst us)∧aR (TwA σ H) us (σ.ws.zip fs)∧H ma=some (.dK kvs)∧H ha=some (.lst hvs)∧Q (.bl true) H
theorem tf:aJ ["found","form","word"] ["found","form"] (av pe):=by walk_at "c"
theorem yw (T:Txt P w K mg a) : aX P w K mg base CX0 6 a.qh a.og ["found","form"] (yv K):=by
 refine T.pX.fn.ok tf (fun vs H Q E h=>?_) (fun cdv A outer s H vs Q E hr h=>?_)
 ·obtain ⟨fd,fo,qa,tp,ma,ha,us,hvs,fs,σ,d,kvs,rfl,_⟩:=h
  rfl
 obtain ⟨fd,fo,qa,tp,ma,ha,us,hvs,fs,σ,d,kvs,rfl,h1,h2,hr_,hd,h3,h4,h5,h6,q⟩:=h
 refine ⟨_,(af (aG (PW.pt (du (dO (b8 (aK cq rfl T.aV PyProof.Rows.boot_isinstance (aa (pv 0) (aa (cA (v:=.ty "tuple") rfl T.d7 PyProof.Rows.boot_tuple rfl) ac))) (fun _=>rfl))) (du (au io (aK bD rfl T.bS PySem.boot_len (aa (pv 0) ac)) ai (nomark _)) (du (dO (b8 (aK cq rfl T.aV PyProof.Rows.boot_isinstance (aa (aD aN (pv 0) ai (fun _ _=>rfl)) (aa (cA (v:=.ty "tuple") rfl T.d7 PyProof.Rows.boot_tuple rfl) ac))) (fun _=>rfl))) (dN (au io (aK bD rfl T.bS PySem.boot_len (aa (aD aN (pv 0) ai (fun _ _=>rfl)) ac)) ai (nomark _))))))) (ag (aF cW)) aE)
   (af (aG (PW.pt (du (dO (b8 (aB T.e9 (nA T) (hr.mono (by decide)) rfl (aa (aD aN (aD aN (pv 0) ai (fun _ _=>rfl)) ai (fun _ _=>rfl)) (aa (pv 1) ac))) (fun _=>rfl))) (du (dO (b8 (aK cq rfl T.aV PyProof.Rows.boot_isinstance (aa (aD aN (aD aN (pv 0) ai (fun _ _=>rfl)) ai (fun _ _=>rfl)) (aa (cA (v:=.ty "list") rfl T.fG PyProof.Rows.boot_list rfl) ac))) (fun _=>rfl))) (dN (dO (b8 (aK zG rfl T.aV PyProof.Rows.boot_isinstance (aa (aD aN (pv 0) ai (fun _ _=>rfl)) (aa (cA (v:=.ty "dict") rfl T.kZ PyProof.Rows.boot_dict rfl) ac))) (fun _=>rfl))))))) (ag (aF cW)) aE)
   (af (b9 PassesOwn.never rfl (a7 (aD aN (aD aN (pv 0) ai (fun _ _=>rfl)) ai (fun _ _=>rfl))) (aM (i:=2) tf.nd rfl (Or.inl rfl)) (ag (aG (PW.pt (du (dO (b8 (aK cq rfl T.aV PyProof.Rows.boot_isinstance (aa (pv 2) (aa (cA (v:=.ty "tuple") rfl T.d7 PyProof.Rows.boot_tuple rfl) ac))) (fun _=>rfl))) (du (au io (aK bD rfl T.bS PySem.boot_len (aa (pv 2) ac)) ai (nomark _)) (dN (dO (b8 (aK cq rfl T.aV PyProof.Rows.boot_isinstance (aa (aD aN (pv 2) ai (fun _ _=>rfl)) (aa (cA (v:=.ty "list") rfl T.fG PyProof.Rows.boot_list rfl) ac))) (fun _=>rfl))))))) (ag (aF cW)) aE)))
   (ag (aF (aK cq rfl T.aV PyProof.Rows.boot_isinstance (aa (aD aN (pv 0) ai (fun _ _=>rfl)) (aa (cA (v:=.ty "list") rfl T.fG PyProof.Rows.boot_list rfl) ac)))))))),?_⟩
 have F:∀ {i:Int} {v:V},atI [V.ref qa,V.ref ma,V.ref ha] i=some v→True:=fun _=>trivial
 refine ⟨_,rfl,_,"tuple",true,rfl,by decide,.inr ⟨⟨_,SqT.of h1⟩,rfl⟩,_,rfl,?_⟩
 refine ay ?_
 refine ⟨_,rfl,_,_,rfl,.inr (SqT.of h1),rfl,_,rfl,?_⟩
 refine ay ?_
 refine ⟨_,rfl,_,_,_,_,rfl,rfl,SqT.of h1,rfl,_,"tuple",true,rfl,by decide,.inr ⟨⟨_,SqT.of h2⟩,rfl⟩,_,rfl,?_⟩
 refine ay ?_
 refine ⟨_,rfl,_,_,_,_,rfl,rfl,SqT.of h1,rfl,_,_,rfl,.inr (SqT.of h2),rfl,_,rfl,?_⟩
 refine ay ?_
 dsimp only [cX]
 refine ⟨_,rfl,_,_,_,_,rfl,rfl,SqT.of h1,rfl,_,_,_,_,rfl,rfl,SqT.of h2,rfl,_,rfl,d,_,_,rfl,by omega,hr_,hr_,_,rfl,?_⟩
 refine ay ?_
 refine ⟨_,rfl,_,_,_,_,rfl,rfl,SqT.of h1,rfl,_,_,_,_,rfl,rfl,SqT.of h2,rfl,_,"list",true,rfl,by decide,.inl ⟨⟨_,SqL.of h3⟩,rfl⟩,_,rfl,?_⟩
 refine ay ?_
 refine ⟨_,rfl,_,_,_,_,rfl,rfl,SqT.of h1,rfl,_,_,rfl,h5,_,rfl,?_⟩
 refine ay ?_
 dsimp only [cX]
 refine ⟨_,rfl,_,_,_,_,rfl,rfl,SqT.of h1,rfl,_,_,_,_,rfl,rfl,SqT.of h2,rfl,tp,rfl,⟨_,SqL.of h3⟩,bT (K:=K) (a:=tp) (xs:=us) (fun i σ' G=>G=H∧∃ v,σ' = [some (.ref fd),some (.ref fo),v]) ⟨rfl,none,rfl⟩ (fun i σ' G _ g=>by rw [g.1]; exact SqL.of h3) ?_ ?_⟩
 ·rintro i y σ' G hy ⟨rfl,v,rfl⟩
  obtain ⟨⟨t,f⟩,hw,b,s,vs,rfl,hb,_,hf,_⟩:=h4.getL hy
  refine ⟨_,rfl,_,"tuple",true,rfl,by decide,.inr ⟨⟨_,SqT.of hb⟩,rfl⟩,_,rfl,?_⟩
  refine ay ?_
  refine ⟨_,rfl,_,_,rfl,.inr (SqT.of hb),rfl,_,rfl,?_⟩
  refine ay ?_
  refine ⟨_,rfl,_,_,_,_,rfl,rfl,SqT.of hb,rfl,_,"list",true,rfl,by decide,.inl ⟨⟨_,SqL.of hf⟩,rfl⟩,_,rfl,?_⟩
  refine ay ?_
  exact ⟨rfl,_,rfl⟩
 rintro σ' G ⟨rfl,v,rfl⟩
 exact ⟨_,rfl,_,_,_,_,rfl,rfl,SqT.of h1,rfl,_,"list",true,rfl,by decide,.inl ⟨⟨_,SqL.of h6⟩,rfl⟩,q⟩

theorem EO {a b c d:V} : ¬ (HT.sIx [a,b,c,d].length 0 (some 2)=0∧HT.sIx [a,b,c,d].length [a,b,c,d].length none=[a,b,c,d].length):=by
 intro z
 exact absurd z.1 (by show ¬ (HT.sIx 4 0 (some 2)=0); decide)

def yx (K:PySem.W.Frag) : Sp:=fun vs H Q _=>∃ (fd fo qa tp ma ha sa fa:Addr) (us hvs:List V) (fs:List Addr) (σ:Ss) (d:DD) (ws:List Wk) (kvs:List (Key × V)) (ft:List (Str × List Wk)),vs=[.ref fd,.ref fo,.ref sa,.ref fa]∧H fd=some (.tup [.ref qa,.ref ma,.ref ha])∧H qa=some (.tup [.ref fo,.ref tp])∧Rep K H d (.ref fo)∧d.deep≤2∧H tp=some (.lst us)∧aR (TwA σ H) us (σ.ws.zip fs)∧fs.length=σ.ws.length∧H ma=some (.dK (mkV σ.ms))∧H ha=some (.lst hvs)∧σ.hs=[]∧cg H sa ws∧σ.ms=bz ws 0∧((bz ws 0).map (·.1)).Nodup∧(∀ w ∈ ws,w.1≠.entry∧∃ n,w.2 = .str (tx n))∧H fa=some (.dK kvs)∧FtA H kvs ft∧σ.ws.map (fun t=>(t.w,t.foot))=bO ft 0 ws∧(∀ w ∈ ws,w.1 = .foot→∃ f,lkS (a9 w.2) ft=some f)∧(∀ p ∈ ft,∀ w ∈ p.2,w.1≠.entry∧∃ n,w.2 = .str (tx n))∧sS σ∧ws.length≤400∧∀ H',ao H H'→Q (.bl true) H'
theorem yy:aJ ["found","form","stream","feet"] ["found","form","stream","feet"] (av pi):=by walk_at "c"
theorem tj (T:Txt P w K mg a) : aX P w K mg base CX0 7 a.qf a.oa ["found","form","stream","feet"] (yx K):=by
 refine T.lF.fn.ok yy (fun vs H Q E h=>?_) (fun cdv A outer s H vs Q E hr h=>?_)
 ·obtain ⟨fd,fo,qa,tp,ma,ha,sa,fa,us,hvs,fs,σ,d,ws,kvs,ft,rfl,_⟩:=h
  rfl
 obtain ⟨fd,fo,qa,tp,ma,ha,sa,fa,us,hvs,fs,σ,d,ws,kvs,ft,rfl,h1,h2,hr_,hd,h3,h4,lfs,h5,h6,h7,hl,em,nd,hs,h8,h9,ew,wft,fts,tel,w4,q⟩:=h
 refine ⟨_,(af (aG (PW.pt (du (dO (b8 (aB T.pX (yw T) (hr.mono (by decide)) rfl (aa (pv 0) (aa (pv 1) ac))) (fun _=>rfl))) (dN (dO (b8 (aB T.nR (xn T) (hr.mono (by decide)) rfl (aa (pv 2) (aa (aD aN (pv 0) ai (fun _ _=>rfl)) ac))) (fun _=>rfl)))))) (ag (aF cW)) aE)
   (ag (aF (aB T.e9 (nA T) (hr.mono (by decide)) rfl (aa (ir rfl (eN (caps:=[]) (js:=[]) (cap:=trivial)) (a7 (aD aN (aD aN (pv 0) ai (fun _ _=>rfl)) ai (fun _ _=>rfl))) (fun _ _ _ _=>c9) (fun _ _ _ _=>(dz (r:=CK K) CM (pv 0) (dI ai) eJ))) (aa (aB T.rO (Ad T) (hr.mono (by decide)) rfl (aa (pv 2) (aa (pv 3) (aa (aD aN (pv 0) ai (fun _ _=>rfl)) ac)))) ac)))))),?_⟩
 have lu:=h4.len
 rw [List.length_zip,lfs,Nat.min_self] at lu
 have lw_:(bO ft 0 ws).length=σ.ws.length:=by rw [← ew,List.length_map]
 have lc:bH ws≤ws.length:=List.length_filter_le _ _
 rw [gF] at lw_
 have tin:∀ p ∈ bO ft 0 ws,fi σ p.1∧p.2.length≤40∧∀ w ∈ p.2,fi σ w:=fun p hp=>by
  rw [← ew] at hp
  obtain ⟨t,ht,rfl⟩:=List.mem_map.mp hp
  exact tel t ht
 refine ⟨_,rfl,_,rfl,fd,fo,qa,tp,ma,ha,us,hvs,fs,σ,d,mkV σ.ms,rfl,h1,h2,hr_,hd,h3,h4,h5,h6,_,rfl,?_⟩
 refine ay ?_
 refine ⟨_,rfl,_,rfl,_,_,_,_,rfl,rfl,SqT.of h1,rfl,sa,ma,ws,rfl,hl,(by rw [← em]; exact h5),nd,(fun w hw=>(hs w hw).2),fun G1 m1=>⟨_,rfl,?_⟩⟩
 refine ay ?_
 dsimp only [cX]
 refine ⟨_,rfl,_,_,_,_,rfl,rfl,SqT.of (m1 _ _ h1),rfl,_,_,_,_,rfl,rfl,SqT.of (m1 _ _ h2),rfl,tp,rfl,⟨_,SqL.of (m1 _ _ h3)⟩,eO (K:=K) (a:=tp) (xs:=us) (fun i zs G'=>ao G1 G'∧zs.length=i∧aR (DuA σ G') zs ((σ.ws.take i).map fun t=>(t.w,t.foot))) ⟨ao.refl _,rfl,trivial⟩ (fun i zs G' _ z=>SqL.of ((m1.trans z.1) _ _ h3)) ?_ ?_ ?_⟩
 ·rintro i zs G' hi ⟨_,z,_⟩
  exact aC (by omega)
 ·rintro i y zs G' hy ⟨m2,zl,az⟩
  obtain ⟨⟨t,f⟩,hw,b,s,vs,rfl,hb,hsy,hf,hal⟩:=h4.getL hy
  have ht:σ.ws[i]? = some t:=by
   rw [List.getElem?_zip_eq_some] at hw
   exact hw.1
  have m3:=m1.trans m2
  refine d_ ?_
  refine ⟨_,rfl,_,rfl,_,_,rfl,SqT.of (m3 _ _ hb),EO,fun p1 hp1=>?_⟩
  have m4:=ah hp1 (.tup (eK [V.int t.lead,V.bl t.kept,V.ref s,V.ref f] (some 2) none))
  have k4:upd G' p1 (.tup (eK [V.int t.lead,V.bl t.kept,V.ref s,V.ref f] (some 2) none)) p1=some (.tup [.ref s,.ref f]):=by
   rw [ae]
   exact congrArg (fun l=>some (HO.tup l)) (Tl.cut_from [V.int t.lead,V.bl t.kept,V.ref s,V.ref f] 2)
  generalize upd G' p1 (.tup (eK [V.int t.lead,V.bl t.kept,V.ref s,V.ref f] (some 2) none))=G2 at m4 k4 ⊢
  have m5:=m3.trans m4
  refine ⟨m2.trans m4,by rw [List.length_append,zl]; rfl,?_⟩
  rw [aP ht,List.map_append]
  exact (az.imp fun _ _=>DuA.mono m4).snoc ⟨p1,s,f,vs,rfl,k4,hsy.mono m5,m5 _ _ hf,hal.imp fun _ _=>SyA.mono m5⟩
 rintro zs G' ⟨m2,zl,az⟩ p2 hp2
 rw [lu,List.take_length,ew] at az
 have m3:=ah hp2 (.lst zs)
 have k3:upd G' p2 (.lst zs) p2=some (.lst zs):=ae
 have az:=az.imp fun _ _=>DuA.mono m3
 have m23:=m1.trans (m2.trans m3)
 generalize upd G' p2 (.lst zs)=G3 at m3 k3 az m23 ⊢
 have lf0:=gF ft ws 0
 have r1:Rep K G3 (.lst ((bO ft 0 ws).map (lU σ))) (.ref p2):=wG k3 (fun p hp=>by have:=(tin p hp).2.1; omega) az (by omega)
 refine ⟨_,rfl,_,rfl,_,rfl,_,_,_,_,rfl,rfl,SqT.of (m23 _ _ h1),rfl,sa,fa,ma,ws,kvs,ft,σ,rfl,hl.mono m23,m23 _ _ h8,h9.mono m23,m23 _ _ h5,h7,w4,hs,wft,fts,tin,fun p4 G4 m4 r2=>?_⟩
 exact ⟨_,_,_,rfl,Nat.lt_of_le_of_lt (Ab σ _) (by decide),r1.mono m4,r2,q _ (m23.trans m4)⟩

def hX (c:Int) : List Nat:=(br c 60 26).toNat :: (List.range (br c 57 10).toNat).map fun (k:Nat)=>(br c (61+(k:Int)) 36).toNat
def ku (c:Int) : Nat:=1+(br c 58 (1+br c 57 10)).toNat
def eg (c:Int) (j:Nat) : List Nat:=(nmB (hX c) (ku c) j).map al
theorem yz (c:Int) : rq (hX c) (ku c):=by
 have h1:=cT c 57 (show (0:Int) < 10 by decide)
 have h2:=cT c 58 (show (0:Int) < 1+br c 57 10 by omega)
 have h3:=cT c 60 (show (0:Int) < 26 by decide)
 refine ⟨?_,?_,?_,?_,?_⟩
 ·unfold hX; simp only [List.length_cons,List.length_map,List.length_range]; omega
 ·intro b hb
  have:b=(br c 60 26).toNat:=by simpa [hX] using hb.symm
  omega
 ·intro b hb
  rcases List.mem_cons.mp hb with rfl | hb
  ·omega
  ·obtain ⟨k,_,rfl⟩:=List.mem_map.mp hb
   have:=cT c (61+(k:Int)) (show (0:Int) < 36 by decide)
   omega
 ·unfold ku; omega
 ·unfold ku hX; simp only [List.length_cons,List.length_map,List.length_range]; omega
theorem Eb (c:Int) : NmF (eg c):=(yz c).nmF

def Ae:Sp:=fun vs H Q _=>∃ (c:Int) (j:Nat),vs=[.int c,.int (j:Int)]∧∀ H',ao H H'→Q (.str (tx (eg c j))) H'
theorem jn:aJ ["cell","j","some","size","base","at"] ["cell","j"] (av rF):=by walk_at "c"
theorem pH (T:Txt P w K mg a) : aX P w K mg base CX0 2 a.rX a.qp ["cell","j"] Ae:=by
 refine T.kG.fn.ok jn (fun vs H Q E h=>?_) (fun cdv A outer s H vs Q E hr h=>?_)
 ·obtain ⟨c,j,rfl,_⟩:=h
  rfl
 obtain ⟨c,j,rfl,q⟩:=h
 refine ⟨_,(af (aA (i:=2) jn.nd rfl (Or.inr rfl) aq)
   (af (aA (i:=3) jn.nd rfl (Or.inl rfl) (aO b_ ai (aB T.bG (bA T) (hr.mono (by decide)) rfl (aa (pv 0) (aa ai (aa ai ac))))))
   (af (aA (i:=4) jn.nd rfl (Or.inl rfl) (aO cy (aD d9 (pv 2) (aB T.bG (bA T) (hr.mono (by decide)) rfl (aa (pv 0) (aa ai (aa ai ac)))) (fun _ _=>rfl)) (cH PySem.F.plainAttrs_str PySem.F.slot_str_join PySem.F.type_str_join tH aq (aa (ir rfl (eN (caps:=["cell","some"]) (js:=[0,2]) (cap:=⟨⟨rfl,.inl rfl,rfl,.inl rfl⟩,⟨⟨rfl,.inl rfl,rfl,.inl rfl⟩,trivial⟩⟩)) (le rfl T.eZ (aa (aO vE (pv 3) ai) ac)) (fun _ _ _ _=>c9) (fun _ _ _ _=>(aD d9 (pv 2) (aB T.bG (bA T) (hr.mono (by decide)) rfl (aa (pv 1) (aa (aO b_ ai (pv 0)) (aa ai ac)))) (fun _ _=>rfl)))) ac))))
   (af (aA (i:=5) jn.nd rfl (Or.inl rfl) (aO b_ ai (aB T.bG (bA T) (hr.mono (by decide)) rfl (aa (pv 0) (aa ai (aa (pv 3) ac))))))
   (ag (aF (aO cy (aO cy (aO cy (dz jk (pv 4) eJ (dI (pv 5))) (aD d9 (pv 2) (aO mx (aO xx (pv 1) ai) ai) (fun _ _=>rfl))) (aD d9 (pv 2) (aO mx (pv 1) ai) (fun _ _=>rfl))) (dz jk (pv 4) (dI (pv 5)) eJ)))))))),?_⟩
 generalize hS:(PySem.Str.ofString "abcdefghijklmnopqrstuvwxyz0123456789")=S
 have hat:∀ k:Nat,k < 36→atI S.cps.toList (k:Int)=some (al k):=hS ▸ B_
 have hSl:S.length≤sizeLine:=hS ▸ aW (by decide +kernel)
 have h1:=cT c 57 (show (0:Int) < 10 by decide)
 have h2:=cT c 58 (show (0:Int) < 1+br c 57 10 by omega)
 have h3:=cT c 60 (show (0:Int) < 26 by decide)
 refine ⟨_,rfl,_,57,10,rfl,⟨by decide,by decide⟩,by decide,_,_,rfl,rfl,?_⟩
 dsimp only [bv]
 have e60:br c 60 26=((br c 60 26).toNat:Int):=by omega
 refine ⟨_,rfl,_,rfl,_,60,26,rfl,⟨by decide,by decide⟩,by decide,_,_,al (br c 60 26).toNat,rfl,rfl,hSl,(by rw [e60]; exact hat _ (by omega)),rfl,_,rfl,_,_,rfl,rfl,_,rfl,by omega,by omega,rf (fun i ys G=>G=H∧ys=(((List.range i).map fun (k:Nat)=>al (br c (61+(k:Int)) 36).toNat).map fun d=>tx [d]).map V.str) ⟨rfl,rfl⟩ ?_ ?_ ?_⟩
 ·rintro i ys G hi ⟨_,rfl⟩
  simp only [List.length_map,List.length_range]
  exact aC (by omega)
 ·rintro i ys G hi ⟨rfl,rfl⟩
  refine d_ ?_
  have h4:=cT c (61+(i:Int)) (show (0:Int) < 36 by decide)
  have e4:br c (61+(i:Int)) 36=((br c (61+(i:Int)) 36).toNat:Int):=by omega
  refine ⟨_,rfl,_,rfl,_,rfl,_,_,rfl,rfl,c,61+(i:Int),36,(by rw [Int.zero_add]; rfl),⟨by omega,by omega⟩,by decide,_,_,al (br c (61+(i:Int)) 36).toNat,rfl,rfl,hSl,(by rw [e4]; exact hat _ (by omega)),rfl,?_⟩
  rw [List.range_succ,List.map_append,List.map_append,List.map_append]
  rfl
 rintro ys G ⟨rfl,rfl⟩ p hp
 have en:(1+br c 57 10 - 1).toNat=(br c 57 10).toNat:=by omega
 rw [en]
 have hb:(al (br c 60 26).toNat :: ((List.range (br c 57 10).toNat).map fun (k:Nat)=>al (br c (61+(k:Int)) 36).toNat))=(hX c).map al:=by
  unfold hX
  rw [List.map_cons,List.map_map]
  rfl
 have bl:(hX c).length=1+(br c 57 10).toNat:=by unfold hX; simp only [List.length_cons,List.length_map,List.length_range]; omega
 refine ⟨_,_,_,rfl,rfl,SqL.of ae,by decide,by simp only [tT,List.length_map,List.length_range]; omega,_,_,rfl,rfl,(by rw [ej1,aQ,aQ]; simp only [List.length_map,List.length_range,List.length_cons,List.length_nil]; exact Nat.le_of_lt (aC (by omega))),?_⟩
 dsimp only [bv]
 rw [ej1,dB,List.singleton_append,hb]
 have s1:=ah hp (.lst ((((List.range (br c 57 10).toNat).map fun (k:Nat)=>al (br c (61+(k:Int)) 36).toNat).map fun d=>tx [d]).map V.str))
 generalize upd G p _=G1 at s1 ⊢
 refine ⟨_,rfl,_,rfl,c,58,1+br c 57 10,rfl,⟨by decide,by decide⟩,by omega,_,_,rfl,rfl,?_⟩
 dsimp only [bv]
 have ea:1+br c 58 (1+br c 57 10)=((ku c:Nat) : Int):=by unfold ku; omega
 rw [ea]
 have la:ku c≤(hX c).length:=(yz c).hi
 have l10:=(yz c).len
 have q1:(j:Int) / 36 % 36=((j / 36 % 36:Nat) : Int):=by omega
 have q2:(j:Int) % 36=((j % 36:Nat) : Int):=by omega
 have sl1:Txt.slice (tx ((hX c).map al)) none (some ((ku c:Nat) : Int))=tx (((hX c).take (ku c)).map al):=by rw [eB,Tl.cut_to,List.map_take]
 have sl2:Txt.slice (tx ((hX c).map al)) (some ((ku c:Nat) : Int)) none=tx (((hX c).drop (ku c)).map al):=by rw [eB,Tl.cut_from,List.map_drop]
 have hla:((hX c).map al).length≤10:=by rw [List.length_map]; exact l10
 have LN:(tx ((hX c).map al)).length≤sizeLine:=by rw [aQ]; exact Nat.le_of_lt (aC (by omega))
 refine ⟨_,rfl,_,rfl,_,rfl,_,rfl,LN,_,rfl,_,rfl,_,_,rfl,rfl,⟨by decide,by decide⟩,_,_,rfl,rfl,(by (first | decide | (show (0:Int) < _; first | decide | omega))),_,_,al (j / 36 % 36),rfl,rfl,hSl,(by rw [q1]; exact hat _ (Nat.mod_lt _ (by decide))),_,_,rfl,rfl,(by rw [sl1,aQ]; simp only [List.length_map,List.length_take]; exact Nat.le_of_lt (aC (by show min _ _+1≤1000; omega))),_,rfl,_,rfl,_,_,rfl,rfl,(by (first | decide | (show (0:Int) < _; first | decide | omega))),_,_,al (j % 36),rfl,rfl,hSl,(by rw [q2]; exact hat _ (Nat.mod_lt _ (by decide))),_,_,rfl,rfl,?_,_,rfl,_,rfl,_,rfl,_,rfl,LN,_,_,rfl,rfl,?_,?_⟩
 ·rw [sl1]
  show (tx _++tx [_]).length+1≤_
  rw [dB,aQ]
  simp only [List.length_append,List.length_map,List.length_take,List.length_cons,List.length_nil]
  exact Nat.le_of_lt (aC (by omega))
 ·rw [sl1,sl2]
  show ((tx _++tx [_])++tx [_]).length+_≤_
  rw [dB,dB,aQ,aQ]
  simp only [List.length_append,List.length_map,List.length_take,List.length_drop,List.length_cons,List.length_nil]
  exact Nat.le_of_lt (aC (by omega))
 ·rw [sl1,sl2]
  show Q (.str (((tx _++tx [_])++tx [_])++tx _)) G1
  rw [dB,dB,dB]
  have:=q G1 s1
  unfold eg nmB at this
  rw [List.map_append,List.map_append,List.map_append] at this
  exact this
def yA:List Nat:=[33,34,35,36,38,39,40,41,42,43,44,45,46,47,48,49,50,51,52,53,54,55,56,57,58,59,60,61,62,63,64,65,66,67,68,69,70,71,72,73,74,75,76,77,78,79,80,81,82,83,84,85,86,87,88,89,90,91,92,93,94,95,96,97,98,99,100,101,102,103,104,105,106,107,108,109,110,111,112,113,114,115,116,117,118,119,120,121,122,123,124,125,126]
def mM (c k:Int) : Nat:=yA.getD (br c k 93).toNat 0
theorem Dq:∀ k:Nat,k < 93→32 < yA.getD k 0∧yA.getD k 0 < 127:=by decide +kernel
theorem uA (c k:Int) : 32 < mM c k∧mM c k < 127:=by
 have:=cT c k (show (0:Int) < 93 by decide)
 exact Dq _ (by omega)
def wH:Sp:=fun vs H Q _=>∃ c k:Int,vs=[.int c,.int k]∧(0≤k∧k≤100000)∧Q (.str (tx [mM c k])) H
theorem pI:aJ ["cell","k","some"] ["cell","k"] (av lO):=by walk_at "c"
theorem pJ (T:Txt P w K mg a) : aX P w K mg base CX0 2 a.mf a.kS ["cell","k"] wH:=by
 refine T.jf.fn.ok pI (fun vs H Q E h=>?_) (fun cdv A outer s H vs Q E hr h=>?_)
 ·obtain ⟨c,k,rfl,_⟩:=h
  rfl
 obtain ⟨c,k,rfl,hk,q⟩:=h
 refine ⟨_,(af (aA (i:=2) pI.nd rfl (Or.inl rfl) aq)
   (ag (aF (aD d9 (pv 2) (aB T.bG (bA T) (hr.mono (by decide)) rfl (aa (pv 0) (aa (pv 1) (aa ai ac)))) (fun _ _=>rfl))))),?_⟩
 have b:=cT c k (show (0:Int) < 93 by decide)
 obtain ⟨d,hd⟩:=Int.eq_ofNat_of_zero_le b.1
 have e:∀ j:Nat,j < 93→atI (PySem.Str.ofString "!\"#$&'()*+,-./0123456789:;<=>?@ABCDEFGHIJKLMNOPQRSTUVWXYZ[\\]^_`abcdefghijklmnopqrstuvwxyz{|}~").cps.toList (j:Int)=some (yA.getD j 0):=by decide +kernel
 refine ⟨_,rfl,_,rfl,_,rfl,c,k,93,rfl,hk,by decide,_,_,mM c k,rfl,rfl,aW (by decide +kernel),?_,q⟩
 rw [hd]
 have:=e d (by omega)
 rw [this]
 unfold mM
 rw [hd]
 rfl

def plP:List (List Nat):=[[46,112,97,103,101],[46,108,101,116],[61],[61,61],[61,61,61],[35,97,98],[38,120,49],[33],[33,33],[91,97,98],[124],[93],[36,49],[126,97],[64],[94,48]]
theorem Dr:∀ w ∈ plP,w≠[]∧w.length≤60∧∀ d ∈ w,33≤d∧d < 127:=by decide
theorem cP:[V.str (PySem.Str.ofString ".page"),V.str (PySem.Str.ofString ".let"),V.str (PySem.Str.ofString "="),V.str (PySem.Str.ofString "=="),V.str (PySem.Str.ofString "==="),V.str (PySem.Str.ofString "#ab"),V.str (PySem.Str.ofString "&x1"),V.str (PySem.Str.ofString "!"),V.str (PySem.Str.ofString "!!"),V.str (PySem.Str.ofString "[ab"),V.str (PySem.Str.ofString "|"),V.str (PySem.Str.ofString "]"),V.str (PySem.Str.ofString "$1"),V.str (PySem.Str.ofString "~a"),V.str (PySem.Str.ofString "@"),V.str (PySem.Str.ofString "^0")]=(plP.map tx).map V.str:=by decide +kernel
theorem Ec (c:Nat) : Txt.mul (tx [c]) 60=tx (List.replicate 60 c):=(zv [c] 60).trans (by rw [rA])
theorem Cd (c:Nat) : MulOk (tx [c]) 60:=qN (n:=60) (by omega) (by simp)

def uJ:Sp:=fun vs H Q _=>∃ c:Int,vs=[.int c]∧∀ l H',Bb l→ao H H'→Q (.str (tx l)) H'
theorem jw:aJ ["cell","some","way"] ["cell"] (av j_):=by walk_at "c"
theorem uK (T:Txt P w K mg a) : aX P w K mg base CX0 3 a.kM a.jC ["cell"] uJ:=by
 refine T.kH.fn.ok jw (fun vs H Q E h=>?_) (fun cdv A outer s H vs Q E hr h=>?_)
 ·obtain ⟨c,rfl,_⟩:=h
  rfl
 obtain ⟨c,rfl,q⟩:=h
 refine ⟨_,(@af _ _ _ _ _ (@Br _ 1 _ _ _ _ _ _ jw.nd rfl (Or.inl rfl) (CL.str (CL.str (CL.str (CL.str (CL.str (CL.str (CL.str (CL.str (CL.str (CL.str (CL.str (CL.str (CL.str (CL.str (CL.str (CL.str CL.nil)))))))))))))))) (by first | exact .inl rfl | exact .inr rfl))
   (@af _ _ _ _ _ (aA (i:=2) jw.nd rfl (Or.inl rfl) (aB T.bG (bA T) (hr.mono (by decide)) rfl (@aa _ _ _ _ _ (pv 0) (@aa _ _ _ _ _ ai (@aa _ _ _ _ _ ai ac (by rfl)) (by rfl)) (by rfl))))
   (@af _ _ _ _ _ (@aG _ _ _ _ _ _ _ _ (au a_ (pv 2) ai (nomark _)) (@ag _ _ _ (@aF _ _ _ _ (@aD _ _ _ _ _ _ _ bU (pv 1) (aB T.bG (bA T) (hr.mono (by decide)) rfl (@aa _ _ _ _ _ (pv 0) (@aa _ _ _ _ _ ai (@aa _ _ _ _ _ ai ac (by rfl)) (by rfl)) (by rfl))) (fun _ _=>rfl)))) aE)
   (@af _ _ _ _ _ (@aG _ _ _ _ _ _ _ _ (au a_ (pv 2) ai (nomark _)) (@ag _ _ _ (@aF _ _ _ _ (aO mW (aB T.jf (pJ T) (hr.mono (by decide)) rfl (@aa _ _ _ _ _ (pv 0) (@aa _ _ _ _ _ ai ac (by rfl)) (by rfl))) ai))) aE)
   (@ag _ _ _ (@aF _ _ _ _ (cH PySem.F.plainAttrs_str PySem.F.slot_str_join PySem.F.type_str_join tH aq (@aa _ _ _ _ _ (ir rfl (eN (caps:=["cell"]) (js:=[0]) (cap:=⟨⟨rfl,.inl rfl,rfl,.inl rfl⟩,trivial⟩)) (le rfl T.eZ (@aa _ _ _ _ _ (aO b_ ai (aB T.bG (bA T) (hr.mono (by decide)) rfl (@aa _ _ _ _ _ (pv 0) (@aa _ _ _ _ _ ai (@aa _ _ _ _ _ ai ac (by rfl)) (by rfl)) (by rfl)))) ac (by rfl))) (fun _ _ _ _=>c9) (fun _ _ _ _=>(aB T.jf (pJ T) (hr.mono (by decide)) rfl (@aa _ _ _ _ _ (pv 1) (@aa _ _ _ _ _ (aO b_ ai (pv 0)) ac (by rfl)) (by rfl))))) ac (by rfl))))))))),?_⟩
 refine ⟨aW (by simp),fun p1 hp1=>?_⟩
 have s1:=ah hp1 (.lst [V.str (PySem.Str.ofString ".page"),V.str (PySem.Str.ofString ".let"),V.str (PySem.Str.ofString "="),V.str (PySem.Str.ofString "=="),V.str (PySem.Str.ofString "==="),V.str (PySem.Str.ofString "#ab"),V.str (PySem.Str.ofString "&x1"),V.str (PySem.Str.ofString "!"),V.str (PySem.Str.ofString "!!"),V.str (PySem.Str.ofString "[ab"),V.str (PySem.Str.ofString "|"),V.str (PySem.Str.ofString "]"),V.str (PySem.Str.ofString "$1"),V.str (PySem.Str.ofString "~a"),V.str (PySem.Str.ofString "@"),V.str (PySem.Str.ofString "^0")])
 have k1:upd H p1 (.lst [V.str (PySem.Str.ofString ".page"),V.str (PySem.Str.ofString ".let"),V.str (PySem.Str.ofString "="),V.str (PySem.Str.ofString "=="),V.str (PySem.Str.ofString "==="),V.str (PySem.Str.ofString "#ab"),V.str (PySem.Str.ofString "&x1"),V.str (PySem.Str.ofString "!"),V.str (PySem.Str.ofString "!!"),V.str (PySem.Str.ofString "[ab"),V.str (PySem.Str.ofString "|"),V.str (PySem.Str.ofString "]"),V.str (PySem.Str.ofString "$1"),V.str (PySem.Str.ofString "~a"),V.str (PySem.Str.ofString "@"),V.str (PySem.Str.ofString "^0")]) p1=some (.lst ((plP.map tx).map V.str)):=by rw [ae,cP]
 generalize upd H p1 (.lst [V.str (PySem.Str.ofString ".page"),V.str (PySem.Str.ofString ".let"),V.str (PySem.Str.ofString "="),V.str (PySem.Str.ofString "=="),V.str (PySem.Str.ofString "==="),V.str (PySem.Str.ofString "#ab"),V.str (PySem.Str.ofString "&x1"),V.str (PySem.Str.ofString "!"),V.str (PySem.Str.ofString "!!"),V.str (PySem.Str.ofString "[ab"),V.str (PySem.Str.ofString "|"),V.str (PySem.Str.ofString "]"),V.str (PySem.Str.ofString "$1"),V.str (PySem.Str.ofString "~a"),V.str (PySem.Str.ofString "@"),V.str (PySem.Str.ofString "^0")])=H1 at s1 k1 ⊢
 refine ⟨_,rfl,_,3,10,rfl,⟨by decide,by decide⟩,by decide,?_⟩
 refine ⟨_,rfl,rfl,_,rfl,?_⟩
 refine dX (fun _=>?_) (fun _=>?_)
 ·obtain ⟨n,en,hn⟩:=jb c 4 (show 0 < 16 by decide)
  have en:br c 4 16=(n:Int):=en
  obtain ⟨w,hw⟩ : ∃ w,plP[n]? = some w:=⟨plP[n],List.getElem?_eq_getElem hn⟩
  obtain ⟨o1,o2,o3⟩:=Dr w (List.mem_of_getElem? hw)
  exact ⟨_,rfl,_,rfl,_,4,16,rfl,⟨by decide,by decide⟩,by decide,_,_,_,_,rfl,rfl,SqL.of k1,(by rw [en]; exact dy (by rw [List.getElem?_map,List.getElem?_map,hw]; rfl)),q w _ ⟨o1,o2,o3⟩ s1⟩
 dsimp only [cX]
 refine ⟨_,rfl,rfl,_,rfl,?_⟩
 refine dX (fun _=>?_) (fun _=>?_)
 ·have sg:=uA c 5
  refine ⟨_,rfl,c,5,rfl,⟨by decide,by decide⟩,_,_,rfl,rfl,Cd _,?_⟩
  ·rw [Ec]
   exact q _ _ ⟨by simp,by simp,fun d hd=>by rw [List.eq_of_mem_replicate hd]; omega⟩ s1
 dsimp only [cX]
 have h6:=cT c 6 (show (0:Int) < 5 by decide)
 refine ⟨rfl,_,rfl,_,6,5,rfl,⟨by decide,by decide⟩,by decide,_,_,rfl,rfl,_,rfl,by omega,by omega,rf (fun i ys G=>G=H1∧ys=(((List.range i).map fun (k:Nat)=>mM c (10+(k:Int))).map fun d=>tx [d]).map V.str) ⟨rfl,rfl⟩ ?_ ?_ ?_⟩
 ·rintro i ys G hi ⟨_,rfl⟩
  simp only [List.length_map,List.length_range]
  exact aC (by omega)
 ·rintro i ys G hi ⟨rfl,rfl⟩
  refine d_ ?_
  refine ⟨_,rfl,_,rfl,_,_,rfl,rfl,c,10+(i:Int),(by rw [Int.zero_add]; rfl),⟨by omega,by omega⟩,rfl,?_⟩
  rw [List.range_succ,List.map_append,List.map_append,List.map_append]
  rfl
 rintro ys G ⟨rfl,rfl⟩ p hp
 refine ⟨_,_,_,rfl,rfl,SqL.of ae,by decide,by simp only [tT,List.length_map,List.length_range]; omega,?_⟩
 rw [ej1]
 refine q _ _ ⟨?_,?_,?_⟩ (s1.trans (ah hp _))
 ·intro z
  have:=congrArg List.length z
  simp only [List.length_map,List.length_range,List.length_nil] at this
  omega
 ·simp only [List.length_map,List.length_range]; omega
 ·intro d hd
  obtain ⟨k,_,rfl⟩:=List.mem_map.mp hd
  have:=uA c (10+(k:Int))
  omega
def Af:Sp:=fun vs H Q _=>∃ (f cell:Int) (k:Kw) (at_ marks feet:Nat),vs=[.int f,.str k.s,.int cell,.int (at_:Int),.int (marks:Int),.int (feet:Int)]∧k≠.entry∧∀ p H' w,H p=none→ao H H'→H' p=some (.tup [.str w.1.s,.str (tx w.2)])→WdG (eg f) k at_ marks feet w→Q (.ref p) H'
theorem gH:aJ ["first","kind","cell","at","marks","feet","many","rest"] ["first","kind","cell","at","marks","feet"] (av rG):=by walk_at "c"
theorem Ag (T:Txt P w K mg a) : aX P w K mg base CX0 4 a.r_ a.qu ["first","kind","cell","at","marks","feet"] Af:=by
 refine T.rS.fn.ok gH (fun vs H Q E h=>?_) (fun cdv A outer s H vs Q E hr h=>?_)
 ·obtain ⟨f,cell,k,at_,marks,feet,rfl,_⟩:=h
  rfl
 obtain ⟨f,cell,k,at_,marks,feet,rfl,ke,q⟩:=h
 refine ⟨_,(af (aA (i:=6) gH.nd rfl (Or.inl rfl) (pv 4))
   (af (aG (au a_ (pv 1) aq (nomark _)) (ag (aA (i:=6) gH.nd rfl (Or.inl rfl) (pv 5))) aE)
   (af (aG (au a_ (pv 1) aq (nomark _)) (ag (aA (i:=7) gH.nd rfl (Or.inl rfl) (aB T.kG (pH T) (hr.mono (by decide)) rfl (aa (pv 0) (aa (pv 3) ac))))) (ag (aG (PW.pt (du (au a_ (pv 1) aq (nomark _)) (dN (au a_ (pv 6) ai (nomark _))))) (af (aA (i:=1) gH.nd rfl (Or.inl rfl) aq)
   (ag (aA (i:=7) gH.nd rfl (Or.inl rfl) (aB T.kH (uK T) (hr.mono (by decide)) rfl (aa (pv 2) ac))))) (ag (aA (i:=7) gH.nd rfl (Or.inl rfl) (aB T.kG (pH T) (hr.mono (by decide)) rfl (aa (pv 0) (aa (aB T.bG (bA T) (hr.mono (by decide)) rfl (aa (pv 2) (aa ai (aa (pv 6) ac)))) ac))))))))
   (ag (aF (aS (aa (pv 1) (aa (pv 7) ac)))))))),?_⟩
 refine ⟨_,rfl,?_⟩
 dsimp only [bv]
 refine c_ (fun σ' H'=>σ' = [some (.int f),some (.str k.s),some (.int cell),some (.int (at_:Int)),some (.int (marks:Int)),some (.int (feet:Int)),some (.int ((eR k marks feet:Nat) : Int)),none]∧H' = H) ?_ (fun key=>?_)
 ·rintro σ' H' ⟨rfl,rfl⟩
  refine c_ (fun σ' H2=>∃ w:NWd,σ' = [some (.int f),some (.str w.1.s),some (.int cell),some (.int (at_:Int)),some (.int (marks:Int)),some (.int (feet:Int)),some (.int ((eR k marks feet:Nat) : Int)),some (.str (tx w.2))]∧ao H' H2∧WdG (eg f) k at_ marks feet w) ?_ (fun key=>?_)
  ·rintro σ' H2 ⟨w,rfl,s,g⟩
   exact ⟨_,rfl,_,rfl,le2,fun p1 hp1=>q p1 _ w (s.free hp1) (s.trans (ah hp1 _)) ae g⟩
  ·refine ⟨_,rfl,rfl,_,rfl,?_⟩
   by_cases hm:k = .mark
   ·subst hm
    rw [decide_eq_true (show V.str Kw.mark.s=V.str "mark" from rfl)]
    refine aT ?_
    exact ⟨_,rfl,_,rfl,f,at_,rfl,fun H2 s=>key _ _ ⟨(.mark,eg f at_),rfl,s,.inl ⟨rfl,rfl⟩⟩⟩
   ·rw [decide_eq_false (show ¬ (V.str k.s=V.str "mark") from fun z=>hm (Kw.inj (b:=.mark) (V.str.inj z)))]
    refine ay ?_
    refine ⟨_,rfl,rfl,_,rfl,?_⟩
    have pl:(k≠.plain→eR k marks feet=0)→∀ l H2,Bb l→ao H' H2→_:=fun z l H2 ol s=>key _ H2 ⟨(.plain,l),rfl,s,.inr (.inl ⟨hm,rfl,ol,z⟩)⟩
    by_cases hp:k = .plain
    ·rw [decide_eq_true (show V.str k.s=V.str "plain" by rw [hp]; rfl)]
     refine aT ?_
     refine aT ?_
     exact ⟨_,rfl,cell,rfl,fun l H2 ol s=>pl (fun z=>absurd hp z) l H2 ol s⟩
    ·rw [decide_eq_false (show ¬ (V.str k.s=V.str "plain") from fun z=>hp (Kw.inj (b:=.plain) (V.str.inj z)))]
     refine ay ?_
     refine ⟨_,rfl,rfl,_,rfl,?_⟩
     by_cases h0:eR k marks feet=0
     ·rw [h0,decide_eq_true (show V.int ((0:Nat) : Int)=V.int 0 from rfl)]
      refine aT ?_
      have pl:=pl (fun _=>h0)
      rw [h0] at pl
      exact ⟨_,rfl,cell,rfl,fun l H2 ol s=>pl l H2 ol s⟩
     ·rw [decide_eq_false (show ¬ (V.int ((eR k marks feet:Nat) : Int)=V.int 0) from fun z=>h0 (by injection z with z; omega))]
      refine ay ?_
      obtain ⟨j,ej,hj⟩:=jb cell 9 (show 0 < eR k marks feet by omega)
      refine ⟨_,rfl,_,rfl,_,rfl,cell,9,((eR k marks feet:Nat) : Int),rfl,⟨by decide,by decide⟩,by omega,f,j,by rw [ej]; rfl,fun H2 s=>key _ _ ⟨(k,eg f j),rfl,s,.inr (.inr ⟨hm,hp,rfl,j,hj,rfl⟩)⟩⟩
 ·refine ⟨_,rfl,rfl,_,rfl,?_⟩
  by_cases hf:k = .foot
  ·rw [decide_eq_true (show V.str k.s=V.str "foot" by rw [hf]; rfl)]
   refine aT ?_
   exact ⟨_,rfl,key _ _ ⟨by unfold eR; rw [if_pos hf]; rfl,rfl⟩⟩
  ·rw [decide_eq_false (show ¬ (V.str k.s=V.str "foot") from fun z=>hf (Kw.inj (b:=.foot) (V.str.inj z)))]
   refine ay ?_
   exact key _ _ ⟨by unfold eR; rw [if_neg hf]; rfl,rfl⟩

def mkN (ws:List (Kw × Int)) : Nat:=(ws.filter fun w=>decide (w.1 = .mark)).length
def bP (rows:List cu) : Nat:=(rows.map fun r=>mkN r.2).sum
def ftN (rows:List cu) : Nat:=(rows.filter fun r=>decide (r.1 = .foot)).length
def b1 (b:Bool) : Nat:=if b then 1 else 0
theorem wI (ws:List (Kw × Int)) (w:Kw × Int) : mkN (ws++[w])=mkN ws+b1 (decide (w.1 = .mark)):=by
 unfold mkN
 rw [List.filter_append,List.length_append]
 cases h:decide (w.1 = .mark) <;> simp [List.filter,h,b1]
theorem Ah (rows:List cu) (r:cu) : bP (rows++[r])=bP rows+mkN r.2:=by unfold bP; simp
theorem wJ (rows:List cu) (r:cu) : ftN (rows++[r])=ftN rows+b1 (decide (r.1 = .foot)):=by
 unfold ftN
 rw [List.filter_append,List.length_append]
 cases h:decide (r.1 = .foot) <;> simp [List.filter,h,b1]
theorem wK:∀ rows:List cu,(rows.map fun r=>((mkN r.2:Nat) : Int)).sum=((bP rows:Nat) : Int)
 | []=>rfl
 | r :: rs=>by
  have:=wK rs
  unfold bP at this ⊢
  rw [List.map_cons,List.sum_cons,this,List.map_cons,List.sum_cons]
  omega
def WsR (nm:Nat→List Nat) (M F:Nat) : Nat→List (Kw × Int)→List NWd→Prop
 | _,[],[]=>True
 | at_,k :: r,w :: s=>WdG nm k.1 at_ M F w∧WsR nm M F (at_+b1 (decide (k.1 = .mark))) r s
 | _,_,_=>False
theorem WsR.snoc {nm:Nat→List Nat} {M F:Nat} {k:Kw × Int} {w:NWd} : ∀ {ws:List (Kw × Int)} {ds:List NWd} {at_:Nat},WsR nm M F at_ ws ds→WdG nm k.1 (at_+mkN ws) M F w→WsR nm M F at_ (ws++[k]) (ds++[w])
 | [],[],_,_,h=>⟨h,trivial⟩
 | x :: ws,d :: ds,at_,h,h2=>⟨h.1,WsR.snoc (ws:=ws) h.2 (by
  have:at_+mkN (x :: ws)=at_+b1 (decide (x.1 = .mark))+mkN ws:=by
   unfold mkN
   cases e:decide (x.1 = .mark) <;> simp [List.filter,e,b1] <;> omega
  rw [this] at h2
  exact h2)⟩
def wL (nm:Nat→List Nat) (M F at_ hung:Nat) (r:cu) (n:bN) : Prop:=n.1=(if r.1 = .words∧r.2=[] then .empty else r.1)∧n.2.1=(if r.1 = .foot then nm hung else [])∧WsR nm M F at_ r.2 n.2.2
def dG (nm:Nat→List Nat) (M F:Nat) : Nat→Nat→List cu→List bN→Prop
 | _,_,[],[]=>True
 | at_,hung,r :: rs,n :: ns=>wL nm M F at_ hung r n∧dG nm M F (at_+mkN r.2) (hung+b1 (decide (r.1 = .foot))) rs ns
 | _,_,_,_=>False
theorem dG.snoc {nm:Nat→List Nat} {M F:Nat} {r:cu} {n:bN} : ∀ {rs:List cu} {ns:List bN} {at_ hung:Nat},dG nm M F at_ hung rs ns→wL nm M F (at_+bP rs) (hung+ftN rs) r n→dG nm M F at_ hung (rs++[r]) (ns++[n])
 | [],[],_,_,_,h=>⟨h,trivial⟩
 | x :: rs,y :: ns,at_,hung,h,h2=>⟨h.1,dG.snoc (rs:=rs) h.2 (by
  have e1:at_+bP (x :: rs)=at_+mkN x.2+bP rs:=by unfold bP; simp; omega
  have e2:hung+ftN (x :: rs)=hung+b1 (decide (x.1 = .foot))+ftN rs:=by
   unfold ftN
   cases e:decide (x.1 = .foot) <;> simp [List.filter,e,b1] <;> omega
  rw [e1,e2] at h2
  exact h2)⟩
def NnA (F:Hp) (v:V) (n:bN) : Prop:=∃ a l,v = .ref a∧F a=some (.tup [.str (tx n.1.t),.str (tx n.2.1),.ref l])∧cg F l (wkS n.2.2)
theorem NnA.mono {F F':Hp} (s:ao F F') {v:V} {n:bN} (h:NnA F v n) : NnA F' v n:=by
 obtain ⟨a,l,e,h1,h2⟩:=h
 exact ⟨a,l,e,s _ _ h1,h2.mono s⟩
def bF:List bN:=[(.empty,[],[]),(.words,[],[(.plain,[101,110,100])])]
theorem Ed:(PySem.Str.ofString "end")=tx [101,110,100]:=by decide +kernel

def yB (K:PySem.W.Frag) : Sp:=fun vs H Q _=>∃ (ra:Addr) (f:Int) (rows:List cu) (rv:List V),vs=[.ref ra,.int f]∧H ra=some (.lst rv)∧aR (RrA H) rv rows∧rows.length≤62∧(∀ r ∈ rows,r.2.length≤6∧∀ w ∈ r.2,w.1≠.entry)∧∀ p H' ns us,H p=none→ao H H'→H' p=some (.lst us)→aR (NnA H') us (ns++bF)→dG (eg f) (bP rows) (ftN rows) 0 0 rows ns→Q (.ref p) H'
theorem bR:aJ ["rows","first","marks","feet","named","at","hung","way","words","done","kind","cell","name"] ["rows","first"] (av pj):=by walk_at "c"
theorem yC (T:Txt P w K mg a) : aX P w K mg base CX0 5 a.qg a.oe ["rows","first"] (yB K):=by
 refine T.pW.fn.ok bR (fun vs H Q E h=>?_) (fun cdv A outer s H vs Q E hr h=>?_)
 ·obtain ⟨ra,f,rows,rv,rfl,_⟩:=h
  rfl
 obtain ⟨ra,f,rows,rv,rfl,hra,al,rl,rok,q⟩:=h
 have hu:=Nat.lt_of_succ_lt (df hr)
 refine ⟨_,(@af _ _ _ _ _ (aA (i:=2) bR.nd rfl (Or.inl rfl) (aK (AQ rfl) rfl T.qI PyProof.Rows.boot_sum (aa (vX rfl (eN (caps:=[]) (js:=[]) (cap:=trivial)) (a7 (pv 0)) (fun _ _ _ _=>c9) (fun _ _ _ _=>(aK (r:=C2 K) bD rfl T.bS PySem.boot_len (aa (ir rfl (eN (caps:=[]) (js:=[]) (cap:=trivial)) (A5 (K:=K) rfl (pv 1)) (fun _ _ _ _=>(mE (au a_ (aD (r:=lI K) aN (pv 0) ai (fun _ _=>rfl)) aq (nomark _)))) (fun _ _ _ _=>(pv 0))) ac)))) ac)))
   (@af _ _ _ _ _ (aA (i:=3) bR.nd rfl (Or.inl rfl) (aK bD rfl T.bS PySem.boot_len (aa (vX rfl (eN (caps:=[]) (js:=[]) (cap:=trivial)) (a7 (pv 0)) (fun _ _ _ _=>(mE (au a_ (pv 0) aq (nomark _)))) (fun _ _ _ _=>(pv 0))) ac)))
   (@af _ _ _ _ _ (aA (i:=4) bR.nd rfl (Or.inl rfl) (aY ac))
   (@af _ _ _ _ _ (aA (i:=5) bR.nd rfl (Or.inl rfl) ai)
   (@af _ _ _ _ _ (aA (i:=6) bR.nd rfl (Or.inl rfl) ai)
   (@af _ _ _ _ _ (b9 PassesOwn.never rfl (a7 (pv 0)) (d8 rfl (a6 (aM (i:=7) bR.nd rfl (Or.inl rfl)) (a6 (aM (i:=8) bR.nd rfl (Or.inl rfl)) dw))) (@af _ _ _ _ _ (aA (i:=9) bR.nd rfl (Or.inl rfl) (aY ac))
   (@af _ _ _ _ _ (b9 PassesOwn.never rfl (a7 (pv 8)) (d8 rfl (a6 (aM (i:=10) bR.nd rfl (Or.inl rfl)) (a6 (aM (i:=11) bR.nd rfl (Or.inl rfl)) dw))) (@af _ _ _ _ _ (bj (cH PySem.F.plainAttrs_list PySem.F.slot_list_append PySem.F.type_list_append cf (pv 9) (aa (aB T.rS (Ag T) (hr.mono (by decide)) rfl (aa (pv 1) (aa (pv 10) (aa (pv 11) (aa (pv 5) (aa (pv 2) (aa (pv 3) ac))))))) ac)))
   (ag (aA (i:=5) bR.nd rfl (Or.inl rfl) (aO b_ (pv 5) (jj zb rfl T.jh PyProof.Rows.boot_int (aa (eI a_ (pv 10) aq (nomark _)) ac)))))))
   (@af _ _ _ _ _ (aA (i:=12) bR.nd rfl (Or.inl rfl) aq)
   (@af _ _ _ _ _ (aG (au a_ (pv 7) aq (nomark _)) (@af _ _ _ _ _ (aA (i:=12) bR.nd rfl (Or.inl rfl) (aB T.kG (pH T) (hr.mono (by decide)) rfl (aa (pv 1) (aa (pv 6) ac))))
   (ag (aA (i:=6) bR.nd rfl (Or.inl rfl) (aO b_ (pv 6) ai)))) aE)
   (@af _ _ _ _ _ (aG (PW.pt (ij (au a_ (pv 7) aq (nomark _)) (eG (au (rg hu) (pv 8) (aY ac) (nomark _))))) (ag (aA (i:=7) bR.nd rfl (Or.inl rfl) aq)) aE)
   (ag (bj (cH PySem.F.plainAttrs_list PySem.F.slot_list_append PySem.F.type_list_append cf (pv 4) (aa (aS (aa (pv 7) (aa (pv 12) (aa (pv 9) ac)))) ac))))))))))
   (ag (aF (aO mD (pv 4) (aY (aa (aS (aa aq (aa aq (aa (aY ac) ac)))) (aa (aS (aa aq (aa aq (aa (aY (aa (aS (aa aq (aa aq ac))) ac)) ac)))) ac)))))))))))),?_⟩
 have lr:=al.len
 refine (⟨_,rfl,ra,rfl,⟨_,SqL.of hra⟩,mZ (K:=K) (a:=ra) (xs:=rv) (fun i ys G=>ao H G∧ys=((rows.take i).map fun r=>((mkN r.2:Nat) : Int)).map V.int) ⟨ao.refl _,rfl⟩ (fun i ys G _ z=>SqL.of (z.1 _ _ hra)) ?_ ?_ ?_⟩)
 ·rintro i ys G hi ⟨_,rfl⟩
  simp only [List.length_map,List.length_take]
  exact aC (by omega)
 ·rintro i y ys G hy ⟨m,rfl⟩
  obtain ⟨⟨wy,ws⟩,hw,b,l,us,rfl,hb,hl,kc⟩:=al.getL hy
  have lu:=kc.len
  have r6:=(rok _ (List.mem_of_getElem? hw)).1
  dsimp only at lu r6 kc
  refine (⟨b,_,_,rfl,SqT.of (m _ _ hb),d_ ?_⟩)
  refine (⟨_,rfl,l,rfl,⟨_,SqL.of (m _ _ hl)⟩,eO (K:=K) (a:=l) (xs:=us) (fun j zs G'=>G=G'∧zs.length=mkN (ws.take j)) ⟨rfl,rfl⟩ (fun j zs G' _ z=>by rw [← z.1]; exact SqL.of (m _ _ hl)) ?_ ?_ ?_⟩)
  ·rintro j zs G' hj ⟨_,z⟩
   have:mkN (ws.take j)≤(ws.take j).length:=List.length_filter_le _ _
   rw [List.length_take] at this
   exact aC (by omega)
  ·rintro j x zs G' hx ⟨rfl,z⟩
   obtain ⟨w,hw2,c,rfl,hc⟩:=kc.getL hx
   have en:mkN (ws.take (j+1))=mkN (ws.take j)+b1 (decide (w.1 = .mark)):=by rw [aP hw2,wI]
   refine (⟨_,rfl,_,_,_,_,rfl,rfl,SqT.of (m _ _ hc),rfl,rfl,_,rfl,?_⟩)
   by_cases hm:w.1 = .mark
   ·rw [decide_eq_true (show V.str w.1.s=V.str "mark" by rw [hm]; rfl)]
    refine aT ?_
    refine (⟨_,rfl,rfl,?_⟩)
    rw [en,List.length_append,z,decide_eq_true hm]
    rfl
   ·rw [decide_eq_false (show ¬ (V.str w.1.s=V.str "mark") from fun zz=>hm (Kw.inj (b:=.mark) (V.str.inj zz)))]
    refine ay ?_
    refine (⟨rfl,?_⟩)
    rw [en,z,decide_eq_false hm]
    rfl
  rintro zs G' ⟨rfl,z⟩ pz1 hpz1
  rw [lu,List.take_length] at z
  refine (⟨_,_,rfl,.inl (SqL.of ae),m.trans (ah hpz1 _),?_⟩)
  rw [aP hw,List.map_append,List.map_append,z]
  rfl
 rintro ys G ⟨m,rfl⟩ pa hpa
 rw [lr,List.take_length]
 refine (⟨pa,_,rfl,SqL.of ae,?_⟩)
 have eM:(rows.map fun r=>((mkN r.2:Nat) : Int)).sum=((bP rows:Nat) : Int):=wK rows
 dsimp only [bv]
 rw [eM]
 have s1:=m.trans (ah hpa (.lst ((rows.map fun r=>((mkN r.2:Nat) : Int)).map V.int)))
 generalize upd G pa (.lst ((rows.map fun r=>((mkN r.2:Nat) : Int)).map V.int))=G1 at s1 ⊢
 refine (⟨_,rfl,ra,rfl,⟨_,SqL.of (s1 _ _ hra)⟩,mZ (K:=K) (a:=ra) (xs:=rv) (fun i ys G=>G1=G∧ys.length=ftN (rows.take i)) ⟨rfl,rfl⟩ (fun i ys G _ z=>by rw [← z.1]; exact SqL.of (s1 _ _ hra)) ?_ ?_ ?_⟩)
 ·rintro i ys G hi ⟨_,z⟩
  have:ftN (rows.take i)≤(rows.take i).length:=List.length_filter_le _ _
  rw [List.length_take] at this
  exact aC (by omega)
 ·rintro i y ys G hy ⟨rfl,z⟩
  obtain ⟨⟨wy,ws⟩,hw,b,l,us,rfl,hb,hl,kc⟩:=al.getL hy
  have en:ftN (rows.take (i+1))=ftN (rows.take i)+b1 (decide (wy = .foot)):=by rw [aP hw,wJ]
  refine (⟨b,_,_,rfl,SqT.of (s1 _ _ hb),?_⟩)
  refine (⟨_,rfl,rfl,_,rfl,?_⟩)
  rw [cz iR]
  by_cases hm:wy = .foot
  ·rw [decide_eq_true (show wy.t=cY by rw [hm]; rfl)]
   refine aT ?_
   refine (⟨_,rfl,rfl,?_⟩)
   rw [en,List.length_append,z,decide_eq_true hm]
   rfl
  ·rw [decide_eq_false (show ¬ (wy.t=cY) from fun zz=>hm (Wy.inj (b:=.foot) zz))]
   refine ay ?_
   refine (⟨rfl,?_⟩)
   rw [en,z,decide_eq_false hm]
   rfl
 rintro ys G ⟨rfl,z⟩ pb hpb
 rw [lr,List.take_length] at z
 refine (⟨_,_,rfl,.inl (SqL.of ae),?_⟩)
 dsimp only [bv]
 rw [z]
 have s2:=s1.trans (ah hpb (.lst ys))
 generalize upd G1 pb (.lst ys)=G2 at s2 ⊢
 generalize hM:bP rows=M at *
 generalize hF:ftN rows=F at *
 refine ⟨aW (by simp),fun pn hpn=>?_⟩
 have hHpn:=s2.free hpn
 have s3:=s2.trans (ah hpn (.lst []))
 have k3:upd G2 pn (.lst []) pn=some (.lst []):=ae
 generalize upd G2 pn (.lst [])=G3 at s3 k3 ⊢
 refine ⟨_,rfl,ra,rfl,⟨_,SqL.of (s3 _ _ hra)⟩,bT (K:=K) (a:=ra) (xs:=rv) (fun i σ' G=>∃ (v7 v8 v9 v10 v11 v12:Option V) (us:List V) (ns:List bN),σ' = [some (.ref ra),some (.int f),some (.int (M:Int)),some (.int (F:Int)),some (.ref pn),some (.int ((bP (rows.take i) : Nat) : Int)),some (.int ((ftN (rows.take i) : Nat) : Int)),v7,v8,v9,v10,v11,v12]∧ao H G∧G pn=some (.lst us)∧us.length=i∧aR (NnA (hid [pn] G)) us ns∧dG (eg f) M F 0 0 (rows.take i) ns) ⟨none,none,none,none,none,none,[],[],rfl,s3,k3,rfl,trivial,trivial⟩ (fun i σ' G _ g=>by obtain ⟨_,_,_,_,_,_,_,_,_,m,_⟩:=g; exact SqL.of (m _ _ hra)) ?_ ?_⟩
 ·rintro i y σ' G hy ⟨v7,v8,v9,v10,v11,v12,us,ns,rfl,m,gn,ul,nal,rr⟩
  obtain ⟨⟨wy,ws⟩,hw,b,l,cs,rfl,hb,hl,kc⟩:=al.getL hy
  have hi:=(List.getElem?_eq_some_iff.mp hw).1
  have lu:=kc.len
  obtain ⟨r6,rne⟩:=rok _ (List.mem_of_getElem? hw)
  dsimp only at lu r6 kc rne
  refine ⟨b,_,rfl,SqT.of (m _ _ hb),rfl,_,_,rfl,_,_,rfl,rfl,?_⟩
  refine ⟨aW (by simp),fun pd hpd=>?_⟩
  have hHpd:=m.free hpd
  have npd:pd≠pn:=fun z=>by rw [z,gn] at hpd; cases hpd
  have m1:=m.trans (ah hpd (.lst []))
  have kd1:upd G pd (.lst []) pd=some (.lst []):=ae
  have gn1:=ah hpd (.lst []) _ _ gn
  have nal1:aR (NnA (hid [pn,pd] (upd G pd (.lst [])))) us ns:=nal.imp fun _ _=>NnA.mono (fun b o z=>by
   obtain ⟨c,z⟩:=iN.mp z
   refine a8 (fun w=>?_) (ah hpd (.lst []) _ _ z)
   simp only [List.mem_cons,List.not_mem_nil,or_false] at w c
   rcases w with w | w
   ·exact c w
   ·rw [w,hpd] at z; cases z)
  generalize upd G pd (.lst [])=G4 at m1 kd1 gn1 nal1 ⊢
  refine ⟨_,rfl,l,rfl,⟨_,SqL.of (m1 _ _ hl)⟩,bT (K:=K) (a:=l) (xs:=cs) (fun j σ' G'=>∃ (v10 v11:Option V) (ds:List V) (dn:List NWd),σ' = [some (.ref ra),some (.int f),some (.int (M:Int)),some (.int (F:Int)),some (.ref pn),some (.int ((bP (rows.take i)+mkN (ws.take j) : Nat) : Int)),some (.int ((ftN (rows.take i) : Nat) : Int)),some (.str (tx wy.t)),some (.ref l),some (.ref pd),v10,v11,v12]∧ao H G'∧G' pn=some (.lst us)∧G' pd=some (.lst ds)∧aR (NnA (hid [pn,pd] G')) us ns∧bW (hid [pn,pd] G') ds (wkS dn)∧WsR (eg f) M F (0+bP (rows.take i)) (ws.take j) dn∧ds.length=j) ⟨v10,v11,[],[],rfl,m1,gn1,kd1,nal1,trivial,trivial,rfl⟩ (fun j σ' G' _ g=>by obtain ⟨_,_,_,_,_,m,_⟩:=g; exact SqL.of (m _ _ hl)) ?_ ?_⟩
  ·rintro j x σ' G5 hx ⟨w10,w11,ds,dn,rfl,m5,gn5,kd5,nal5,wal,wr,dl⟩
   obtain ⟨⟨kd,cell⟩,hw2,c,rfl,hc⟩:=kc.getL hx
   have hj:=(List.getElem?_eq_some_iff.mp hw2).1
   have ke:=rne _ (List.mem_of_getElem? hw2)
   refine ⟨c,_,rfl,SqT.of (m5 _ _ hc),rfl,_,_,rfl,_,_,rfl,rfl,?_⟩
   refine ⟨_,rfl,.inl ⟨rfl,_,SqL.of kd5⟩,_,rfl,_,rfl,_,rfl,_,rfl,_,rfl,_,rfl,f,cell,kd,bP (rows.take i)+mkN (ws.take j),M,F,rfl,ke,fun pw G6 w hpw m6 k6 wg=>?_⟩
   have np1:pw≠pn:=fun z=>by rw [z,gn5] at hpw; cases hpw
   have np2:pw≠pd:=fun z=>by rw [z,kd5] at hpw; cases hpw
   refine ⟨_,_,_,rfl,rfl,m6 _ _ kd5,aC (by omega),?_⟩
   have e:hid [pn,pd] (upd G6 pd (.lst (ds++[.ref pw])))=hid [pn,pd] G6:=bY (by simp)
   refine ⟨_,rfl,_,rfl,rfl,.inr ⟨_,rfl,_,_,rfl,rfl,?_⟩⟩
   refine ⟨some (.str kd.s),some (.int cell),ds++[.ref pw],dn++[w],?_,bn (m5.trans m6) hHpd,?_,ae,?_,?_,?_,by rw [List.length_append,dl]; rfl⟩
   ·have en:mkN (ws.take (j+1))=mkN (ws.take j)+b1 (decide (kd = .mark)):=by rw [aP hw2,wI]
    have ev:(((bP (rows.take i)+mkN (ws.take j) : Nat) : Int)+(if decide (V.str kd.s=V.str (PySem.Str.ofString "mark"))=true then 1 else 0))=((bP (rows.take i)+mkN (ws.take (j+1)) : Nat) : Int):=by
     rw [en]
     by_cases hm:kd = .mark
     ·rw [if_pos (decide_eq_true (show V.str kd.s=V.str (PySem.Str.ofString "mark") by rw [hm]; rfl)),decide_eq_true hm]
      show _=((_+(_+1) : Nat) : Int)
      omega
     ·rw [if_neg (show ¬ (decide (V.str kd.s=V.str (PySem.Str.ofString "mark"))=true) from fun z=>hm (Kw.inj (b:=.mark) (V.str.inj (of_decide_eq_true z)))),decide_eq_false hm]
      show _=((_+(_+0) : Nat) : Int)
      omega
    rw [← ev]
    rfl
   ·rw [aj (Ne.symm npd)]; exact m6 _ _ gn5
   ·rw [e]; exact nal5.imp fun _ _=>NnA.mono (bb m6)
   ·rw [e]
    unfold wkS
    rw [List.map_append]
    exact (bW.mono (bb m6) wal).snoc ⟨pw,rfl,a8 (by simp [np1,np2]) k6⟩
   ·rw [aP hw2]
    refine wr.snoc ?_
    rw [Nat.zero_add]
    exact wg
  rintro σ' G5 ⟨w10,w11,ds,dn,rfl,m5,gn5,kd5,nal5,wal,wr,dl⟩
  rw [lu] at dl
  rw [lu,List.take_length] at wr
  rw [lu,List.take_length]
  have m5':ao (hid [pn,pd] G5) (hid [pn] G5):=fun b o z=>by
   obtain ⟨c,z⟩:=iN.mp z
   exact a8 (fun w=>c (by simp at w ⊢; exact .inl w)) z
  have nal6:aR (NnA (hid [pn] G5)) us ns:=nal5.imp fun _ _=>NnA.mono m5'
  have lsd:cg (hid [pn] G5) pd (wkS dn):=⟨ds,a8 (by simpa using npd) kd5,bW.mono m5' wal⟩
  have eH:ftN (rows.take (i+1))=ftN (rows.take i)+b1 (decide (wy = .foot)):=by rw [aP hw,wJ]
  have eA:bP (rows.take (i+1))=bP (rows.take i)+mkN ws:=by rw [aP hw,Ah]
  rw [← eA]
  dsimp only
  refine c_ (fun σ' G'=>σ' = [some (.ref ra),some (.int f),some (.int (M:Int)),some (.int (F:Int)),some (.ref pn),some (.int ((bP (rows.take (i+1)) : Nat) : Int)),some (.int ((ftN (rows.take i) : Nat) : Int)),some (.str (tx wy.t)),some (.ref l),some (.ref pd),w10,w11,some (.str (PySem.Str.ofString ""))]∧G5=G') ?_ (fun key=>key [some (.ref ra),some (.int f),some (.int (M:Int)),some (.int (F:Int)),some (.ref pn),some (.int ((bP (rows.take (i+1)) : Nat) : Int)),some (.int ((ftN (rows.take i) : Nat) : Int)),some (.str (tx wy.t)),some (.ref l),some (.ref pd),w10,w11,some (.str (PySem.Str.ofString ""))] G5 ⟨rfl,rfl⟩)
  rintro σ' G5' ⟨rfl,rfl⟩
  refine c_ (fun σ' G'=>σ' = [some (.ref ra),some (.int f),some (.int (M:Int)),some (.int (F:Int)),some (.ref pn),some (.int ((bP (rows.take (i+1)) : Nat) : Int)),some (.int ((ftN (rows.take (i+1)) : Nat) : Int)),some (.str (tx wy.t)),some (.ref l),some (.ref pd),w10,w11,some (.str (tx (if wy = .foot then eg f (ftN (rows.take i)) else [])))]∧ao G5 G') ?_ (fun key=>?_)
  ·rintro σ' G6 ⟨rfl,m6⟩
   refine c_ (fun σ' G'=>σ' = [some (.ref ra),some (.int f),some (.int (M:Int)),some (.int (F:Int)),some (.ref pn),some (.int ((bP (rows.take (i+1)) : Nat) : Int)),some (.int ((ftN (rows.take (i+1)) : Nat) : Int)),some (.str (tx (if wy = .words∧ws=[] then Wy.empty else wy).t)),some (.ref l),some (.ref pd),w10,w11,some (.str (tx (if wy = .foot then eg f (ftN (rows.take i)) else [])))]∧ao G5 G') ?_ (fun key=>?_)
   ·rintro σ' G7 ⟨rfl,m7⟩
    refine ⟨_,rfl,.inl ⟨rfl,_,SqL.of (m7 _ _ gn5)⟩,_,rfl,_,rfl,_,rfl,le3,fun pt hpt=>?_⟩
    have m8:=m7.trans (ah hpt (.tup [.str (tx (if wy = .words∧ws=[] then Wy.empty else wy).t),.str (tx (if wy = .foot then eg f (ftN (rows.take i)) else [])),.ref pd]))
    have npt:pt≠pn:=fun z=>by rw [z,m7 _ _ gn5] at hpt; cases hpt
    refine ⟨_,_,_,rfl,rfl,m8 _ _ gn5,aC (by omega),?_⟩
    refine ⟨_,_,_,_,_,_,us++[.ref pt],ns++[(if wy = .words∧ws=[] then Wy.empty else wy,if wy = .foot then eg f (ftN (rows.take i)) else [],dn)],rfl,bn (m5.trans m8) hHpn,ae,by rw [List.length_append,ul]; rfl,?_,?_⟩
    ·rw [bY (by simp)]
     exact (nal6.imp fun _ _=>NnA.mono (bb m8)).snoc ⟨pt,pd,rfl,a8 (by simpa using npt) ae,lsd.mono (bb m8)⟩
    ·rw [aP hw]
     exact rr.snoc ⟨rfl,by rw [Nat.zero_add],wr⟩
   ·refine ⟨_,rfl,rfl,_,rfl,?_⟩
    rw [cz jm]
    by_cases h1:wy = .words
    ·rw [decide_eq_true (show wy.t=[119,111,114,100,115] by rw [h1]; rfl)]
     refine aT ?_
     refine ⟨_,rfl,aW (by simp),fun p4 hp4=>?_⟩
     have m7:=m6.trans (ah hp4 (.lst []))
     refine ⟨_,_,_,rfl,rfl,SqL.of ((m5.trans m7) _ _ hl),SqL.of ae,_,rfl,?_⟩
     refine dX (fun c2=>?_) (fun c2=>?_)
     ·have e0:ws=[]:=by
       cases ws with
       | nil=>rfl
       | cons _ _=>cases cs with
        | nil=>cases lu
        | cons _ _=>cases c2
      exact key _ _ ⟨by rw [show (if wy = .words∧ws=[] then Wy.empty else wy) = .empty from if_pos ⟨h1,e0⟩]; exact congrArg (fun z=>[some (.ref ra),some (.int f),some (.int (M:Int)),some (.int (F:Int)),some (.ref pn),some (.int ((bP (rows.take (i+1)) : Nat) : Int)),some (.int ((ftN (rows.take (i+1)) : Nat) : Int)),some (V.str z),some (.ref l),some (.ref pd),w10,w11,some (.str (tx (if wy = .foot then eg f (ftN (rows.take i)) else [])))]) o9,m7⟩
     ·have e0:ws≠[]:=fun z=>by
       rw [z] at lu
       rw [List.length_eq_zero_iff.mp lu] at c2
       exact c2 rfl
      exact key _ _ ⟨by rw [show (if wy = .words∧ws=[] then Wy.empty else wy)=wy from if_neg (fun z=>e0 z.2)],m7⟩
    ·rw [decide_eq_false (show ¬ (wy.t=[119,111,114,100,115]) from fun z=>h1 (Wy.inj (b:=.words) z))]
     refine ay ?_
     refine ay ?_
     exact key _ _ ⟨by rw [show (if wy = .words∧ws=[] then Wy.empty else wy)=wy from if_neg (fun z=>h1 z.1)],m6⟩
  ·refine ⟨_,rfl,rfl,_,rfl,?_⟩
   rw [cz iR]
   by_cases hf:wy = .foot
   ·rw [decide_eq_true (show wy.t=cY by rw [hf]; rfl)]
    refine aT ?_
    refine ⟨_,rfl,_,rfl,f,ftN (rows.take i),rfl,fun G6 m6=>?_⟩
    refine ⟨_,rfl,_,_,rfl,rfl,?_⟩
    refine key _ _ ⟨?_,m6⟩
    rw [eH,decide_eq_true hf,if_pos hf]
    rfl
   ·rw [decide_eq_false (show ¬ (wy.t=cY) from fun z=>hf (Wy.inj (b:=.foot) z))]
    refine ay ?_
    refine key _ _ ⟨?_,ao.refl _⟩
    rw [eH,decide_eq_false hf,if_neg hf]
    exact congrArg (fun z=>[some (.ref ra),some (.int f),some (.int (M:Int)),some (.int (F:Int)),some (.ref pn),some (.int ((bP (rows.take (i+1)) : Nat) : Int)),some (.int ((ftN (rows.take i) : Nat) : Int)),some (.str (tx wy.t)),some (.ref l),some (.ref pd),w10,w11,some (V.str z)]) o9
 rintro σ' G ⟨v7,v8,v9,v10,v11,v12,us,ns,rfl,m,gn,ul,nal,rr⟩
 rw [lr,List.take_length] at rr
 have nal':aR (NnA G) us ns:=nal.imp fun _ _=>NnA.mono bJ
 refine ⟨_,rfl,aW (by simp),fun p5 hp5=>?_⟩
 have t5:=ah hp5 (.lst [])
 have k5:upd G p5 (.lst []) p5=some (.lst []):=ae
 generalize upd G p5 (.lst [])=G5 at t5 k5 ⊢
 refine ⟨le3,fun p6 hp6=>?_⟩
 have t6:=ah hp6 (.tup [.str (PySem.Str.ofString ""),.str (PySem.Str.ofString ""),.ref p5])
 have k6:upd G5 p6 (.tup [.str (PySem.Str.ofString ""),.str (PySem.Str.ofString ""),.ref p5]) p6=some (.tup [.str (tx []),.str (tx []),.ref p5]):=by rw [ae,o9]
 generalize upd G5 p6 (.tup [.str (PySem.Str.ofString ""),.str (PySem.Str.ofString ""),.ref p5])=G6 at t6 k6 ⊢
 refine ⟨le2,fun p7 hp7=>?_⟩
 have t7:=ah hp7 (.tup [.str (PySem.Str.ofString "plain"),.str (PySem.Str.ofString "end")])
 have k7:upd G6 p7 (.tup [.str (PySem.Str.ofString "plain"),.str (PySem.Str.ofString "end")]) p7=some (.tup [.str (Kw.plain).s,.str (tx [101,110,100])]):=by rw [ae,Ed]; rfl
 generalize upd G6 p7 (.tup [.str (PySem.Str.ofString "plain"),.str (PySem.Str.ofString "end")])=G7 at t7 k7 ⊢
 refine ⟨le1,fun p8 hp8=>?_⟩
 have t8:=ah hp8 (.lst [.ref p7])
 have k8:upd G7 p8 (.lst [.ref p7]) p8=some (.lst [.ref p7]):=ae
 generalize upd G7 p8 (.lst [.ref p7])=G8 at t8 k8 ⊢
 refine ⟨le3,fun p9 hp9=>?_⟩
 have t9:=ah hp9 (.tup [.str (PySem.Str.ofString "words"),.str (PySem.Str.ofString ""),.ref p8])
 have k9:upd G8 p9 (.tup [.str (PySem.Str.ofString "words"),.str (PySem.Str.ofString ""),.ref p8]) p9=some (.tup [.str (tx Wy.words.t),.str (tx []),.ref p8]):=by rw [ae,o9,jm]; rfl
 generalize upd G8 p9 (.tup [.str (PySem.Str.ofString "words"),.str (PySem.Str.ofString ""),.ref p8])=G9 at t9 k9 ⊢
 refine ⟨le2,fun p10 hp10=>?_⟩
 have t10:=ah hp10 (.lst [.ref p6,.ref p9])
 have k10:upd G9 p10 (.lst [.ref p6,.ref p9]) p10=some (.lst [.ref p6,.ref p9]):=ae
 generalize upd G9 p10 (.lst [.ref p6,.ref p9])=G10 at t10 k10 ⊢
 have t510:=t5.trans (t6.trans (t7.trans (t8.trans (t9.trans t10))))
 refine ⟨_,_,_,_,rfl,rfl,t510 _ _ gn,k10,(by show us.length+2≤_; exact Nat.le_of_lt (aC (by omega))),fun p11 hp11=>?_⟩
 have t11:=ah hp11 (.lst (us++[.ref p6,.ref p9]))
 refine q p11 _ ns _ ((m.trans t510).free hp11) ((m.trans t510).trans t11) ae ?_ rr
 refine (nal'.imp fun _ _=>NnA.mono (t510.trans t11)).app ⟨⟨p6,p5,rfl,?_,[],?_,trivial⟩,⟨p9,p8,rfl,?_,[.ref p7],?_,⟨p7,rfl,?_⟩,trivial⟩,trivial⟩
 ·exact ((t7.trans (t8.trans (t9.trans t10))).trans t11) _ _ k6
 ·exact ((t6.trans (t7.trans (t8.trans (t9.trans t10)))).trans t11) _ _ k5
 ·exact (t10.trans t11) _ _ k9
 ·exact ((t9.trans t10).trans t11) _ _ k8
 ·exact ((t8.trans (t9.trans t10)).trans t11) _ _ k7
def Ai (K:PySem.W.Frag) : Sp:=fun vs H Q _=>∃ (sa wa ka:Addr) (ns:List Int) (wys:List WyD) (kds:List Kw),vs=[.ref sa,.ref wa,.ref ka]∧SqL K H sa (ns.map V.int)∧ns.length≤63∧SqL K H wa ((wys.map fun w=>tx w.t).map V.str)∧SqL K H ka (kds.map fun k=>V.str k.s)∧0 < wys.length∧0 < kds.length∧wys.length≤900∧kds.length≤900∧(∀ w,.way w ∈ wys→w.hd=false)∧∀ p H' rows us,H p=none→ao H H'→H' p=some (.lst us)→aR (RrA (hid [p] H')) us rows→j9 wys kds 62 rows→Q (.ref p) H'
theorem iK:aJ ["script","ways","kinds","rows","cell","way","kind"] ["script","ways","kinds"] (av rH):=by walk_at "c"
theorem Aj (T:Txt P w K mg a) : aX P w K mg base CX0 2 a.rY a.qq ["script","ways","kinds"] (Ai K):=by
 refine T.rQ.fn.ok iK (fun vs H Q E h=>?_) (fun cdv A outer s H vs Q E hr h=>?_)
 ·obtain ⟨sa,wa,ka,ns,wys,kds,rfl,_⟩:=h
  rfl
 obtain ⟨sa,wa,ka,ns,wys,kds,rfl,hsa,h63,hwa,hka,w0,k0,w9,k9,wnh,q⟩:=h
 have hu:=Nat.lt_of_succ_lt (df hr)
 refine ⟨_,(af (aA (i:=3) iK.nd rfl (Or.inl rfl) (aY ac))
   (af (b9 PassesOwn.never rfl (a7 (dz tD (pv 0) (dI ai) (dI ai))) (aM (i:=4) iK.nd rfl (Or.inl rfl)) (af (aA (i:=5) iK.nd rfl (Or.inl rfl) (aD bU (pv 1) (aB T.bG (bA T) (hr.mono (by decide)) rfl (aa (pv 4) (aa ai (aa (aK bD rfl T.bS PySem.boot_len (aa (pv 1) ac)) ac)))) (fun _ _=>rfl)))
   (ag (aG (au a_ (pv 5) aq (nomark _)) (ag (bj (cH PySem.F.plainAttrs_list PySem.F.slot_list_append PySem.F.type_list_append cf (pv 3) (aa (aS (aa (aD bU (aY (aa aq (aa aq (aa aq ac)))) (aB T.bG (bA T) (hr.mono (by decide)) rfl (aa (pv 4) (aa ai (aa ai ac)))) (fun _ _=>rfl)) (aa (aY ac) ac))) ac)))) (ag (aG (au io (pv 5) aq (nomark _)) (ag (bj (cH PySem.F.plainAttrs_list PySem.F.slot_list_append PySem.F.type_list_append cf (pv 3) (aa (aS (aa (pv 5) (aa (aY ac) ac))) ac)))) (af (aA (i:=6) iK.nd rfl (Or.inl rfl) (aD bU (pv 2) (aB T.bG (bA T) (hr.mono (by decide)) rfl (aa (pv 4) (aa ai (aa (aK bD rfl T.bS PySem.boot_len (aa (pv 2) ac)) ac)))) (fun _ _=>rfl)))
   (af (aG (PW.pt (du (au (rg hu) (pv 3) (aY ac) (nomark _)) (du (au gr (aD aN (aD bU (pv 3) (qx my ai) (fun _ _=>rfl)) ai (fun _ _=>rfl)) (aS (aa aq (aa aq (aa aq (aa aq ac))))) (by with_unfolding_all rfl)) (dN (au a_ (aK bD rfl T.bS PySem.boot_len (aa (aD aN (aD bU (pv 3) (qx my ai) (fun _ _=>rfl)) ai (fun _ _=>rfl)) ac)) ai (nomark _)))))) (ag (bj (cH PySem.F.plainAttrs_list PySem.F.slot_list_append PySem.F.type_list_append cf (pv 3) (aa (aS (aa aq (aa (aY ac) ac))) ac)))) aE)
   (af (aG (PW.pt (du (PW.pt (ij (au a_ (aD d9 (aD aN (aD bU (pv 3) (qx my ai) (fun _ _=>rfl)) ai (fun _ _=>rfl)) ai (fun _ _=>rfl)) aq (nomark _)) (eG (au a_ (pv 6) aq (nomark _))))) (dN (PW.pt (ij (au a_ (aD aN (aD bU (pv 3) (qx my ai) (fun _ _=>rfl)) ai (fun _ _=>rfl)) aq (nomark _)) (eG (au gr (pv 6) (aS (aa aq (aa aq ac))) (by with_unfolding_all rfl)))))))) (ag (aA (i:=6) iK.nd rfl (Or.inl rfl) aq)) aE)
   (ag (bj (cH PySem.F.plainAttrs_list PySem.F.slot_list_append PySem.F.type_list_append cf (aD aN (aD bU (pv 3) (qx my ai) (fun _ _=>rfl)) ai (fun _ _=>rfl)) (aa (aS (aa (pv 6) (aa (pv 4) ac))) ac)))))))))))))
   (ag (aF (pv 3))))),?_⟩
 refine ⟨aW (by simp),fun p1 hp1=>?_⟩
 have s1:=ah hp1 (.lst [])
 have k1:upd H p1 (.lst []) p1=some (.lst []):=ae
 generalize upd H p1 (.lst [])=H1 at s1 k1 ⊢
 have R0:g_ H H1 p1 []:=⟨s1,hp1,[],p1,k1,hp1,rfl,.inl ⟨rfl,rfl⟩⟩
 refine ⟨_,rfl,_,rfl,_,rfl,_,_,rfl,s1.seq hsa,fun p2 hp2=>?_⟩
 have s2:=ah hp2 (.lst (eK (ns.map V.int) (some 1) (some 130)))
 have k2:upd H1 p2 (.lst (eK (ns.map V.int) (some 1) (some 130))) p2=some (.lst ((iC ns (some 1) (some 130)).map V.int)):=by rw [ae,AR]
 have cl:(iC ns (some 1) (some 130)).length≤62:=by
  unfold iC HT.sIx
  rw [List.length_take,List.length_drop]
  simp only [show ¬ ((1:Int) < 0) by decide,show ¬ ((130:Int) < 0) by decide,if_false]
  have:min (Int.toNat 1) ns.length=min 1 ns.length:=rfl
  omega
 generalize iC ns (some 1) (some 130)=cs at k2 cl
 generalize upd H1 p2 (.lst (eK (ns.map V.int) (some 1) (some 130)))=H2 at s2 k2 ⊢
 have wl:((wys.map fun w=>tx w.t).map V.str).length=wys.length:=by simp
 have kl:(kds.map fun k=>V.str k.s).length=kds.length:=by simp
 have H2p:H p2=none:=s1.free hp2
 have npp:p2≠p1:=fun z=>by rw [z,k1] at hp2; cases hp2
 have B0:∃ B:Hp,ao H B∧B p2=some (.lst (cs.map V.int))∧B p1=none∧ao B H2:=⟨hid [p1] H2,xJ (s1.trans s2) (fun b hb=>by rw [List.mem_singleton.mp hb]; exact hp1),a8 (by simpa using npp) k2,by unfold hid; simp,bJ⟩
 obtain ⟨B,sB,kB,nB,sB2⟩:=B0
 have R0:g_ B H2 p1 []:=⟨sB2,nB,[],p1,s2 _ _ k1,nB,rfl,.inl ⟨rfl,rfl⟩⟩
 have hwB:=sB.seq hwa
 have hkB:=sB.seq hka
 refine ⟨p2,rfl,⟨_,SqL.of k2⟩,bT (K:=K) (a:=p2) (xs:=cs.map V.int) (fun i σ' G=>∃ (v4 v5 v6:Option V) (rows:List cu),σ' = [some (.ref sa),some (.ref wa),some (.ref ka),some (.ref p1),v4,v5,v6]∧g_ B G p1 rows∧j9 wys kds i rows) ⟨none,none,none,[],rfl,R0,⟨Nat.le_refl _,Nat.le_refl _,by simp⟩⟩ (fun i σ' G _ g=>by obtain ⟨_,_,_,_,_,R,_⟩:=g; exact SqL.of (R.old _ _ kB)) ?_ ?_⟩
 ·rintro i y σ' G hy ⟨v4,v5,v6,rows,rfl,R,ok⟩
  have hi:=(List.getElem?_eq_some_iff.mp hy).1
  rw [List.length_map] at hi
  rw [List.getElem?_map] at hy
  obtain ⟨c,_,rfl⟩:=Option.map_eq_some_iff.mp hy
  obtain ⟨j,ej,hj⟩:=jb c 1 w0
  obtain ⟨wy,hwy⟩ : ∃ wy,wys[j]? = some wy:=⟨wys[j],List.getElem?_eq_getElem hj⟩
  have rl:=ok.len
  obtain ⟨us0,U1,U2,_⟩:=R.all
  have addR:∀ (w:Wy) (sw:Str) (G':Hp),sw=tx w.t→ao G G'→yt wys w→∀ pl,G' pl=none→∀ pt,(upd G' pl (.lst [])) pt=none→∃ us,(upd (upd G' pl (.lst [])) pt (.tup [.str sw,.ref pl])) p1=some (.lst us)∧us.length < sizeLine∧g_ B (upd (upd (upd G' pl (.lst [])) pt (.tup [.str sw,.ref pl])) p1 (.lst (us++[.ref pt]))) p1 (rows++[(w,[])])∧j9 wys kds (i+1) (rows++[(w,[])]):=fun w sw G' esw m hw pl hpl pt hpt=>by
   subst esw
   have m1:=ah hpl (.lst [])
   have m2:=ah hpt (.tup [.str (tx w.t),.ref pl])
   obtain ⟨us,u1,u2,_⟩:=R.all
   have m3:=m.trans (m1.trans m2)
   exact ⟨us,m3 _ _ u1,aC (by omega),R.add m3 (m.free hpl) (m2 _ _ ae) ((m.trans m1).free hpt) ae (m3 _ _ u1),ok.add hw⟩
  refine ⟨_,rfl,_,rfl,_,rfl,_,_,rfl,.inl (R.old.seq hwB),c,1,(wys.length:Int),(by rw [wl]; rfl),⟨by decide,by decide⟩,by omega,_,_,_,_,rfl,rfl,R.old.seq hwB,(by rw [ej]; exact dy (by rw [List.getElem?_map,List.getElem?_map,hwy]; rfl)),?_⟩
  refine ⟨_,rfl,rfl,_,rfl,?_⟩
  rw [cz cH1]
  have wm:=List.mem_of_getElem? hwy
  cases wy with
  | eq =>
   rw [decide_eq_true (show WyD.t .eq=[61] from rfl)]
   refine aT ?_
   refine ⟨_,rfl,.inl ⟨rfl,_,SqL.of U1⟩,le3,fun p3 hp3=>?_⟩
   obtain ⟨n3,e3,h3⟩:=jb c 2 (show 0 < 3 by decide)
   have e3:br c 2 3=(n3:Int):=e3
   obtain ⟨w,hw,ew⟩:=at3 n3 h3
   have m3:=ah hp3 (.lst [V.str (PySem.Str.ofString "="),V.str (PySem.Str.ofString "=="),V.str (PySem.Str.ofString "===")])
   refine ⟨_,rfl,c,2,3,rfl,⟨by decide,by decide⟩,by decide,_,_,_,_,rfl,rfl,SqL.of ae,(by rw [e3]; exact ew),aW (by simp),fun pl hpl=>?_⟩
   refine ⟨le2,fun pt hpt=>?_⟩
   obtain ⟨us,u1,u2,u3,u4⟩:=addR w _ _ rfl m3 (.inr (.inr ⟨hw,wm⟩)) pl hpl pt hpt
   exact ⟨_,_,_,rfl,rfl,u1,u2,_,_,_,_,rfl,u3,u4⟩
  | way w =>
   have nh:=wnh w wm
   rw [decide_eq_false (show ¬ (WyD.t (.way w)=[61]) from fun z=>by have:w = .h1:=Wy.inj z; rw [this] at nh; cases nh)]
   refine ay ?_
   refine ⟨_,rfl,rfl,_,rfl,?_⟩
   rw [cz z5,decide_eq_false (show ¬ (WyD.t (.way w)=[119,111,114,100]) from fun z=>by revert z; cases w <;> decide)]
   refine aT ?_
   refine ⟨_,rfl,.inl ⟨rfl,_,SqL.of U1⟩,_,rfl,aW (by simp),fun pl hpl=>?_⟩
   refine ⟨le2,fun pt hpt=>?_⟩
   obtain ⟨us,u1,u2,u3,u4⟩:=addR w _ _ rfl (ao.refl _) (.inr (.inl wm)) pl hpl pt hpt
   exact ⟨_,_,_,rfl,rfl,u1,u2,_,_,_,_,rfl,u3,u4⟩
  | word =>
   rw [decide_eq_false (show ¬ (WyD.t .word=[61]) by decide)]
   refine ay ?_
   refine ⟨_,rfl,rfl,_,rfl,?_⟩
   rw [cz z5,decide_eq_true (show WyD.t .word=[119,111,114,100] from rfl)]
   refine ay ?_
   obtain ⟨j8,e8,h8⟩:=jb c 8 k0
   obtain ⟨kd,hkd⟩ : ∃ kd,kds[j8]? = some kd:=⟨kds[j8],List.getElem?_eq_getElem h8⟩
   refine ⟨_,rfl,_,rfl,_,rfl,_,_,rfl,.inl (R.old.seq hkB),c,8,(kds.length:Int),(by rw [kl]; rfl),⟨by decide,by decide⟩,by omega,_,_,_,_,rfl,rfl,R.old.seq hkB,(by rw [e8]; exact dy (by rw [List.getElem?_map,hkd]; rfl)),?_⟩
   dsimp only [bv]
   have sumW:((rows++[((.words,[]) : cu)]).map (·.2.length)).sum≤i:=by rw [List.map_append,List.sum_append]; have:=ok.sum; simp; omega
   refine c_ (fun σ' G'=>∃ (ini:List cu) (w:Wy) (ws:List (Kw × Int)),σ' = [some (.ref sa),some (.ref wa),some (.ref ka),some (.ref p1),some (.int c),some (.str (tx (WyD.t .word))),some (.str kd.s)]∧g_ B G' p1 (ini++[(w,ws)])∧w.bare=false∧ws.length≤5∧(ini++[(w,ws)]).length≤i+1∧((ini++[(w,ws)]).map (·.2.length)).sum≤i∧∀ r ∈ ini++[(w,ws)],yq kds r∧yt wys r.1) ?_ (fun key=>?_)
   ·rintro σ' G2 ⟨ini,w,ws,rfl,R2,nb,wl5,rl2,sm2,ok2⟩
    obtain ⟨vi,ra,lo,us,g1,g2,g3,g4,g5⟩:=R2.last
    obtain ⟨ch,u,ew,hw⟩:=D_ nb
    have kin:kd ∈ kds∨kd = .plain:=.inl (List.mem_of_getElem? hkd)
    refine c_ (fun σ' G'=>∃ kd':Kw,σ' = [some (.ref sa),some (.ref wa),some (.ref ka),some (.ref p1),some (.int c),some (.str (tx (WyD.t .word))),some (.str kd'.s)]∧ao G2 G'∧(w.hd=true→kd'≠.foot)∧(w = .foot→kd'≠.mark∧kd'≠.foot)∧(kd' ∈ kds∨kd' = .plain)) ?_ (fun key=>?_)
    ·rintro σ' G3 ⟨kd',rfl,m3,c1,c2,c3⟩
     refine ⟨_,rfl,_,rfl,_,_,_,_,rfl,rfl,SqL.of (m3 _ _ g1),i7 _ _,_,_,_,_,rfl,rfl,SqT.of (m3 _ _ g2),rfl,.inl ⟨rfl,_,SqL.of (m3 _ _ g3)⟩,_,rfl,_,rfl,le2,fun pk hpk=>?_⟩
     have m4:=ah hpk (.tup [.str kd'.s,.int c])
     refine ⟨_,_,_,rfl,rfl,m4 _ _ (m3 _ _ g3),aC (by omega),?_⟩
     refine ⟨_,_,_,ini++[(w,ws++[(kd',c)])],rfl,g5 _ pk (kd',c) (m3.trans m4) (m3.free hpk) ae,⟨?_,?_,fun r hr=>?_⟩⟩
     ·simpa using rl2
     ·rw [List.map_append,List.sum_append] at sm2 ⊢
      simp at sm2 ⊢
      omega
     ·rcases List.mem_append.mp hr with hr | hr
      ·exact ok2 r (List.mem_append_left _ hr)
      ·rw [List.mem_singleton.mp hr]
       obtain ⟨o1,o2⟩:=ok2 (w,ws) (List.mem_append_right _ List.mem_cons_self)
       have ap:∀ {P:Kw × Int→Prop},(∀ x ∈ ws,P x)→P (kd',c)→∀ x ∈ ws++[(kd',c)],P x:=fun h1 h2 x hx=>by
        rcases List.mem_append.mp hx with hx | hx
        ·exact h1 x hx
        ·rw [List.mem_singleton.mp hx]; exact h2
       refine ⟨⟨fun z=>?_,?_,fun z=>ap (o1.head z) (c1 z),fun z=>ap (o1.foot z) (c2 z),ap o1.kds c3⟩,o2⟩
       ·rw [show (w,ws++[(kd',c)]).1.bare=w.bare from rfl,nb] at z; cases z
       ·show (ws++[(kd',c)]).length≤6
        rw [List.length_append]; simp only [List.length_cons,List.length_nil]; omega
    ·have m0:=ao.refl G2
     have kpl:∀ G',ao G2 G'→(∃ kd':Kw,[some (V.ref sa),some (V.ref wa),some (V.ref ka),some (V.ref p1),some (V.int c),some (V.str (tx (WyD.t .word))),some (V.str (PySem.Str.ofString "plain"))]=[some (V.ref sa),some (V.ref wa),some (V.ref ka),some (V.ref p1),some (V.int c),some (V.str (tx (WyD.t .word))),some (V.str kd'.s)]∧ao G2 G'∧(w.hd=true→kd'≠.foot)∧(w = .foot→kd'≠.mark∧kd'≠.foot)∧(kd' ∈ kds∨kd' = .plain)):=fun G' m=>⟨.plain,rfl,m,fun _=>(by decide),fun _=>⟨by decide,by decide⟩,.inr rfl⟩
     refine ⟨_,rfl,_,rfl,_,_,_,_,rfl,rfl,SqL.of (m0 _ _ g1),i7 _ _,_,_,_,_,rfl,rfl,SqT.of (m0 _ _ g2),rfl,_,_,ch,rfl,rfl,(by rw [aQ]; cases w <;> exact aW (by decide)),(by rw [ew]; exact i5 _ _),rfl,_,rfl,?_⟩
     rw [cz cH1,show decide ([ch]=[61])=w.hd from by rw [← hw]; simp]
     cases hh:w.hd with
     | true =>
      have nf:w≠.foot:=fun z=>by rw [z] at hh; cases hh
      refine aT ?_
      refine ⟨_,rfl,rfl,_,rfl,?_⟩
      by_cases hf:kd = .foot
      ·rw [decide_eq_true (show V.str kd.s=V.str "foot" by rw [hf]; rfl)]
       refine aT ?_
       refine aT ?_
       exact key _ _ (kpl _ m0)
      ·rw [decide_eq_false (show ¬ (V.str kd.s=V.str "foot") from fun z=>hf (Kw.inj (b:=.foot) (V.str.inj z)))]
       refine ay ?_
       refine ⟨_,rfl,_,rfl,_,_,_,_,rfl,rfl,SqL.of (m0 _ _ g1),i7 _ _,_,_,_,_,rfl,rfl,SqT.of (m0 _ _ g2),rfl,rfl,_,rfl,?_⟩
       rw [cz iR,decide_eq_false (show ¬ (w.t=cY) from fun z=>nf (Wy.inj (b:=.foot) z))]
       refine ay ?_
       refine ay ?_
       exact key _ _ ⟨kd,rfl,m0,fun _=>hf,fun z=>absurd z nf,kin⟩
     | false =>
      have nh:w.hd=true→kd≠.foot:=fun z=>by rw [hh] at z; cases z
      refine ay ?_
      refine ay ?_
      refine ⟨_,rfl,_,rfl,_,_,_,_,rfl,rfl,SqL.of (m0 _ _ g1),i7 _ _,_,_,_,_,rfl,rfl,SqT.of (m0 _ _ g2),rfl,rfl,_,rfl,?_⟩
      rw [cz iR]
      by_cases hw2:w = .foot
      ·rw [decide_eq_true (show w.t=cY by rw [hw2]; rfl)]
       refine aT ?_
       refine ⟨_,rfl,le2,fun p9 hp9=>?_⟩
       refine ⟨_,_,rfl,.inr (SqT.of ae),rfl,rfl,_,rfl,?_⟩
       refine dX (fun c2=>?_) (fun c2=>?_)
       ·exact key _ _ (kpl _ (ah hp9 _))
       ·have c3:(decide (kd = .mark) || decide (kd = .foot))=false:=(EN kd).symm.trans (Bool.eq_false_iff.mpr c2)
        simp only [Bool.or_eq_false_iff,decide_eq_false_iff_not] at c3
        exact key _ _ ⟨kd,rfl,ah hp9 _,nh,fun _=>c3,kin⟩
      ·rw [decide_eq_false (show ¬ (w.t=cY) from fun z=>hw2 (Wy.inj (b:=.foot) z))]
       refine ay ?_
       refine ay ?_
       exact key _ _ ⟨kd,rfl,m0,nh,fun z=>absurd z hw2,kin⟩
   ·refine ⟨_,rfl,aW (by simp),fun p10 hp10=>?_⟩
    have m1:=ah hp10 (.lst [])
    refine ⟨_,_,_,rfl,rfl,SqL.of (m1 _ _ U1),SqL.of ae,_,rfl,?_⟩
    rcases List.eq_nil_or_concat rows with e0 | ⟨ini,⟨w,ws⟩,e0⟩
    ·have hz:us0=[]:=by
      rw [e0] at U2
      exact List.length_eq_zero_iff.mp U2
     refine dX (fun c2=>?_) (fun c2=>?_)
     ·refine aT ?_
      refine ⟨_,rfl,.inl ⟨rfl,_,SqL.of ((m1) _ _ U1)⟩,aW (by simp),fun pl hpl=>?_⟩
      refine ⟨le2,fun pt hpt=>?_⟩
      obtain ⟨us,u1,u2,u3,u4⟩:=addR .words _ _ jm (m1) (.inl rfl) pl hpl pt hpt
      exact ⟨_,_,_,rfl,rfl,u1,u2,key _ _ ⟨rows,.words,[],rfl,u3,rfl,by simp,u4.len,sumW,u4.ok⟩⟩
     ·exact absurd (by rw [hz]; rfl) c2
    ·rw [List.concat_eq_append] at e0
     have R':=R
     rw [e0] at R'
     obtain ⟨vi,ra,lo,us,g1,g2,g3,g4,g5⟩:=R'.last
     have hz:us0=vi++[.ref ra]:=by
      rw [g1] at U1
      injection U1 with U1
      injection U1 with U1
      exact U1.symm
     refine dX (fun c2=>?_) (fun c2=>?_)
     ·rw [hz] at c2
      exact absurd c2 (by cases vi <;> exact Bool.false_ne_true)
     refine ⟨_,rfl,_,rfl,_,_,_,_,rfl,rfl,SqL.of (m1 _ _ g1),i7 _ _,_,_,_,_,rfl,rfl,SqT.of (m1 _ _ g2),rfl,le4,fun p11 hp11=>?_⟩
     have m12:=m1.trans (ah hp11 (.tup [V.str (PySem.Str.ofString ""),V.str (PySem.Str.ofString ".page"),V.str (PySem.Str.ofString ".odd"),V.str (PySem.Str.ofString ".list")]))
     refine ⟨_,_,rfl,.inr (SqT.of ae),rfl,rfl,_,rfl,?_⟩
     refine dX (fun c2=>?_) (fun c2=>?_)
     ·refine aT ?_
      refine ⟨_,rfl,.inl ⟨rfl,_,SqL.of ((m12) _ _ U1)⟩,aW (by simp),fun pl hpl=>?_⟩
      refine ⟨le2,fun pt hpt=>?_⟩
      obtain ⟨us,u1,u2,u3,u4⟩:=addR .words _ _ jm (m12) (.inl rfl) pl hpl pt hpt
      exact ⟨_,_,_,rfl,rfl,u1,u2,key _ _ ⟨rows,.words,[],rfl,u3,rfl,by simp,u4.len,sumW,u4.ok⟩⟩
     ·have nb:w.bare=false:=(Dn w).symm.trans (Bool.eq_false_iff.mpr c2)
      refine ⟨_,rfl,_,rfl,_,_,_,_,rfl,rfl,SqL.of (m12 _ _ g1),i7 _ _,_,_,_,_,rfl,rfl,SqT.of (m12 _ _ g2),rfl,_,_,rfl,.inl (SqL.of (m12 _ _ g3)),rfl,_,rfl,?_⟩
      refine dX (fun c3=>?_) (fun c3=>?_)
      ·refine ⟨_,rfl,.inl ⟨rfl,_,SqL.of ((m12) _ _ U1)⟩,aW (by simp),fun pl hpl=>?_⟩
       refine ⟨le2,fun pt hpt=>?_⟩
       obtain ⟨us,u1,u2,u3,u4⟩:=addR .words _ _ jm (m12) (.inl rfl) pl hpl pt hpt
       exact ⟨_,_,_,rfl,rfl,u1,u2,key _ _ ⟨rows,.words,[],rfl,u3,rfl,by simp,u4.len,sumW,u4.ok⟩⟩
      ·have n6:us.length≠6:=fun z=>c3 (decide_eq_true (by rw [z]; rfl))
       have o:=(ok.ok (w,ws) (by rw [e0]; exact List.mem_append_right _ List.mem_cons_self)).1.len
       dsimp only at o
       exact key _ _ ⟨ini,w,ws,rfl,R'.same m12,nb,by omega,by rw [← e0]; omega,by rw [← e0]; exact ok.sum,by rw [← e0]; exact ok.ok⟩
 rintro σ' G ⟨v4,v5,v6,rows,rfl,R,ok⟩
 rw [List.length_map] at ok
 obtain ⟨us,u1,u2,u3⟩:=R.all
 exact ⟨_,rfl,q p1 G rows us hp1 (sB.trans R.old) u1 u3 ⟨by have:=ok.len; omega,by have:=ok.sum; omega,ok.ok⟩⟩
def xo (K:PySem.W.Frag) : Sp:=fun vs H Q _=>∃ (ra:Addr) (f:Int) (rs:List (List Nat)),vs=[.ref ra,.int f]∧SqL K H ra ((rs.map tx).map V.str)∧rs.length≤200∧(∀ r ∈ rs,r.length≤8200)∧∀ p H' ss,H p=none→ao H H'→H' p=some (.lst ((ss.map tx).map V.str))→nj rs ss→ss.length=rs.length→Q (.ref p) H'
theorem eE:aJ ["rows","first","spaced","k","row","ahead","end"] ["rows","first"] (av ny):=by walk_at "c"
theorem xp (T:Txt P w K mg a) : aX P w K mg base CX0 2 a.nX a.mt ["rows","first"] (xo K):=by
 refine T.nT.fn.ok eE (fun vs H Q E h=>?_) (fun cdv A outer s H vs Q E hr h=>?_)
 ·obtain ⟨ra,f,rs,rfl,_⟩:=h
  rfl
 obtain ⟨ra,f,rs,rfl,hra,rl,rln,q⟩:=h
 refine ⟨_,(af (aA (i:=2) eE.nd rfl (Or.inl rfl) (aY ac))
   (af (b9 PassesOwn.never rfl (BS rfl T.fN (pv 0)) (d8 rfl (a6 (aM (i:=3) eE.nd rfl (Or.inl rfl)) (a6 (aM (i:=4) eE.nd rfl (Or.inl rfl)) dw))) (af (C7 (BZ (BY u0 (aK mS rfl T.bS PySem.boot_len (aa (pv 4) ac)) (nomark _)) (eG (au a_ (aB T.bG (bA T) (hr.mono (by decide)) rfl (aa (aO b_ (pv 1) (pv 3)) (aa ai (aa ai ac)))) ai (nomark _)))) (AZ (i:=4) eE.nd rfl (Or.inl rfl) (xk (pv 4) (by decide +kernel) (by decide +kernel))) aE)
   (af (aA (i:=5) eE.nd rfl (Or.inl rfl) (aB T.bG (bA T) (hr.mono (by decide)) rfl (aa (aO b_ (pv 1) (pv 3)) (aa ai (aa ai ac)))))
   (af (aA (i:=6) eE.nd rfl (Or.inl rfl) (aB T.bG (bA T) (hr.mono (by decide)) rfl (aa (aO b_ (pv 1) (pv 3)) (aa ai (aa ai ac)))))
   (ag (bj (cH PySem.F.plainAttrs_list PySem.F.slot_list_append PySem.F.type_list_append cf (pv 2) (aa (aO cy (aO cy (aO mW aq (aK (uc rfl) rfl T.on PyProof.Rows.boot_max (aa ai (aa (aO vE (pv 5) ai) ac)))) (pv 4)) (aO mW aq (aK (uc rfl) rfl T.on PyProof.Rows.boot_max (aa ai (aa (aO vE (pv 6) ai) ac))))) ac))))))))
   (ag (aF (pv 2))))),?_⟩
 refine ⟨aW (by simp),fun p1 hp1=>?_⟩
 have s1:=ah hp1 (.lst [])
 have k1:upd H p1 (.lst []) p1=some (.lst []):=ae
 generalize upd H p1 (.lst [])=H1 at s1 k1 ⊢
 refine ⟨_,rfl,ra,rfl,⟨_,s1.seq hra⟩,AN (K:=K) (a:=ra) (xs:=(rs.map tx).map V.str) (fun i σ' G=>∃ (v3 v4 v5 v6:Option V) (ss:List (List Nat)),σ' = [some (.ref ra),some (.int f),some (.ref p1),v3,v4,v5,v6]∧ao H G∧G p1=some (.lst ((ss.map tx).map V.str))∧nj (rs.take i) ss∧ss.length=i) ⟨none,none,none,none,[],rfl,s1,k1,trivial,rfl⟩ (fun i σ' G _ g=>by obtain ⟨_,_,_,_,_,_,m,_⟩:=g; exact m.seq hra) ?_ ?_⟩
 ·rintro k y σ' G p0 hy ⟨v3,v4,v5,v6,ss,rfl,m,g1,sp,sl⟩ hp0
  obtain ⟨r,hr_,rfl⟩:=j0 hy
  have hk:=(List.getElem?_eq_some_iff.mp hr_).1
  have rl2:=rln r (List.mem_of_getElem? hr_)
  have m1:=m.trans (ah hp0 (.tup [.int (k:Int),.str (tx r)]))
  have k0:upd G p0 (.tup [.int (k:Int),.str (tx r)]) p0=some (.tup [.int (k:Int),.str (tx r)]):=ae
  have g2:=ah hp0 (.tup [.int (k:Int),.str (tx r)]) _ _ g1
  generalize upd G p0 (.tup [.int (k:Int),.str (tx r)])=G1 at m1 k0 g2 ⊢
  refine ⟨p0,_,rfl,SqT.of k0,rfl,_,_,rfl,_,_,rfl,rfl,?_⟩
  refine c_ (fun σ' G'=>∃ d:Bool,σ' = [some (.ref ra),some (.int f),some (.ref p1),some (.int (k:Int)),some (.str (tx (if d then lM r else r))),v5,v6]∧G' = G1) ?_ (fun key=>?_)
  ·rintro σ' G2 ⟨d,rfl,rfl⟩
   have ha:=cT (f+(k:Int)) 84 (show (0:Int) < 6 by decide)
   have hb:=cT (f+(k:Int)) 85 (show (0:Int) < 6 by decide)
   have dl:(if d then lM r else r).length≤16400:=by have:=xR r; split <;> omega
   refine ⟨_,rfl,_,rfl,_,_,rfl,rfl,_,84,6,rfl,⟨by decide,by decide⟩,by decide,?_⟩
   refine ⟨_,rfl,_,rfl,_,_,rfl,rfl,_,85,6,rfl,⟨by decide,by decide⟩,by decide,?_⟩
   have ea:(if br (f+(k:Int)) 84 6 - 2 > 0 then br (f+(k:Int)) 84 6 - 2 else 0)=(((br (f+(k:Int)) 84 6 - 2).toNat:Nat) : Int):=by split <;> omega
   have eb:(if br (f+(k:Int)) 85 6 - 3 > 0 then br (f+(k:Int)) 85 6 - 3 else 0)=(((br (f+(k:Int)) 85 6 - 3).toNat:Nat) : Int):=by split <;> omega
   have a10:(br (f+(k:Int)) 84 6 - 2).toNat≤10:=by omega
   have b10:(br (f+(k:Int)) 85 6 - 3).toNat≤10:=by omega
   generalize (br (f+(k:Int)) 84 6 - 2).toNat=na at ea a10
   generalize (br (f+(k:Int)) 85 6 - 3).toNat=nb at eb b10
   refine ⟨_,rfl,.inl ⟨rfl,_,SqL.of g2⟩,_,rfl,_,_,rfl,rfl,_,_,rfl,_,_,rfl,rfl,(by rw [ea]; exact xP a10),_,rfl,_,_,rfl,rfl,?_,_,rfl,_,_,rfl,rfl,_,_,rfl,_,_,rfl,rfl,(by rw [eb]; exact xP b10),_,_,rfl,rfl,?_,_,_,_,rfl,rfl,g2,aC (by simp only [List.length_map]; omega),?_⟩
   ·rw [ea,sX,aQ,aQ,List.length_replicate]
    exact Nat.le_of_lt (Nat.lt_of_le_of_lt (show _≤20000 by omega) (by decide))
   ·rw [ea,eb,sX,sX,dB,aQ,aQ,List.length_append,List.length_replicate,List.length_replicate]
    exact Nat.le_of_lt (Nat.lt_of_le_of_lt (show _≤20000 by omega) (by decide))
   ·rw [ea,eb,sX,sX,dB,dB]
    refine ⟨_,_,_,_,ss++[lA na nb d r],rfl,bn m1 hp1,?_,?_,by rw [List.length_append,sl]; rfl⟩
    ·rw [ae,List.map_append,List.map_append]
     rfl
    ·rw [aP hr_]
     exact sp.snoc ⟨na,nb,d,a10,b10,rfl⟩
  ·refine ⟨_,rfl,_,_,rfl,⟨(by rw [aQ]; exact Nat.le_of_lt (Nat.lt_of_le_of_lt rl2 (by decide))),rfl⟩,_,_,rfl,rfl,_,rfl,?_⟩
   have kF:=key [some (.ref ra),some (.int f),some (.ref p1),some (.int (k:Int)),some (.str (tx r)),v5,v6] G1 ⟨false,rfl,rfl⟩
   refine dX (fun c1=>?_) (fun c1=>?_)
   ·refine ⟨_,rfl,_,rfl,_,_,rfl,rfl,_,86,3,rfl,⟨by decide,by decide⟩,by decide,rfl,_,rfl,?_⟩
    refine dX (fun c2=>?_) (fun c2=>?_)
    ·refine ⟨_,rfl,_,rfl,(by rw [aQ]; omega),?_⟩
     refine key _ G1 ⟨true,?_,rfl⟩
     rw [PyProof.Rows.replace_dbl _ _ _ 32 (by decide +kernel) (by decide +kernel)]
     rfl
    ·exact kF
   ·refine ay ?_
    exact kF
 rintro σ' G ⟨v3,v4,v5,v6,ss,rfl,m,g1,sp,sl⟩
 rw [List.length_map,List.length_map] at sl
 rw [List.length_map,List.length_map,List.take_length] at sp
 exact ⟨_,rfl,q p1 G ss hp1 m g1 sp sl⟩
def wM:Sp:=fun vs H Q _=>∃ l:List Nat,vs=[.str (tx l)]∧l.length≤1000∧Q (.bl (bE l)) H
theorem pK:aJ ["word","sign"] ["word"] (av lP):=by walk_at "c"
theorem wN (T:Txt P w K mg a) : aX P w K mg base CX0 1 a.md a.kR ["word"] wM:=by
 refine T.lW.fn.ok pK (fun vs H Q E h=>?_) (fun cdv A outer s H vs Q E hr h=>?_)
 ·obtain ⟨l,rfl,_⟩:=h
  rfl
 obtain ⟨l,rfl,hl,q⟩:=h
 refine ⟨_,(af (aG (PW.pt (du (au u0 (aK gt rfl T.bS PySem.boot_len (aa (pv 0) ac)) ai (nomark _)) (dN (au jJ (aK gt rfl T.bS PySem.boot_len (aa (pv 0) ac)) ai (nomark _))))) (ag (aF cW)) aE)
   (af (b9 PassesOwn.never rfl (zq (pv 0)) (aM (i:=1) pK.nd rfl (Or.inl rfl)) (ag (aG (au oP (pv 1) aq (by with_unfolding_all rfl)) (ag (aF cW)) aE)))
   (ag (aF (eI oP (aD d9 (pv 0) ai (fun _ _=>rfl)) aq (by with_unfolding_all rfl)))))),?_⟩
 refine ⟨_,rfl,_,rfl,aW (by rw [aQ]; exact hl),_,_,rfl,rfl,_,rfl,?_⟩
 rw [aQ]
 cases l with
 | nil =>
  refine aT ?_
  refine aT ?_
  exact q
 | cons c r =>
  rw [decide_eq_false (by simp only [List.length_cons]; omega)]
  refine ay ?_
  refine ⟨_,rfl,_,rfl,aW (by rw [aQ]; exact hl),_,_,rfl,rfl,_,rfl,?_⟩
  rw [aQ]
  refine dX (fun h=>?_) (fun h=>?_)
  ·have h2:¬ (c :: r).length≤12:=by have:=of_decide_eq_true h; omega
   rw [ut h2] at q
   exact q
  ·have h2:(c :: r).length≤12:=by
    refine Nat.le_of_not_lt fun z=>h (decide_eq_true ?_)
    omega
   rw [m_ h2] at q
   refine ⟨_,rfl,_,rfl,BO (x:=tx (c :: r)) (fun i σ H2=>H2=H∧(∃ v,σ=[some (.str (tx (c :: r))),v])∧(((c :: r).take i).all fun d=>isL d || isF d)=true) ⟨rfl,⟨none,rfl⟩,rfl⟩ ?_ ?_⟩
   ·rintro i d σ H2 hd ⟨rfl,⟨v,rfl⟩,ha⟩
    rw [zu] at hd
    refine ⟨_,rfl,_,_,rfl,rfl,_,rfl,?_⟩
    rw [B7]
    cases h3:(isL d || isF d) with
    | true =>
     refine ay ?_
     refine ⟨rfl,⟨_,rfl⟩,?_⟩
     rw [List.take_add_one,hd,List.all_append,ha]
     simp [h3]
    | false =>
     refine aT ?_
     have h4:((c :: r).all fun d=>isL d || isF d)=false:=by
      refine Bool.eq_false_iff.mpr fun z=>?_
      have:=List.all_eq_true.mp z d (List.mem_of_getElem? hd)
      rw [h3] at this
      cases this
     rw [h4,Bool.and_false] at q
     exact q
   ·rintro σ H2 ⟨rfl,⟨v,rfl⟩,ha⟩
    rw [xE,List.take_of_length_le (Nat.le_refl _)] at ha
    rw [ha,Bool.and_true] at q
    refine ⟨_,rfl,_,_,c,rfl,rfl,aW (by rw [aQ]; exact hl),i5 c r,_,_,rfl,rfl,?_⟩
    rw [zV]
    have ha1:(isL c || isF c)=true:=List.all_eq_true.mp ha c List.mem_cons_self
    cases h5:isL c with
    | true =>
     rw [h5] at q
     rw [B8 h5]
     exact q
    | false =>
     rw [h5] at q
     rw [h5,Bool.false_or] at ha1
     rw [ha1]
     exact q

def kwI:Kw→Nat
 | .mark=>0 | .number=>1 | .page=>2 | .row=>3 | .foot=>4 | _=>5
def kw5:List V:=[V.str (PySem.Str.ofString "mark"),V.str (PySem.Str.ofString "number"),V.str (PySem.Str.ofString "page"),V.str (PySem.Str.ofString "row"),V.str (PySem.Str.ofString "foot")]
theorem Ds {k:Kw} (h1:k≠.plain) (h2:k≠.entry) : (∃ v,kw5[kwI k]? = some v∧eqV v (.str k.s)=true)∧(∀ (m:Nat) (v:V),m < kwI k→kw5[m]? = some v→eqV v (.str k.s)=false)∧atI (PySem.Str.ofString "#@&^~").cps.toList ((kwI k:Nat) : Int)=some (sgK k):=by
 have no:∀ (n:Nat) (s:Str),(∀ m:Nat,m < n→∀ v,kw5[m]? = some v→eqV v (.str s)=false)↔((kw5.take n).all fun v=>!eqV v (.str s))=true:=fun n s=>by
  rw [List.all_eq_true]
  constructor
  ·intro h v hv
   obtain ⟨m,hm,e⟩:=List.getElem_of_mem hv
   rw [List.getElem_take] at e
   rw [List.length_take] at hm
   rw [h m (by omega) v (by rw [← e]; exact List.getElem?_eq_getElem _)]
   rfl
  ·intro h m hm v hv
   have:=h v (List.mem_of_getElem? (i:=m) (by rw [List.getElem?_take,if_pos hm]; exact hv))
   simpa using this
 have no:=fun (n:Nat) (s:Str) (z:((kw5.take n).all fun v=>!eqV v (.str s))=true)=>fun (m:Nat) (v:V) hm hv=>(no n s).mpr z m hm v hv
 cases k with
 | plain=>exact absurd rfl h1
 | entry=>exact absurd rfl h2
 | mark=>exact ⟨⟨_,rfl,by decide +kernel⟩,no 0 _ (by decide +kernel),by decide +kernel⟩
 | number=>exact ⟨⟨_,rfl,by decide +kernel⟩,no 1 _ (by decide +kernel),by decide +kernel⟩
 | page=>exact ⟨⟨_,rfl,by decide +kernel⟩,no 2 _ (by decide +kernel),by decide +kernel⟩
 | row=>exact ⟨⟨_,rfl,by decide +kernel⟩,no 3 _ (by decide +kernel),by decide +kernel⟩
 | foot=>exact ⟨⟨_,rfl,by decide +kernel⟩,no 4 _ (by decide +kernel),by decide +kernel⟩
theorem Bw:(PySem.Str.ofString "!")=tx [33]:=by decide +kernel
theorem Ee:(PySem.Str.ofString ".![=")=tx [46,33,91,61]:=by decide +kernel
theorem Ef:(PySem.Str.ofString "#@&^~")=tx [35,64,38,94,126]:=by decide +kernel

def wO:Sp:=fun vs H Q _=>∃ w:NWd,vs=[.str w.1.s,.str (tx w.2)]∧iE w∧∀ H',ao H H'→Q (.str (tx (wrW true w))) H'
theorem wP:aJ ["kind","rest"] ["kind","rest"] (av lQ):=by walk_at "c"
theorem wQ (T:Txt P w K mg a) : aX P w K mg base CX0 2 a.mh a.kT ["kind","rest"] wO:=by
 refine T.lX.fn.ok wP (fun vs H Q E h=>?_) (fun cdv A outer s H vs Q E hr h=>?_)
 ·obtain ⟨w,rfl,_⟩:=h
  rfl
 obtain ⟨w,rfl,ok,q⟩:=h
 refine ⟨_,(@af _ _ _ _ _ (@aG _ _ _ _ _ _ _ _ (au io (pv 0) aq (nomark _)) (@ag _ _ _ (@aF _ _ _ _ (aO cy (@aD _ _ _ _ _ _ _ d9 aq (cH PySem.F.plainAttrs_list PySem.F.slot_list_index PySem.F.type_list_index AO (@aY _ _ _ _ (@sN _ _ _ (CL.str (CL.str (CL.str (CL.str (CL.str CL.nil))))))) (@aa _ _ _ _ _ (pv 0) ac (by rfl))) (fun _ _=>rfl)) (pv 1)))) aE)
   (@af _ _ _ _ _ (@aG _ _ _ _ _ _ _ _ (PW.pt (du (au ji (@aD _ _ _ _ _ _ _ d9 (pv 1) ai (fun _ _=>rfl)) aq (by with_unfolding_all rfl)) (dN (PW.pt (ij (au ji (@aD _ _ _ _ _ _ _ d9 (pv 1) ai (fun _ _=>rfl)) aq (by with_unfolding_all rfl)) (eG (b8 (aB T.lW (wN T) (hr.mono (by decide)) rfl (@aa _ _ _ _ _ (dz jk (pv 1) (dI ai) eJ) ac (by rfl))) (fun _=>rfl)))))))) (@ag _ _ _ (@aF _ _ _ _ (aO cy aq (pv 1)))) aE)
   (@ag _ _ _ (@aF _ _ _ _ (pv 1))))),?_⟩
 obtain ⟨k,r⟩:=w
 obtain ⟨he,sg,hw⟩:=ok
 dsimp only at he sg hw
 refine (⟨_,rfl,rfl,_,rfl,?_⟩)
 by_cases hk:k = .plain
 ·subst hk
  refine ay ?_
  dsimp only [cX]
  obtain ⟨_,hne,hl⟩ | ⟨z,_⟩:=hw
  ·match r,hne,hl,sg,q with
   | c :: u,_,hl,sg,q =>
   have eT:jO true (c :: u)=true→∀ H',ao H H'→Q (.str (tx (33 :: c :: u))) H':=fun b H' s=>by
    have:=q H' s
    rw [show wrW true (.plain,c :: u)=33 :: c :: u from by unfold wrW; rw [if_pos rfl,if_pos b]] at this
    exact this
   have eF:jO true (c :: u)=false→∀ H',ao H H'→Q (.str (tx (c :: u))) H':=fun b H' s=>by
    have:=q H' s
    rw [show wrW true (.plain,c :: u)=c :: u from by unfold wrW; rw [if_pos rfl,if_neg (by rw [b]; decide)]] at this
    exact this
   have bang:∀ {D:e_} {σ':St} {H'},σ'[1]? = some (some (.str (tx (c :: u))))→D.rt=Q→jO true (c :: u)=true→ao H H'→True:=fun _ _ _ _=>trivial
   have ln:(PySem.Str.ofString "!").length+(tx (c :: u)).length≤sizeLine:=by rw [Bw,aQ,aQ]; exact Nat.le_of_lt (aC (by simp only [List.length_cons,List.length_nil] at hl ⊢; omega))
   have add:∀ H',ao H H'→jO true (c :: u)=true→Q (.str (PySem.Str.ofString "!"++tx (c :: u))) H':=fun H' s b=>by rw [Bw,dB]; exact eT b H' s
   have L1:(tx (c :: u)).length≤sizeLine:=by rw [aQ]; exact Nat.le_of_lt (aC (by omega))
   have em:decide (c ∈ [35,64,38,94,126])=isM c:=rfl
   have e4:decide (c ∈ [46,33,91,61])=(decide (c ∈ [46,33,91]) || decide (c=61)):=by simp [Bool.or_assoc]
   refine (⟨_,rfl,_,_,c,rfl,rfl,L1,i5 _ _,_,_,rfl,rfl,_,rfl,?_⟩)
   rw [Ee,sI]
   cases b1:decide (c ∈ [46,33,91,61]) with
   | true =>
    refine aT ?_
    refine aT ?_
    exact (⟨_,rfl,_,_,rfl,rfl,ln,add _ (ao.refl _) (by rw [uu,if_pos rfl,← e4,b1]; rfl)⟩)
   | false =>
    refine ay ?_
    refine (⟨_,rfl,_,_,c,rfl,rfl,L1,i5 _ _,_,_,rfl,rfl,_,rfl,?_⟩)
    rw [Ef,sI,em]
    have lb:jO true (c :: u)=(isM c && bE u):=by rw [uu,if_pos rfl,← e4,b1]; rfl
    cases b3:isM c with
    | false =>
     rw [b3,Bool.false_and] at lb
     refine ay ?_
     refine ay ?_
     exact (⟨_,rfl,eF lb _ (ao.refl _)⟩)
    | true =>
     rw [b3,Bool.true_and] at lb
     refine aT ?_
     refine (⟨_,rfl,_,rfl,_,rfl,L1,u,(by rw [eB,show iC (c :: u) (some 1) none=(c :: u).drop 1 from Tl.cut_from (c :: u) 1]; rfl),(by simp only [List.length_cons] at hl; omega),_,rfl,?_⟩)
     cases b4:bE u with
     | true =>
      rw [b4] at lb
      refine aT ?_
      exact (⟨_,rfl,_,_,rfl,rfl,ln,add _ (ao.refl _) lb⟩)
     | false =>
      rw [b4] at lb
      refine ay ?_
      exact (⟨_,rfl,eF lb _ (ao.refl _)⟩)
  ·exact absurd rfl z
 ·rw [show (!decide (V.str k.s=V.str "plain"))=true from by rw [decide_eq_false (show ¬ (V.str k.s=V.str "plain") from fun z=>hk (Kw.inj (b:=.plain) (V.str.inj z)))]; rfl]
  refine aT ?_
  obtain ⟨z,_⟩ | ⟨_,hn,hl⟩:=hw
  ·exact absurd z hk
  obtain ⟨i1,i2,i3⟩:=Ds hk he
  refine (⟨aW (by simp),fun p1 hp1=>?_⟩)
  have s1:=ah hp1 (.lst kw5)
  have k1:upd H p1 (.lst kw5) p1=some (.lst kw5):=ae
  change upd H p1 (.lst kw5) p1=_ at k1
  refine (⟨.inl ⟨rfl,_,SqL.of k1⟩,_,rfl,p1,.str k.s,kw5,kwI k,rfl,rfl,k1,rfl,rfl,i1,i2,_,_,sgK k,rfl,rfl,aW (by decide +kernel),i3,_,rfl,_,_,rfl,rfl,(by rw [aQ]; exact Nat.le_of_lt (aC (by show 1+r.length≤1000; omega))),?_⟩)
  have:=q _ s1
  rw [show wrW true (k,r)=sgK k :: r from by unfold wrW; rw [if_neg hk]] at this
  show Q (.str (tx [sgK k]++tx r)) _
  rw [dB]
  exact this

theorem Dt (w:Wy) : inV (.str (tx w.t)) [V.str (PySem.Str.ofString ""),V.str (PySem.Str.ofString "words")]=decide (w = .empty∨w = .words):=by
 rw [o9,jm]
 refine (o8 [[],[119,111,114,100,115]]).trans ?_
 cases w <;> decide

def Ak:Sp:=fun vs H Q _=>∃ (r:bN) (la:Addr),vs=[.str (tx r.1.t),.str (tx r.2.1),.ref la]∧cg H la (wkS r.2.2)∧ja r∧∀ H',ao H H'→Q (.str (tx (cj [32] (dY true r)))) H'
theorem lD:aJ ["way","name","words","texts"] ["way","name","words"] (av rJ):=by walk_at "c"
theorem Al (T:Txt P w K mg a) : aX P w K mg base CX0 3 a.r9 a.qt ["way","name","words"] Ak:=by
 refine T.rR.fn.ok lD (fun vs H Q E h=>?_) (fun cdv A outer s H vs Q E hr h=>?_)
 ·obtain ⟨r,la,rfl,_⟩:=h
  rfl
 obtain ⟨r,la,rfl,hl,ok,q⟩:=h
 refine ⟨_,(af (Da (k:=3) rfl (eN (caps:=[]) (js:=[]) (cap:=trivial)) (a7 (pv 2)) (fun _ _ _ _=>c9) (fun _ _ _ _=>(aB T.lX (wQ T) (hr.mono (by decide)) rfl (aa (pv 0) (aa (pv 1) ac)))) lD.nd rfl rfl)
   (af (aG (au a_ (pv 0) aq (nomark _)) (ag (aA (i:=3) lD.nd rfl (Or.inl rfl) (aO mD (aY (aa (pv 1) ac)) (pv 3)))) aE)
   (af (aG (au vK (pv 0) (aS (aa aq (aa aq ac))) (by with_unfolding_all rfl)) (ag (aA (i:=3) lD.nd rfl (Or.inl rfl) (aO mD (aY (aa (pv 0) ac)) (pv 3)))) aE)
   (ag (aF (cH PySem.F.plainAttrs_str PySem.F.slot_str_join PySem.F.type_str_join tH aq (aa (pv 3) ac))))))),?_⟩
 obtain ⟨us,u1,u2⟩:=hl
 have lu:=u2.len
 have rwd:=ly true ok
 have rln:=xO true ok
 have okl:=ok.len
 have okw:=ok.ok
 obtain ⟨wy,nm,ws⟩:=r
 dsimp only at u2 lu okl okw
 unfold wkS at lu
 rw [List.length_map] at lu
 refine ⟨_,rfl,la,rfl,⟨_,SqL.of u1⟩,mZ (K:=K) (a:=la) (xs:=us) (fun i ys G=>ao H G∧ys=(((ws.take i).map (wrW true)).map tx).map V.str) ⟨ao.refl _,rfl⟩ (fun i ys G _ z=>SqL.of (z.1 _ _ u1)) ?_ ?_ ?_⟩
 ·rintro i ys G hi ⟨_,rfl⟩
  simp only [List.length_map,List.length_take]
  exact aC (by omega)
 ·rintro i y ys G hy ⟨m,rfl⟩
  obtain ⟨w',hw',b,rfl,hb⟩:=u2.getL hy
  unfold wkS at hw'
  rw [List.getElem?_map] at hw'
  obtain ⟨w,hw,rfl⟩:=Option.map_eq_some_iff.mp hw'
  refine ⟨b,_,_,rfl,SqT.of (m _ _ hb),d_ ?_⟩
  refine ⟨_,rfl,_,rfl,w,rfl,okw w (List.mem_of_getElem? hw),fun H' s=>⟨m.trans s,?_⟩⟩
  rw [aP hw,List.map_append,List.map_append,List.map_append]
  rfl
 rintro ys G ⟨m,rfl⟩ p1 hp1
 rw [lu,List.take_length]
 have s1:=m.trans (ah hp1 (.lst (((ws.map (wrW true)).map tx).map V.str)))
 have k1:upd G p1 (.lst (((ws.map (wrW true)).map tx).map V.str)) p1=some (.lst (((ws.map (wrW true)).map tx).map V.str)):=ae
 generalize upd G p1 (.lst (((ws.map (wrW true)).map tx).map V.str))=G1 at s1 k1 ⊢
 dsimp only [bv]
 refine c_ (fun σ' G'=>∃ pt,σ' = [some (.str (tx wy.t)),some (.str (tx nm)),some (.ref la),some (.ref pt)]∧ao H G'∧G' pt=some (.lst ((((if wy = .foot then [nm] else [])++ws.map (wrW true)).map tx).map V.str))) ?_ (fun key=>?_)
 ·rintro σ' G2 ⟨pt,rfl,s2,k2⟩
  refine c_ (fun σ' G'=>∃ pt,σ' = [some (.str (tx wy.t)),some (.str (tx nm)),some (.ref la),some (.ref pt)]∧ao H G'∧G' pt=some (.lst (((dY true (wy,nm,ws)).map tx).map V.str))) ?_ (fun key=>?_)
  ·rintro σ' G3 ⟨pt3,rfl,s3,k3⟩
   refine ⟨rfl,_,rfl,_,_,_,rfl,rfl,SqL.of k3,by decide,?_,?_⟩
   ·have h1:=wz (dY true (wy,nm,ws)) fun t ht=>(rwd t ht).2.2
    simp only [List.length_map]
    omega
   ·rw [show (PySem.Str.ofString " ")=tx [32] by decide +kernel,tI]
    exact q _ s3
  ·refine ⟨_,rfl,le2,fun p2 hp2=>?_⟩
   have s3:=s2.trans (ah hp2 (.tup [V.str (PySem.Str.ofString ""),V.str (PySem.Str.ofString "words")]))
   refine ⟨_,_,rfl,.inr (SqT.of ae),rfl,rfl,_,rfl,?_⟩
   have k2':=ah hp2 (.tup [V.str (PySem.Str.ofString ""),V.str (PySem.Str.ofString "words")]) _ _ k2
   generalize upd G2 p2 (.tup [V.str (PySem.Str.ofString ""),V.str (PySem.Str.ofString "words")])=G3 at s3 k2' ⊢
   refine dX (fun c2=>?_) (fun c2=>?_)
   ·have c3:¬ (wy = .empty∨wy = .words):=fun z=>by
     have:=Dt wy
     rw [decide_eq_true z] at this
     change (!inV (.str (tx wy.t)) [V.str (PySem.Str.ofString ""),V.str (PySem.Str.ofString "words")])=true at c2
     rw [this] at c2
     cases c2
    refine ⟨_,rfl,le1,fun p4 hp4=>?_⟩
    have s4:=ah hp4 (.lst [.str (tx wy.t)])
    refine ⟨_,rfl,_,_,_,_,rfl,rfl,ae,s4 _ _ k2',?_,fun p5 hp5=>?_⟩
    ·simp only [List.length_map,List.length_append,List.length_cons,List.length_nil]
     have:(if wy = .foot then [nm] else ([] : List (List Nat))).length≤1:=by split <;> simp
     exact Nat.le_of_lt (aC (by omega))
    ·refine key _ _ ⟨p5,rfl,(s3.trans s4).trans (ah hp5 _),?_⟩
     rw [ae]
     unfold dY
     rw [if_neg c3,List.append_assoc,List.map_append (l₁:=[wy.t]),List.map_append]
     rfl
   ·have c3:wy = .empty∨wy = .words:=by
     have:=Dt wy
     change ¬ ((!inV (.str (tx wy.t)) [V.str (PySem.Str.ofString ""),V.str (PySem.Str.ofString "words")])=true) at c2
     rw [this] at c2
     by_cases z:wy = .empty∨wy = .words
     ·exact z
     ·rw [decide_eq_false z] at c2; exact absurd rfl c2
    refine key _ _ ⟨pt,rfl,s3,?_⟩
    rw [k2']
    unfold dY
    rw [if_pos c3]
    rfl
 ·refine ⟨_,rfl,rfl,_,rfl,?_⟩
  rw [cz iR]
  by_cases hf:wy = .foot
  ·rw [decide_eq_true (show wy.t=cY by rw [hf]; rfl)]
   refine aT ?_
   refine ⟨_,rfl,le1,fun p4 hp4=>?_⟩
   have s4:=ah hp4 (.lst [.str (tx nm)])
   refine ⟨_,rfl,_,_,_,_,rfl,rfl,ae,s4 _ _ k1,?_,fun p5 hp5=>?_⟩
   ·simp only [List.length_map,List.length_cons,List.length_nil]
    exact Nat.le_of_lt (aC (by omega))
   ·refine key _ _ ⟨p5,rfl,(s1.trans s4).trans (ah hp5 _),?_⟩
    rw [ae,if_pos hf,List.map_append (l₁:=[nm]),List.map_append]
    rfl
  ·rw [decide_eq_false (show ¬ (wy.t=cY) from fun z=>hf (Wy.inj (b:=.foot) z))]
   refine ay ?_
   refine key _ _ ⟨p1,rfl,s1,?_⟩
   rw [k1,if_neg hf]
   rfl
def Eg (c:Nat × Nat × Nat) (l:Int) : Nat × Nat × Nat:=if l=1 then (c.1+1,0,0) else if l=2 then (c.1,c.2.1+1,0) else (c.1,c.2.1,c.2.2+1)
def ctr (ls:List Int) : Nat × Nat × Nat:=ls.foldl Eg (0,0,0)
def EQ (c:Nat × Nat × Nat) : List V:=[V.int (c.1:Int),V.int (c.2.1:Int),V.int (c.2.2:Int)]
def ER (c:Nat × Nat × Nat) (l:Int) : List Nat:=if l=1 then fP c.1 else if l=2 then fP c.1++[46]++fP c.2.1 else fP c.1++[46]++(fP c.2.1++[46]++fP c.2.2)
def Du (ls:List Int) (i:Nat) : List (List Nat):=(List.range i).map fun k=>ER (ctr (ls.take (k+1))) (ls.getD k 0)
def uL (K:PySem.W.Frag) : Sp:=fun vs H Q _=>∃ la:Addr,vs=[.ref la]∧SqL K H la []∧∀ p H',H p=none→ao H H'→H' p=some (.lst [])→Q (.ref p) H'
theorem iz:aJ ["levels","counters","numbers","level"] ["levels"] (av kg):=by walk_at "c"
theorem uM (T:Txt P w K mg a) : aX P w K mg base CX0 1 a.kN a.jD ["levels"] (uL K):=by
 refine T.kI.fn.ok iz (fun vs H Q E h=>?_) (fun cdv A outer s H vs Q E hr h=>?_)
 ·obtain ⟨la,rfl,_⟩:=h
  rfl
 obtain ⟨la,rfl,hL,q⟩:=h
 refine ⟨_,(af (aA (i:=1) iz.nd rfl (Or.inl rfl) (aY (aa ai (aa ai (aa ai ac)))))
   (af (aA (i:=2) iz.nd rfl (Or.inl rfl) (aY ac))
   (af (b9 PassesOwn.never rfl (a7 (pv 0)) (aM (i:=3) iz.nd rfl (Or.inl rfl)) di)
   (ag (aF (pv 2)))))),?_⟩
 refine ⟨aW (by decide),fun p1 hp1=>?_⟩
 refine ⟨Nat.zero_le _,fun p2 hp2=>?_⟩
 have s1:=ah hp1 (.lst (EQ (0,0,0)))
 have hr:H p2=none:=s1.free hp2
 have s2:=s1.trans (ah hp2 (.lst []))
 refine ⟨_,rfl,_,rfl,⟨_,s2.seq hL⟩,bT (K:=K) (a:=la) (xs:=[]) (fun i σ H2=>ao H H2∧H2 p2=some (.lst [])∧∃ v w:Option V,σ=[some (.ref la),w,some (.ref p2),v]) ⟨s2,ae,none,_,rfl⟩ (fun i σ H2 _ h2=>h2.1.seq hL) ?_ ?_⟩
 ·intro i y σ H2 hi
  simp at hi
 ·rintro σ H2 ⟨sH,hn,v,w,rfl⟩
  exact ⟨_,rfl,q p2 _ hr sH hn⟩

def HtA (F:Hp) (v:V) (h:Nat × List Wk) : Prop:=∃ a l,v = .ref a∧F a=some (.tup [.str "head",.int (h.1:Int),.ref l])∧cg F l h.2
def pL (hs:List (Nat × List Wk)) : List Int:=hs.map fun h=>(h.1:Int)
def nC (hs:List (Nat × List Wk)) (feet:List (Str × List Wk)) : Sc:=⟨(Du (pL hs) (pL hs).length).map tx,hs.map (·.2),feet⟩

def tU (C:Addr) : Sp:=fun vs H Q _=>∃ (x dx hl fa:Addr) (hv:List V) (hs:List (Nat × List Wk)) (kvs:List (Key × V)) (feet:List (Str × List Wk)),vs=[.ref x,.ref hl,.ref fa]∧H x=some (.ins C dx [])∧H hl=some (.lst hv)∧aR (HtA H) hv hs∧H fa=some (.dK kvs)∧FtA H kvs feet∧hs=[]∧∀ H' A,A.x=x→FrX H H' x→StA C (hid A.os H') H' A (nC hs feet) ss0→(H A.wa=none∧H A.ma=none∧H A.ha=none)→Q .non H'
theorem tV:aJ ["self","all_heads","feet"] ["self","all_heads","feet"] (av ju):=by walk_at "c"
theorem tW (T:Txt P w K mg a) : aX P w K mg base CX0 2 a.jA a.jd ["self","all_heads","feet"] (tU a.ak):=by
 refine T.jy.fn.ok tV (fun vs H Q E h=>?_) (fun cdv A outer s H vs Q E hr h=>?_)
 ·obtain ⟨x,dx,hl,fa,hv,hs,kvs,feet,rfl,_⟩:=h
  rfl
 obtain ⟨x,dx,hl,fa,hv,hs,kvs,feet,rfl,hx,hh,ha,hf,hft,h0,q⟩:=h
 refine ⟨_,(af (cM (pv 0) (aB T.kI (uM T) (hr.mono (by decide)) rfl (aa (ir rfl (eN (caps:=[]) (js:=[]) (cap:=trivial)) (a7 (pv 1)) (fun _ _ _ _=>c9) (fun _ _ _ _=>(aD (r:=lI K) aN (pv 0) ai (fun _ _=>rfl)))) ac)) rfl)
   (af (cM (pv 0) (ir rfl (eN (caps:=[]) (js:=[]) (cap:=trivial)) (a7 (pv 1)) (fun _ _ _ _=>c9) (fun _ _ _ _=>(aD (r:=lI K) aN (pv 0) ai (fun _ _=>rfl)))) rfl)
   (af (cM (pv 0) (pv 2) rfl)
   (af (cM (pv 0) ai rfl)
   (af (cM (pv 0) (aY ac) rfl)
   (af (cM (pv 0) rc rfl)
   (af (cM (pv 0) (aY ac) rfl)
   (af (cM (pv 0) ai rfl)
   (ag (cM (pv 0) cW rfl)))))))))),?_⟩
 have hsl:hs.length≤63:=by rw [h0]; exact Nat.zero_le _
 have lh:=ha.len
 have k0:=hx
 have f0:FrX H H x:=FrX.refl
 have l0:([] : List (Str × V)).length≤0:=Nat.le_refl _
 refine ⟨_,rfl,hl,rfl,⟨_,SqL.of hh⟩,eO (K:=K) (a:=hl) (xs:=hv) (fun i ys G'=>H=G'∧ys=((pL hs).take i).map V.int) ⟨rfl,rfl⟩ (fun i ys G' _ z=>by rw [← z.1]; exact SqL.of hh) ?_ ?_ ?_⟩
 ·rintro i ys G' hi ⟨_,z⟩
  rw [z,List.length_map,List.length_take]
  exact aC (by unfold pL; rw [List.length_map]; omega)
 ·rintro i y ys G' hy ⟨rfl,z⟩
  obtain ⟨h,hw,b,l,rfl,hb,_⟩:=ha.getL hy
  refine d_ ?_
  refine ⟨_,rfl,_,_,_,_,rfl,rfl,SqT.of hb,rfl,rfl,?_⟩
  rw [z,aP (l:=pL hs) (x:=(h.1:Int)) (by unfold pL; rw [List.getElem?_map,hw]; rfl),List.map_append]
  rfl
 rintro ys G' ⟨rfl,z⟩ q1 hq1
 rw [lh,show hs.length=(pL hs).length from by unfold pL; rw [List.length_map],List.take_length] at z
 have sq:=ah hq1 (.lst ys)
 have yn:ys=[]:=by rw [z,h0]; rfl
 refine ⟨q1,rfl,SqL.of (by rw [← yn]; exact ae),fun na Hn hna sna kna=>?_⟩
 have sn:=sq.trans sna
 have kn:Hn na=some (.lst ((nC hs feet).nums.map V.str)):=by rw [h0]; exact kna
 have hna':H na=none:=sq.free hna
 clear sna kna sq
 have f1:=f0.same sn
 have k1:=sn _ _ k0
 have a0_1:=kn
 have e0:=f0.free k0 hna'
 have d0:na≠x:=fun z=>by rw [z,k1] at a0_1; cases a0_1
 refine ⟨_,rfl,_,_,_,_,rfl,k1,T.aI.cl,T.jH,Nat.lt_of_le_of_lt l0 (by decide),?_⟩
 generalize g0:bx "numbers" (V.ref na) ([] : List (Str × V))=L0
 have l1:L0.length≤1:=by rw [← g0]; exact Nat.le_trans eC (Nat.succ_le_succ l0)
 have f2:FrX H (upd Hn x (.ins a.ak dx L0)) x:=f1.at
 have k2:upd Hn x (.ins a.ak dx L0) x=some (.ins a.ak dx L0):=ae
 have a0_2:=(aj (H:=Hn) (o:=(.ins a.ak dx L0)) d0).trans a0_1
 generalize upd Hn x (.ins a.ak dx L0)=H2 at k2 f2 a0_2 ⊢
 have hhn:H2 hl=some (.lst hv):=f2.get hh (by intro z; rw [z,hx] at hh; cases hh)
 refine ⟨_,rfl,hl,rfl,⟨_,SqL.of hhn⟩,eO (K:=K) (a:=hl) (xs:=hv) (fun i ys G'=>H2=G'∧ys.length=i∧aR (TlA H) ys ((hs.take i).map (·.2))) ⟨rfl,rfl,trivial⟩ (fun i ys G' _ z=>by rw [← z.1]; exact SqL.of hhn) ?_ ?_ ?_⟩
 ·rintro i ys G' hi ⟨_,z,_⟩
  rw [z]
  exact aC (by omega)
 ·rintro i y ys G' hy ⟨rfl,z,al⟩
  obtain ⟨h,hw,b,l,rfl,hb,hb2⟩:=ha.getL hy
  refine d_ ?_
  refine ⟨_,rfl,_,_,_,_,rfl,rfl,SqT.of (f2.get hb (by intro z; rw [z,hx] at hb; cases hb)),rfl,rfl,(by rw [List.length_append,z]; rfl),?_⟩
  rw [aP hw,List.map_append]
  exact al.snoc ⟨l,rfl,hb2⟩
 rintro ys G' ⟨rfl,z,al⟩ q2 hq2
 rw [lh,List.take_length] at al
 have st:=ah hq2 (.lst ys)
 have kt:upd H2 q2 (.lst ys) q2=some (.lst ys):=ae
 generalize upd H2 q2 (.lst ys)=Ht at st kt ⊢
 have f3:=f2.same st
 have k3:=st _ _ k2
 have a0_3:=st _ _ a0_2
 have a1_3:=kt
 have e1:=f2.free k2 hq2
 have d1:q2≠x:=fun z=>by rw [z,k3] at a1_3; cases a1_3
 have d0_1:na≠q2:=fun z=>by have y:=hq2; rw [← z,a0_2] at y; cases y
 refine ⟨_,rfl,_,_,_,_,rfl,k3,T.aI.cl,T.kY,Nat.lt_of_le_of_lt l1 (by decide),?_⟩
 generalize g1:bx "titles" (V.ref q2) L0=L1
 have l2:L1.length≤2:=by rw [← g1]; exact Nat.le_trans eC (Nat.succ_le_succ l1)
 have f4:FrX H (upd Ht x (.ins a.ak dx L1)) x:=f3.at
 have k4:upd Ht x (.ins a.ak dx L1) x=some (.ins a.ak dx L1):=ae
 have a0_4:=(aj (H:=Ht) (o:=(.ins a.ak dx L1)) d0).trans a0_3
 have a1_4:=(aj (H:=Ht) (o:=(.ins a.ak dx L1)) d1).trans a1_3
 generalize upd Ht x (.ins a.ak dx L1)=H4 at k4 f4 a0_4 a1_4 ⊢
 refine ⟨_,rfl,_,rfl,_,_,_,_,rfl,k4,T.aI.cl,T.eX,Nat.lt_of_le_of_lt l2 (by decide),?_⟩
 generalize g2:bx "feet" (V.ref fa) L1=L2
 have l3:L2.length≤3:=by rw [← g2]; exact Nat.le_trans eC (Nat.succ_le_succ l2)
 have f5:FrX H (upd H4 x (.ins a.ak dx L2)) x:=f4.at
 have k5:upd H4 x (.ins a.ak dx L2) x=some (.ins a.ak dx L2):=ae
 have a0_5:=(aj (H:=H4) (o:=(.ins a.ak dx L2)) d0).trans a0_4
 have a1_5:=(aj (H:=H4) (o:=(.ins a.ak dx L2)) d1).trans a1_4
 generalize upd H4 x (.ins a.ak dx L2)=H5 at k5 f5 a0_5 a1_5 ⊢
 refine ⟨_,rfl,_,_,_,_,rfl,k5,T.aI.cl,T.dt,Nat.lt_of_le_of_lt l3 (by decide),?_⟩
 generalize g3:bx "feet_set" (V.int 0) L2=L3
 have l4:L3.length≤4:=by rw [← g3]; exact Nat.le_trans eC (Nat.succ_le_succ l3)
 have f6:FrX H (upd H5 x (.ins a.ak dx L3)) x:=f5.at
 have k6:upd H5 x (.ins a.ak dx L3) x=some (.ins a.ak dx L3):=ae
 have a0_6:=(aj (H:=H5) (o:=(.ins a.ak dx L3)) d0).trans a0_5
 have a1_6:=(aj (H:=H5) (o:=(.ins a.ak dx L3)) d1).trans a1_5
 generalize upd H5 x (.ins a.ak dx L3)=H6 at k6 f6 a0_6 a1_6 ⊢
 refine ⟨aW (by simp),fun p4 hp4=>?_⟩
 have w4:=ah hp4 (.lst [])
 have b4:upd H6 p4 (.lst []) p4=some (.lst []):=ae
 generalize upd H6 p4 (.lst [])=H7 at w4 b4 ⊢
 have f7:=f6.same w4
 have k7:=w4 _ _ k6
 have a0_7:=w4 _ _ a0_6
 have a1_7:=w4 _ _ a1_6
 have a4_7:=b4
 have e4:=f6.free k6 hp4
 have d4:p4≠x:=fun z=>by rw [z,k7] at a4_7; cases a4_7
 have d0_4:na≠p4:=fun z=>by have y:=hp4; rw [← z,a0_6] at y; cases y
 have d1_4:q2≠p4:=fun z=>by have y:=hp4; rw [← z,a1_6] at y; cases y
 refine ⟨_,rfl,_,_,_,_,rfl,k7,T.aI.cl,T.cr,Nat.lt_of_le_of_lt l4 (by decide),?_⟩
 generalize g4:bx "words" (V.ref p4) L3=L4
 have l5:L4.length≤5:=by rw [← g4]; exact Nat.le_trans eC (Nat.succ_le_succ l4)
 have f8:FrX H (upd H7 x (.ins a.ak dx L4)) x:=f7.at
 have k8:upd H7 x (.ins a.ak dx L4) x=some (.ins a.ak dx L4):=ae
 have a0_8:=(aj (H:=H7) (o:=(.ins a.ak dx L4)) d0).trans a0_7
 have a1_8:=(aj (H:=H7) (o:=(.ins a.ak dx L4)) d1).trans a1_7
 have a4_8:=(aj (H:=H7) (o:=(.ins a.ak dx L4)) d4).trans a4_7
 generalize upd H7 x (.ins a.ak dx L4)=H8 at k8 f8 a0_8 a1_8 a4_8 ⊢
 intro p5 hp5
 have w5:=ah hp5 (.dK [])
 have b5:upd H8 p5 (.dK []) p5=some (.dK []):=ae
 generalize upd H8 p5 (.dK [])=H9 at w5 b5 ⊢
 have f9:=f8.same w5
 have k9:=w5 _ _ k8
 have a0_9:=w5 _ _ a0_8
 have a1_9:=w5 _ _ a1_8
 have a4_9:=w5 _ _ a4_8
 have a5_9:=b5
 have e5:=f8.free k8 hp5
 have d5:p5≠x:=fun z=>by rw [z,k9] at a5_9; cases a5_9
 have d0_5:na≠p5:=fun z=>by have y:=hp5; rw [← z,a0_8] at y; cases y
 have d1_5:q2≠p5:=fun z=>by have y:=hp5; rw [← z,a1_8] at y; cases y
 have d4_5:p4≠p5:=fun z=>by have y:=hp5; rw [← z,a4_8] at y; cases y
 refine ⟨_,rfl,_,_,_,_,rfl,k9,T.aI.cl,T.ca,Nat.lt_of_le_of_lt l5 (by decide),?_⟩
 generalize g5:bx "marks" (V.ref p5) L4=L5
 have l6:L5.length≤6:=by rw [← g5]; exact Nat.le_trans eC (Nat.succ_le_succ l5)
 have f10:FrX H (upd H9 x (.ins a.ak dx L5)) x:=f9.at
 have k10:upd H9 x (.ins a.ak dx L5) x=some (.ins a.ak dx L5):=ae
 have a0_10:=(aj (H:=H9) (o:=(.ins a.ak dx L5)) d0).trans a0_9
 have a1_10:=(aj (H:=H9) (o:=(.ins a.ak dx L5)) d1).trans a1_9
 have a4_10:=(aj (H:=H9) (o:=(.ins a.ak dx L5)) d4).trans a4_9
 have a5_10:=(aj (H:=H9) (o:=(.ins a.ak dx L5)) d5).trans a5_9
 generalize upd H9 x (.ins a.ak dx L5)=H10 at k10 f10 a0_10 a1_10 a4_10 a5_10 ⊢
 refine ⟨aW (by simp),fun p6 hp6=>?_⟩
 have w6:=ah hp6 (.lst [])
 have b6:upd H10 p6 (.lst []) p6=some (.lst []):=ae
 generalize upd H10 p6 (.lst [])=H11 at w6 b6 ⊢
 have f11:=f10.same w6
 have k11:=w6 _ _ k10
 have a0_11:=w6 _ _ a0_10
 have a1_11:=w6 _ _ a1_10
 have a4_11:=w6 _ _ a4_10
 have a5_11:=w6 _ _ a5_10
 have a6_11:=b6
 have e6:=f10.free k10 hp6
 have d6:p6≠x:=fun z=>by rw [z,k11] at a6_11; cases a6_11
 have d0_6:na≠p6:=fun z=>by have y:=hp6; rw [← z,a0_10] at y; cases y
 have d1_6:q2≠p6:=fun z=>by have y:=hp6; rw [← z,a1_10] at y; cases y
 have d4_6:p4≠p6:=fun z=>by have y:=hp6; rw [← z,a4_10] at y; cases y
 have d5_6:p5≠p6:=fun z=>by have y:=hp6; rw [← z,a5_10] at y; cases y
 refine ⟨_,rfl,_,_,_,_,rfl,k11,T.aI.cl,T.ez,Nat.lt_of_le_of_lt l6 (by decide),?_⟩
 generalize g6:bx "heads" (V.ref p6) L5=L6
 have l7:L6.length≤7:=by rw [← g6]; exact Nat.le_trans eC (Nat.succ_le_succ l6)
 have f12:FrX H (upd H11 x (.ins a.ak dx L6)) x:=f11.at
 have k12:upd H11 x (.ins a.ak dx L6) x=some (.ins a.ak dx L6):=ae
 have a0_12:=(aj (H:=H11) (o:=(.ins a.ak dx L6)) d0).trans a0_11
 have a1_12:=(aj (H:=H11) (o:=(.ins a.ak dx L6)) d1).trans a1_11
 have a4_12:=(aj (H:=H11) (o:=(.ins a.ak dx L6)) d4).trans a4_11
 have a5_12:=(aj (H:=H11) (o:=(.ins a.ak dx L6)) d5).trans a5_11
 have a6_12:=(aj (H:=H11) (o:=(.ins a.ak dx L6)) d6).trans a6_11
 generalize upd H11 x (.ins a.ak dx L6)=H12 at k12 f12 a0_12 a1_12 a4_12 a5_12 a6_12 ⊢
 refine ⟨_,rfl,_,_,_,_,rfl,k12,T.aI.cl,T.eY,Nat.lt_of_le_of_lt l7 (by decide),?_⟩
 generalize g7:bx "leap" (V.int 0) L6=L7
 have l8:L7.length≤8:=by rw [← g7]; exact Nat.le_trans eC (Nat.succ_le_succ l7)
 have f13:FrX H (upd H12 x (.ins a.ak dx L7)) x:=f12.at
 have k13:upd H12 x (.ins a.ak dx L7) x=some (.ins a.ak dx L7):=ae
 have a0_13:=(aj (H:=H12) (o:=(.ins a.ak dx L7)) d0).trans a0_12
 have a1_13:=(aj (H:=H12) (o:=(.ins a.ak dx L7)) d1).trans a1_12
 have a4_13:=(aj (H:=H12) (o:=(.ins a.ak dx L7)) d4).trans a4_12
 have a5_13:=(aj (H:=H12) (o:=(.ins a.ak dx L7)) d5).trans a5_12
 have a6_13:=(aj (H:=H12) (o:=(.ins a.ak dx L7)) d6).trans a6_12
 generalize upd H12 x (.ins a.ak dx L7)=H13 at k13 f13 a0_13 a1_13 a4_13 a5_13 a6_13 ⊢
 refine ⟨_,rfl,_,_,_,_,rfl,k13,T.aI.cl,T.cG,Nat.lt_of_le_of_lt l8 (by decide),?_⟩
 generalize g8:bx "behind_head" (V.bl false) L7=L8
 have l9:L8.length≤9:=by rw [← g8]; exact Nat.le_trans eC (Nat.succ_le_succ l8)
 have f14:FrX H (upd H13 x (.ins a.ak dx L8)) x:=f13.at
 have k14:upd H13 x (.ins a.ak dx L8) x=some (.ins a.ak dx L8):=ae
 have a0_14:=(aj (H:=H13) (o:=(.ins a.ak dx L8)) d0).trans a0_13
 have a1_14:=(aj (H:=H13) (o:=(.ins a.ak dx L8)) d1).trans a1_13
 have a4_14:=(aj (H:=H13) (o:=(.ins a.ak dx L8)) d4).trans a4_13
 have a5_14:=(aj (H:=H13) (o:=(.ins a.ak dx L8)) d5).trans a5_13
 have a6_14:=(aj (H:=H13) (o:=(.ins a.ak dx L8)) d6).trans a6_13
 generalize upd H13 x (.ins a.ak dx L8)=H14 at k14 f14 a0_14 a1_14 a4_14 a5_14 a6_14 ⊢
 have eL:L8=fsS ⟨x,dx,na,q2,fa,p4,p5,p6⟩ 0 0 false:=by rw [← g8,← g7,← g6,← g5,← g4,← g3,← g2,← g1,← g0]; exact B5 ⟨x,dx,na,q2,fa,p4,p5,p6⟩
 rw [eL] at k14
 have nfx:fa≠x:=fun z=>by rw [z,hx] at hf; cases hf
 have hid':∀ b u,b≠x→b≠p4→b≠p5→b≠p6→H b=some u→hid [x,p4,p5,p6] H14 b=some u:=fun b u n1 n2 n3 n4 h=>a8 (by simp [n1,n2,n3,n4]) (f14 b u n1 h)
 have inH:∀ b u,H b=some u→b≠x→hid [x,p4,p5,p6] H14 b=some u:=fun b u h n1=>hid' b u n1 (fun z=>by rw [z,e4] at h; cases h) (fun z=>by rw [z,e5] at h; cases h) (fun z=>by rw [z,e6] at h; cases h) h
 have tupX:∀ {b us},H b=some (.tup us)→hid [x,p4,p5,p6] H14 b=some (.tup us):=fun {b us} h=>inH b _ h (fun z=>by rw [z,hx] at h; cases h)
 have lstX:∀ {b us},H b=some (.lst us)→hid [x,p4,p5,p6] H14 b=some (.lst us):=fun {b us} h=>inH b _ h (fun z=>by rw [z,hx] at h; cases h)
 have lsX:∀ {l ws},cg H l ws→cg (hid [x,p4,p5,p6] H14) l ws:=fun {l ws} ⟨us,h1,h2⟩=>⟨us,lstX h1,h2.imp fun v w ⟨b,z1,z2⟩=>⟨b,z1,tupX z2⟩⟩
 refine q _ ⟨x,dx,na,q2,fa,p4,p5,p6⟩ rfl f14 ⟨bJ,k14,⟨?_,⟨ys,?_,?_⟩,⟨kvs,?_,?_⟩⟩,?_,d4_6,⟨[],a4_14,trivial⟩,a5_14,⟨[],a6_14,trivial⟩⟩ ⟨e4,e5,e6⟩
 ·exact a8 (by simp [Sad.os,d0,d0_4,d0_5,d0_6]) a0_14
 ·exact a8 (by simp [Sad.os,d1,d1_4,d1_5,d1_6]) a1_14
 ·exact al.imp fun v w ⟨l,z1,z2⟩=>⟨l,z1,lsX z2⟩
 ·exact inH fa _ hf nfx
 ·exact ftX (fun l ws h=>lsX h) hft
 ·intro b hb
  unfold hid
  rw [if_pos hb]
def mO (cls:Xc→Addr) (C:Addr) : Sp:=fun vs H Q E=>∃ (A:Sad) (G:Hp) (c:Sc) (σ:Ss),vs=[.ref A.x]∧StA C G H A c σ∧tQ c∧rp c σ∧σ.ws.length≤400∧(∀ e,dL c σ=some e→∀ H',ao G H'→E (.ref (cls e)) none H')∧(dL c σ=none→∀ H',ao H H'→StA C G H' A c σ→Q .non H')
theorem bV:aJ ["self","name","k","words","text","kind","rest"] ["self"] (av fj):=by walk_at "c"
theorem mP (T:Txt P w K mg a) : aX P w K mg base (CXe P w) 1 a.fB a.eU ["self"] (mO (rn a.dM a.db a.cE a.de) a.ak):=by
 have dh:=T.dh
 obtain ⟨dh,k_POINTING⟩:=dh
 refine T.fq.fn.okE bV (fun vs H Q E h=>?_) (fun cdv A outer s H vs Q E hr h=>?_)
 ·obtain ⟨A,G,c,σ,rfl,_⟩:=h
  rfl
 obtain ⟨A,G,c,σ,rfl,S,so,ss,wl,qe,q⟩:=h
 refine ⟨_,(af (xI PassesOwn.leaving rfl (AX (bC (pv 0) rfl)) (d8 rfl (a6 (aM (i:=1) bV.nd rfl (Or.inl rfl)) (a6 (aM (i:=2) bV.nd rfl (Or.inl rfl)) dw))) (ag (aG (au a_ (pv 2) (aK bD rfl T.bS PySem.boot_len (aa (bC (pv 0) rfl) ac)) (nomark _)) (ag (jY rfl mG T.se rfl (aa (mH (dJ jl (dJ (qA (pv 1)) (dJ jl oY)))) ac))) aE)))
   (af (yf (k:=3) rfl (eN (caps:=[]) (js:=[]) (cap:=trivial)) (a7 (bC (pv 0) rfl)) (fun _ _ _ _=>c9) (fun _ _ _ _=>(aD (r:=lI K) aN (pv 0) ai (fun _ _=>rfl))) bV.nd rfl rfl)
   (af (xI PassesOwn.leaving rfl (BX (bC (pv 0) rfl)) (aM (i:=4) bV.nd rfl (Or.inl rfl)) (ag (bj (cH PySem.F.plainAttrs_list PySem.F.slot_list_extend PySem.F.type_list_extend oS (pv 3) (aa (pv 4) ac)))))
   (ag (b9 PassesOwn.leaving rfl (a7 (pv 3)) (d8 rfl (a6 (aM (i:=5) bV.nd rfl (Or.inl rfl)) (a6 (aM (i:=6) bV.nd rfl (Or.inl rfl)) dw))) (ag (aG (PW.pt (ij (au gr (pv 5) (cS (v:=.ref a.eo) rfl dh rfl) (by with_unfolding_all rfl)) (eG (au (jt (df hr)) (pv 6) (bC (pv 0) rfl) (by with_unfolding_all rfl))))) (ag (jY rfl mG T.se rfl (aa (mH (dJ jl (dJ (qA (pv 6)) oY))) ac))) aE))))))),?_⟩
 obtain ⟨wvs,w2,w3⟩:=S.words
 have lw:=w3.len
 obtain ⟨n1,n2,n3,n4,n5⟩:=S.nes
 refine ⟨_,rfl,_,_,_,_,_,rfl,S.ins,T.aI.cl,T.ca,iD,A.ma,mkV σ.ms,rfl,S.marks,fun hz o=>?_⟩
 have kf:upd H A.ma (.frz o (.dK (mkV σ.ms))) A.ma=some (.frz o (.dK (mkV σ.ms))):=ae
 have ix:upd H A.ma (.frz o (.dK (mkV σ.ms))) A.x=some (.ins a.ak A.dx (fsS A (σ.fs:Int) σ.lp σ.bh)):=by rw [aj n2]; exact S.ins
 have iw:upd H A.ma (.frz o (.dK (mkV σ.ms))) A.wa=some (.lst wvs):=by rw [aj n4]; exact w2
 have sg:ao G (upd H A.ma (.frz o (.dK (mkV σ.ms)))):=bn S.old (S.fr _ va)
 have th:∀ H2,ao (upd H A.ma (.frz o (.dK (mkV σ.ms)))) H2→ao H (upd H2 A.ma (.dK (mkV σ.ms))):=fun H2 s=>zP S.marks s
 generalize upd H A.ma (.frz o (.dK (mkV σ.ms)))=Hf at kf ix iw sg th ⊢
 refine zI hz (fun i σ' H2=>∃ (v1 v2:Option V),σ' = [some (.ref A.x),v1,v2,none,none,none,none]∧ao Hf H2∧∀ m ∈ σ.ms.take i,m.2≠σ.ws.length) ?_ ?_ ?_ ?_
 ·rintro i σ' H2 ⟨v1,v2,rfl,m,_⟩
  exact m _ _ kf
 ·exact ⟨none,none,rfl,ao.refl _,by simp⟩
 ·rintro i qv p σ' H2 hq ⟨v1,v2,rfl,m,no⟩ hp
  have hq':=hq
  unfold mkV at hq'
  rw [List.getElem?_map] at hq'
  obtain ⟨⟨mn,mk_⟩,hm,rfl⟩:=Option.map_eq_some_iff.mp hq'
  obtain ⟨ml,e1,e2,e3⟩:=ss.ms _ (List.mem_of_getElem? hm)
  dsimp only at e1
  subst e1
  have s1:=m.trans (ah hp (.tup [.str (tx ml),.int (mk_:Int)]))
  refine ⟨p,_,rfl,SqT.of ae,rfl,_,_,rfl,_,_,rfl,rfl,?_⟩
  refine ⟨_,rfl,_,rfl,_,_,_,_,_,rfl,s1 _ _ ix,T.aI.cl,T.cr,i9,_,_,rfl,.inl (SqL.of (s1 _ _ iw)),rfl,_,rfl,?_⟩
  by_cases c1:mk_=σ.ws.length
  ·rw [decide_eq_true (show V.int (mk_:Int)=V.int ((wvs.length:Nat) : Int) by rw [c1,lw])]
   refine aT ?_
   refine ⟨⟨trivial,⟨ml,rfl,by omega,e3⟩,trivial,trivial⟩,fun z=>⟨le1,qe .nomark ?_ _ (sg.trans s1)⟩⟩
   unfold dL
   rw [if_pos]
   rw [List.any_eq_true]
   exact ⟨_,List.mem_of_getElem? hm,decide_eq_true c1⟩
  ·rw [decide_eq_false (show ¬ (V.int (mk_:Int)=V.int ((wvs.length:Nat) : Int)) from fun z=>c1 (by injection z with z; omega))]
   refine ay ?_
   refine ⟨_,_,rfl,s1,?_⟩
   rw [aP hm]
   intro x hx
   rcases List.mem_append.mp hx with hx | hx
   ·exact no x hx
   ·rw [List.mem_singleton.mp hx]; exact c1
 rintro σ' H2 ⟨v1,v2,rfl,m,no⟩
 rw [tP,List.take_length] at no
 have s0:=th H2 m
 have S1:=S.same s0
 generalize upd H2 A.ma (.dK (mkV σ.ms))=H3 at s0 S1 ⊢
 obtain ⟨wvs',w2',w3'⟩:=S1.words
 have lw':=w3'.len
 refine ⟨_,rfl,_,_,_,_,_,rfl,S1.ins,T.aI.cl,T.cr,i9,A.wa,rfl,⟨_,SqL.of w2'⟩,eO (K:=K) (a:=A.wa) (xs:=wvs') (fun i ys G'=>H3=G'∧ys.length=i∧bW H3 ys ((σ.ws.take i).map (·.w))) ⟨rfl,rfl,trivial⟩ (fun i ys G' _ z=>by rw [← z.1]; exact SqL.of w2') ?_ ?_ ?_⟩
 ·rintro i ys G' hi ⟨_,z,_⟩
  exact aC (by omega)
 ·rintro i y ys G' hy ⟨rfl,zl,al⟩
  obtain ⟨tw,hw,ta,wa',fa',rfl,h1,h2,h3⟩:=w3'.getL hy
  refine d_ ?_
  refine ⟨_,rfl,_,_,_,_,rfl,rfl,SqT.of (bJ _ _ h1),rfl,rfl,?_,?_⟩
  ·rw [List.length_append,zl]; rfl
  ·rw [aP hw,List.map_append]
   exact al.snoc (h2.mono bJ)
 rintro ys G' ⟨rfl,zl,al⟩ pw hpw
 rw [lw',List.take_length] at al
 have s4:=ah hpw (.lst ys)
 have k4:upd H3 pw (.lst ys) pw=some (.lst ys):=ae
 have S4:=S1.same s4
 have al4:=bW.mono s4 al
 have fr:=S1.fresh hpw
 have gpw:G pw=none:=S1.old.free hpw
 generalize upd H3 pw (.lst ys)=H4 at s4 k4 S4 al4 ⊢
 obtain ⟨kvs,f1,f2⟩:=S4.cl.feet
 have fl:=f2.len
 have hfa:H4 A.fa=some (.dK kvs):=S4.old _ _ f1
 have npf:pw≠A.fa:=fun z=>by rw [z,f1] at gpw; cases gpw
 have nos:∀ b ∈ A.os,b≠A.fa:=fun b hb z=>by have:=S4.fr b hb; rw [z,f1] at this; cases this
 refine ⟨_,rfl,_,_,_,_,_,rfl,S4.ins,T.aI.cl,T.eX,tN,A.fa,kvs,rfl,hfa,fun hz2 o2=>?_⟩
 have F1:∀ b,b≠A.fa→upd H4 A.fa (.frz o2 (.dK kvs)) b=H4 b:=fun b hb=>aj hb
 have F2:upd H4 A.fa (.frz o2 (.dK kvs)) A.fa=some (.frz o2 (.dK kvs)):=ae
 generalize upd H4 A.fa (.frz o2 (.dK kvs))=F at F1 F2 ⊢
 refine AY hz2 (fun i σ' H2=>∃ (us:List V) (v4:Option V),σ' = [some (.ref A.x),v1,v2,some (.ref pw),v4,none,none]∧H2=upd F pw (.lst us)∧bW H4 us (σ.ws.map (·.w)++(c.feet.take i).flatMap (·.2))∧us.length≤400+39 * i) ?_ ?_ ?_ ?_
 ·rintro i σ' H2 ⟨us,v4,rfl,rfl,_⟩
  rw [aj (Ne.symm npf)]
  exact F2
 ·refine ⟨ys,none,rfl,(A3 (by rw [F1 _ npf]; exact k4)).symm,?_,by omega⟩
  rw [List.take_zero,List.flatMap_nil,List.append_nil]
  exact al4
 ·rintro i ⟨fk,fv⟩ σ' H2 hq ⟨us,v4,rfl,rfl,al5,ul⟩
  obtain ⟨⟨fn,fw⟩,hf,e1,l,e2,l1,l2,l3⟩:=f2.get hq
  dsimp only at e2
  subst e2
  have hi:=(List.getElem?_eq_some_iff.mp hq).1
  have ff:=(so.fw _ (List.mem_of_getElem? hf)).1
  dsimp only at ff
  have ll:=l3.len
  dsimp only at ll
  have nl:l≠pw:=fun z=>by rw [z,gpw] at l2; cases l2
  have nlf:l≠A.fa:=fun z=>by rw [z,f1] at l2; cases l2
  have fle:=so.fl
  refine ⟨_,rfl,.inl ⟨rfl,_,SqL.of ae⟩,_,rfl,_,_,_,_,rfl,rfl,ae,(by rw [aj nl,F1 _ nlf]; exact S4.old _ _ l2),Nat.le_of_lt (Nat.lt_of_le_of_lt (show us.length+l1.length≤10000 by omega) (by decide)),?_⟩
  rw [zO]
  refine ⟨us++l1,_,rfl,rfl,?_,by rw [List.length_append]; omega⟩
  rw [aP hf,List.flatMap_append,← List.append_assoc]
  refine al5.app ?_
  rw [show List.flatMap (fun x:Str × List Wk=>x.2) [(fn,fw)]=fw from by simp]
  exact bW.mono S4.old l3
 rintro σ' H2 ⟨us,v4,rfl,rfl,al5,ul⟩
 rw [fl,List.take_length] at al5
 have T5:∀ {b xs},H4 b=some (.tup xs)→upd (upd F pw (.lst us)) A.fa (.dK kvs) b=some (.tup xs):=fun {b xs} h=>by
  have b1:b≠A.fa:=fun z=>by rw [z,hfa] at h; cases h
  have b2:b≠pw:=fun z=>by rw [z,k4] at h; cases h
  rw [aj b1,aj b2,F1 _ b1]
  exact h
 have s5:ao H3 (upd (upd F pw (.lst us)) A.fa (.dK kvs)):=fun b u h=>by
  have b2:b≠pw:=fun z=>by rw [z,hpw] at h; cases h
  by_cases b1:b=A.fa
  ·rw [b1,ae]
   have:=s4 _ _ h
   rw [b1,hfa] at this
   exact this
  ·rw [aj b1,aj b2,F1 _ b1]
   exact s4 _ _ h
 have k5:upd (upd F pw (.lst us)) A.fa (.dK kvs) pw=some (.lst us):=by rw [aj npf]; exact ae
 generalize upd (upd F pw (.lst us)) A.fa (.dK kvs)=H5 at T5 s5 k5 ⊢
 have S5:=S1.same s5
 have al6:bW H5 us (σ.ws.map (·.w)++c.feet.flatMap (·.2)):=al5.imp fun v w ⟨b,z1,z2⟩=>⟨b,z1,T5 z2⟩
 have l6:=al6.len
 have all:∀ w ∈ σ.ws.map (·.w)++c.feet.flatMap (·.2),fg w.1=true→∃ n:List Nat,n.length≤200∧(∀ d ∈ n,d < 127)∧w.2 = .str (tx n):=fun w hw hk=>by
  rcases List.mem_append.mp hw with hw | hw
  ·obtain ⟨t,ht,rfl⟩:=List.mem_map.mp hw
   rcases (ss.ws t ht).1 with ⟨z,_⟩ | ⟨z,_⟩ | ⟨_,h⟩
   ·rw [z] at hk; cases hk
   ·rw [z] at hk; cases hk
   ·exact h
  ·obtain ⟨p,hp,hw⟩:=List.mem_flatMap.mp hw
   rcases ((so.fw p hp).2 w hw).1 with ⟨_,h⟩ | ⟨z,_⟩
   ·exact h
   ·rw [z] at hk; cases hk
 have noA:(σ.ms.any fun m=>m.2=σ.ws.length)=false:=by
  rw [List.any_eq_false]
  intro m hm
  simpa using no m hm
 refine ⟨_,rfl,pw,rfl,⟨_,SqL.of k5⟩,bT (K:=K) (a:=pw) (xs:=us) (fun i σ' H2=>∃ (v5 v6:Option V),σ' = [some (.ref A.x),v1,v2,some (.ref pw),v4,v5,v6]∧H2=H5∧∀ w ∈ (σ.ws.map (·.w)++c.feet.flatMap (·.2)).take i,iy σ w=false) ⟨none,none,rfl,rfl,by simp⟩ (fun i σ' H2 _ g=>by obtain ⟨_,_,_,rfl,_⟩:=g; exact SqL.of k5) ?_ ?_⟩
 ·rintro i y σ' H2 hy ⟨v5,v6,rfl,rfl,nb⟩
  obtain ⟨⟨kd,vv⟩,hw,b,rfl,hb⟩:=al6.getL hy
  have gw:=all _ (List.mem_of_getElem? hw)
  dsimp only at gw
  have step:iy σ (kd,vv)=false→∀ w ∈ (σ.ws.map (·.w)++c.feet.flatMap (·.2)).take (i+1),iy σ w=false:=fun z=>by
   rw [aP hw]
   intro w hw
   rcases List.mem_append.mp hw with hw | hw
   ·exact nb w hw
   ·rw [List.mem_singleton.mp hw]; exact z
  refine ⟨b,_,rfl,SqT.of hb,rfl,_,_,rfl,_,_,rfl,rfl,?_⟩
  refine ⟨_,rfl,_,_,rfl,.inr (k_POINTING _),rfl,rfl,_,rfl,?_⟩
  rw [D6]
  by_cases hk:fg kd=true
  ·rw [hk]
   refine aT ?_
   obtain ⟨n,nl,nc,hn⟩:=gw hk
   ·subst hn
    refine ⟨_,rfl,_,rfl,_,_,_,_,_,rfl,S5.ins,T.aI.cl,T.ca,iD,_,_,rfl,dR.k (k:=.inr (tx n)) S5.marks,_,rfl,?_⟩
    rw [i_]
    cases hv:lkS (tx n) σ.ms with
    | none =>
     refine aT ?_
     refine ⟨⟨trivial,⟨n,rfl,by omega,nc⟩,trivial⟩,fun z=>⟨le1,qe .nomark ?_ _ S5.old⟩⟩
     unfold dL
     rw [if_neg (by rw [noA]; decide),if_pos]
     rw [List.any_eq_true]
     refine ⟨_,List.mem_of_getElem? hw,?_⟩
     show (fg kd && (lkS (tx n) σ.ms).isNone)=true
     rw [hk,hv]
     rfl
    | some k =>
     refine ay ?_
     refine ⟨_,_,rfl,rfl,step ?_⟩
     show (fg kd && (lkS (tx n) σ.ms).isNone)=false
     rw [hv]
     exact Bool.and_false _
  ·rw [Bool.not_eq_true] at hk
   rw [hk]
   refine ay ?_
   refine ay ?_
   refine ⟨_,_,rfl,rfl,step ?_⟩
   show (fg kd && _)=false
   rw [hk]
   rfl
 rintro σ' H2 ⟨v5,v6,rfl,rfl,nb⟩
 rw [l6,List.take_length] at nb
 refine q ?_ _ (s0.trans s5) S5
 unfold dL
 rw [if_neg (by rw [noA]; decide),if_neg]
 rw [Bool.not_eq_true,List.any_eq_false]
 intro w hw
 rw [nb w hw]
 decide
def pM (cls:Xc→Addr) (C:Addr) : Sp:=fun vs H Q E=>∃ (A:Sad) (G:Hp) (c:Sc) (σ:Ss) (n:List Nat),vs=[.ref A.x,.str (tx n)]∧StA C G H A c σ∧n.length≤200∧(∀ d ∈ n,d < 127)∧σ.ms.length≤1000000∧(∀ e,eQ σ (tx n) = .error e→∀ H',ao G H'→E (.ref (cls e)) none H')∧∀ σ' H',eQ σ (tx n) = .ok σ'→StA C G H' A c σ'→Q .non H'
theorem pN:aJ ["self","name"] ["self","name"] (av hJ):=by walk_at "c"
theorem pO (T:Txt P w K mg a) : aX P w K mg base (CXe P w) 1 a.ie a.gW ["self","name"] (pM (rn a.dM a.db a.cE a.de) a.ak):=by
 refine T.ia.fn.okE pN (fun vs H Q E h=>?_) (fun cdv A outer s H vs Q E hr h=>?_)
 ·obtain ⟨A,G,c,σ,n,rfl,_⟩:=h
  rfl
 obtain ⟨A,G,c,σ,n,rfl,S,nl,nc,ml,qe,q⟩:=h
 refine ⟨_,(af (aG (au (sJ (df hr)) (pv 1) (bC (pv 0) rfl) (by with_unfolding_all rfl)) (ag (jY rfl mG T.xX rfl (aa (mH (dJ jl (dJ (qA (pv 1)) (dJ jl oY)))) ac))) aE)
   (ag (tE (df hr) (bC (pv 0) rfl) (pv 1) (aK bD rfl T.bS PySem.boot_len (aa (bC (pv 0) rfl) ac)) rfl))),?_⟩
 obtain ⟨wvs,w2,w3⟩:=S.words
 have lw:=w3.len
 refine ⟨_,rfl,_,rfl,_,_,_,_,_,rfl,S.ins,T.aI.cl,T.ca,iD,_,_,rfl,dR.k (k:=.inr (tx n)) S.marks,_,rfl,?_⟩
 rw [i_]
 cases hv:lkS (tx n) σ.ms with
 | some k =>
  refine aT ?_
  exact ⟨⟨trivial,⟨n,rfl,by omega,nc⟩,trivial,trivial⟩,fun z=>⟨le1,qe .twice (by unfold eQ; rw [hv]; rfl) H S.old⟩⟩
 | none =>
  refine ay ?_
  dsimp only [cX]
  refine ⟨_,rfl,_,_,_,_,_,rfl,S.ins,T.aI.cl,T.cr,i9,_,_,rfl,.inl (SqL.of w2),_,rfl,_,_,_,_,_,rfl,S.ins,T.aI.cl,T.ca,iD,_,rfl,_,_,rfl,rb.k (k:=.inr (tx n)) S.marks (by rw [tP]; exact Nat.lt_of_le_of_lt ml (by decide)),?_⟩
  rw [q_ _ (by rw [i_,hv]; rfl),lw,← A1]
  exact q _ _ (by unfold eQ; rw [hv]; rfl) (S.mark (tx n) σ.ws.length)
def uN:Sp:=fun vs H Q _=>∃ n:Nat,vs=[.int (n:Int)]∧n < 10 ^ 100∧Q (.str (tx (fP n))) H
theorem uO:aJ ["number"] ["number"] (av ki):=by walk_at "c"
theorem uP (T:Txt P w K mg a) : aX P w K mg base CX0 1 a.kL a.jB ["number"] uN:=by
 refine T.kE.fn.ok uO (fun vs H Q E h=>?_) (fun cdv A outer s H vs Q E hr h=>?_)
 ·obtain ⟨n,rfl,_⟩:=h
  rfl
 obtain ⟨n,rfl,hn,q⟩:=h
 refine ⟨_,(ag (aF (jj oQ rfl T.iV PyProof.Rows.boot_str (aa (pv 0) ac)))),?_⟩
 refine ⟨_,rfl,_,rfl,uq hn,?_⟩
 have e:=vV n
 exact Eq.mpr (congrArg (fun z=>Q (.str z) H) e) q
def ou (cls:Xc→Addr) (C:Addr) : Sp:=fun vs H Q E=>∃ (A:Sad) (G:Hp) (c:Sc) (σ:Ss) (n:List Nat),vs=[.ref A.x,.str (tx n)]∧StA C G H A c σ∧tQ c∧n.length≤200∧(∀ d ∈ n,d < 127)∧σ.fs≤1000∧(∀ e,gv c σ (tx n) = .error e→∀ H',ao G H'→E (.ref (cls e)) none H')∧∀ σ' f H' p,gv c σ (tx n) = .ok (σ',f)→StA C G H' A c σ'→H p=none→cg H' p f→Q (.ref p) H'
theorem ox:aJ ["self","name"] ["self","name"] (av gx):=by walk_at "c"
theorem oy (T:Txt P w K mg a) : aX P w K mg base (CXe P w) 2 a.gQ a.gg ["self","name"] (ou (rn a.dM a.db a.cE a.de) a.ak):=by
 refine T.gK.fn.okE ox (fun vs H Q E h=>?_) (fun cdv A outer s H vs Q E hr h=>?_)
 ·obtain ⟨A,G,c,σ,n,rfl,_⟩:=h
  rfl
 obtain ⟨A,G,c,σ,n,rfl,S,so,nl,nc,ml,qe,q⟩:=h
 refine ⟨_,(af (aG (au (jt (df hr)) (pv 1) (bC (pv 0) rfl) (by with_unfolding_all rfl)) (ag (jY rfl mG T.xg rfl (aa (mH (dJ jl (dJ (qA (pv 1)) oY))) ac))) aE)
   (af (cM (pv 0) (aO b_ (bC (pv 0) rfl) ai) rfl)
   (ag (aF (aO mD (aY (aa (aS (aa aq (aa (aO cy (aO cy aq (aB T.kE (uP T) (hr.mono (by decide)) rfl (aa (bC (pv 0) rfl) ac))) aq) ac))) ac)) (i4 (df hr) (bC (pv 0) rfl) (pv 1) (fun _ _=>rfl))))))),?_⟩
 obtain ⟨kvs,f2,f3⟩:=S.cl.feet
 refine ⟨_,rfl,_,rfl,_,_,_,_,_,rfl,S.ins,T.aI.cl,T.eX,tN,_,_,rfl,dR.k (k:=.inr (tx n)) (S.old _ _ f2),_,rfl,?_⟩
 obtain ⟨v1,v2⟩:=FtA.val (n:=tx n) f3
 cases hv:lkS (tx n) c.feet with
 | none =>
  rw [v1 hv]
  refine aT ?_
  exact ⟨⟨trivial,⟨n,rfl,by omega,nc⟩,trivial⟩,fun z=>⟨le1,qe .nofoot (by unfold gv; rw [hv]) H S.old⟩⟩
 | some f =>
  obtain ⟨l,e,hl⟩:=v2 f hv
  rw [e]
  refine ay ?_
  dsimp only [cX]
  refine ⟨_,rfl,_,_,_,_,_,rfl,S.ins,T.aI.cl,T.dt,qS,_,_,rfl,rfl,_,rfl,_,_,_,_,rfl,S.ins,T.aI.cl,T.dt,tO,?_⟩
  rw [uI]
  have S1:StA a.ak G (upd H A.x (.ins a.ak A.dx (fsS A ((σ.fs:Int)+1) σ.lp σ.bh))) A c { σ with fs:=σ.fs+1 }:=S.flds (σ.fs+1) σ.lp σ.bh
  have hfr:∀ p,upd H A.x (.ins a.ak A.dx (fsS A ((σ.fs:Int)+1) σ.lp σ.bh)) p=none→H p=none:=fun p hp=>by
   by_cases z:p=A.x
   ·rw [z,ae] at hp; cases hp
   ·rw [aj z] at hp; exact hp
  generalize upd H A.x (.ins a.ak A.dx (fsS A ((σ.fs:Int)+1) σ.lp σ.bh))=H1 at S1 hfr ⊢
  have cL:(PySem.Str.ofString "(")=tx [40]:=by decide +kernel
  have cR:(PySem.Str.ofString ")")=tx [41]:=by decide +kernel
  have fl:(fP (σ.fs+1)).length≤5:=rh 4 _ (by omega)
  refine ⟨_,rfl,_,_,_,_,_,rfl,S1.ins,T.aI.cl,T.dt,qS,σ.fs+1,rfl,Nat.lt_of_le_of_lt (show σ.fs+1≤1001 by omega) (by decide +kernel),_,_,rfl,rfl,(by rw [cL,aQ,aQ]; exact Nat.le_of_lt (aC (by simp only [List.length_cons,List.length_nil]; omega))),_,_,rfl,rfl,(by rw [cL,cR,dB,aQ,aQ]; exact Nat.le_of_lt (aC (by simp only [List.length_append,List.length_cons,List.length_nil]; omega))),le2,fun p1 hp1=>?_⟩
  have s1:=ah hp1 (.tup [.str "plain",.str (gu (σ.fs+1))])
  have k1:upd H1 p1 (.tup [.str "plain",.str (gu (σ.fs+1))]) p1=some (.tup [.str "plain",.str (gu (σ.fs+1))]):=ae
  have S2:=S1.same s1
  refine ⟨le1,fun p2 hp2=>?_⟩
  change upd H1 p1 (.tup [.str "plain",.str (gu (σ.fs+1))]) p2=none at hp2
  have s2:=ah hp2 (.lst [.ref p1])
  have k2:upd (upd H1 p1 (.tup [.str "plain",.str (gu (σ.fs+1))])) p2 (.lst [.ref p1]) p2=some (.lst [.ref p1]):=ae
  have k1':=s2 _ _ k1
  have S3:=S2.same s2
  have hfr3:=fun (p:Addr) hp=>hfr p ((s1.trans s2).free hp)
  obtain ⟨fv,g1,g2⟩:=hl.mono S3.old
  have lf:=g2.len
  have ff:=(so.fw (tx n,f) (jT hv)).1
  have hg:dR (upd (upd H1 p1 (.tup [.str "plain",.str (gu (σ.fs+1))])) p2 (.lst [.ref p1])) A.fa (kV (.inr (tx n))) (some (.ref l)):=by rw [← e]; exact dR.k (S3.old _ _ f2)
  refine ⟨_,rfl,_,_,_,_,_,rfl,S3.ins,T.aI.cl,T.eX,tN,_,rfl,_,_,rfl,hg,_,_,_,_,rfl,rfl,k2,g1,(by show 1+fv.length≤_; rw [lf]; exact Nat.le_of_lt (aC (by dsimp only at ff; omega))),fun p3 hp3=>?_⟩
  have s3:=ah hp3 (.lst ([.ref p1]++fv))
  exact q { σ with fs:=σ.fs+1 } ((.plain,.str (gu (σ.fs+1))) :: f) _ p3 (by unfold gv; rw [hv]) (S3.same s3) (hfr3 p3 hp3) ⟨_,ae,show bW _ (.ref p1 :: fv) ((.plain,.str (gu (σ.fs+1))) :: f) from ⟨⟨p1,rfl,s3 _ _ k1'⟩,bW.mono s3 g2⟩⟩
def pP (cls:Xc→Addr) (C:Addr) : Sp:=fun vs H Q E=>∃ (A:Sad) (G:Hp) (c:Sc) (σ:Ss) (lead:Int) (w:Addr) (wk:Wk),vs=[.ref A.x,.int lead,.ref w]∧StA C G H A c σ∧tQ c∧WkA H (.ref w) wk∧GWk wk∧σ.ws.length≤400∧σ.fs≤σ.ws.length∧(∀ e,cB c σ lead wk = .error e→∀ H',ao G H'→E (.ref (cls e)) none H')∧∀ σ' H',cB c σ lead wk = .ok σ'→StA C G H' A c σ'→Q .non H'
theorem dj:aJ ["self","lead","word","foot"] ["self","lead","word"] (av hU):=by walk_at "c"
theorem pQ (T:Txt P w K mg a) : aX P w K mg base (CXe P w) 3 a.ig a.gX ["self","lead","word"] (pP (rn a.dM a.db a.cE a.de) a.ak):=by
 have bu:=T.bu
 obtain ⟨t_MOST_WORDS_books,bu⟩:=bu
 refine T.ib.fn.okE dj (fun vs H Q E h=>?_) (fun cdv A outer s H vs Q E hr h=>?_)
 ·obtain ⟨A,G,c,σ,lead,w,wk,rfl,_⟩:=h
  rfl
 obtain ⟨A,G,c,σ,lead,w,wk,rfl,S,so,hw,gw,wl,fl,qe,q⟩:=h
 refine ⟨_,(af (aA (i:=3) dj.nd rfl (Or.inl rfl) (aY ac))
   (af (aG (au a_ (aD aN (pv 2) ai (fun _ _=>rfl)) aq (nomark _)) (af (aA (i:=3) dj.nd rfl (Or.inl rfl) (dF i6 T.aI T.gK (oy T) (hr.mono (by decide)) (pv 0) (aa (aD aN (pv 2) ai (fun _ _=>rfl)) ac)))
   (ag (aA (i:=2) dj.nd rfl (Or.inl rfl) (aD bU (pv 3) ai (fun _ _=>rfl))))) aE)
   (af (aG (au a_ (aK bD rfl T.bS PySem.boot_len (aa (bC (pv 0) rfl) ac)) (cS (v:=.int 400) rfl bu ⟨_,rfl⟩) (nomark _)) (ag (jY rfl mG T.uE rfl (aa (mH (dJ jl (dJ (C0 (cS (v:=.int 400) rfl bu ⟨_,rfl⟩)) (dJ jl oY)))) ac))) aE)
   (af (aG (au jJ (bC (pv 0) rfl) ai (nomark _)) (af (aA (i:=1) dj.nd rfl (Or.inl rfl) (bC (pv 0) rfl))
   (ag (cM (pv 0) ai rfl))) aE)
   (ag (bj (cH PySem.F.plainAttrs_list PySem.F.slot_list_append PySem.F.type_list_append cf (bC (pv 0) rfl) (aa (aS (aa (pv 1) (aa (jW (bC (pv 0) rfl) (jV (eI xZ (pv 1) ai (nomark _)))) (aa (pv 2) (aa (pv 3) ac))))) ac)))))))),?_⟩
 refine ⟨aW (by simp),fun p1 hp1=>?_⟩
 have n1:p1≠A.wa:=fun z=>by obtain ⟨_,w2,_⟩:=S.words; rw [z,w2] at hp1; cases hp1
 have n2:p1≠A.ha:=fun z=>by obtain ⟨_,w2,_⟩:=S.heads; rw [z,w2] at hp1; cases hp1
 have s1:=ah hp1 (.lst [])
 have k1:upd H p1 (.lst []) p1=some (.lst []):=ae
 have S1:=S.same s1
 generalize upd H p1 (.lst [])=H1 at s1 k1 S1 ⊢
 have hw1:=hw.mono s1
 dsimp only [bv]
 refine c_ (fun σ' H'=>∃ (w' p:Addr) (wk':Wk) (f:List Wk) (σ1:Ss),σ' = [some (.ref A.x),some (.int lead),some (.ref w'),some (.ref p)]∧StA a.ak G H' A c σ1∧WkA H' (.ref w') wk'∧cg H' p f∧p≠A.wa∧p≠A.ha∧cB c σ lead wk=iu σ1 lead wk' f∧σ1.ws=σ.ws) ?_ (fun key=>?_)
 ·rintro σ' H2 ⟨w',p,wk',f,σ1,rfl,S2,hw2,hp2,m1,m2,e,ew⟩
  obtain ⟨wvs,w2,w3⟩:=S2.words
  have lw:=w3.len
  rw [ew] at lw
  refine ⟨_,rfl,_,_,_,_,_,rfl,S2.ins,T.aI.cl,T.cr,i9,_,_,rfl,.inl (SqL.of w2),rfl,_,rfl,?_⟩
  refine dX (fun c1=>?_) (fun c1=>?_)
  ·have c2:wvs.length=400:=by have:=of_decide_eq_true c1; injection this with this; omega
   exact ⟨⟨trivial,trivial,trivial,trivial⟩,fun z=>⟨le1,qe .toolong (by rw [e]; unfold iu; rw [ew,if_pos (by omega)]) H2 S2.old⟩⟩
  have c2:¬ (wvs.length=400):=fun z=>c1 (decide_eq_true (by rw [z]; rfl))
  dsimp only [cX]
  refine c_ (fun σ' H'=>σ' = [some (.ref A.x),some (.int (if 0 < σ1.lp then σ1.lp else lead)),some (.ref w'),some (.ref p)]∧StA a.ak G H' A c { σ1 with lp:=if 0 < σ1.lp then 0 else σ1.lp }∧WkA H' (.ref w') wk'∧cg H' p f∧H' A.wa=some (.lst wvs)) ?_ (fun key=>?_)
  ·rintro σ' H3 ⟨rfl,S3,hw3,hp3,w23⟩
   generalize hld:(if 0 < σ1.lp then σ1.lp else lead)=ld
   have go:∀ (b:Bool),b=(σ1.bh && decide (ld≤2))→∀ p2,H3 p2=none→StA a.ak G (upd (upd H3 p2 (.tup [.int ld,.bl b,.ref w',.ref p])) A.wa (.lst (wvs++[.ref p2]))) A c { σ1 with lp:=if 0 < σ1.lp then 0 else σ1.lp,ws:=σ1.ws++[⟨ld,σ1.bh && decide (ld≤2),wk',f⟩] }:=fun b hb p2 hp2=>by
    have s3:=ah hp2 (.tup [.int ld,.bl b,.ref w',.ref p])
    exact (S3.same s3).word (t:=⟨ld,σ1.bh && decide (ld≤2),wk',f⟩) (s3 _ _ w23) rfl (by rw [← hb]; exact ae) (hw3.mono s3) (hp3.mono s3) m1 m2
   have fin:cB c σ lead wk = .ok { σ1 with lp:=if 0 < σ1.lp then 0 else σ1.lp,ws:=σ1.ws++[⟨ld,σ1.bh && decide (ld≤2),wk',f⟩] }:=by
    rw [e]; unfold iu; rw [if_neg (by rw [ew]; omega),hld]
   refine ⟨_,rfl,_,_,_,_,_,rfl,S3.ins,T.aI.cl,T.cr,i9,.inl ⟨rfl,_,SqL.of w23⟩,_,rfl,_,rfl,_,_,_,_,_,rfl,S3.ins,T.aI.cl,T.cG,mK,_,rfl,?_⟩
   have wf:wvs.length < sizeLine:=aC (by omega)
   cases hb:σ1.bh with
   | true =>
    refine aT ?_
    refine ⟨_,rfl,_,_,rfl,rfl,_,rfl,_,rfl,le4,fun p2 hp2=>?_⟩
    have s3:=ah hp2 (.tup [.int ld,.bl (decide (ld≤2)),.ref w',.ref p])
    refine ⟨_,_,_,rfl,rfl,s3 _ _ w23,wf,?_⟩
    exact q _ _ fin (go _ (by rw [hb]; rfl) p2 hp2)
   | false =>
    refine ay ?_
    refine ⟨_,rfl,_,rfl,le4,fun p2 hp2=>?_⟩
    have s3:=ah hp2 (.tup [.int ld,.bl false,.ref w',.ref p])
    refine ⟨_,_,_,rfl,rfl,s3 _ _ w23,wf,?_⟩
    exact q _ _ fin (go _ (by rw [hb]; rfl) p2 hp2)
  ·refine ⟨_,rfl,_,_,_,_,_,rfl,S2.ins,T.aI.cl,T.eY,xK,_,_,rfl,rfl,_,rfl,?_⟩
   by_cases hl:0 < σ1.lp
   ·rw [decide_eq_true (show σ1.lp > 0 from hl)]
    refine aT ?_
    refine ⟨_,rfl,_,_,_,_,_,rfl,S2.ins,T.aI.cl,T.eY,xK,?_⟩
    refine ⟨_,rfl,_,_,_,_,rfl,S2.ins,T.aI.cl,T.eY,tO,?_⟩
    rw [zM]
    have S3:=S2.flds σ1.fs 0 σ1.bh
    obtain ⟨e1,e2,e3,e4,e5⟩:=S2.nes
    have tup:∀ {b us},H2 b=some (.tup us)→upd H2 A.x (.ins a.ak A.dx (fsS A (σ1.fs:Int) 0 σ1.bh)) b=some (.tup us):=fun {b us} h=>by rw [aj (fun z=>S2.nt b (by rw [z]; exact A2) us h)]; exact h
    have lsx:∀ {b us},H2 b=some (.lst us)→upd H2 A.x (.ins a.ak A.dx (fsS A (σ1.fs:Int) 0 σ1.bh)) b=some (.lst us):=fun {b us} h=>by rw [aj (fun z=>by rw [z,S2.ins] at h; cases h)]; exact h
    refine key _ _ ⟨by rw [if_pos hl]; rfl,by rw [if_pos hl]; exact S3,?_,?_,lsx w2⟩
    ·obtain ⟨b,z1,z2⟩:=hw2
     exact ⟨b,z1,tup z2⟩
    ·obtain ⟨us,z1,z2⟩:=hp2
     exact ⟨us,lsx z1,z2.imp fun v w ⟨b,y1,y2⟩=>⟨b,y1,tup y2⟩⟩
   ·rw [decide_eq_false (show ¬ (σ1.lp > 0) from hl)]
    refine ay ?_
    refine key _ _ ⟨by rw [if_neg hl],by rw [if_neg hl]; exact S2,hw2,hp2,w2⟩
 ·obtain ⟨wb,e1,hb⟩:=hw1
  injection e1 with e1
  subst e1
  refine ⟨_,rfl,_,_,_,_,rfl,rfl,SqT.of hb,rfl,rfl,_,rfl,?_⟩
  by_cases hk:wk.1 = .foot
  ·rw [decide_eq_true (by rw [hk]; rfl)]
   refine aT ?_
   obtain ⟨_,n,nl,nc,hn⟩ | ⟨z,_⟩:=gw
   ·rw [hn] at hb
    refine ⟨_,rfl,_,_,_,rfl,S1.ins,jZ (by decide +kernel),_,rfl,_,_,_,_,rfl,rfl,SqT.of hb,rfl,?_⟩
    have hr_:a9 wk.2=tx n:=by rw [hn]; rfl
    have ew:cB c σ lead wk=(match gv c σ (tx n) with | .error x=>.error x | .ok (s',f)=>iu s' lead (f.headD wk) f):=by
     unfold cB
     rw [if_pos hk,hr_]
     first | done | (cases gv c σ (tx n) <;> rfl)
    refine ⟨A,G,c,σ,n,rfl,S1,so,nl,nc,by omega,fun e he H' s'=>qe e (by rw [ew,he]) H' s',fun σ' f H2 p he S2 hp hf=>?_⟩
    rw [he] at ew
    dsimp only [bv]
    have hws:σ'.ws=σ.ws∧∃ x r,f=x :: r:=by
     unfold gv at he
     cases hv:lkS (tx n) c.feet with
     | none=>rw [hv] at he; cases he
     | some g=>rw [hv] at he; cases he; exact ⟨rfl,_,_,rfl⟩
    obtain ⟨hws,x,r,rfl⟩:=hws
    obtain ⟨us,u1,u2⟩:=hf
    match us,u2 with
    | u :: us,⟨⟨b,z1,z2⟩,u3⟩ =>
    subst z1
    refine ⟨_,rfl,_,_,_,_,rfl,rfl,SqL.of u1,i5 _ _,?_⟩
    refine key _ _ ⟨b,p,x,x :: r,σ',rfl,S2,⟨b,rfl,z2⟩,⟨_,u1,⟨b,rfl,z2⟩,u3⟩,?_,?_,ew,hws⟩
    ·exact fun z=>by obtain ⟨_,w2,_⟩:=S1.words; rw [z,w2] at hp; cases hp
    ·exact fun z=>by obtain ⟨_,w2,_⟩:=S1.heads; rw [z,w2] at hp; cases hp
   ·rw [hk] at z; cases z
  ·have nk:¬ (V.str wk.1.s=V.str "foot"):=fun z=>hk (Kw.inj (b:=.foot) (V.str.inj z))
   rw [decide_eq_false nk]
   refine ay ?_
   refine key _ _ ⟨w,p1,wk,[],σ,rfl,S1,⟨w,rfl,hb⟩,⟨[],k1,trivial⟩,n1,n2,?_,rfl⟩
   unfold cB
   rw [if_neg hk]
def qJ (cls:Xc→Addr) (C:Addr) : Sp:=fun vs H Q E=>∃ (A:Sad) (G:Hp) (c:Sc) (σ:Ss) (lead:Int) (la:Addr) (byh:Bool) (ws:List Wk),vs=[.ref A.x,.int lead,.ref la,.bl byh]∧StA C G H A c σ∧tQ c∧cg G la ws∧(∀ w ∈ ws,GWk w)∧ws.length≤600∧Bd σ ws.length∧(∀ e,cQ c σ lead byh ws = .error e→∀ H',ao G H'→E (.ref (cls e)) none H')∧∀ σ' H',cQ c σ lead byh ws = .ok σ'→StA C G H' A c σ'→Q .non H'
theorem hZ:aJ ["self","lead","words","by_head","word"] ["self","lead","words","by_head"] (av iF):=by walk_at "c"
theorem jG (T:Txt P w K mg a) : aX P w K mg base (CXe P w) 4 a.iH a.ii ["self","lead","words","by_head"] (qJ (rn a.dM a.db a.cE a.de) a.ak):=by
 refine T.fA.fn.okE hZ (fun vs H Q E h=>?_) (fun cdv A outer s H vs Q E hr h=>?_)
 ·obtain ⟨A,G,c,σ,lead,la,byh,ws,rfl,_⟩:=h
  rfl
 obtain ⟨A,G,c,σ,lead,la,byh,ws,rfl,S,so,hl,gw,wl,bd,qe,q⟩:=h
 refine ⟨_,(ag (b9 PassesOwn.leaving rfl (a7 (pv 2)) (aM (i:=4) hZ.nd rfl (Or.inl rfl)) (ag (aG (au a_ (aD aN (pv 4) ai (fun _ _=>rfl)) aq (nomark _)) (ag (bj (dF i6 T.aI T.ia (pO T) (hr.mono (by decide)) (pv 0) (aa (aD aN (pv 4) ai (fun _ _=>rfl)) ac)))) (af (bj (dF i6 T.aI T.ib (pQ T) (hr.mono (by decide)) (pv 0) (aa (pv 1) (aa (pv 4) ac))))
   (af (cM (pv 0) (pv 3) rfl)
   (ag (aA (i:=1) hZ.nd rfl (Or.inl rfl) ai)))))))),?_⟩
 obtain ⟨us,l1,l2⟩:=hl
 have lu:=l2.len
 refine ⟨_,rfl,la,rfl,⟨_,SqL.of (S.old _ _ l1)⟩,bT (K:=K) (a:=la) (xs:=us) (fun i σ' H2=>∃ (vw:Option V) (ld:Int) (σ1:Ss),σ' = [some (.ref A.x),some (.int ld),some (.ref la),some (.bl byh),vw]∧StA a.ak G H2 A c σ1∧cQ c σ lead byh ws=cQ c σ1 ld byh (ws.drop i)∧Bd σ1 (ws.length - i)) ⟨none,lead,σ,rfl,S,rfl,bd⟩ (fun i σ' H2 _ g=>by obtain ⟨_,_,_,_,S1,_⟩:=g; exact SqL.of (S1.old _ _ l1)) ?_ ?_⟩
 ·rintro i y σ' H2 hy ⟨vw,ld,σ1,rfl,S1,er,b1⟩
  obtain ⟨w,hw,wb,rfl,hb⟩:=l2.getL hy
  have hi:=(List.getElem?_eq_some_iff.mp hw).1
  have gww:=gw w (List.mem_of_getElem? hw)
  have ed:ws.drop i=w :: ws.drop (i+1):=by
   obtain ⟨hi,e⟩:=List.getElem?_eq_some_iff.mp hw
   rw [List.drop_eq_getElem_cons hi,e]
  have hb2:=S1.old _ _ hb
  rw [ed] at er
  refine ⟨_,rfl,_,_,_,_,rfl,rfl,SqT.of hb2,rfl,rfl,_,rfl,?_⟩
  by_cases hk:w.1 = .mark
  ·rw [decide_eq_true (by rw [hk]; rfl)]
   refine aT ?_
   have er2:cQ c σ1 ld byh (w :: ws.drop (i+1))=(match eQ σ1 (a9 w.2) with | .error x=>.error x | .ok s'=>cQ c s' ld byh (ws.drop (i+1))):=by
    show (if w.1 = .mark then _ else _)=_
    rw [if_pos hk]
    first | done | (cases eQ σ1 (a9 w.2) <;> rfl)
   obtain ⟨_,n,nl,nc,hn⟩ | ⟨z,_⟩:=gww
   ·rw [hn] at hb2
    have hr_:a9 w.2=tx n:=by rw [hn]; rfl
    rw [hr_] at er2
    refine ⟨_,rfl,_,_,_,rfl,S1.ins,jZ (by decide +kernel),_,rfl,_,_,_,_,rfl,rfl,SqT.of hb2,rfl,?_⟩
    refine ⟨A,G,c,σ1,n,rfl,S1,nl,nc,(by have:=b1.ms; omega),fun e he H' s'=>?_,fun σ2 H3 he S2=>?_⟩
    ·refine qe e ?_ H' s'
     rw [er,er2,he]
    ·rw [he] at er2
     have hs2:σ2.ws=σ1.ws∧σ2.fs=σ1.fs∧σ2.ms.length=σ1.ms.length+1:=by
      unfold eQ at he
      by_cases z:(lkS (tx n) σ1.ms).isSome=true
      ·rw [if_pos z] at he; cases he
      ·rw [if_neg z] at he; cases he; exact ⟨rfl,rfl,by simp⟩
     exact ⟨_,ld,σ2,rfl,S2,er.trans er2,⟨by rw [hs2.1]; exact b1.ws,by rw [hs2.1,hs2.2.1]; exact b1.fs,by rw [hs2.2.2]; have:=b1.ms; omega⟩⟩
   ·rw [hk] at z; cases z
  ·have nk:¬ (V.str w.1.s=V.str "mark"):=fun z=>hk (Kw.inj (b:=.mark) (V.str.inj z))
   rw [decide_eq_false nk]
   refine ay ?_
   have er2:cQ c σ1 ld byh (w :: ws.drop (i+1))=(match cB c σ1 ld w with | .error x=>.error x | .ok s'=>cQ c { s' with bh:=byh } 0 byh (ws.drop (i+1))):=by
    show (if w.1 = .mark then _ else _)=_
    rw [if_neg hk]
    first | done | (cases cB c σ1 ld w <;> rfl)
   refine ⟨_,rfl,_,_,_,rfl,S1.ins,jZ (by decide +kernel),_,rfl,_,rfl,?_⟩
   refine ⟨A,G,c,σ1,ld,wb,w,rfl,S1,so,⟨wb,rfl,hb2⟩,gww,b1.ws,b1.fs,fun e he H' s'=>qe e (by rw [er,er2,he]) H' s',fun σ2 H3 he S2=>?_⟩
   rw [he] at er2
   have b2:=zN he
   refine ⟨_,rfl,_,rfl,_,_,_,_,rfl,S2.ins,T.aI.cl,T.cG,tO,?_⟩
   rw [rm]
   exact ⟨_,0,_,rfl,S2.flds σ2.fs σ2.lp byh,er.trans er2,⟨by show σ2.ws.length≤400; have:=b1.ws; omega,by show σ2.fs≤σ2.ws.length; have:=b1.fs; omega,by show σ2.ms.length+_≤_; rw [b2.2.2.2]; have:=b1.ms; omega⟩⟩
 rintro σ' H2 ⟨vw,ld,σ1,rfl,S1,er,b1⟩
 rw [lu,List.drop_length] at er
 exact q _ _ er S1

def ES (c:Sc) (σ:Ss) : Tg→Prop
 | .head _ _=>σ.hs.length < c.nums.length
 | .par ws=>(∀ w ∈ ws,GWk w)∧ws.length≤600
 | _=>True

def oz (cls:Xc→Addr) (C:Addr) : Sp:=fun vs H Q E=>∃ (A:Sad) (G:Hp) (c:Sc) (σ:Ss) (v:V) (ws:List Wk),vs=[.ref A.x,v]∧StA C G H A c σ∧tQ c∧TgA G v (.par ws)∧ES c σ (.par ws)∧σ.hs.length≤1000∧Bd σ 600∧(∀ e,gZ c σ (.par ws) = .error e→∀ H',ao G H'→E (.ref (cls e)) none H')∧∀ σ' H',gZ c σ (.par ws) = .ok σ'→StA C G H' A c σ'→Q .non H'
theorem iW:aJ ["self","thing","kind"] ["self","thing"] (av gy):=by walk_at "c"
theorem oA (T:Txt P w K mg a) : aX P w K mg base (CXe P w) 5 a.gT a.gj ["self","thing"] (oz (rn a.dM a.db a.cE a.de) a.ak):=by
 have fL:=T.fL
 obtain ⟨fL,k_LEAPS⟩:=fL
 refine T.gM.fn.okE iW (fun vs H Q E h=>?_) (fun cdv A outer s H vs Q E hr h=>?_)
 ·obtain ⟨A,G,c,σ,v,ws,rfl,_⟩:=h
  rfl
 obtain ⟨A,G,c,σ,v,ws,rfl,S,so,tg,ok,hl,bd,qe,q⟩:=h
 refine ⟨_,(af (aA (i:=2) iW.nd rfl (Or.inl rfl) (aD aN (pv 1) ai (fun _ _=>rfl)))
   (ag (aG (au uo (pv 2) (cS (v:=.ref a.fI) rfl fL rfl) (by with_unfolding_all rfl)) di (ag (aG (au a_ (pv 2) aq (nomark _)) di (ag (aG (au a_ (pv 2) aq (nomark _)) di (ag (aG (b8 (bC (pv 0) rfl) (fun _=>rfl)) (ag (bj (dF i6 T.aI T.fA (jG T) (hr.mono (by decide)) (pv 0) (aa ai (aa (aD aN (pv 1) ai (fun _ _=>rfl)) (aa cW ac)))))) (ag (bj (dF i6 T.aI T.fA (jG T) (hr.mono (by decide)) (pv 0) (aa ai (aa (aD aN (pv 1) ai (fun _ _=>rfl)) (aa cW ac))))))))))))))),?_⟩
 have L0:∀ s:Str,¬ (s = "page")→¬ (s = "odd")→cN sV (.inr s)=none:=fun s h1 h2=>by
  unfold sV
  rw [dQ (fun z=>h1 (by injection z with z; exact z.symm)),dQ (fun z=>h2 (by injection z with z; exact z.symm))]
  rfl
 obtain ⟨b,l,rfl,hb,hl2⟩:=tg
 refine ⟨_,rfl,_,_,_,_,rfl,rfl,SqT.of (S.old _ _ hb),rfl,?_⟩
 refine ⟨_,rfl,a.fI,sV,.inr "paragraph",rfl,k_LEAPS,rfl,_,rfl,?_⟩
 rw [L0 _ (by decide +kernel) (by decide +kernel)]
 refine ay ?_
 refine ⟨_,rfl,rfl,_,rfl,?_⟩
 rw [decide_eq_false (fun z=>absurd (V.str.inj z) (by decide +kernel))]
 refine ay ?_
 refine ⟨_,rfl,rfl,_,rfl,?_⟩
 rw [decide_eq_false (fun z=>absurd (V.str.inj z) (by decide +kernel))]
 refine ay ?_
 refine ⟨_,rfl,_,_,_,_,_,rfl,S.ins,T.aI.cl,T.cG,mK,_,rfl,?_⟩
 have bd3:Bd σ ws.length:=⟨bd.ws,bd.fs,by have:=bd.ms; have:=ok.2; omega⟩
 cases hb2:σ.bh with
 | true =>
  refine aT ?_
  have e0:gZ c σ (.par ws)=cQ c σ 1 false ws:=by show cQ c σ (if σ.bh then 1 else 2) false ws=_; rw [hb2]; rfl
  exact ⟨_,rfl,_,_,_,rfl,S.ins,jZ (by decide +kernel),_,rfl,_,_,_,_,rfl,rfl,SqT.of (S.old _ _ hb),rfl,A,G,c,σ,1,l,false,ws,rfl,S,so,hl2,ok.1,ok.2,bd3,fun e he H' s'=>qe e (by rw [e0]; exact he) H' s',fun σ' H' he S'=>q σ' H' (by rw [e0]; exact he) S'⟩
 | false =>
  refine ay ?_
  have e0:gZ c σ (.par ws)=cQ c σ 2 false ws:=by show cQ c σ (if σ.bh then 1 else 2) false ws=_; rw [hb2]; rfl
  exact ⟨_,rfl,_,_,_,rfl,S.ins,jZ (by decide +kernel),_,rfl,_,_,_,_,rfl,rfl,SqT.of (S.old _ _ hb),rfl,A,G,c,σ,2,l,false,ws,rfl,S,so,hl2,ok.1,ok.2,bd3,fun e he H' s'=>qe e (by rw [e0]; exact he) H' s',fun σ' H' he S'=>q σ' H' (by rw [e0]; exact he) S'⟩
def oB (C:Addr) : Sp:=fun vs H Q _=>∃ (A:Sad) (G:Hp) (c:Sc) (σ:Ss) (k:Nat),vs=[.ref A.x,.int (k:Int)]∧StA C G H A c σ∧Q (.str (fh k "0" σ.hs)) H
theorem cZ:aJ ["self","k","number","text","at"] ["self","k"] (av gz):=by walk_at "c"
theorem oC (T:Txt P w K mg a) : aX P w K mg base CX0 1 a.gR a.gh ["self","k"] (oB a.ak):=by
 refine T.gL.fn.ok cZ (fun vs H Q E h=>?_) (fun cdv A outer s H vs Q E hr h=>?_)
 ·obtain ⟨A,G,c,σ,k,rfl,_⟩:=h
  rfl
 obtain ⟨A,G,c,σ,k,rfl,S,q⟩:=h
 refine ⟨_,(af (aA (i:=2) cZ.nd rfl (Or.inl rfl) aq)
   (af (b9 PassesOwn.never rfl (a7 (bC (pv 0) rfl)) (d8 rfl (a6 (aM (i:=3) cZ.nd rfl (Or.inl rfl)) (a6 (aM (i:=4) cZ.nd rfl (Or.inl rfl)) dw))) (ag (aG (au xZ (pv 4) (pv 1) (nomark _)) (ag (aA (i:=2) cZ.nd rfl (Or.inl rfl) (pv 3))) aE)))
   (ag (aF (pv 2))))),?_⟩
 obtain ⟨hvs,h2,h3⟩:=S.heads
 have lh:=h3.len
 refine ⟨_,rfl,_,_,_,_,_,rfl,S.ins,T.aI.cl,T.ez,rk,A.ha,rfl,⟨_,SqL.of h2⟩,bT (K:=K) (a:=A.ha) (xs:=hvs) (fun i σ' H2=>H2=H∧∃ (n:Str) (v1 v2:Option V),σ' = [some (.ref A.x),some (.int (k:Int)),some (.str n),v1,v2]∧fh k "0" σ.hs=fh k n (σ.hs.drop i)) ⟨rfl,_,none,none,rfl,rfl⟩ (fun i σ' H2 _ g=>by rw [g.1]; exact SqL.of h2) ?_ ?_⟩
 ·rintro i y σ' H2 hy ⟨rfl,n,v1,v2,rfl,en⟩
  obtain ⟨⟨t,at_⟩,hw,b,rfl,hb⟩:=h3.getL hy
  have ed:σ.hs.drop i=(t,at_) :: σ.hs.drop (i+1):=by
   obtain ⟨hi,e⟩:=List.getElem?_eq_some_iff.mp hw
   rw [List.drop_eq_getElem_cons hi,e]
  rw [ed] at en
  have hb2:=bJ _ _ hb
  refine ⟨b,_,rfl,SqT.of hb2,rfl,_,_,rfl,_,_,rfl,rfl,?_⟩
  refine ⟨_,rfl,_,rfl,_,_,rfl,rfl,_,rfl,?_⟩
  by_cases c1:at_≤k
  ·rw [decide_eq_true (show ((at_:Nat) : Int)≤(k:Int) by omega)]
   refine aT ?_
   refine ⟨_,rfl,rfl,_,_,_,rfl,?_⟩
   rw [en]
   show fh k (if at_≤k then t else n) _=_
   rw [if_pos c1]
  ·rw [decide_eq_false (show ¬ (((at_:Nat) : Int)≤(k:Int)) by omega)]
   refine ay ?_
   refine ⟨rfl,_,_,_,rfl,?_⟩
   rw [en]
   show fh k (if at_≤k then t else n) _=_
   rw [if_neg c1]
 rintro σ' H2 ⟨rfl,n,v1,v2,rfl,en⟩
 rw [lh,List.drop_length] at en
 exact ⟨_,rfl,by rw [show n=fh k "0" σ.hs from en.symm]; exact q⟩
def oE (K:PySem.W.Frag) (C:Addr) : Sp:=fun vs H Q _=>∃ (A:Sad) (G:Hp) (c:Sc) (σ:Ss) (w:Addr) (wk:Wk),vs=[.ref A.x,.ref w]∧StA C G H A c σ∧WkA H (.ref w) wk∧fi σ wk∧∀ p H' x y,H p=none→H' = upd H p (.tup [x,y])→iP σ wk=(x,y)→Q (.ref p) H'
theorem fT:aJ ["self","word","kind","rest"] ["self","word"] (av gB):=by walk_at "c"
theorem iX (T:Txt P w K mg a) : aX P w K mg base CX0 2 a.gS a.gi ["self","word"] (oE K a.ak):=by
 refine T.et.fn.ok fT (fun vs H Q E h=>?_) (fun cdv A outer s H vs Q E hr h=>?_)
 ·obtain ⟨A,G,c,σ,w,wk,rfl,_⟩:=h
  rfl
 obtain ⟨A,G,c,σ,w,wk,rfl,S,hw,ok,q⟩:=h
 refine ⟨_,(af (aA (i:=2) fT.nd rfl (Or.inl rfl) (aD aN (pv 1) ai (fun _ _=>rfl)))
   (af (aA (i:=3) fT.nd rfl (Or.inl rfl) (aD aN (pv 1) ai (fun _ _=>rfl)))
   (af (aG (au a_ (pv 2) aq (nomark _)) (ag (aF (aS (aa aq (aa (pv 3) ac))))) aE)
   (af (aG (au a_ (pv 2) aq (nomark _)) (ag (aF (aS (aa aq (aa (aD aN (aD bU (bC (pv 0) rfl) (pv 3) (fun _ _=>rfl)) ai (fun _ _=>rfl)) ac))))) aE)
   (af (aG (au a_ (pv 2) aq (nomark _)) (ag (aF (aS (aa aq (aa (dF dU T.aI T.gL (oC T) (hr.mono (by decide)) (pv 0) (aa (i4 (df hr) (bC (pv 0) rfl) (pv 3) (fun _ _=>rfl)) ac)) ac))))) aE)
   (ag (aF (aS (aa (pv 2) (aa (i4 (df hr) (bC (pv 0) rfl) (pv 3) (fun _ _=>rfl)) ac)))))))))),?_⟩
 obtain ⟨wb,e1,hb⟩:=hw
 injection e1 with e1
 subst e1
 obtain ⟨kd,v⟩:=wk
 refine ⟨_,rfl,_,_,_,_,rfl,rfl,SqT.of hb,rfl,?_⟩
 refine ⟨_,rfl,_,_,_,_,rfl,rfl,SqT.of hb,rfl,?_⟩
 refine ⟨_,rfl,rfl,_,rfl,?_⟩
 rcases ok with ⟨hk,n,hn⟩ | ⟨hk,k,hn,kl⟩ | ⟨hk,n,k,hn,km⟩ <;> dsimp only at hk hn <;> subst hn
 ·rw [decide_eq_true (by rw [hk]; rfl)]
  refine aT ?_
  exact ⟨_,rfl,le2,fun p1 hp1=>q p1 _ _ _ hp1 rfl (by rw [hk]; rfl)⟩
 ·rw [decide_eq_false (show ¬ (V.str kd.s=V.str "plain") by rw [hk]; exact fun z=>absurd (Kw.inj (b:=.plain) (V.str.inj z)) (by decide))]
  refine ay ?_
  refine ⟨_,rfl,rfl,_,rfl,?_⟩
  rw [decide_eq_true (by rw [hk]; rfl)]
  refine aT ?_
  obtain ⟨hvs,h2,h3⟩:=S.heads
  obtain ⟨⟨t,at_⟩,hw⟩ : ∃ h,σ.hs[k]? = some h:=⟨σ.hs[k],List.getElem?_eq_getElem kl⟩
  obtain ⟨v,hv,b,rfl,hb2⟩:=h3.getR hw
  refine ⟨_,rfl,_,_,_,_,_,rfl,S.ins,T.aI.cl,T.ez,rk,_,rfl,_,_,_,_,rfl,rfl,SqL.of h2,dy hv,_,_,_,_,rfl,rfl,SqT.of (bJ _ _ hb2),rfl,le2,fun p2 hp2=>q p2 _ _ _ hp2 rfl ?_⟩
  ·skip
   rw [hk]
   show (V.str "page",V.int (((σ.hs.getD (Int.toNat (k:Int)) (Str.empty,0)).2:Nat) : Int))=_
   rw [Int.toNat_natCast,List.getD_eq_getElem?_getD,hw]
   rfl
 ·have n1:¬ (V.str kd.s=V.str "plain"):=fun z=>by rw [Kw.inj (b:=.plain) (V.str.inj z)] at hk; cases hk
  have n2:¬ (V.str kd.s=V.str "entry"):=fun z=>by rw [Kw.inj (b:=.entry) (V.str.inj z)] at hk; cases hk
  rw [decide_eq_false n1]
  refine ay ?_
  refine ⟨_,rfl,rfl,_,rfl,?_⟩
  rw [decide_eq_false n2]
  refine ay ?_
  refine ⟨_,rfl,rfl,_,rfl,?_⟩
  have hg:dR H A.ma (kV (.inr (tx n))) (some (.int (k:Int))):=by
   have:=dR.k (k:=.inr (tx n)) S.marks
   rw [i_,km] at this
   exact this
  have em:iO σ (a9 (.str (tx n)))=k:=by unfold iO; show (lkS (tx n) σ.ms).getD 0=k; rw [km]; rfl
  by_cases h3:kd = .number
  ·rw [decide_eq_true (by rw [h3]; rfl)]
   refine aT ?_
   refine ⟨_,rfl,_,_,_,rfl,S.ins,jZ (by decide +kernel),_,rfl,_,_,_,_,_,rfl,S.ins,T.aI.cl,T.ca,iD,_,rfl,_,_,rfl,hg,A,G,c,σ,k,rfl,S,le2,fun p3 hp3=>q p3 _ _ _ hp3 rfl ?_⟩
   ·skip
    rw [h3]
    show (V.str "text",V.str (fh (iO σ (a9 (.str (tx n)))) "0" σ.hs))=_
    rw [em]
  ·rw [decide_eq_false (show ¬ (V.str kd.s=V.str "number") from fun z=>h3 (Kw.inj (b:=.number) (V.str.inj z)))]
   refine ay ?_
   refine ⟨_,rfl,_,rfl,_,_,_,_,_,rfl,S.ins,T.aI.cl,T.ca,iD,_,rfl,_,_,rfl,hg,le2,fun p4 hp4=>q p4 _ _ _ hp4 rfl ?_⟩
   ·skip
    cases hk1:kd with
    | page=>show (V.str "page",V.int ((iO σ (a9 (.str (tx n))) : Nat) : Int))=_; rw [em]; rfl
    | row=>show (V.str "row",V.int ((iO σ (a9 (.str (tx n))) : Nat) : Int))=_; rw [em]; rfl
    | number=>exact absurd hk1 h3
    | plain=>rw [hk1] at hk; cases hk
    | mark=>rw [hk1] at hk; cases hk
    | foot=>rw [hk1] at hk; cases hk
    | entry=>rw [hk1] at hk; cases hk
def nD (C:Addr) : Sp:=fun vs H Q _=>∃ (A:Sad) (G:Hp) (c:Sc) (σ:Ss),vs=[.ref A.x]∧StA C G H A c σ∧sS σ∧σ.ws.length≤400∧∀ p H' us fs,ao H H'→lq H H' σ p us fs→Q (.ref p) H'
theorem cm:aJ ["self","told","lead","kept","word","foot"] ["self"] (av fQ):=by walk_at "c"
theorem nE (T:Txt P w K mg a) : aX P w K mg base CX0 3 a.gb a.fE ["self"] (nD a.ak):=by
 refine T.fZ.fn.ok cm (fun vs H Q E h=>?_) (fun cdv A outer s H vs Q E hr h=>?_)
 ·obtain ⟨A,G,c,σ,rfl,_⟩:=h
  rfl
 obtain ⟨A,G,c,σ,rfl,S,ok,wl,q⟩:=h
 refine ⟨_,(af (aA (i:=1) cm.nd rfl (Or.inl rfl) (aY ac))
   (af (b9 PassesOwn.never rfl (a7 (bC (pv 0) rfl)) (d8 rfl (a6 (aM (i:=2) cm.nd rfl (Or.inl rfl)) (a6 (aM (i:=3) cm.nd rfl (Or.inl rfl)) (a6 (aM (i:=4) cm.nd rfl (Or.inl rfl)) (a6 (aM (i:=5) cm.nd rfl (Or.inl rfl)) dw))))) (ag (bj (cH PySem.F.plainAttrs_list PySem.F.slot_list_append PySem.F.type_list_append cf (pv 1) (aa (aS (aa (pv 2) (aa (pv 3) (aa (dF dU T.aI T.et (iX T) (hr.mono (by decide)) (pv 0) (aa (pv 4) ac)) (aa (ir rfl (eN (caps:=["self"]) (js:=[0]) (cap:=⟨⟨rfl,.inl rfl,rfl,.inl rfl⟩,trivial⟩)) (a7 (pv 5)) (fun _ _ _ _=>c9) (fun _ _ _ _=>(dF dU T.aI T.et (iX T) (hr.mono (by decide)) (pv 1) (aa (pv 0) ac)))) ac))))) ac)))))
   (ag (aF (pv 1))))),?_⟩
 obtain ⟨wvs,w2,w3⟩:=S.words
 have lw:=w3.len
 refine ⟨aW (by simp),fun p1 hp1=>?_⟩
 have s1:=ah hp1 (.lst [])
 have k1:upd H p1 (.lst []) p1=some (.lst []):=ae
 generalize upd H p1 (.lst [])=H1 at s1 k1 ⊢
 have S1:=S.same s1
 refine ⟨_,rfl,_,_,_,_,_,rfl,S1.ins,T.aI.cl,T.cr,i9,A.wa,rfl,⟨_,SqL.of (s1 _ _ w2)⟩,bT (K:=K) (a:=A.wa) (xs:=wvs) (fun i σ' G'=>∃ (v2 v3 v4 v5:Option V) (us:List V) (fs:List Addr),σ' = [some (.ref A.x),some (.ref p1),v2,v3,v4,v5]∧ao H G'∧G' p1=some (.lst us)∧fs.length=i∧fs.Nodup∧(∀ f ∈ fs,H f=none∧f≠p1∧G' f≠none)∧aR (TwA σ (hid [p1] G')) us ((σ.ws.take i).zip fs)) ⟨none,none,none,none,[],[],rfl,s1,k1,rfl,List.nodup_nil,(by simp),trivial⟩ (fun i σ' G' _ g=>by obtain ⟨_,_,_,_,_,_,_,m,_⟩:=g; exact SqL.of (m _ _ w2)) ?_ ?_⟩
 ·rintro i y σ' G1 hy ⟨v2,v3,v4,v5,us,fs,rfl,m,g1,fl,nd,fr,al⟩
  obtain ⟨t,ht,ta,wa',fa',rfl,h1,h2,h3⟩:=w3.getL hy
  have hi:=(List.getElem?_eq_some_iff.mp ht).1
  have h1:=m _ _ (bJ _ _ h1)
  have h2:=(h2.mono bJ).mono m
  obtain ⟨fu,h3,h4⟩:=(h3.mono bJ).mono m
  obtain ⟨ok1,ok2,ok3⟩:=ok t (List.mem_of_getElem? ht)
  have lu:=al.len
  rw [List.length_zip,List.length_take] at lu
  have lf:=h4.len
  refine ⟨ta,_,rfl,SqT.of h1,rfl,_,_,rfl,_,_,rfl,_,_,rfl,_,_,rfl,rfl,?_⟩
  have Sg:=S.same m
  refine ⟨_,rfl,.inl ⟨rfl,_,SqL.of g1⟩,_,rfl,_,rfl,_,rfl,_,_,_,rfl,Sg.ins,jZ (by decide +kernel),_,rfl,A,G,c,σ,wa',t.w,rfl,Sg,h2,ok1,fun ps G2 x y hps e es=>?_⟩
  have s2:ao G1 G2:=by rw [e]; exact ah hps _
  have ks:G2 ps=some (.tup [x,y]):=by rw [e]; exact ae
  clear e
  have m2:=m.trans s2
  have Sg2:=S.same m2
  refine ⟨_,rfl,fa',rfl,⟨_,SqL.of (s2 _ _ h3)⟩,eO (K:=K) (a:=fa') (xs:=fu) (fun j ys G3=>ao G2 G3∧ys.length=j∧aR (SyA (hid [p1] G3)) ys ((t.foot.take j).map (iP σ))) ⟨ao.refl _,rfl,trivial⟩ (fun j ys G3 _ z=>SqL.of ((s2.trans z.1) _ _ h3)) ?_ ?_ ?_⟩
  ·rintro j ys G3 hj ⟨_,z,_⟩
   exact aC (by omega)
  ·rintro j y' ys G3 hy' ⟨m3,z,al3⟩
   obtain ⟨w,hw,wb,rfl,hwb⟩:=h4.getL hy'
   refine d_ ?_
   have Sg3:=Sg2.same m3
   refine ⟨_,rfl,_,_,_,rfl,Sg3.ins,jZ (by decide +kernel),_,rfl,A,G,c,σ,wb,w,rfl,Sg3,⟨wb,rfl,(s2.trans m3) _ _ hwb⟩,ok3 w (List.mem_of_getElem? hw),fun pq G4 x' y'' hpq e' es'=>?_⟩
   have s4:ao G3 G4:=by rw [e']; exact ah hpq _
   have kq:G4 pq=some (.tup [x',y'']):=by rw [e']; exact ae
   have np:pq≠p1:=fun zz=>by rw [zz,(s2.trans m3) _ _ g1] at hpq; cases hpq
   refine ⟨m3.trans s4,by rw [List.length_append,z]; rfl,?_⟩
   rw [aP hw,List.map_append]
   refine (al3.imp fun _ _=>SyA.mono (bb s4)).snoc ⟨pq,rfl,?_⟩
   rw [es']
   exact a8 (by simpa using np) kq
  rintro ys G3 ⟨m3,z,al3⟩ pl hpl
  rw [lf,List.take_length] at al3
  have s4:=ah hpl (.lst ys)
  have k4:upd G3 pl (.lst ys) pl=some (.lst ys):=ae
  have npl:pl≠p1:=fun zz=>by rw [zz,(s2.trans m3) _ _ g1] at hpl; cases hpl
  have nps:ps≠p1:=fun zz=>by rw [zz,g1] at hps; cases hps
  have hHpl:H pl=none:=(m2.trans m3).free hpl
  have nfs:pl ∉ fs:=fun zz=>by
   have:=(fr pl zz).2.2
   exact this (by cases e:G1 pl with | none=>rfl | some u=>rw [(s2.trans m3) _ _ e] at hpl; cases hpl)
  generalize upd G3 pl (.lst ys)=G4 at s4 k4 ⊢
  have m4:=(m2.trans m3).trans s4
  have g14:=(s2.trans m3).trans s4
  refine ⟨le4,fun pt hpt=>?_⟩
  have s5:=ah hpt (.tup [.int t.lead,.bl t.kept,.ref ps,.ref pl])
  have k5:upd G4 pt (.tup [.int t.lead,.bl t.kept,.ref ps,.ref pl]) pt=some (.tup [.int t.lead,.bl t.kept,.ref ps,.ref pl]):=ae
  have npt:pt≠p1:=fun zz=>by rw [zz,g14 _ _ g1] at hpt; cases hpt
  generalize upd G4 pt (.tup [.int t.lead,.bl t.kept,.ref ps,.ref pl])=G5 at s5 k5 ⊢
  have m5:=m4.trans s5
  have g15:=g14.trans s5
  refine ⟨_,_,_,rfl,rfl,g15 _ _ g1,aC (by omega),?_⟩
  refine ⟨_,_,_,_,us++[.ref pt],fs++[pl],rfl,bn m5 hp1,ae,by rw [List.length_append,fl]; rfl,?_,?_,?_⟩
  ·rw [List.nodup_append]
   refine ⟨nd,by simp,fun x hx y hy=>?_⟩
   rw [List.mem_singleton.mp hy]
   exact fun zz=>nfs (by rw [← zz]; exact hx)
  ·intro f hf
   rcases List.mem_append.mp hf with hf | hf
   ·obtain ⟨r1,r2,r3⟩:=fr f hf
    refine ⟨r1,r2,fun zz=>r3 ?_⟩
    rw [aj r2] at zz
    exact g15.free zz
   ·rw [List.mem_singleton.mp hf]
    refine ⟨hHpl,npl,fun zz=>?_⟩
    rw [aj npl,s5 _ _ k4] at zz
    cases zz
  ·rw [bY (by simp),aP ht,List.zip_append (by rw [List.length_take,fl]; omega)]
   have g5:=bb (os:=[p1]) g15
   refine (al.imp fun _ _=>TwA.mono g5).snoc ⟨pt,ps,ys,rfl,a8 (by simpa using npt) k5,⟨ps,rfl,?_⟩,a8 (by simpa using npl) (s5 _ _ k4),al3.imp fun _ _=>SyA.mono (bb (s4.trans s5))⟩
   dsimp only
   rw [es]
   exact a8 (by simpa using nps) ((m3.trans (s4.trans s5)) _ _ ks)
 rintro σ' G1 ⟨v2,v3,v4,v5,us,fs,rfl,m,g1,fl,nd,fr,al⟩
 rw [lw,List.take_length] at al
 exact ⟨_,rfl,q p1 _ us fs m ⟨g1,hp1,fl.trans lw,nd,fun f hf=>⟨(fr f hf).1,(fr f hf).2.1⟩,al⟩⟩
def tX (C:Addr) : Sp:=fun vs H Q _=>∃ (x dx:Addr),vs=[.ref x]∧H x=some (.ins C dx [])∧∀ H',(∀ H0,ao H0 H→H0 x=none→RdA C H0 H' x rs0)→FrX H H' x→Q .non H'
theorem tY:aJ ["self"] ["self"] (av jv):=by walk_at "c"
theorem tZ (T:Txt P w K mg a) : aX P w K mg base CX0 1 a.jz a.jc ["self"] (tX a.aH):=by
 refine T.jx.fn.ok tY (fun vs H Q E h=>?_) (fun cdv A outer s H vs Q E hr h=>?_)
 ·obtain ⟨x,dx,rfl,_⟩:=h
  rfl
 obtain ⟨x,dx,rfl,hx,q⟩:=h
 refine ⟨_,(af (cM (pv 0) (aY ac) rfl)
   (af (cM (pv 0) rc rfl)
   (af (cM (pv 0) (aY ac) rfl)
   (ag (cM (pv 0) cW rfl))))),?_⟩
 have k0:=hx
 have f0:FrX H H x:=FrX.refl
 refine ⟨aW (by simp),fun p0 hp0=>?_⟩
 have e0:=f0.free k0 hp0
 have f1:=f0.same (ah hp0 (.lst []))
 have k1:=ah hp0 (.lst []) _ _ k0
 have a0_1:upd H p0 (.lst []) p0=some (.lst []):=ae
 have d0:p0≠x:=fun z=>by rw [z,k0] at hp0; cases hp0
 generalize upd H p0 (.lst [])=H1 at k1 f1 a0_1 ⊢
 refine ⟨_,rfl,_,_,_,_,rfl,k1,T.bo.cl,T.iI,(by show 0 < 1000; decide),?_⟩
 rw [show bx "shorts" (V.ref p0) []=([("shorts",V.ref p0)] : List (Str × V)) from rfl]
 have f2:FrX H (upd H1 x (.ins a.aH dx ([("shorts",V.ref p0)] : List (Str × V)))) x:=f1.at
 have k2:upd H1 x (.ins a.aH dx ([("shorts",V.ref p0)] : List (Str × V))) x=some (.ins a.aH dx ([("shorts",V.ref p0)] : List (Str × V))):=ae
 have a0_2:upd H1 x (.ins a.aH dx ([("shorts",V.ref p0)] : List (Str × V))) p0=some (.lst []):=by rw [aj d0]; exact a0_1
 generalize upd H1 x (.ins a.aH dx ([("shorts",V.ref p0)] : List (Str × V)))=H2 at k2 f2 a0_2 ⊢
 intro p1 hp1
 have e1:=f2.free k2 hp1
 have f3:=f2.same (ah hp1 (.dK []))
 have k3:=ah hp1 (.dK []) _ _ k2
 have a0_3:=ah hp1 (.dK []) _ _ a0_2
 have a1_3:upd H2 p1 (.dK []) p1=some (.dK []):=ae
 have d1:p1≠x:=fun z=>by rw [z,k2] at hp1; cases hp1
 have d0_1:p0≠p1:=fun z=>by rw [← z,a0_2] at hp1; cases hp1
 generalize upd H2 p1 (.dK [])=H3 at k3 f3 a0_3 a1_3 ⊢
 refine ⟨_,rfl,_,_,_,_,rfl,k3,T.bo.cl,T.eW,(by show 1 < 1000; decide),?_⟩
 rw [ni (l:=([("shorts",V.ref p0)] : List (Str × V))) (by show ([("shorts" : Str)] : List Str).all (fun m=>m != "feet")=true; decide +kernel)]
 rw [show (([("shorts",V.ref p0)] : List (Str × V))++([("feet",V.ref p1)] : List (Str × V)) : List (Str × V))=([("shorts",V.ref p0),("feet",V.ref p1)] : List (Str × V)) from rfl]
 have f4:FrX H (upd H3 x (.ins a.aH dx ([("shorts",V.ref p0),("feet",V.ref p1)] : List (Str × V)))) x:=f3.at
 have k4:upd H3 x (.ins a.aH dx ([("shorts",V.ref p0),("feet",V.ref p1)] : List (Str × V))) x=some (.ins a.aH dx ([("shorts",V.ref p0),("feet",V.ref p1)] : List (Str × V))):=ae
 have a0_4:upd H3 x (.ins a.aH dx ([("shorts",V.ref p0),("feet",V.ref p1)] : List (Str × V))) p0=some (.lst []):=by rw [aj d0]; exact a0_3
 have a1_4:upd H3 x (.ins a.aH dx ([("shorts",V.ref p0),("feet",V.ref p1)] : List (Str × V))) p1=some (.dK []):=by rw [aj d1]; exact a1_3
 generalize upd H3 x (.ins a.aH dx ([("shorts",V.ref p0),("feet",V.ref p1)] : List (Str × V)))=H4 at k4 f4 a0_4 a1_4 ⊢
 refine ⟨aW (by simp),fun p2 hp2=>?_⟩
 have e2:=f4.free k4 hp2
 have f5:=f4.same (ah hp2 (.lst []))
 have k5:=ah hp2 (.lst []) _ _ k4
 have a0_5:=ah hp2 (.lst []) _ _ a0_4
 have a1_5:=ah hp2 (.lst []) _ _ a1_4
 have a2_5:upd H4 p2 (.lst []) p2=some (.lst []):=ae
 have d2:p2≠x:=fun z=>by rw [z,k4] at hp2; cases hp2
 have d0_2:p0≠p2:=fun z=>by rw [← z,a0_4] at hp2; cases hp2
 have d1_2:p1≠p2:=fun z=>by rw [← z,a1_4] at hp2; cases hp2
 generalize upd H4 p2 (.lst [])=H5 at k5 f5 a0_5 a1_5 a2_5 ⊢
 refine ⟨_,rfl,_,_,_,_,rfl,k5,T.bo.cl,T.dS,(by show 2 < 1000; decide),?_⟩
 rw [ni (l:=([("shorts",V.ref p0),("feet",V.ref p1)] : List (Str × V))) (by show ([("shorts" : Str),("feet" : Str)] : List Str).all (fun m=>m != "things")=true; decide +kernel)]
 rw [show (([("shorts",V.ref p0),("feet",V.ref p1)] : List (Str × V))++([("things",V.ref p2)] : List (Str × V)) : List (Str × V))=([("shorts",V.ref p0),("feet",V.ref p1),("things",V.ref p2)] : List (Str × V)) from rfl]
 have f6:FrX H (upd H5 x (.ins a.aH dx ([("shorts",V.ref p0),("feet",V.ref p1),("things",V.ref p2)] : List (Str × V)))) x:=f5.at
 have k6:upd H5 x (.ins a.aH dx ([("shorts",V.ref p0),("feet",V.ref p1),("things",V.ref p2)] : List (Str × V))) x=some (.ins a.aH dx ([("shorts",V.ref p0),("feet",V.ref p1),("things",V.ref p2)] : List (Str × V))):=ae
 have a0_6:upd H5 x (.ins a.aH dx ([("shorts",V.ref p0),("feet",V.ref p1),("things",V.ref p2)] : List (Str × V))) p0=some (.lst []):=by rw [aj d0]; exact a0_5
 have a1_6:upd H5 x (.ins a.aH dx ([("shorts",V.ref p0),("feet",V.ref p1),("things",V.ref p2)] : List (Str × V))) p1=some (.dK []):=by rw [aj d1]; exact a1_5
 have a2_6:upd H5 x (.ins a.aH dx ([("shorts",V.ref p0),("feet",V.ref p1),("things",V.ref p2)] : List (Str × V))) p2=some (.lst []):=by rw [aj d2]; exact a2_5
 generalize upd H5 x (.ins a.aH dx ([("shorts",V.ref p0),("feet",V.ref p1),("things",V.ref p2)] : List (Str × V)))=H6 at k6 f6 a0_6 a1_6 a2_6 ⊢
 refine ⟨_,rfl,_,_,_,_,rfl,k6,T.bo.cl,T.cF,(by show 3 < 1000; decide),?_⟩
 rw [ni (l:=([("shorts",V.ref p0),("feet",V.ref p1),("things",V.ref p2)] : List (Str × V))) (by show ([("shorts" : Str),("feet" : Str),("things" : Str)] : List Str).all (fun m=>m != "going_on")=true; decide +kernel)]
 rw [show (([("shorts",V.ref p0),("feet",V.ref p1),("things",V.ref p2)] : List (Str × V))++([("going_on",V.bl false)] : List (Str × V)) : List (Str × V))=([("shorts",V.ref p0),("feet",V.ref p1),("things",V.ref p2),("going_on",V.bl false)] : List (Str × V)) from rfl]
 have f7:FrX H (upd H6 x (.ins a.aH dx ([("shorts",V.ref p0),("feet",V.ref p1),("things",V.ref p2),("going_on",V.bl false)] : List (Str × V)))) x:=f6.at
 have k7:upd H6 x (.ins a.aH dx ([("shorts",V.ref p0),("feet",V.ref p1),("things",V.ref p2),("going_on",V.bl false)] : List (Str × V))) x=some (.ins a.aH dx ([("shorts",V.ref p0),("feet",V.ref p1),("things",V.ref p2),("going_on",V.bl false)] : List (Str × V))):=ae
 have a0_7:upd H6 x (.ins a.aH dx ([("shorts",V.ref p0),("feet",V.ref p1),("things",V.ref p2),("going_on",V.bl false)] : List (Str × V))) p0=some (.lst []):=by rw [aj d0]; exact a0_6
 have a1_7:upd H6 x (.ins a.aH dx ([("shorts",V.ref p0),("feet",V.ref p1),("things",V.ref p2),("going_on",V.bl false)] : List (Str × V))) p1=some (.dK []):=by rw [aj d1]; exact a1_6
 have a2_7:upd H6 x (.ins a.aH dx ([("shorts",V.ref p0),("feet",V.ref p1),("things",V.ref p2),("going_on",V.bl false)] : List (Str × V))) p2=some (.lst []):=by rw [aj d2]; exact a2_6
 generalize upd H6 x (.ins a.aH dx ([("shorts",V.ref p0),("feet",V.ref p1),("things",V.ref p2),("going_on",V.bl false)] : List (Str × V)))=H7 at k7 f7 a0_7 a1_7 a2_7 ⊢
 refine q _ (fun H0 m hx0=>⟨f7.old m hx0,dx,p0,p1,p2,p2,[],[],k7,a8 (by simp; exact ⟨d0,d0_1,d0_2⟩) a0_7,a1_7,a2_7,⟨hx0,m.free e1,m.free e2,m.free e2⟩,trivial,.inl ⟨rfl,rfl,trivial⟩⟩) f7
def oF (C:Addr) : Sp:=fun vs H Q _=>∃ (r:Addr) (v:V) (H0 H1:Hp) (s:Rs) (t:Tg),vs=[.ref r,v]∧RdA C H0 H1 r s∧ao H1 H∧TgN H1 H v t∧s.things.length≤200∧∀ H',RdA C H0 H' r { s with things:=s.things++[t],g:=false }→(∀ dx sa fa ta vs g,H1 r=some (.ins C dx (fsR sa fa ta g))→H1 ta=some (.lst vs)→H' = upd (upd H ta (.lst (vs++[v]))) r (.ins C dx (fsR sa fa ta false)))→Q .non H'
theorem oG:aJ ["self","thing"] ["self","thing"] (av gC):=by walk_at "c"
theorem fU (T:Txt P w K mg a) : aX P w K mg base CX0 1 a.gN a.gc ["self","thing"] (oF a.aH):=by
 refine T.dm.fn.ok oG (fun vs H Q E h=>?_) (fun cdv A outer s H vs Q E hr h=>?_)
 ·obtain ⟨r,v,H0,H1,s,t,rfl,_⟩:=h
  rfl
 obtain ⟨r,v,H0,H1,s,t,rfl,R,m,tn,sl,q⟩:=h
 refine ⟨_,(af (bj (cH PySem.F.plainAttrs_list PySem.F.slot_list_append PySem.F.type_list_append cf (bC (pv 0) rfl) (aa (pv 1) ac)))
   (ag (cM (pv 0) cW rfl))),?_⟩
 obtain ⟨dx,sa,fa,ta,kvs,vs,h1,h2,h3,h4,lv,lf,fn,put,_⟩:=R.use
 have ne:r≠ta:=fun z=>by rw [z,h4] at h1; cases h1
 refine ⟨_,rfl,_,_,_,_,_,rfl,m _ _ h1,T.bo.cl,T.dS,o5,.inl ⟨rfl,_,SqL.of (m _ _ h4)⟩,_,rfl,_,_,_,rfl,rfl,m _ _ h4,aC (by omega),?_⟩
 refine ⟨_,rfl,_,_,_,_,rfl,(by rw [aj ne]; exact m _ _ h1),T.bo.cl,T.cF,tL,?_⟩
 rw [o6]
 refine q _ (put H v t m tn) fun dx' sa' fa' ta' vs' g' e1 e2=>?_
 rw [h1] at e1
 injection e1 with e1
 injection e1 with _ f1 f2
 obtain ⟨rfl,rfl,rfl,rfl⟩:=B2 f2
 subst f1
 rw [h4] at e2
 injection e2 with e2
 injection e2 with e2
 rw [e2]
def nF (K:PySem.W.Frag) (C:Addr) : Sp:=fun vs H Q _=>∃ (r la:Addr) (H0:Hp) (s:Rs) (w:List Nat) (rw:Rw),vs=[.ref r,.ref la]∧RdA C H0 H r s∧SqL K H la [.str (tx w)]∧Bv w rw∧s.things.length≤200∧∀ H',RdA C H0 H' r (bM s rw)→Q .non H'
theorem iT:aJ ["self","words","first"] ["self","words"] (av fR):=by walk_at "c"
theorem nG (T:Txt P w K mg a) : aX P w K mg base CX0 2 a.f_ a.fC ["self","words"] (nF K a.aH):=by
 refine T.fX.fn.ok iT (fun vs H Q E h=>?_) (fun cdv A outer s H vs Q E hr h=>?_)
 ·obtain ⟨r,la,H0,s,w,rw,rfl,_⟩:=h
  rfl
 obtain ⟨r,la,H0,s,w,rw,rfl,R,hl,al,sl,q⟩:=h
 refine ⟨_,(af (aA (i:=2) iT.nd rfl (Or.inl rfl) (aD bU (pv 1) ai (fun _ _=>rfl)))
   (af (aG (au jJ (aK bD rfl T.bS PySem.boot_len (aa (pv 1) ac)) ai (nomark _)) (ag fb) aE)
   (ag (bj (dF dU T.bo T.dm (fU T) (hr.mono (by decide)) (pv 0) (aa (aS (aa (dz jk (pv 2) (dI ai) eJ) ac)) ac)))))),?_⟩
 refine ⟨_,rfl,_,_,_,_,rfl,rfl,hl,rfl,?_⟩
 refine ⟨_,rfl,_,_,rfl,.inl hl,_,_,rfl,rfl,_,rfl,?_⟩
 refine ay ?_
 dsimp only [cX]
 obtain ⟨dx,sa,fa,ta,kvs,vs,h1,_⟩:=R.use
 refine ⟨_,rfl,_,_,_,rfl,h1,lK (by decide +kernel),_,rfl,_,rfl,_,rfl,(by rcases al with ⟨rfl,_⟩ | ⟨rfl,_⟩ | ⟨rfl,_⟩ <;> exact aW (by decide)),le1,fun p1 hp1=>?_⟩
 rcases al with ⟨rfl,rfl⟩ | ⟨rfl,rfl⟩ | ⟨rfl,rfl⟩
 ·exact ⟨r,.ref p1,H0,H,s,.page,rfl,R,ah hp1 _,⟨p1,rfl,by rw [eB]; exact ae⟩,sl,fun H' R' _=>q H' R'⟩
 ·exact ⟨r,.ref p1,H0,H,s,.odd,rfl,R,ah hp1 _,⟨p1,rfl,by rw [eB]; exact ae⟩,sl,fun H' R' _=>q H' R'⟩
 ·exact ⟨r,.ref p1,H0,H,s,.lst,rfl,R,ah hp1 _,⟨p1,rfl,by rw [eB]; exact ae⟩,sl,fun H' R' _=>q H' R'⟩
def yD:Sp:=fun vs H Q _=>∃ l:List Nat,vs=[.str (tx l)]∧l.length≤1000∧∀ H',ao H H'→Q (.bl (bE l)) H'
theorem yE:aJ ["word"] ["word"] (av pp):=by walk_at "c"
theorem nH (T:Txt P w K mg a) : aX P w K mg base CX0 1 a.qc a.n9 ["word"] yD:=by
 have dH:=T.dH
 have dr:=T.dr
 have bZ:=T.bZ
 obtain ⟨t_FIGURES,dH⟩:=dH
 obtain ⟨t_LETTERS,dr⟩:=dr
 obtain ⟨t_LONGEST_NAME,bZ⟩:=bZ
 refine T.jq.fn.ok yE (fun vs H Q E h=>?_) (fun cdv A outer s H vs Q E hr h=>?_)
 ·obtain ⟨l,rfl,_⟩:=h
  rfl
 obtain ⟨l,rfl,hl,q⟩:=h
 refine ⟨_,(af (aG (PW.pt (du (au a_ (pv 0) aq (nomark _)) (dN (au jJ (aK gt rfl T.bS PySem.boot_len (aa (pv 0) ac)) (cS (v:=.int 12) rfl bZ ⟨_,rfl⟩) (nomark _))))) (ag (aF cW)) aE)
   (ag (aF (jW (eI ji (aD d9 (pv 0) ai (fun _ _=>rfl)) (cS (v:=.str (PySem.Str.ofString "abcdefghijklmnopqrstuvwxyz")) rfl dr ⟨_,rfl⟩) (by with_unfolding_all rfl)) (jV (aK (AL rfl) rfl T.qH PyProof.Rows.boot_all (aa (ir rfl (eN (caps:=[]) (js:=[]) (cap:=trivial)) (zq (pv 0)) (fun _ _ _ _=>c9) (fun _ _ _ _=>(DQ (eI ji (pv 0) (cS (v:=.str (PySem.Str.ofString "abcdefghijklmnopqrstuvwxyz")) rfl dr ⟨_,rfl⟩) (by with_unfolding_all rfl)) (jV (eI ji (pv 0) (cS (v:=.str (PySem.Str.ofString "0123456789")) rfl dH ⟨_,rfl⟩) (by with_unfolding_all rfl)))))) ac))))))),?_⟩
 refine ⟨_,rfl,rfl,_,rfl,?_⟩
 cases l with
 | nil =>
  rw [wt]
  refine aT ?_
  refine aT ?_
  exact q H (ao.refl _)
 | cons c r =>
  rw [wq]
  refine ay ?_
  refine ⟨_,rfl,_,rfl,aW (by rw [aQ]; exact hl),_,_,rfl,rfl,_,rfl,?_⟩
  rw [aQ]
  refine dX (fun h=>?_) (fun h=>?_)
  ·have h2:¬ (c :: r).length≤12:=by have:=of_decide_eq_true h; omega
   have:=q H (ao.refl _)
   rw [ut h2] at this
   exact this
  ·have h2:(c :: r).length≤12:=by
    refine Nat.le_of_not_lt fun z=>h (decide_eq_true ?_)
    omega
   rw [m_ h2] at q
   refine ⟨_,rfl,_,_,c,rfl,rfl,aW (by rw [aQ]; exact hl),i5 c r,_,_,rfl,rfl,_,rfl,?_⟩
   rw [zU]
   cases hc:isL c with
   | false =>
    rw [hc] at q
    refine ay ?_
    exact q H (ao.refl _)
   | true =>
    rw [hc] at q
    refine aT ?_
    refine ⟨_,rfl,_,rfl,CV (x:=tx (c :: r)) (fun i ys H2=>H2=H∧ys=(((c :: r).take i).map fun d=>isL d || isF d).map V.bl) ⟨rfl,rfl⟩ ?_ ?_ ?_⟩
    ·rintro i ys H2 hi ⟨rfl,rfl⟩
     rw [List.length_map,List.length_map,List.length_take]
     exact Nat.lt_of_le_of_lt (show _≤12 by omega) (aC (by omega))
    ·rintro i d ys H2 hd ⟨rfl,rfl⟩
     rw [zu] at hd
     refine d_ ?_
     refine ⟨_,rfl,_,_,rfl,rfl,_,rfl,?_⟩
     rw [zU,List.take_add_one,hd]
     cases h3:isL d with
     | true =>
      refine aT ?_
      refine ⟨rfl,?_⟩
      simp [h3]
     | false =>
      refine ay ?_
      refine ⟨_,rfl,_,_,rfl,rfl,?_⟩
      rw [zV]
      refine ⟨rfl,?_⟩
      simp [h3]
    ·rintro ys H2 ⟨rfl,rfl⟩ p hp
     rw [xE,List.take_of_length_le (Nat.le_refl _)]
     refine ⟨_,_,rfl,SqL.of ae,?_⟩
     rw [Dc]
     have:=q _ (ah hp (.lst ((((c :: r)).map fun d=>isL d || isF d).map V.bl)))
     rw [Bool.true_and] at this
     exact this
def yF:Sp:=fun vs H Q _=>∃ (c:Nat) (r:List Nat),vs=[.str (tx (c :: r))]∧r.length≤900∧∀ p H',H p=none→ao H H'→H' p=some (.tup [.str (PySem.Str.ofString (jN (c :: r)).1),.str (tx (jN (c :: r)).2)])→Q (.ref p) H'
theorem nI:aJ ["word","first","rest"] ["word"] (av pz):=by walk_at "c"
theorem yG (T:Txt P w K mg a) : aX P w K mg base CX0 2 a.qd a.n_ ["word"] yF:=by
 have eV:=T.eV
 obtain ⟨eV,k_KINDS⟩:=eV
 refine T.pV.fn.ok nI (fun vs H Q E h=>?_) (fun cdv A outer s H vs Q E hr h=>?_)
 ·obtain ⟨c,r,rfl,_⟩:=h
  rfl
 obtain ⟨c,r,rfl,hl,q⟩:=h
 refine ⟨_,(af (aA (i:=1) nI.nd rfl (Or.inl rfl) (dz jk (pv 0) eJ (dI ai)))
   (af (aA (i:=2) nI.nd rfl (Or.inl rfl) (dz jk (pv 0) (dI ai) eJ))
   (af (aG (PW.pt (ij (au uo (pv 1) (cS (v:=.ref a.dZ) rfl eV rfl) (by with_unfolding_all rfl)) (eG (b8 (aB T.jq (nH T) (hr.mono (by decide)) rfl (aa (pv 2) ac)) (fun _=>rfl))))) (ag (aF (aS (aa (AM (cS (v:=.ref a.dZ) rfl eV rfl) (pv 1) (fun _ _=>rfl)) (aa (pv 2) ac))))) aE)
   (af (aG (PW.pt (ij (au a_ (pv 1) aq (nomark _)) (eG (au io (pv 2) aq (nomark _))))) (ag (aF (aS (aa aq (aa (pv 2) ac))))) aE)
   (ag (aF (aS (aa aq (aa (pv 0) ac))))))))),?_⟩
 have sz:(tx (c :: r)).length≤sizeLine:=by rw [aQ]; exact aW (by simp only [List.length_cons]; omega)
 refine ⟨_,rfl,_,rfl,_,rfl,sz,?_⟩
 rw [EI]
 refine ⟨_,rfl,_,rfl,_,rfl,sz,?_⟩
 rw [EJ]
 try dsimp only [bv]
 with_reducible refine c_ (fun σ' H'=>σ' = [some (.str (tx (c :: r))),some (.str (tx [c])),some (.str (tx r))]∧ao H H'∧jN (c :: r)=if c=33∧r≠[] then ("plain",r) else ("plain",c :: r)) ?_ (fun key=>?_)
 ·rintro σ' H' ⟨rfl,s1,ek⟩
  rw [ek] at q
  refine ⟨_,rfl,rfl,_,rfl,?_⟩
  rw [D8]
  refine dX (fun h=>?_) (fun h=>?_)
  ·have h33:=of_decide_eq_true h
   refine ⟨_,rfl,rfl,_,rfl,?_⟩
   cases r with
   | nil =>
    rw [wt]
    refine ay ?_
    rw [if_neg (fun z=>z.2 rfl)] at q
    exact ⟨_,rfl,le2,fun p hp=>q p _ (s1.free hp) (s1.trans (ah hp _)) ae⟩
   | cons d r =>
    rw [wq]
    refine aT ?_
    rw [if_pos ⟨h33,by simp⟩] at q
    exact ⟨_,rfl,le2,fun p hp=>q p _ (s1.free hp) (s1.trans (ah hp _)) ae⟩
  ·refine ay ?_
   rw [if_neg (fun z=>h (decide_eq_true z.1))] at q
   exact ⟨_,rfl,le2,fun p hp=>q p _ (s1.free hp) (s1.trans (ah hp _)) ae⟩
 ·refine ⟨_,rfl,a.dZ,jM,.inr (tx [c]),rfl,k_KINDS,rfl,_,rfl,?_⟩
  cases hm:mk c with
  | none =>
   have:=A9 c hm
   rw [show cN jM (.inr (tx [c]))=none from this]
   refine ay ?_
   refine ay ?_
   refine key _ _ ⟨rfl,ao.refl _,?_⟩
   show (match mk c,bE r with
    | some s,true=>(s,r)
    | _,_=>if c=33∧r≠[] then ("plain",r) else ("plain",c :: r))=_
   rw [hm]
  | some s =>
   have hv:=A_ c s hm
   rw [show cN jM (.inr (tx [c]))=some (.str (PySem.Str.ofString s)) from hv]
   refine aT ?_
   refine ⟨_,rfl,r,rfl,by omega,fun H2 s2=>?_⟩
   refine ⟨_,rfl,?_⟩
   cases hn:bE r with
   | true =>
    refine aT ?_
    have ek:jN (c :: r)=(s,r):=by
     show (match mk c,bE r with
      | some s,true=>(s,r)
      | _,_=>if c=33∧r≠[] then ("plain",r) else ("plain",c :: r))=_
     rw [hm,hn]
    rw [ek] at q
    exact ⟨_,rfl,a.dZ,jM,.inr (tx [c]),_,rfl,k_KINDS,rfl,hv,_,rfl,le2,fun p hp=>q p _ (s2.free hp) (s2.trans (ah hp _)) ae⟩
   | false =>
    refine ay ?_
    refine key _ _ ⟨rfl,s2,?_⟩
    show (match mk c,bE r with
     | some s,true=>(s,r)
     | _,_=>if c=33∧r≠[] then ("plain",r) else ("plain",c :: r))=_
    rw [hm,hn]
def yH:Sp:=fun vs H Q _=>∃ (sa:Addr),vs=[.ref sa]∧H sa=some (.lst [])∧∀ p H',H p=none→ao H H'→H' p=some (.dK [])→Q (.ref p) H'
theorem yI:aJ ["shorts"] ["shorts"] (av pA):=by walk_at "c"
theorem yJ (T:Txt P w K mg a) : aX P w K mg base CX0 1 a.qb a.nZ ["shorts"] yH:=by
 refine T.pU.fn.ok yI (fun vs H Q E h=>?_) (fun cdv A outer s H vs Q E hr h=>?_)
 ·obtain ⟨sa,rfl,_⟩:=h
  rfl
 obtain ⟨sa,rfl,hs,q⟩:=h
 refine ⟨_,(ag (aF (jj (sQ rfl) rfl T.kZ PyProof.Rows.boot_dict (aa (ir rfl (eN (caps:=[]) (js:=[]) (cap:=trivial)) (a7 (pv 0)) (fun _ _ _ _=>c9) (fun _ _ _ _=>(aS (aa (aD (r:=lI K) aN (pv 0) ai (fun _ _=>rfl)) (aa (pv 0) ac))))) ac)))),?_⟩
 refine ⟨_,rfl,sa,rfl,⟨_,SqL.of hs⟩,eO (K:=K) (a:=sa) (xs:=[]) (fun i ys G=>G=H∧ys=[]) ⟨rfl,rfl⟩ (fun i ys G _ g=>by rw [g.1]; exact SqL.of hs) (fun i ys G hi _=>absurd hi (Nat.not_lt_zero _)) (fun i y ys G hy _=>by simp at hy) ?_⟩
 rintro ys G ⟨rfl,rfl⟩ p1 hp1
 have s1:=ah hp1 (.lst [])
 have k1:upd G p1 (.lst []) p1=some (.lst []):=ae
 generalize upd G p1 (.lst [])=H1 at s1 k1 ⊢
 exact ⟨p1,[],[],rfl,SqL.of k1,by simp,⟨rfl,fun j p k v e=>by simp at e⟩,fun p2 hp2=>q p2 _ (s1.free hp2) (s1.trans (ah hp2 _)) ae⟩
def uQ:Sp:=fun vs H Q _=>∃ (d nl:Addr) (ws:List V) (ts:List (List Nat)),vs=[.ref d,.ref nl,.int 0]∧H nl=some (.lst ws)∧aR (NdA H) ws ts∧ts.length≤130∧∀ p r H',H p=none→ao H H'→H' p=some (.tup [.ref r,.int 0])→H' r=some (.lst [.int (ts.length:Int)])→Q (.ref p) H'
theorem iA:aJ ["named","nodes","count","row","calls","node","short","k","argument","size"] ["named","nodes","count"] (av kj):=by walk_at "c"
theorem uR (T:Txt P w K mg a) : aX P w K mg base CX0 1 a.kP a.jF ["named","nodes","count"] uQ:=by
 refine T.kK.fn.ok iA (fun vs H Q E h=>?_) (fun cdv A outer s H vs Q E hr h=>?_)
 ·obtain ⟨d,nl,ws,ts,rfl,_⟩:=h
  rfl
 obtain ⟨d,nl,ws,ts,rfl,hn,al,tl,q⟩:=h
 refine ⟨_,(af (aA (i:=3) iA.nd rfl (Or.inl rfl) (aO CS (aY (aa ai ac)) (aO b_ (pv 2) ai)))
   (af (aA (i:=4) iA.nd rfl (Or.inl rfl) ai)
   (af (b9 PassesOwn.never rfl (a7 (pv 1)) (aM (i:=5) iA.nd rfl (Or.inl rfl)) (ag (aG (au a_ (aD aN (pv 5) ai (fun _ _=>rfl)) aq (nomark _)) (ag (CB (aO b_ (aD bU (pv 3) ai (fun _ _=>rfl)) ai) (CA (pv 3) ai AC))) di)))
   (ag (aF (aS (aa (pv 3) (aa (pv 4) ac)))))))),?_⟩
 refine ⟨aW (by simp),fun p1 hp1=>?_⟩
 have s1:=ah hp1 (.lst [.int 0])
 have k1:upd H p1 (.lst [.int 0]) p1=some (.lst [.int 0]):=ae
 generalize upd H p1 (.lst [.int 0])=H1 at s1 k1 ⊢
 refine ⟨_,rfl,_,_,rfl,rfl,_,_,_,rfl,rfl,k1,(by omega),(by omega),aW (by simp),fun p2 hp2=>?_⟩
 have hp2':=s1.free hp2
 dsimp only [bv]
 have s2:=ah hp2 (.lst [V.int 0])
 have k2:upd H1 p2 (.lst (List.replicate (Int.toNat (0+1)) [V.int 0]).flatten) p2=some (.lst [V.int ((0:Nat) : Int)]):=ae
 change ao H1 (upd H1 p2 (.lst (List.replicate (Int.toNat (0+1)) [V.int 0]).flatten)) at s2
 generalize upd H1 p2 (.lst (List.replicate (Int.toNat (0+1)) [V.int 0]).flatten)=H2 at s2 k2 ⊢
 have s12:=s1.trans s2
 have lw:=al.len
 refine ⟨_,rfl,nl,rfl,⟨_,SqL.of (s12 _ _ hn)⟩,bT (K:=K) (a:=nl) (xs:=ws) (fun k σ G=>∃ (vw:Option V),σ=[some (.ref d),some (.ref nl),some (.int 0),some (.ref p2),some (.int 0),vw,none,none,none,none]∧ao H G∧G p2=some (.lst [.int (k:Int)])) ⟨none,rfl,s12,k2⟩ (fun k σ G _ g=>by obtain ⟨_,_,m,_⟩:=g; exact SqL.of (m _ _ hn)) ?_ ?_⟩
 ·rintro k y σ G hy ⟨vw,rfl,m,g⟩
  obtain ⟨t,ht,b,rfl,hb⟩:=al.getL hy
  refine ⟨_,rfl,_,_,_,_,rfl,rfl,SqT.of (m _ _ hb),rfl,rfl,_,rfl,?_⟩
  rw [decide_eq_true rfl]
  refine aT ?_
  refine ⟨_,rfl,_,_,_,_,rfl,rfl,SqL.of g,rfl,_,_,rfl,rfl,_,rfl,_,_,_,_,rfl,rfl,g,rfl,?_⟩
  exact ⟨_,rfl,bn m hp2',by rw [ae]; rfl⟩
 rintro σ G ⟨vw,rfl,m,g⟩
 rw [lw] at g
 refine ⟨_,rfl,_,rfl,le2,fun p3 hp3=>?_⟩
 exact q p3 p2 _ (m.free hp3) (m.trans (ah hp3 _)) ae (ah hp3 _ _ _ g)
def wR:Sp:=fun vs H Q _=>∃ (d nl al:Addr) (ws:List V) (ts:List (List Nat)),vs=[.ref d,.ref nl,.ref al]∧H nl=some (.lst ws)∧aR (NdA H) ws ts∧ts.length≤130∧∀ p H',H p=none→ao H H'→H' p=some (.lst ((ts.map tx).map V.str))→Q (.ref p) H'
theorem ky:aJ ["named","nodes","arguments","words","node","given"] ["named","nodes","arguments"] (av lR):=by walk_at "c"
theorem wS (T:Txt P w K mg a) : aX P w K mg base CX0 1 a.mq a.kX ["named","nodes","arguments"] wR:=by
 refine T.lZ.fn.ok ky (fun vs H Q E h=>?_) (fun cdv A outer s H vs Q E hr h=>?_)
 ·obtain ⟨d,nl,ar,ws,ts,rfl,_⟩:=h
  rfl
 obtain ⟨d,nl,ar,ws,ts,rfl,hn,al,tl,q⟩:=h
 refine ⟨_,(af (aA (i:=3) ky.nd rfl (Or.inl rfl) (aY ac))
   (af (b9 PassesOwn.never rfl (a7 (pv 1)) (aM (i:=4) ky.nd rfl (Or.inl rfl)) (ag (aG (au a_ (aD aN (pv 4) ai (fun _ _=>rfl)) aq (nomark _)) (ag (bj (cH PySem.F.plainAttrs_list PySem.F.slot_list_append PySem.F.type_list_append cf (pv 3) (aa (aD aN (pv 4) ai (fun _ _=>rfl)) ac)))) di)))
   (ag (aF (pv 3))))),?_⟩
 refine ⟨aW (by simp),fun p1 hp1=>?_⟩
 have s1:=ah hp1 (.lst [])
 have lw:=al.len
 refine ⟨_,rfl,nl,rfl,⟨_,SqL.of (s1 _ _ hn)⟩,bT (K:=K) (a:=nl) (xs:=ws) (fun k σ G=>∃ (vw:Option V),σ=[some (.ref d),some (.ref nl),some (.ref ar),some (.ref p1),vw,none]∧ao H G∧G p1=some (.lst (((ts.take k).map tx).map V.str))) ⟨none,rfl,s1,ae⟩ (fun k σ G _ g=>by obtain ⟨_,_,m,_⟩:=g; exact SqL.of (m _ _ hn)) ?_ ?_⟩
 ·rintro k y σ G hy ⟨vw,rfl,m,g⟩
  obtain ⟨t,ht,b,rfl,hb⟩:=al.getL hy
  have hk:=(List.getElem?_eq_some_iff.mp hy).1
  refine ⟨_,rfl,_,_,_,_,rfl,rfl,SqT.of (m _ _ hb),rfl,rfl,_,rfl,?_⟩
  rw [decide_eq_true rfl]
  refine aT ?_
  refine ⟨_,rfl,.inl ⟨rfl,_,SqL.of g⟩,_,rfl,_,_,_,_,rfl,rfl,SqT.of (m _ _ hb),rfl,_,_,_,rfl,rfl,g,aC (by rw [List.length_map,List.length_map,List.length_take]; omega),?_⟩
  refine ⟨_,rfl,bn m hp1,?_⟩
  rw [ae,aP ht,List.map_append,List.map_append]
  rfl
 rintro σ G ⟨vw,rfl,m,g⟩
 rw [lw,List.take_length] at g
 exact ⟨_,rfl,q p1 _ hp1 m g⟩
def yK:Sp:=fun vs H Q _=>∃ (sa nl:Addr) (ws:List V) (ts:List (List Nat)),vs=[.ref sa,.ref nl]∧H sa=some (.lst [])∧H nl=some (.lst ws)∧aR (NdA H) ws ts∧ts.length≤130∧∀ p H',H p=none→ao H H'→H' p=some (.lst ((ts.map tx).map V.str))→Q (.ref p) H'
theorem nJ:aJ ["shorts","nodes","named","size"] ["shorts","nodes"] (av pB):=by walk_at "c"
theorem yL (T:Txt P w K mg a) : aX P w K mg base CX0 2 a.qj a.oj ["shorts","nodes"] yK:=by
 have cw:=T.cw
 have bw:=T.bw
 obtain ⟨t_MOST_CALLS,cw⟩:=cw
 obtain ⟨t_MOST_WORDS_shorts,bw⟩:=bw
 refine T.pZ.fn.ok nJ (fun vs H Q E h=>?_) (fun cdv A outer s H vs Q E hr h=>?_)
 ·obtain ⟨sa,nl,ws,ts,rfl,_⟩:=h
  rfl
 obtain ⟨sa,nl,ws,ts,rfl,hs,hn,al,tl,q⟩:=h
 refine ⟨_,(af (aA (i:=2) nJ.nd rfl (Or.inl rfl) (aB T.pU (yJ T) (hr.mono (by decide)) rfl (aa (pv 0) ac)))
   (af (aA (i:=3) nJ.nd rfl (Or.inl rfl) (aB T.kK (uR T) (hr.mono (by decide)) rfl (aa (pv 2) (aa (pv 1) (aa ai ac)))))
   (af (aG (PW.pt (du (au jJ (aD bU (aD aN (pv 3) ai (fun _ _=>rfl)) ai (fun _ _=>rfl)) (cS (v:=.int 400) rfl bw ⟨_,rfl⟩) (nomark _)) (dN (au jJ (aD aN (pv 3) ai (fun _ _=>rfl)) (cS (v:=.int 400) rfl cw ⟨_,rfl⟩) (nomark _))))) (ag fb) aE)
   (ag (aF (aB T.lZ (wS T) (hr.mono (by decide)) rfl (aa (pv 2) (aa (pv 1) (aa (aY ac) ac))))))))),?_⟩
 refine ⟨_,rfl,sa,rfl,hs,fun p1 H1 hp1 s1 k1=>?_⟩
 dsimp only [bv]
 refine ⟨_,rfl,_,rfl,p1,nl,ws,ts,rfl,s1 _ _ hn,NdsA.mono s1 al,tl,fun p2 r H2 hp2 s2 k2 k3=>?_⟩
 dsimp only [bv]
 refine ⟨_,rfl,_,_,_,_,rfl,rfl,SqT.of k2,rfl,_,_,_,_,rfl,rfl,SqL.of k3,rfl,_,_,rfl,rfl,_,rfl,?_⟩
 rw [decide_eq_false (by omega)]
 refine ay ?_
 refine ⟨_,rfl,_,_,_,_,rfl,rfl,SqT.of k2,rfl,_,_,rfl,rfl,_,rfl,?_⟩
 refine ay ?_
 dsimp only [cX]
 have s12:=s1.trans s2
 refine ⟨_,rfl,_,rfl,aW (by simp),fun p3 hp3=>?_⟩
 have s3:=ah hp3 (.lst [])
 have s13:=s12.trans s3
 exact ⟨p1,nl,p3,ws,ts,rfl,s13 _ _ hn,NdsA.mono s13 al,tl,fun p4 H4 hp4 s4 k4=>q p4 H4 (s13.free hp4) (s13.trans s4) k4⟩
def yM:Sp:=fun vs H Q _=>∃ (w:List Nat),vs=[.str (tx w),.non]∧∀ p,H p=none→Q (.ref p) (upd H p (.tup [.str "word",.str (tx w)]))
theorem yN:aJ ["word","count","k"] ["word","count"] (av pC):=by walk_at "c"
theorem yO (T:Txt P w K mg a) : aX P w K mg base CX0 1 a.qi a.oh ["word","count"] yM:=by
 refine T.pY.fn.ok yN (fun vs H Q E h=>?_) (fun cdv A outer s H vs Q E hr h=>?_)
 ·obtain ⟨w,rfl,_⟩:=h
  rfl
 obtain ⟨w,rfl,q⟩:=h
 refine ⟨_,(af (aG (PW.pt (du (au CI (pv 1) Ct (nomark _)) (dN AW))) (ag (aF (aS (aa aq (aa (pv 0) ac))))) aE)
   di),?_⟩
 refine ⟨_,rfl,rfl,_,rfl,?_⟩
 refine aT ?_
 refine aT ?_
 exact ⟨_,rfl,le2,fun p hp=>q p hp⟩
def uS:Sp:=fun vs H Q _=>∃ w:List Nat,vs=[.str (tx w)]∧w.length≤100∧∀ H',ao H H'→Q (.bl (opn w)) H'
theorem uT:aJ ["word"] ["word"] (av ko):=by walk_at "c"
theorem uU (T:Txt P w K mg a) : aX P w K mg base CX0 2 a.kO a.jE ["word"] uS:=by
 refine T.kJ.fn.ok uT (fun vs H Q E h=>?_) (fun cdv A outer s H vs Q E hr h=>?_)
 ·obtain ⟨w,rfl,_⟩:=h
  rfl
 obtain ⟨w,rfl,hw,q⟩:=h
 refine ⟨_,(ag (aF (jW (eI a_ (dz jk (pv 0) eJ (dI ai)) aq (nomark _)) (jV (aB T.jq (nH T) (hr.mono (by decide)) rfl (aa (dz jk (pv 0) (dI ai) eJ) ac)))))),?_⟩
 refine ⟨_,rfl,_,rfl,_,rfl,aW (by rw [aQ]; omega),rfl,_,rfl,?_⟩
 rw [eB,show iC w none (some 1)=w.take 1 from Tl.cut_to w 1,cz c91]
 cases w with
 | nil =>
  refine ay ?_
  exact q H (ao.refl _)
 | cons c r =>
  by_cases e:c=91
  ·rw [decide_eq_true (show (c :: r).take 1=[91] by rw [e]; rfl)]
   refine aT ?_
   refine ⟨_,rfl,_,rfl,_,rfl,aW (by rw [aQ]; omega),r,?_,by simp at hw; omega,fun H2 s2=>?_⟩
   ·rw [eB,show iC (c :: r) (some 1) none=(c :: r).drop 1 from Tl.cut_from (c :: r) 1]
    rfl
   ·have:=q H2 s2
    change Q (.bl (decide (c=91) && bE r)) H2 at this
    rw [decide_eq_true e,Bool.true_and] at this
    exact this
  ·rw [decide_eq_false (show ¬ (c :: r).take 1=[91] from fun z=>e (by simpa using z))]
   refine ay ?_
   have:=q H (ao.refl _)
   change Q (.bl (decide (c=91) && bE r)) H at this
   rw [decide_eq_false e,Bool.false_and] at this
   exact this
def yP (K:PySem.W.Frag) : Sp:=fun vs H Q _=>∃ (la:Addr) (ts:List (List Nat)),vs=[.ref la,.non]∧SqL K H la ((ts.map tx).map V.str)∧ts.length≤130∧(∀ t ∈ ts,opn t=false∧t.length≤100)∧∀ p H' ws,H p=none→ao H H'→H' p=some (.lst ws)→aR (NdA H') ws ts→Q (.ref p) H'
theorem jP:aJ ["words","count","nodes","pending","word"] ["words","count"] (av pE):=by walk_at "c"
theorem yQ (T:Txt P w K mg a) : aX P w K mg base CX0 3 a.qk a.om ["words","count"] (yP K):=by
 refine T.p_.fn.ok jP (fun vs H Q E h=>?_) (fun cdv A outer s H vs Q E hr h=>?_)
 ·obtain ⟨la,ts,rfl,_⟩:=h
  rfl
 obtain ⟨la,ts,rfl,hW,tl,ok,q⟩:=h
 have hu:=Nat.lt_of_succ_lt (df hr)
 refine ⟨_,(af (aA (i:=2) jP.nd rfl (Or.inl rfl) (aY ac))
   (af (aA (i:=3) jP.nd rfl (Or.inl rfl) (aY ac))
   (af (b9 PassesOwn.never rfl (a7 (pv 0)) (aM (i:=4) jP.nd rfl (Or.inl rfl)) (ag (aG (b8 (aB T.kJ (uU T) (hr.mono (by decide)) rfl (aa (pv 4) ac)) (fun _=>rfl)) di (ag (aG (PW.pt (ij (au a_ (pv 4) aq (nomark _)) (eG (au (mY hu) (pv 3) (aY ac) (nomark _))))) di (ag (aG (PW.pt (ij (au a_ (pv 4) aq (nomark _)) (eG (au (mY hu) (pv 3) (aY ac) (nomark _))))) di (ag (bj (cH PySem.F.plainAttrs_list PySem.F.slot_list_append PySem.F.type_list_append cf (pv 2) (aa (aB T.pY (yO T) (hr.mono (by decide)) rfl (aa (pv 4) (aa (pv 1) ac))) ac)))))))))))
   (af (aG (au (mY hu) (pv 3) (aY ac) (nomark _)) (ag fb) aE)
   (ag (aF (pv 2))))))),?_⟩
 refine ⟨aW (by simp),fun p1 hp1=>?_⟩
 have s1:=ah hp1 (.lst [])
 have k1:upd H p1 (.lst []) p1=some (.lst []):=ae
 generalize upd H p1 (.lst [])=H1 at s1 k1 ⊢
 refine ⟨aW (by simp),fun p2 hp2=>?_⟩
 have n1:=s1.free hp2
 have n12:p1≠p2:=cx k1 hp2
 have s2:=ah hp2 (.lst [])
 have k2:upd H1 p2 (.lst []) p2=some (.lst []):=ae
 generalize upd H1 p2 (.lst [])=H2 at s2 k2 ⊢
 have s12:=s1.trans s2
 refine ⟨_,rfl,la,rfl,⟨_,s12.seq hW⟩,bT (K:=K) (a:=la) (xs:=(ts.map tx).map V.str) (fun k σ G=>∃ (vw:Option V) (ws:List V),σ=[some (.ref la),some .non,some (.ref p1),some (.ref p2),vw]∧ao H G∧G p1=some (.lst ws)∧G p2=some (.lst [])∧aR (NdA (hid [p1] G)) ws (ts.take k)) ⟨none,[],rfl,s12,s2 _ _ k1,k2,trivial⟩ (fun k σ G _ g=>by obtain ⟨_,_,_,m,_⟩:=g; exact m.seq hW) ?_ ?_⟩
 ·rintro k y σ G hy ⟨vw,ws,rfl,m,g1,g2,al⟩
  obtain ⟨w,hw,rfl⟩:=j0 hy
  obtain ⟨o1,o2⟩:=ok w (List.mem_of_getElem? hw)
  have lw:=al.len
  rw [List.length_take] at lw
  refine ⟨_,rfl,w,rfl,o2,fun G1 m1=>⟨_,rfl,?_⟩⟩
  rw [o1]
  refine ay ?_
  refine ⟨_,rfl,rfl,_,rfl,?_⟩
  rw [cz EK]
  by_cases b1:w=C3
  ·rw [decide_eq_true b1]
   refine aT ?_
   refine ⟨_,rfl,aW (by simp),fun p3 hp3=>?_⟩
   have m2:=m1.trans (ah hp3 (.lst []))
   refine ⟨_,_,_,rfl,rfl,SqL.of (m2 _ _ g2),SqL.of ae,_,rfl,?_⟩
   refine ay ?_
   refine ⟨_,rfl,rfl,_,rfl,?_⟩
   rw [cz Dd,decide_eq_false (fun z=>by rw [b1] at z; exact absurd z (by decide))]
   refine ay ?_
   refine ay ?_
   refine ⟨_,rfl,.inl ⟨rfl,_,SqL.of (m2 _ _ g1)⟩,_,rfl,_,rfl,w,rfl,fun p4 hp4=>?_⟩
   have m3:=m2.trans (ah hp4 (.tup [.str "word",.str (tx w)]))
   refine ⟨_,_,_,rfl,rfl,m3 _ _ g1,aC (by omega),?_⟩
   refine ⟨_,_,rfl,bn (m.trans m3) hp1,ae,?_,?_⟩
   ·rw [aj (Ne.symm n12)]; exact m3 _ _ g2
   ·rw [bY (by simp),aP hw]
    exact (NdsA.mono (bb m3) al).snoc ⟨p4,rfl,a8 (by simp; exact Ne.symm (cx (m2 _ _ g1) hp4)) ae⟩
  rw [decide_eq_false b1]
  refine ay ?_
  refine ay ?_
  refine ⟨_,rfl,rfl,_,rfl,?_⟩
  rw [cz Dd]
  by_cases b2:w=C4
  ·rw [decide_eq_true b2]
   refine aT ?_
   refine ⟨_,rfl,aW (by simp),fun p3 hp3=>?_⟩
   have m2:=m1.trans (ah hp3 (.lst []))
   refine ⟨_,_,_,rfl,rfl,SqL.of (m2 _ _ g2),SqL.of ae,_,rfl,?_⟩
   refine ay ?_
   refine ⟨_,rfl,.inl ⟨rfl,_,SqL.of (m2 _ _ g1)⟩,_,rfl,_,rfl,w,rfl,fun p4 hp4=>?_⟩
   have m3:=m2.trans (ah hp4 (.tup [.str "word",.str (tx w)]))
   refine ⟨_,_,_,rfl,rfl,m3 _ _ g1,aC (by omega),?_⟩
   refine ⟨_,_,rfl,bn (m.trans m3) hp1,ae,?_,?_⟩
   ·rw [aj (Ne.symm n12)]; exact m3 _ _ g2
   ·rw [bY (by simp),aP hw]
    exact (NdsA.mono (bb m3) al).snoc ⟨p4,rfl,a8 (by simp; exact Ne.symm (cx (m2 _ _ g1) hp4)) ae⟩
  rw [decide_eq_false b2]
  refine ay ?_
  refine ay ?_
  have m2:=m1
  refine ⟨_,rfl,.inl ⟨rfl,_,SqL.of (m2 _ _ g1)⟩,_,rfl,_,rfl,w,rfl,fun p4 hp4=>?_⟩
  have m3:=m2.trans (ah hp4 (.tup [.str "word",.str (tx w)]))
  refine ⟨_,_,_,rfl,rfl,m3 _ _ g1,aC (by omega),?_⟩
  refine ⟨_,_,rfl,bn (m.trans m3) hp1,ae,?_,?_⟩
  ·rw [aj (Ne.symm n12)]; exact m3 _ _ g2
  ·rw [bY (by simp),aP hw]
   exact (NdsA.mono (bb m3) al).snoc ⟨p4,rfl,a8 (by simp; exact Ne.symm (cx (m2 _ _ g1) hp4)) ae⟩
 rintro σ G ⟨vw,ws,rfl,m,g1,g2,al⟩
 rw [List.length_map,List.length_map,List.take_length] at al
 refine ⟨_,rfl,aW (by simp),fun p5 hp5=>?_⟩
 have m2:=ah hp5 (.lst [])
 refine ⟨_,_,_,rfl,rfl,SqL.of (m2 _ _ g2),SqL.of ae,_,rfl,?_⟩
 refine ay ?_
 exact ⟨_,rfl,q p1 _ ws hp1 (m.trans m2) (m2 _ _ g1) (NdsA.mono (bJ.trans m2) al)⟩
def oH (K:PySem.W.Frag) (C:Addr) : Sp:=fun vs H Q _=>∃ (r la bt dx sa fa ta:Addr) (g:Bool) (ts:List (List Nat)) (bs:List Kw),vs=[.ref r,.ref la,.ref bt]∧H r=some (.ins C dx (fsR sa fa ta g))∧H sa=some (.lst [])∧SqL K H la ((ts.map tx).map V.str)∧SqT K H bt (bs.map kwV)∧ts.length≤130∧(∀ t ∈ ts,ng t∧(kwL t).1 ∉ bs)∧∀ p H' ws,H p=none→ao H H'→H' p=some (.lst ws)→bW (hid [p] H') ws (ts.map wkL)→Q (.ref p) H'
theorem dW:aJ ["self","words","barred","read","kind","rest"] ["self","words","barred"] (av gD):=by walk_at "c"
theorem fV (T:Txt P w K mg a) : aX P w K mg base CX0 4 a.gP a.gf ["self","words","barred"] (oH K a.aH):=by
 have b7:=T.b7
 obtain ⟨t_LONGEST_TEXT,b7⟩:=b7
 refine T.dq.fn.ok dW (fun vs H Q E h=>?_) (fun cdv A outer s H vs Q E hr h=>?_)
 ·obtain ⟨r,la,bt,dx,sa,fa,ta,g,ts,bs,rfl,_⟩:=h
  rfl
 obtain ⟨r,la,bt,dx,sa,fa,ta,g,ts,bs,rfl,hr_,hs,hl,hb,tl,ok,q⟩:=h
 refine ⟨_,(af (yf (k:=3) rfl (eN (caps:=[]) (js:=[]) (cap:=trivial)) (a7 (aB T.pZ (yL T) (hr.mono (by decide)) rfl (aa (bC (pv 0) rfl) (aa (zB (dx:=.non) T.p_ rfl (yQ T) (hr.mono (by decide)) rfl (aa (pv 1) ac)) ac)))) (fun _ _ _ _=>c9) (fun _ _ _ _=>(aB T.pV (yG T) (hr.mono (by decide)) rfl (aa (pv 0) ac))) dW.nd rfl rfl)
   (af (b9 PassesOwn.never rfl (a7 (pv 3)) (d8 rfl (a6 (aM (i:=4) dW.nd rfl (Or.inl rfl)) (a6 (aM (i:=5) dW.nd rfl (Or.inl rfl)) dw))) (af (aG (au gr (pv 4) (pv 2) (by with_unfolding_all rfl)) (ag fb) aE)
   (ag (aG (PW.pt (ij (au a_ (pv 4) aq (nomark _)) (eG (au jJ (aK gt rfl T.bS PySem.boot_len (aa (pv 5) ac)) (cS (v:=.int 60) rfl b7 ⟨_,rfl⟩) (nomark _))))) (ag fb) aE))))
   (ag (aF (pv 3))))),?_⟩
 refine ⟨_,rfl,_,_,_,_,_,rfl,hr_,T.bo.cl,T.iI,zL,_,rfl,la,ts,rfl,hl,tl,(fun t ht=>⟨(ok t ht).1.opn,by have:=(ok t ht).1.len; omega⟩),fun p1 H1 ws hp1 s1 k1 al=>?_⟩
 refine ⟨sa,p1,ws,ts,rfl,s1 _ _ hs,k1,al,tl,fun p2 H2 hp2 s2 k2=>?_⟩
 have s12:=s1.trans s2
 refine ⟨p2,rfl,⟨_,SqL.of k2⟩,eO (K:=K) (a:=p2) (xs:=(ts.map tx).map V.str) (fun i ys G=>ao H2 G∧ys.length=i∧bW G ys ((ts.take i).map wkL)) ⟨ao.refl _,rfl,trivial⟩ (fun i ys G _ g=>SqL.of (g.1 _ _ k2)) ?_ ?_ ?_⟩
 ·rintro i ys G hi ⟨_,e,_⟩
  rw [List.length_map,List.length_map] at hi
  rw [e]
  exact aC (by omega)
 ·rintro i y ys G hy ⟨m,e,al⟩
  obtain ⟨t,ht,rfl⟩:=j0 hy
  have gd:=(ok t (List.mem_of_getElem? ht)).1
  refine d_ ?_
  cases t with
  | nil=>exact absurd rfl gd.ne
  | cons c u =>
  have gl:=gd.len
  simp only [List.length_cons] at gl
  refine ⟨_,rfl,c,u,rfl,by omega,fun p H3 hp m3 k3=>⟨m.trans m3,by rw [List.length_append,e]; rfl,?_⟩⟩
  rw [aP ht,List.map_append]
  refine (bW.mono m3 al).snoc ⟨p,rfl,?_⟩
  obtain ⟨e1,e2⟩:=B9 (c :: u)
  rw [k3,e1,e2]
  rfl
 rintro ys G ⟨m,e,al⟩ p3 hp3
 rw [List.length_map,List.length_map] at e
 rw [List.length_map,List.length_map,List.take_length] at al
 have hfree:=(s12.trans m).free hp3
 have s3:=ah hp3 (.lst ys)
 have k3:upd G p3 (.lst ys) p3=some (.lst ys):=ae
 have al3:=bW.mono (xJ s3 (os:=[p3]) (fun b hb=>by rw [List.mem_singleton.mp hb]; exact hp3)) al
 generalize upd G p3 (.lst ys)=G3 at s3 k3 al3 ⊢
 have s13:=s12.trans (m.trans s3)
 refine ⟨_,rfl,p3,rfl,⟨_,SqL.of k3⟩,bT (K:=K) (a:=p3) (xs:=ys) (fun i σ G=>∃ (v1 v2:Option V),σ=[some (.ref r),some (.ref la),some (.ref bt),some (.ref p3),v1,v2]∧ao G3 G) ⟨none,none,rfl,ao.refl _⟩ (fun i σ G _ g=>by obtain ⟨_,_,_,m⟩:=g; exact SqL.of (m _ _ k3)) ?_ ?_⟩
 ·rintro i y σ G hy ⟨v1,v2,rfl,m⟩
  obtain ⟨w,hw,b,rfl,hb'⟩:=al3.getL hy
  rw [List.getElem?_map] at hw
  obtain ⟨t,ht,rfl⟩:=Option.map_eq_some_iff.mp hw
  obtain ⟨gd,nb⟩:=ok t (List.mem_of_getElem? ht)
  have hG:=m _ _ (bJ _ _ hb')
  refine ⟨b,_,rfl,SqT.of hG,rfl,_,_,rfl,_,_,rfl,rfl,?_⟩
  refine ⟨_,rfl,_,rfl,_,_,rfl,.inr ((s13.trans m).tup hb),rfl,ww bs,_,rfl,?_⟩
  change (if (if false=true then _ else inV (kwV (wkL t).1) (bs.map kwV))=true then _ else _)
  rw [qT (k:=(wkL t).1) nb]
  refine ay ?_
  dsimp only [cX]
  refine ⟨_,rfl,rfl,_,rfl,?_⟩
  by_cases pk:(kwL t).1 = .plain
  ·refine dX (fun _=>?_) (fun _=>?_)
   ·have pl:=gd.pl pk
    refine ⟨_,rfl,_,rfl,aW (by rw [aQ]; omega),_,_,rfl,rfl,_,rfl,?_⟩
    rw [aQ,decide_eq_false (by omega)]
    refine ay ?_
    exact ⟨_,_,rfl,m⟩
   ·refine ay ?_
    exact ⟨_,_,rfl,m⟩
  ·have:¬ (V.str (wkL t).1.s=V.str "plain"):=fun z=>pk (Kw.inj (b:=.plain) (V.str.inj z))
   rw [decide_eq_false this]
   refine ay ?_
   refine ay ?_
   exact ⟨_,_,rfl,m⟩
 rintro σ G ⟨v1,v2,rfl,m⟩
 exact ⟨_,rfl,q p3 G ys (hfree) (s13.trans m) (m _ _ k3) (bW.mono (bb m) al3)⟩
def oI (K:PySem.W.Frag) (C:Addr) : Sp:=fun vs H Q _=>∃ (r la:Addr) (H0:Hp) (s:Rs) (n:List Nat) (ts:List (List Nat)),vs=[.ref r,.ref la]∧RdA C H0 H r s∧SqL K H la (((cY :: n :: ts).map tx).map V.str)∧bE n=true∧n.length≤12∧ts.length≤39∧(∀ t ∈ ts,ng t∧(kwL t).1 ∉ [Kw.mark,Kw.foot])∧lkS (tx n) s.feet=none∧s.feet.length≤200∧∀ H',RdA C H0 H' r (bM s (.foot (tx n) (ts.map wkL)))→Q .non H'
theorem fW:aJ ["self","words","name","text"] ["self","words"] (av gE):=by walk_at "c"
theorem oJ (T:Txt P w K mg a) : aX P w K mg base CX0 5 a.gO a.ge ["self","words"] (oI K a.aH):=by
 have bK:=T.bK
 obtain ⟨t_MOST_FOOT_WORDS,bK⟩:=bK
 refine T.gJ.fn.ok fW (fun vs H Q E h=>?_) (fun cdv A outer s H vs Q E hr h=>?_)
 ·obtain ⟨r,la,H0,s,n,ts,rfl,_⟩:=h
  rfl
 obtain ⟨r,la,H0,s,n,ts,rfl,R,hl,nn,nl,tl,ok,nt,sl,q⟩:=h
 refine ⟨_,(af (aG (PW.pt (du (au u0 (aK bD rfl T.bS PySem.boot_len (aa (pv 1) ac)) ai (nomark _)) (dN (dO (b8 (aB T.jq (nH T) (hr.mono (by decide)) rfl (aa (aD bU (pv 1) ai (fun _ _=>rfl)) ac)) (fun _=>rfl)))))) (ag fb) aE)
   (af (aA (i:=2) fW.nd rfl (Or.inl rfl) (aD bU (pv 1) ai (fun _ _=>rfl)))
   (af (aG (au (sJ (df hr)) (pv 2) (bC (pv 0) rfl) (by with_unfolding_all rfl)) (ag fb) aE)
   (af (aA (i:=3) fW.nd rfl (Or.inl rfl) (dF dU T.bo T.dq (fV T) (hr.mono (by decide)) (pv 0) (aa (dz tD (pv 1) (dI ai) eJ) (aa (aS (aa aq (aa aq ac))) ac))))
   (af (aG (au jJ (aK bD rfl T.bS PySem.boot_len (aa (pv 3) ac)) (cS (v:=.int 39) rfl bK ⟨_,rfl⟩) (nomark _)) (ag fb) aE)
   (ag (tE (df hr) (bC (pv 0) rfl) (pv 2) (pv 3) rfl))))))),?_⟩
 refine ⟨_,rfl,_,_,rfl,.inl hl,_,_,rfl,rfl,_,rfl,?_⟩
 rw [decide_eq_false (show ¬ ((((((cY :: n :: ts).map tx).map V.str).length:Nat) : Int) < 2) by simp; omega)]
 refine ay ?_
 refine ⟨_,rfl,_,_,_,_,rfl,rfl,hl,dy (j:=1) rfl,n,rfl,(by omega),fun H1 s1=>⟨_,rfl,?_⟩⟩
 rw [nn]
 refine ay ?_
 dsimp only [cX]
 refine ⟨_,rfl,_,_,_,_,rfl,rfl,s1.seq hl,dy (j:=1) rfl,?_⟩
 obtain ⟨dx,sa,fa,ta,kvs,vs,h1,h2,h3,h4,lv,lf,fn,put,stop,foot,_⟩:=(R.same s1).use
 refine ⟨_,rfl,_,rfl,_,_,_,_,_,rfl,h1,T.bo.cl,T.eW,tK,_,_,rfl,dR.k (k:=.inr (tx n)) h3,_,rfl,?_⟩
 rw [fn _ nt]
 refine ay ?_
 dsimp only [cX]
 refine ⟨_,rfl,_,_,_,rfl,h1,lK (by decide +kernel),_,rfl,_,rfl,_,_,rfl,s1.seq hl,fun p1 hp1=>?_⟩
 have s2:=ah hp1 (.lst (eK (((cY :: n :: ts).map tx).map V.str) (some 2) none))
 have k2:upd H1 p1 (.lst (eK (((cY :: n :: ts).map tx).map V.str) (some 2) none)) p1=some (.lst ((ts.map tx).map V.str)):=by
  rw [ae]
  have:=Tl.cut_from (((cY :: n :: ts).map tx).map V.str) 2
  exact congrArg (fun l=>some (HO.lst l)) this
 generalize upd H1 p1 (.lst (eK (((cY :: n :: ts).map tx).map V.str) (some 2) none))=H2 at s2 k2 ⊢
 refine ⟨le2,fun p2 hp2=>?_⟩
 have s3:=ah hp2 (.tup [kwV .mark,kwV .foot])
 have k3:upd H2 p2 (.tup [kwV .mark,kwV .foot]) p2=some (.tup [kwV .mark,kwV .foot]):=ae
 have s23:=s2.trans s3
 refine ⟨r,p1,p2,dx,sa,fa,ta,s.g,ts,[.mark,.foot],rfl,s23 _ _ h1,s23 _ _ h2,SqL.of (s3 _ _ k2),SqT.of k3,(by omega),ok,fun p4 H4 ws hp4 s4 k4 al=>?_⟩
 have s14:=s23.trans s4
 have lw:=al.len
 rw [List.length_map] at lw
 refine ⟨_,rfl,_,_,rfl,.inl (SqL.of k4),_,_,rfl,rfl,_,rfl,?_⟩
 rw [decide_eq_false (by omega)]
 refine ay ?_
 dsimp only [cX]
 refine ⟨_,rfl,_,rfl,_,_,_,_,_,rfl,s14 _ _ h1,T.bo.cl,T.eW,tK,_,rfl,_,_,rfl,rb.k (k:=.inr (tx n)) (s14 _ _ h3) (aC (by omega)),?_⟩
 rw [q_ _ (fn _ nt)]
 exact q _ (foot H4 _ p4 _ s14 (s23.free hp4) ⟨ws,k4,bW.mono bJ al⟩)
def nK (K:PySem.W.Frag) (C:Addr) : Sp:=fun vs H Q _=>∃ (r la:Addr) (H0:Hp) (s:Rs) (ts:List (List Nat)),vs=[.ref r,.ref la]∧RdA C H0 H r s∧SqL K H la ((ts.map tx).map V.str)∧ts.length≤130∧(∀ t ∈ ts,ng t)∧s.things.length≤200∧tgS s.things≤500∧∀ H',RdA C H0 H' r (bM s (.par (ts.map wkL)))→Q .non H'
theorem iU:aJ ["self","words","read"] ["self","words"] (av fS):=by walk_at "c"
theorem nM (T:Txt P w K mg a) : aX P w K mg base CX0 5 a.ga a.fD ["self","words"] (nK K a.aH):=by
 refine T.fY.fn.ok iU (fun vs H Q E h=>?_) (fun cdv A outer s H vs Q E hr h=>?_)
 ·obtain ⟨r,la,H0,s,ts,rfl,_⟩:=h
  rfl
 obtain ⟨r,la,H0,s,ts,rfl,R,hl,tl,ok,sl,sn,q⟩:=h
 refine ⟨_,(af (aA (i:=2) iU.nd rfl (Or.inl rfl) (dF dU T.bo T.dq (fV T) (hr.mono (by decide)) (pv 0) (aa (pv 1) (aa (aS ac) ac))))
   (ag (aG (b8 (bC (pv 0) rfl) (fun _=>rfl)) (ag (bj (cH PySem.F.plainAttrs_list PySem.F.slot_list_extend PySem.F.type_list_extend oS (aD aN (aD bU (bC (pv 0) rfl) (qx my ai) (fun _ _=>rfl)) ai (fun _ _=>rfl)) (aa (pv 2) ac)))) (af (bj (dF dU T.bo T.dm (fU T) (hr.mono (by decide)) (pv 0) (aa (aS (aa aq (aa (pv 2) ac))) ac)))
   (ag (cM (pv 0) cW rfl)))))),?_⟩
 obtain ⟨dx,sa,fa,ta,kvs,vs,h1,h2,h3,h4,lv,lf,fn,put,stop,foot,more,first,_⟩:=R.use
 refine ⟨_,rfl,_,_,_,rfl,h1,lK (by decide +kernel),_,rfl,aW (by simp),fun p1 hp1=>?_⟩
 have s1:=ah hp1 (.tup [])
 refine ⟨r,la,p1,dx,sa,fa,ta,s.g,ts,[],rfl,s1 _ _ h1,s1 _ _ h2,s1.seq hl,SqT.of ae,tl,(fun t ht=>⟨ok t ht,by simp⟩),fun p2 H2 ws hp2 s2 k2 al=>?_⟩
 dsimp only [bv]
 have s12:=s1.trans s2
 refine ⟨_,rfl,_,_,_,_,_,rfl,s12 _ _ h1,T.bo.cl,T.cF,xl,_,rfl,?_⟩
 by_cases g:s.g=true
 ·rw [g]
  refine aT ?_
  obtain ⟨vi,a,lo,wvs,ini,ws0,e1,e2,e3,e4,e5,key⟩:=more g
  have hw:=B4 (ini:=ini) (ws:=ws0)
  rw [← e4] at hw
  have lw:=al.len
  rw [List.length_map] at lw
  refine ⟨_,rfl,_,_,_,_,_,rfl,s12 _ _ h1,T.bo.cl,T.dS,o5,_,rfl,_,_,_,_,rfl,rfl,SqL.of (s12 _ _ h4),(by rw [e1]; exact i7 _ _),_,_,_,_,rfl,rfl,SqT.of (s12 _ _ e2),rfl,.inl ⟨rfl,_,SqL.of (s12 _ _ e3)⟩,_,rfl,_,_,_,_,rfl,rfl,s12 _ _ e3,k2,Nat.le_of_lt (aC (by omega)),?_⟩
  have:=key H2 ws (ts.map wkL) s12 (bW.mono bJ al)
  refine q _ ?_
  rw [show bM s (.par (ts.map wkL))={ s with things:=cp (ts.map wkL) s.things } from by unfold bM; exact if_pos g]
  exact this
 ·rw [Bool.not_eq_true] at g
  rw [g]
  refine ay ?_
  refine ⟨_,rfl,_,_,_,rfl,s12 _ _ h1,lK (by decide +kernel),_,rfl,le2,fun p3 hp3=>?_⟩
  have s3:=ah hp3 (.tup [.str "paragraph",.ref p2])
  have k3:upd H2 p3 (.tup [.str "paragraph",.ref p2]) p3=some (.tup [.str "paragraph",.ref p2]):=ae
  have s13:=s12.trans s3
  have hp2':=s1.free hp2
  generalize upd H2 p3 (.tup [.str "paragraph",.ref p2])=H3 at s3 k3 s13 ⊢
  have la2:cg H3 p2 (ts.map wkL):=⟨ws,s3 _ _ k2,bW.mono (bJ.trans s3) al⟩
  refine ⟨r,.ref p3,H0,H,s,.par (ts.map wkL),rfl,R,s13,⟨p3,p2,rfl,k3,hp2',la2⟩,sl,fun H4 R4 e4=>?_⟩
  have e4:=e4 _ _ _ _ _ _ h1 h4
  have h4':H4 r=some (.ins a.aH dx (fsR sa fa ta false)):=by rw [e4]; exact ae
  refine ⟨_,rfl,_,_,_,_,rfl,h4',T.bo.cl,T.cF,tL,?_⟩
  rw [o6,e4]
  refine q _ ?_
  rw [show bM s (.par (ts.map wkL))={ s with things:=s.things++[.par (ts.map wkL)],g:=true } from by unfold bM; exact if_neg (by rw [g]; decide)]
  exact first H3 p3 p2 _ s13 k3 hp2' la2
def pR (K:PySem.W.Frag) (C:Addr) : Sp:=fun vs H Q _=>∃ (r la:Addr) (H0:Hp) (s:Rs) (ts:List (List Nat)) (rw:Rw),vs=[.ref r,.ref la]∧RdA C H0 H r s∧SqL K H la ((ts.map tx).map V.str)∧iS ts rw∧Ba s rw∧s.things.length≤200∧tgS s.things≤500∧s.feet.length≤200∧∀ H',RdA C H0 H' r (bM s rw)→Q .non H'
theorem jo:aJ ["self","words","first"] ["self","words"] (av hV):=by walk_at "c"
theorem pS (T:Txt P w K mg a) : aX P w K mg base CX0 6 a.ic a.gU ["self","words"] (pR K a.aH):=by
 have fJ:=T.fJ
 have fK:=T.fK
 obtain ⟨fJ,k_ALONE⟩:=fJ
 obtain ⟨fK,k_HEADS⟩:=fK
 refine T.h_.fn.ok jo (fun vs H Q E h=>?_) (fun cdv A outer s H vs Q E hr h=>?_)
 ·obtain ⟨r,la,H0,s,ts,rw,rfl,_⟩:=h
  rfl
 obtain ⟨r,la,H0,s,ts,rw,rfl,R,hl,ri,tw,sl,sn,fl,q⟩:=h
 have hu:=Nat.lt_of_succ_lt (df hr)
 refine ⟨_,(af (aG (au (rg hu) (pv 1) (aY ac) (nomark _)) (af (cM (pv 0) cW rfl)
   (ag BC)) aE)
   (af (aA (i:=2) jo.nd rfl (Or.inl rfl) (aD bU (pv 1) ai (fun _ _=>rfl)))
   (ag (aG (au a_ (pv 2) aq (nomark _)) di (ag (aG (au a_ (pv 2) aq (nomark _)) (ag (bj (dF dU T.bo T.gJ (oJ T) (hr.mono (by decide)) (pv 0) (aa (pv 1) ac)))) (ag (aG (au gr (pv 2) (cS (v:=.ref a.iL) rfl fJ rfl) (by with_unfolding_all rfl)) (ag (bj (dF dU T.bo T.fX (nG T) (hr.mono (by decide)) (pv 0) (aa (pv 1) ac)))) (ag (aG (au gr (pv 2) (cS (v:=.ref a.iM) rfl fK rfl) (by with_unfolding_all rfl)) (ag (bj (dF dU T.bo T.dm (fU T) (hr.mono (by decide)) (pv 0) (aa (aS (aa aq (aa (aK gt rfl T.bS PySem.boot_len (aa (pv 2) ac)) (aa (dF dU T.bo T.dq (fV T) (hr.mono (by decide)) (pv 0) (aa (dz tD (pv 1) (dI ai) eJ) (aa (aS (aa aq ac)) ac))) ac)))) ac)))) (ag (aG (au a_ (aD d9 (pv 2) ai (fun _ _=>rfl)) aq (nomark _)) (ag fb) (ag (bj (dF dU T.bo T.fY (nM T) (hr.mono (by decide)) (pv 0) (aa (pv 1) ac)))))))))))))))),?_⟩
 refine ⟨_,rfl,aW (by simp),fun p1 hp1=>?_⟩
 have s1:=ah hp1 (.lst [])
 have k1:upd H p1 (.lst []) p1=some (.lst []):=ae
 generalize upd H p1 (.lst [])=H1 at s1 k1 ⊢
 have R1:=R.same s1
 have hl1:=s1.seq hl
 refine ⟨_,_,_,rfl,rfl,hl1,SqL.of k1,_,rfl,?_⟩
 obtain ⟨dx,sa,fa,ta,kvs,vs,h1,h2,h3,h4,lv,lf,fn,put,stop,_⟩:=R1.use
 have eA:∀ w:List Nat,inV (.str (tx w)) [.str (PySem.Str.ofString ".page"),.str (PySem.Str.ofString ".odd"),.str (PySem.Str.ofString ".list")]=decide (w ∈ [qC,tS,qD]):=fun w=>by
  rw [Bt,Df,Bu]; exact o8 [qC,tS,qD]
 have eH:∀ w:List Nat,inV (.str (tx w)) [.str (PySem.Str.ofString "="),.str (PySem.Str.ofString "=="),.str (PySem.Str.ofString "===")]=decide (w ∈ [[61],[61,61],[61,61,61]]):=fun w=>by
  rw [cH1,cH2,cH3]; exact o8 [[61],[61,61],[61,61,61]]
 cases ri with
 | empty =>
  refine aT ?_
  refine ⟨_,rfl,_,_,_,_,rfl,h1,T.bo.cl,T.cF,tL,?_⟩
  rw [o6]
  exact q _ (stop H1 (ao.refl _))
 | @foot n ts nn nl tl ok =>
  refine ay ?_
  refine ⟨_,rfl,_,_,_,_,rfl,rfl,hl1,dy (j:=0) rfl,?_⟩
  refine ⟨_,rfl,rfl,_,rfl,?_⟩
  rw [cz yo,decide_eq_false (by decide)]
  refine ay ?_
  refine ⟨_,rfl,rfl,_,rfl,?_⟩
  rw [cz iR,decide_eq_true rfl]
  refine aT ?_
  exact ⟨_,rfl,_,_,_,rfl,h1,lK (by decide +kernel),_,rfl,r,la,H0,s,n,ts,rfl,R1,hl1,nn,nl,tl,ok,tw,fl,fun H' R'=>q H' R'⟩
 | @alone w rw al =>
  refine ay ?_
  refine ⟨_,rfl,_,_,_,_,rfl,rfl,hl1,dy (j:=0) rfl,?_⟩
  refine ⟨_,rfl,rfl,_,rfl,?_⟩
  rw [cz yo,decide_eq_false (by rcases al with ⟨rfl,_⟩ | ⟨rfl,_⟩ | ⟨rfl,_⟩ <;> decide)]
  refine ay ?_
  refine ⟨_,rfl,rfl,_,rfl,?_⟩
  rw [cz iR,decide_eq_false (by rcases al with ⟨rfl,_⟩ | ⟨rfl,_⟩ | ⟨rfl,_⟩ <;> decide)]
  refine ay ?_
  refine ⟨_,rfl,_,_,rfl,.inr (k_ALONE _),rfl,rfl,_,rfl,?_⟩
  rw [eA,decide_eq_true (by rcases al with ⟨rfl,_⟩ | ⟨rfl,_⟩ | ⟨rfl,_⟩ <;> decide)]
  refine aT ?_
  exact ⟨_,rfl,_,_,_,rfl,h1,lK (by decide +kernel),_,rfl,r,la,H0,s,w,rw,rfl,R1,hl1,al,sl,fun H' R'=>q H' R'⟩
 | @head k ts k3 tl ok =>
  refine ay ?_
  refine ⟨_,rfl,_,_,_,_,rfl,rfl,hl1,dy (j:=0) rfl,?_⟩
  have kk:List.replicate (k+1) 61 ∈ [[61],[61,61],[61,61,61]]:=by
   rcases (show k=0∨k=1∨k=2 by omega) with rfl | rfl | rfl <;> decide
  refine ⟨_,rfl,rfl,_,rfl,?_⟩
  rw [cz yo,decide_eq_false (fun z=>by rw [z] at kk; exact absurd kk (by decide))]
  refine ay ?_
  refine ⟨_,rfl,rfl,_,rfl,?_⟩
  rw [cz iR,decide_eq_false (fun z=>by rw [z] at kk; exact absurd kk (by decide))]
  refine ay ?_
  refine ⟨_,rfl,_,_,rfl,.inr (k_ALONE _),rfl,rfl,_,rfl,?_⟩
  rw [eA,decide_eq_false (fun z=>by rcases (show k=0∨k=1∨k=2 by omega) with rfl | rfl | rfl <;> exact absurd z (by decide))]
  refine ay ?_
  refine ⟨_,rfl,_,_,rfl,.inr (k_HEADS _),rfl,rfl,_,rfl,?_⟩
  rw [eH,decide_eq_true kk]
  refine aT ?_
  refine ⟨_,rfl,_,_,_,rfl,h1,lK (by decide +kernel),_,rfl,_,rfl,aC (by rw [List.length_replicate]; omega),_,rfl,_,_,_,rfl,h1,lK (by decide +kernel),_,rfl,_,rfl,_,_,rfl,hl1,fun p2 hp2=>?_⟩
  have s2:=ah hp2 (.lst (eK (((List.replicate (k+1) 61 :: ts).map tx).map V.str) (some 1) none))
  have k2:upd H1 p2 (.lst (eK (((List.replicate (k+1) 61 :: ts).map tx).map V.str) (some 1) none)) p2=some (.lst ((ts.map tx).map V.str)):=by
   rw [ae]
   have:=Tl.cut_from (((List.replicate (k+1) 61 :: ts).map tx).map V.str) 1
   exact congrArg (fun l=>some (HO.lst l)) this
  generalize upd H1 p2 (.lst (eK (((List.replicate (k+1) 61 :: ts).map tx).map V.str) (some 1) none))=H2 at s2 k2 ⊢
  refine ⟨le1,fun p3 hp3=>?_⟩
  have s3:=ah hp3 (.tup [kwV .foot])
  have k3':upd H2 p3 (.tup [kwV .foot]) p3=some (.tup [kwV .foot]):=ae
  change _ at s3
  have s23:=s2.trans s3
  refine ⟨r,p2,p3,dx,sa,fa,ta,s.g,ts,[.foot],rfl,s23 _ _ h1,s23 _ _ h2,SqL.of (s3 _ _ k2),SqT.of k3',(by omega),ok,fun p4 H4 ws hp4 s4 k4 al=>?_⟩
  have s14:=s23.trans s4
  refine ⟨le3,fun p5 hp5=>?_⟩
  have s5:=ah hp5 (.tup [.str "head",.int (((List.replicate (k+1) 61).length:Nat) : Int),.ref p4])
  refine ⟨r,.ref p5,H0,H1,s,.head (k+1) (ts.map wkL),rfl,R1,s14.trans s5,⟨p5,p4,rfl,?_,s23.free hp4,ws,s5 _ _ k4,bW.mono (bJ.trans s5) al⟩,sl,fun H' R' _=>q H' R'⟩
  exact ae.trans (by rw [aQ,List.length_replicate])
 | @par c u ts c46 nh tl ok =>
  refine ay ?_
  refine ⟨_,rfl,_,_,_,_,rfl,rfl,hl1,dy (j:=0) rfl,?_⟩
  refine ⟨_,rfl,rfl,_,rfl,?_⟩
  rw [cz yo,decide_eq_false (fun z=>c46 (by injection z))]
  refine ay ?_
  refine ⟨_,rfl,rfl,_,rfl,?_⟩
  rw [cz iR,decide_eq_false (fun z=>c46 (by injection z))]
  refine ay ?_
  refine ⟨_,rfl,_,_,rfl,.inr (k_ALONE _),rfl,rfl,_,rfl,?_⟩
  rw [eA,decide_eq_false (fun z=>by
   simp only [List.mem_cons,List.not_mem_nil,or_false] at z
   rcases z with z | z | z <;> exact c46 (by injection z))]
  refine ay ?_
  refine ⟨_,rfl,_,_,rfl,.inr (k_HEADS _),rfl,rfl,_,rfl,?_⟩
  rw [eH,decide_eq_false nh]
  refine ay ?_
  refine ⟨_,rfl,_,_,_,rfl,rfl,aC (by have:=(ok _ List.mem_cons_self).len; simp only [List.length_cons] at this; omega),i5 _ _,rfl,_,rfl,?_⟩
  rw [cz EM,decide_eq_false (fun z=>c46 (by injection z))]
  refine ay ?_
  exact ⟨_,rfl,_,_,_,rfl,h1,lK (by decide +kernel),_,rfl,r,la,H0,s,_,rfl,R1,hl1,(by simp only [List.length_cons]; omega),ok,sl,sn,fun H' R'=>q H' R'⟩
def xq:Sp:=fun vs H Q _=>∃ l:List Nat,vs=[.str (tx l)]∧l.length≤200000∧∀ p H',H p=none→ao H H'→H' p=some (.lst (((cC l).map tx).map V.str))→Q (.ref p) H'
theorem xr:aJ ["row"] ["row"] (av nz):=by walk_at "c"
theorem xu (T:Txt P w K mg a) : aX P w K mg base CX0 1 a.nY a.mv ["row"] xq:=by
 refine T.nU.fn.ok xr (fun vs H Q E h=>?_) (fun cdv A outer s H vs Q E hr h=>?_)
 ·obtain ⟨l,rfl,_⟩:=h
  rfl
 obtain ⟨l,rfl,hl,q⟩:=h
 refine ⟨_,(ag (aF (ir rfl (eN (caps:=[]) (js:=[]) (cap:=trivial)) (a7 (cH PySem.F.plainAttrs_str PySem.F.slot_str_split PySem.F.type_str_split zt (pv 0) (aa aq ac))) (fun _ _ _ _=>(mE (au io (pv 0) aq (nomark _)))) (fun _ _ _ _=>(pv 0))))),?_⟩
 have hs:=sU 32 l
 refine ⟨_,rfl,rfl,_,32,rfl,congrArg (fun z=>[V.str z]) c32,?_,fun p1 hp1=>?_⟩
 ·rw [aQ]
  exact zy (by omega)
 rw [AJ]
 refine ⟨p1,rfl,⟨_,SqL.of ae⟩,eO (xs:=((bc 32 l).map tx).map V.str) (fun i ys H2=>H2=upd H p1 (.lst (((bc 32 l).map tx).map V.str))∧ys=((neW ((bc 32 l).take i)).map tx).map V.str) ⟨rfl,rfl⟩ ?_ ?_ ?_ ?_⟩
 ·rintro i ys H2 _ ⟨rfl,_⟩
  exact SqL.of ae
 ·rintro i ys H2 hi ⟨rfl,rfl⟩
  rw [List.length_map,List.length_map]
  have h1:(neW ((bc 32 l).take i)).length≤((bc 32 l).take i).length:=List.length_filter_le _ _
  rw [List.length_take] at h1
  exact Nat.lt_of_lt_of_le (show _ < 1000000 by omega) (zy (Nat.le_refl _))
 ·rintro i x ys H2 hx ⟨rfl,rfl⟩
  obtain ⟨w,hw,rfl⟩:=j0 hx
  refine ⟨_,rfl,rfl,_,rfl,?_⟩
  rw [List.take_add_one,hw]
  show if (!decide (V.str (tx w)=V.str (PySem.Str.ofString "")))=true then _ else _
  rw [show (some w).toList=[w] from rfl,A8]
  refine dX (fun c=>?_) (fun c=>?_)
  ·refine ⟨_,rfl,rfl,?_⟩
   have hne:w≠[]:=by
    intro e
    rw [e,ce] at c
    rw [decide_eq_true rfl] at c
    cases c
   rw [if_neg hne]
   simp
  ·have hne:w=[]:=by
    by_cases e:V.str (tx w)=V.str (PySem.Str.ofString "")
    ·rw [ce] at e
     exact ik (V.str.inj e)
    ·rw [decide_eq_false e] at c
     exact absurd rfl c
   rw [if_pos hne]
   exact ⟨rfl,rfl⟩
 ·rintro ys H2 ⟨rfl,rfl⟩ p hp
  have el:(((bc 32 l).map tx).map V.str).length=(bc 32 l).length:=by rw [List.length_map,List.length_map]
  rw [el,List.take_of_length_le (Nat.le_refl _)]
  have g1:=ah hp1 (.lst (((bc 32 l).map tx).map V.str))
  exact q p _ (g1.free hp) (g1.trans (ah hp _)) ae
def wT (K:PySem.W.Frag) : Sp:=fun vs H Q _=>∃ (ra:Addr) (rs:List (List Nat)) (rws:List Rw),vs=[.ref ra]∧SqL K H ra ((rs.map tx).map V.str)∧lL rs rws∧rs.length≤200∧lx rs0 rws∧(rws.map rwN).sum≤500∧∀ p H' ta fa vs kvs,H p=none→ao H H'→H' p=some (.tup [.ref ta,.ref fa])→H ta=none→H fa=none→H' ta=some (.lst vs)→H' fa=some (.dK kvs)→eP H' vs (bp rs0 rws).things→FtA H' kvs (bp rs0 rws).feet→Q (.ref p) H'
theorem kz:aJ ["rows","reader","row"] ["rows"] (av lS):=by walk_at "c"
theorem wU (T:Txt P w K mg a) : aX P w K mg base CX0 7 a.mi a.kU ["rows"] (wT K):=by
 refine T.lY.fn.ok kz (fun vs H Q E h=>?_) (fun cdv A outer s H vs Q E hr h=>?_)
 ·obtain ⟨ra,rs,rws,rfl,_⟩:=h
  rfl
 obtain ⟨ra,rs,rws,rfl,hr_,ar,rl,tw,sm,q⟩:=h
 refine ⟨_,(af (aA (i:=1) kz.nd rfl (Or.inl rfl) (BU dU T.bo T.jx (tZ T) (hr.mono (by decide)) rfl ))
   (af (b9 PassesOwn.never rfl (a7 (pv 0)) (aM (i:=2) kz.nd rfl (Or.inl rfl)) (ag (bj (dF dU T.bo T.h_ (pS T) (hr.mono (by decide)) (pv 1) (aa (aB T.nU (xu T) (hr.mono (by decide)) rfl (aa (pv 2) ac)) ac)))))
   (ag (aF (aS (aa (bC (pv 1) rfl) (aa (bC (pv 1) rfl) ac))))))),?_⟩
 intro x dx hx hdx ndx
 have sd:=ah hdx (.own x)
 have hx1:upd H dx (.own x) x=none:=by rw [aj (Ne.symm ndx)]; exact hx
 have s1:=sd.trans (ah hx1 (.ins a.aH dx []))
 have k1:upd (upd H dx (.own x)) x (.ins a.aH dx []) x=some (.ins a.aH dx []):=ae
 refine ⟨x,dx,rfl,k1,fun H1 r1 f1=>?_⟩
 have R0:=r1 H s1 hx
 have al:=ar.len
 refine ⟨rfl,?_⟩
 refine ⟨_,rfl,ra,rfl,⟨_,R0.old.seq hr_⟩,bT (K:=K) (a:=ra) (xs:=(rs.map tx).map V.str) (fun i σ G=>∃ (v1:Option V),σ=[some (.ref ra),some (.ref x),v1]∧RdA a.aH H G x (bp rs0 (rws.take i))) ⟨none,rfl,R0⟩ (fun i σ G _ g=>by obtain ⟨_,_,R⟩:=g; exact R.old.seq hr_) ?_ ?_⟩
 ·rintro i y σ G hy ⟨v1,rfl,R⟩
  obtain ⟨l,hl,rfl⟩:=j0 hy
  have hi:=(List.getElem?_eq_some_iff.mp hl).1
  obtain ⟨rw,hw,l2,ri⟩:=ar.get hl
  obtain ⟨dx',sa,fa,ta,kvs,vs,h1,h2,h3,h4,_⟩:=R.use
  have n1:=tM (rws.take i) rs0
  have n2:=qR rwN rws i
  have n3:=List.length_take_le i rws
  simp only [rs0,tgS,List.map_nil,List.sum_nil,List.length_nil,Nat.zero_add] at n1
  refine ⟨_,rfl,_,_,_,rfl,h1,lK (by decide +kernel),_,rfl,l,rfl,(by omega),fun p H2 hp s2 k2=>?_⟩
  refine ⟨x,p,H,_,cC l,rw,rfl,R.same s2,SqL.of k2,ri,tw.at hw,(by simp only [rs0]; omega),(by simp only [rs0,tgS]; omega),(by simp only [rs0]; omega),fun H3 R3=>?_⟩
  refine ⟨_,rfl,?_⟩
  rw [aP hw,zJ]
  exact R3
 rintro σ G ⟨v1,rfl,R⟩
 rw [List.length_map,List.length_map,al,List.take_length] at R
 obtain ⟨dx',sa,fa,ta,kvs,vs,h1,h2,h3,h4,_,_,_,_,_,_,_,_,ft,tg,n1,n2⟩:=R.use
 refine ⟨_,rfl,_,_,_,_,_,rfl,h1,T.bo.cl,T.dS,o5,_,rfl,_,_,_,_,_,rfl,h1,T.bo.cl,T.eW,tK,le2,fun p1 hp1=>?_⟩
 have s5:=ah hp1 (.tup [.ref ta,.ref fa])
 exact q p1 _ ta fa vs kvs (R.old.free hp1) (R.old.trans s5) ae n2 n1 (s5 _ _ h4) (s5 _ _ h3) (eP.mono s5 tg) (ft.mono s5)

theorem lE:∀ (a b:List Tg),bg (a++b)=bg a++bg b
 | [],b=>rfl
 | t :: r,b=>by cases t <;> simp [bg,lE r b]
theorem uB (t:Tg) : (bg [t]).length=wj t:=by cases t <;> rfl
structure TxG (things:List Tg) (feet:List (Str × List Wk)) : Prop where
 tg:∀ t ∈ things,TgG t
 ft:FtG feet
 hs:(bg things).length≤63
 len:things.length≤200
section
variable {things:List Tg} {feet:List (Str × List Wk)}
theorem TxG.fo (h:TxG things feet) : wd (nC (bg things) feet):=⟨fun p hp=>by
 obtain ⟨h1,h2⟩:=h.ft.2 p hp
 exact ⟨h1,fun w hw=>(h2 w hw).1.run.ws (h2 w hw).2.1 (h2 w hw).2.2⟩⟩
end
theorem yR {c:Sc} {σ:Ss} {t:Tg} {r:List Tg} : je c σ (t :: r)=(match gZ c σ t with | .error x=>.error x | .ok s'=>je c s' r):=rfl
def cU (l:List Tg) : Prop:=∀ t ∈ l,∃ ws,t = .par ws
theorem jp:∀ {ts:List Tg},cU ts→bg ts=[]
 | [],_=>rfl
 | t :: r,h=>by
  obtain ⟨ws,rfl⟩:=h t List.mem_cons_self
  exact jp (ts:=r) fun x hx=>h x (List.mem_cons_of_mem _ hx)

theorem Dw {things:List Tg} {feet:List (Str × List Wk)} (h:TxG things feet) (op:cU things) : tQ (nC (bg things) feet):=by
 rw [jp op]
 refine ⟨Nat.zero_le _,rfl,(fun t ht=>by cases ht),h.ft.1,fun p hp=>?_,(fun n hn=>by cases hn),fun l hl=>by cases hl⟩
 obtain ⟨h1,h2⟩:=h.ft.2 p hp
 exact ⟨h1,fun w hw=>⟨(h2 w hw).1.1,(h2 w hw).2⟩⟩
theorem Dx {things:List Tg} {feet:List (Str × List Wk)} (op:cU things) : (nC (bg things) feet).nums.length=(bg things).length:=by
 rw [jp op]
 rfl
theorem Ce {c:Sc} (fo:wd c) {σ σ':Ss} {ws:List Wk} (h:gZ c σ (.par ws) = .ok σ') (tg:TgG (.par ws)) : StB c σ σ' 600∧σ'.hs.length=σ.hs.length+wj (.par ws):=by
 obtain ⟨b,e⟩:=tR fo (fun w hw=>(tg.2 w hw).run) h
 exact ⟨b.more tg.1,by rw [e]; rfl⟩

def wV (K:PySem.W.Frag) (cls:Xc→Addr) : Sp:=fun vs H Q E=>∃ (ra:Addr) (fv:V) (rs:List (List Nat)) (rws:List Rw),vs=[.ref ra,fv]∧SqL K H ra ((rs.map tx).map V.str)∧lL rs rws∧rs.length≤200∧lx rs0 rws∧(rws.map rwN).sum≤500∧TxG (bp rs0 rws).things (bp rs0 rws).feet∧cU (bp rs0 rws).things∧(∀ e,iQ (nC (bg (bp rs0 rws).things) (bp rs0 rws).feet) (bp rs0 rws).things = .error e→∀ H',ao H H'→E (.ref (cls e)) none H')∧∀ σ p H' q tp ma ha us fs hvs,iQ (nC (bg (bp rs0 rws).things) (bp rs0 rws).feet) (bp rs0 rws).things = .ok σ→ao H H'→H p=none→H' p=some (.tup [.ref q,.ref ma,.ref ha])→H' q=some (.tup [fv,.ref tp])→lq H H' σ tp us fs→H' ma=some (.dK (mkV σ.ms))→H ma=none→H' ha=some (.lst hvs)→aR (HdA H') hvs σ.hs→H ha=none→tp≠ha→ha ∉ fs→σ.ws.length≤400→Q (.ref p) H'
theorem gI:aJ ["rows","form","read","things","setter","thing"] ["rows","form"] (av lT):=by walk_at "c"
theorem pT (T:Txt P w K mg a) : aX P w K mg base (CXe P w) 8 a.mo a.kW ["rows","form"] (wV K (rn a.dM a.db a.cE a.de)):=by
 refine T.jg.fn.okE gI (fun vs H Q E h=>?_) (fun cdv A outer s H vs Q E hr h=>?_)
 ·obtain ⟨ra,fv,rs,rws,rfl,_⟩:=h
  rfl
 obtain ⟨ra,fv,rs,rws,rfl,hr_,ar,rl,tw,sm,tx_,op,qe,q⟩:=h
 refine ⟨_,(af (aA (i:=2) gI.nd rfl (Or.inl rfl) (aB T.lY (wU T) (hr.mono (by decide)) rfl (aa (pv 0) ac)))
   (af (aA (i:=3) gI.nd rfl (Or.inl rfl) (aD aN (pv 2) ai (fun _ _=>rfl)))
   (af (aA (i:=4) gI.nd rfl (Or.inl rfl) (C5 dU T.aI T.jy (tW T) (hr.mono (by decide)) rfl (aa (ir rfl (eN (caps:=[]) (js:=[]) (cap:=trivial)) (a7 (pv 3)) (fun _ _ _ _=>(mE (au a_ (aD (r:=lI K) aN (pv 0) ai (fun _ _=>rfl)) aq (nomark _)))) (fun _ _ _ _=>(pv 0))) (aa (aD aN (pv 2) ai (fun _ _=>rfl)) ac))))
   (af (b9 PassesOwn.leaving rfl (a7 (pv 3)) (aM (i:=5) gI.nd rfl (Or.inl rfl)) (ag (bj (dF i6 T.aI T.gM (oA T) (hr.mono (by decide)) (pv 4) (aa (pv 5) ac)))))
   (af (bj (zF i6 T.aI T.fq (mP T) (hr.mono (by decide)) (pv 4) ))
   (ag (aF (aS (aa (aS (aa (pv 1) (aa (zF dU T.aI T.fZ (nE T) (hr.mono (by decide)) (pv 4) ) ac))) (aa (bC (pv 4) rfl) (aa (bC (pv 4) rfl) ac))))))))))),?_⟩
 refine ⟨_,rfl,ra,rs,rws,rfl,hr_,ar,rl,tw,sm,fun p1 H1 ta fa tv kvs hp1 s1 k1 nta nfa kta kfa tgs ft=>?_⟩
 dsimp only [bv]
 generalize (bp rs0 rws).things=things at *
 generalize (bp rs0 rws).feet=feet at *
 have lt:=tgs.len
 refine ⟨_,rfl,_,_,_,_,rfl,rfl,SqT.of k1,rfl,?_⟩
 refine ⟨_,rfl,ta,rfl,⟨_,SqL.of kta⟩,eO (K:=K) (a:=ta) (xs:=tv) (fun i ys G'=>H1=G'∧ys.length≤i∧aR (HtA H1) ys (bg (things.take i))) ⟨rfl,Nat.le_refl _,trivial⟩ (fun i ys G' _ z=>by rw [← z.1]; exact SqL.of kta) ?_ ?_ ?_⟩
 ·rintro i ys G' hi ⟨_,z,_⟩
  exact aC (by have:=tx_.len; omega)
 ·rintro i y ys G' hy ⟨rfl,z,al⟩
  obtain ⟨t,ht,htg⟩:=tgs.getL hy
  have en:bg (things.take (i+1))=bg (things.take i)++bg [t]:=by rw [aP ht,lE]
  obtain ⟨ws,rfl⟩:=op t (List.mem_of_getElem? ht)
  obtain ⟨b,l,rfl,hb,hl⟩:=htg
  refine ⟨_,rfl,_,_,_,_,rfl,rfl,SqT.of hb,rfl,rfl,_,rfl,?_⟩
  rw [decide_eq_false (fun z=>absurd (V.str.inj z) (by decide +kernel))]
  refine ay ?_
  refine ⟨rfl,by omega,?_⟩
  rw [en]
  simpa [bg] using al
 rintro hv G' ⟨rfl,z,al⟩ hl hhl
 rw [lt,List.take_length] at al
 have s2:=ah hhl (.lst hv)
 have k2:upd H1 hl (.lst hv) hl=some (.lst hv):=ae
 have al2:aR (HtA (upd H1 hl (.lst hv))) hv (bg things):=al.imp fun v h ⟨b,l,z1,z2,z3⟩=>⟨b,l,z1,s2 _ _ z2,z3.mono s2⟩
 have k1':=s2 _ _ k1
 have kfa':=s2 _ _ kfa
 have kta':=s2 _ _ kta
 have tgs2:=eP.mono s2 tgs
 have ft2:=ft.mono s2
 have s12:=s1.trans s2
 generalize upd H1 hl (.lst hv)=H2 at s2 k2 al2 k1' kfa' kta' tgs2 ft2 s12 ⊢
 refine ⟨_,rfl,_,_,_,_,rfl,rfl,SqT.of k1',rfl,fun x dx hx hdx ndx=>?_⟩
 have sd:=ah hdx (.own x)
 have hx1:upd H2 dx (.own x) x=none:=by rw [aj (Ne.symm ndx)]; exact hx
 have s3:=sd.trans (ah hx1 (.ins a.ak dx []))
 have k3:upd (upd H2 dx (.own x)) x (.ins a.ak dx []) x=some (.ins a.ak dx []):=ae
 have nx:H x=none:=s12.free hx
 generalize upd (upd H2 dx (.own x)) x (.ins a.ak dx [])=H3 at s3 k3 ⊢
 have al3:aR (HtA H3) hv (bg things):=al2.imp fun v h ⟨b,l,z1,z2,z3⟩=>⟨b,l,z1,s3 _ _ z2,z3.mono s3⟩
 refine ⟨x,dx,hl,fa,hv,bg things,kvs,feet,rfl,k3,s3 _ _ k2,al3,s3 _ _ kfa',ft2.mono s3,jp op,fun H4 A ax f4 S4 fr4=>?_⟩
 refine ⟨rfl,?_⟩
 subst ax
 dsimp only [bv]
 have sG:ao H2 (hid A.os H4):=fun b u h=>by
  have h3:=s3 _ _ h
  refine a8 (fun z=>?_) (f4 b u (fun z=>by rw [z,hx] at h; cases h) h3)
  simp only [Sad.os,List.mem_cons,List.not_mem_nil,or_false] at z
  rcases z with z | z | z | z
  ·rw [z,hx] at h; cases h
  ·rw [z,fr4.1] at h3; cases h3
  ·rw [z,fr4.2.1] at h3; cases h3
  ·rw [z,fr4.2.2] at h3; cases h3
 generalize hid A.os H4=G at sG S4
 have sHG:=s12.trans sG
 have so:=Dw tx_ op
 have fo:=tx_.fo
 have nl:=Dx (feet:=feet) op
 have lt3:=tx_.len
 have hs3:=tx_.hs
 have ktG:=sG _ _ kta'
 have tgG:=eP.mono sG tgs2
 generalize nC (bg things) feet=c at S4 so fo nl qe q
 have setE:∀ e,je c ss0 things = .error e→iQ c things = .error e:=fun e h=>by unfold iQ; rw [h]
 refine ⟨_,rfl,ta,rfl,⟨_,SqL.of (S4.old _ _ ktG)⟩,bT (K:=K) (a:=ta) (xs:=tv) (fun i σ' Hi=>∃ (v5:Option V) (σ1:Ss),σ' = [some (.ref ra),some fv,some (.ref p1),some (.ref ta),some (.ref A.x),v5]∧StA a.ak G Hi A c σ1∧je c ss0 things=je c σ1 (things.drop i)∧rp c σ1∧σ1.ws.length≤400∧σ1.fs≤σ1.ws.length∧σ1.ms.length≤600 * i∧σ1.hs.length=(bg (things.take i)).length) ⟨none,ss0,rfl,S4,rfl,⟨(by intro t ht; cases ht),(by intro t ht; cases ht)⟩,by decide,Nat.le_refl _,Nat.le_refl _,rfl⟩ (fun i σ' Hi _ g=>by obtain ⟨_,_,_,S,_⟩:=g; exact SqL.of (S.old _ _ ktG)) ?_ ?_⟩
 ·rintro i y σ' Hi hy ⟨v5,σ1,rfl,S5,er,ss,wl,fl,ml,hl5⟩
  obtain ⟨t,ht,htg⟩:=tgG.getL hy
  have hi:=(List.getElem?_eq_some_iff.mp ht).1
  have ed:things.drop i=t :: things.drop (i+1):=by
   obtain ⟨hi,e⟩:=List.getElem?_eq_some_iff.mp ht
   rw [List.drop_eq_getElem_cons hi,e]
  have tg0:=tx_.tg t (List.mem_of_getElem? ht)
  have en:bg (things.take (i+1))=bg (things.take i)++bg [t]:=by rw [aP ht,lE]
  have eall:(bg things).length=(bg (things.take i)).length+wj t+(bg (things.drop (i+1))).length:=by
   have:=congrArg (fun l=>(bg l).length) (List.take_append_drop (i+1) things)
   try dsimp only at this
   rw [lE,List.length_append,en,List.length_append,uB] at this
   omega
  obtain ⟨ws,rfl⟩:=op t (List.mem_of_getElem? ht)
  rw [ed,yR] at er
  refine ⟨_,rfl,_,_,_,rfl,S5.ins,jZ (by decide +kernel),_,rfl,A,G,c,σ1,_,ws,rfl,S5,so,htg,?_,(by rw [hl5]; omega),⟨wl,fl,by omega⟩,fun e he H' s'=>qe e (setE e (by rw [er,he])) H' (sHG.trans s'),fun σ2 H5 he S6=>?_⟩
  ·exact ⟨fun w hw=>(tg0.2 w hw).1,tg0.1⟩
  ·obtain ⟨b,bh⟩:=Ce fo he tg0
   rw [he] at er
   refine ⟨_,σ2,rfl,S6,er,b.ok ss,b.ws wl,b.fs fl,by have:=b.ms; omega,?_⟩
   rw [bh,en,List.length_append,uB,hl5]
 rintro σ' H5 ⟨v5,σ1,rfl,S5,er,ss,wl,fl,ml,hl5⟩
 rw [lt] at er hl5
 rw [List.drop_length] at er
 rw [List.take_length] at hl5
 have er:je c ss0 things = .ok σ1:=er
 refine ⟨_,rfl,_,_,_,rfl,S5.ins,jZ (by decide +kernel),A,G,c,σ1,rfl,S5,so,ss,wl,fun e he H' s'=>qe e (by unfold iQ; rw [er]; show (match dL c σ1 with | some e=>_ | none=>_)=_; rw [he]) H' (sHG.trans s'),fun ck H6 s6 S6=>?_⟩
 have fin:iQ c things = .ok σ1:=by unfold iQ; rw [er]; show (match dL c σ1 with | some e=>_ | none=>_)=_; rw [ck]
 have tel:=C9 ss fo (by rw [hl5,nl]) ck
 refine ⟨_,rfl,_,rfl,_,_,_,rfl,S6.ins,jZ (by decide +kernel),A,G,c,σ1,rfl,S6,tel,wl,fun tp H7 us fs s7 T7=>?_⟩
 have S7:=S6.same s7
 refine ⟨le2,fun q1 hq1=>?_⟩
 have s8:=ah hq1 (.tup [fv,.ref tp])
 have k8:upd H7 q1 (.tup [fv,.ref tp]) q1=some (.tup [fv,.ref tp]):=ae
 have S8:=S7.same s8
 have T8:=T7.same s8
 generalize upd H7 q1 (.tup [fv,.ref tp])=H8 at s8 k8 S8 T8 ⊢
 refine ⟨_,rfl,_,_,_,_,_,rfl,S8.ins,T.aI.cl,T.ca,iD,_,rfl,_,_,_,_,_,rfl,S8.ins,T.aI.cl,T.ez,rk,le3,fun p9 hp9=>?_⟩
 have s9:=ah hp9 (.tup [.ref q1,.ref A.ma,.ref A.ha])
 have k9:upd H8 p9 (.tup [.ref q1,.ref A.ma,.ref A.ha]) p9=some (.tup [.ref q1,.ref A.ma,.ref A.ha]):=ae
 have S9:=S8.same s9
 have T9:=(T8.same s9).base (sHG.trans S6.old)
 have k8':=s9 _ _ k8
 have hp9':H p9=none:=(sHG.trans S8.old).free hp9
 generalize upd H8 p9 (.tup [.ref q1,.ref A.ma,.ref A.ha])=H9 at s9 k9 S9 T9 k8' ⊢
 obtain ⟨hvs,h91,h92⟩:=S9.heads
 obtain ⟨hv6,h61,_⟩:=S6.heads
 exact q σ1 p9 H9 q1 tp A.ma A.ha us fs hvs fin (sHG.trans S9.old) hp9' k9 k8' T9 S9.marks (sHG.free (S9.fr _ va)) h91 (h92.imp fun _ _=>HdA.mono bJ) (sHG.free (S9.fr _ D5)) (fun z=>by have:=T7.new; rw [z,h61] at this; cases this) (fun z=>by have:=(T7.fr _ z).1; rw [h61] at this; cases this) wl

def nms (nm:Nat→List Nat) (at_ n:Nat) : List (List Nat):=(List.range n).map fun i=>nm (at_+i)
theorem t0 (nm:Nat→List Nat) (a m n:Nat) : nms nm a (m+n)=nms nm a m++nms nm (a+m) n:=by
 unfold nms
 rw [List.range_add,List.map_append,List.map_map]
 congr 1
 refine List.map_congr_left fun i _=>?_
 show nm (a+(m+i))=nm (a+m+i)
 rw [Nat.add_assoc]
def dA (ws:List NWd) : List (List Nat):=(ws.filter fun w=>decide (w.1 = .mark)).map (·.2)
theorem kA (a b:List NWd) : dA (a++b)=dA a++dA b:=by unfold dA; rw [List.filter_append,List.map_append]
theorem WdG.mark {nm:Nat→List Nat} {k:Kw} {at_ M F:Nat} {w:NWd} (h:WdG nm k at_ M F w) : dA [w]=nms nm at_ (b1 (decide (k = .mark))):=by
 rcases h with ⟨rfl,rfl⟩ | ⟨h1,h2,_⟩ | ⟨h1,_,h2,_⟩
 ·simp [dA,nms,b1]
 ·rw [decide_eq_false h1]
  simp [dA,nms,b1,h2]
 ·rw [decide_eq_false h1]
  simp [dA,nms,b1,h2,h1]
theorem WsR.marks {nm:Nat→List Nat} {M F:Nat} : ∀ {ws:List (Kw × Int)} {ds:List NWd} {at_:Nat},WsR nm M F at_ ws ds→dA ds=nms nm at_ (mkN ws)
 | [],[],_,_=>rfl
 | k :: ws,d :: ds,at_,h=>by
  have e:mkN (k :: ws)=b1 (decide (k.1 = .mark))+mkN ws:=by
   unfold mkN
   cases e:decide (k.1 = .mark) <;> simp [List.filter,e,b1] <;> omega
  rw [e,t0,← WsR.marks h.2,← h.1.mark,← kA]
  rfl
theorem WsR.mem {nm:Nat→List Nat} {M F:Nat} : ∀ {ws:List (Kw × Int)} {ds:List NWd} {at_:Nat},WsR nm M F at_ ws ds→∀ d ∈ ds,∃ k ∈ ws,∃ a,WdG nm k.1 a M F d
 | [],[],_,_,d,hd=>by cases hd
 | k :: ws,x :: ds,at_,h,d,hd=>by
  rcases List.mem_cons.mp hd with rfl | hd
  ·exact ⟨k,List.mem_cons_self,at_,h.1⟩
  ·obtain ⟨k',hk,a,g⟩:=WsR.mem h.2 d hd
   exact ⟨k',List.mem_cons_of_mem _ hk,a,g⟩
theorem WsR.len {nm:Nat→List Nat} {M F:Nat} : ∀ {ws:List (Kw × Int)} {ds:List NWd} {at_:Nat},WsR nm M F at_ ws ds→ds.length=ws.length
 | [],[],_,_=>rfl
 | _ :: _,_ :: _,_,h=>congrArg (·+1) h.2.len
def nW (ns:List bN) : List NWd:=ns.flatMap (·.2.2)
theorem dG.marks {nm:Nat→List Nat} {M F:Nat} : ∀ {rs:List cu} {ns:List bN} {at_ hung:Nat},dG nm M F at_ hung rs ns→dA (nW ns)=nms nm at_ (bP rs)
 | [],[],_,_,_=>rfl
 | r :: rs,n :: ns,at_,hung,h=>by
  have e:bP (r :: rs)=mkN r.2+bP rs:=by unfold bP; simp
  have e2:nW (n :: ns)=n.2.2++nW ns:=by unfold nW; simp
  rw [e,t0,← dG.marks h.2,e2,kA,h.1.2.2.marks]
theorem dG.mem {nm:Nat→List Nat} {M F:Nat} : ∀ {rs:List cu} {ns:List bN} {at_ hung:Nat},dG nm M F at_ hung rs ns→∀ n ∈ ns,∃ r ∈ rs,∃ a h,wL nm M F a h r n
 | [],[],_,_,_,d,hd=>by cases hd
 | r :: rs,x :: ns,at_,hung,h,d,hd=>by
  rcases List.mem_cons.mp hd with rfl | hd
  ·exact ⟨r,List.mem_cons_self,at_,hung,h.1⟩
  ·obtain ⟨r',hr,a,g⟩:=dG.mem h.2 d hd
   exact ⟨r',List.mem_cons_of_mem _ hr,a,g⟩
theorem dG.len {nm:Nat→List Nat} {M F:Nat} : ∀ {rs:List cu} {ns:List bN} {at_ hung:Nat},dG nm M F at_ hung rs ns→ns.length=rs.length∧(ns.map (·.2.2.length)).sum=(rs.map (·.2.length)).sum
 | [],[],_,_,_=>⟨rfl,rfl⟩
 | r :: rs,n :: ns,_,_,h=>by
  obtain ⟨h1,h2⟩:=h.2.len
  refine ⟨by simp [h1],?_⟩
  rw [List.map_cons,List.sum_cons,List.map_cons,List.sum_cons,h2,h.1.2.2.len]
theorem wL.ok {nm:Nat→List Nat} (hn:NmF nm) {kds:List Kw} (ke:∀ k ∈ kds,k≠.entry) {M F a h:Nat} {r:cu} {n:bN} (g:wL nm M F a h r n) (ok:yq kds r) : ja n:=by
 obtain ⟨g1,g2,g3⟩:=g
 have gl:=g3.len
 have kin:∀ k ∈ r.2,k.1≠.entry:=fun k hk=>by
  rcases ok.kds k hk with z | z
  ·exact ke _ z
  ·rw [z]; decide
 have wk:∀ w ∈ n.2.2,∃ k ∈ r.2,w.1=k.1∨w.1 = .plain:=fun w hw=>by
  obtain ⟨k,hk,a,z⟩:=g3.mem w hw
  refine ⟨k,hk,?_⟩
  rcases z with ⟨z1,z2⟩ | ⟨_,z,_⟩ | ⟨_,_,z,_⟩
  ·exact .inl (by rw [z2,z1])
  ·exact .inr z
  ·exact .inl z
 by_cases e:r.1 = .words∧r.2=[]
 ·rw [if_pos e] at g1
  have n0:n.2.2=[]:=by rw [e.2] at gl; exact List.length_eq_zero_iff.mp gl
  exact ⟨fun _=>n0,(by rw [n0]; simp),(fun z=>by rw [g1] at z; cases z),(fun z=>by rw [n0]; simp),(fun z=>by rw [g1] at z; cases z),(by rw [n0]; simp)⟩
 ·rw [if_neg e] at g1
  refine ⟨fun z=>?_,by rw [gl]; have:=ok.len; omega,fun z=>?_,fun z w hw=>?_,fun z=>?_,fun w hw=>?_⟩
  ·rw [g1] at z
   have:=ok.bare z
   rw [this] at gl
   exact List.length_eq_zero_iff.mp gl
  ·rw [g1] at z
   intro z2
   rw [z2] at gl
   exact e ⟨z,List.length_eq_zero_iff.mp gl.symm⟩
  ·rw [g1] at z
   obtain ⟨k,hk,y | y⟩:=wk w hw
   ·rw [y]; exact ok.head z k hk
   ·rw [y]; decide
  ·rw [g1] at z
   rw [if_pos z] at g2
   rw [g2]
   refine ⟨hn.name _,hn.len _,hn.sg _,by rw [gl]; have:=ok.len; omega,fun w hw=>?_⟩
   obtain ⟨k,hk,y | y⟩:=wk w hw
   ·rw [y]; exact ok.foot z k hk
   ·rw [y]; exact ⟨by decide,by decide⟩
  ·obtain ⟨k,hk,a,z⟩:=g3.mem w hw
   exact z.ok hn (kin k hk)
theorem Cf:∀ r ∈ bF,ja r:=fun r hr=>by
 have:r=(.empty,[],[])∨r=(.words,[],[(.plain,[101,110,100])]):=by simpa [bF] using hr
 rcases this with rfl | rfl
 ·exact ⟨fun _=>rfl,by simp,(fun z=>by cases z),(fun z=>by cases z),(fun z=>by cases z),by simp⟩
 ·refine ⟨(fun z=>by cases z),by simp,fun _=>by simp,(fun z=>by cases z),(fun z=>by cases z),fun w hw=>?_⟩
  have:w=(.plain,[101,110,100]):=by simpa using hw
  subst this
  exact ⟨by show Kw.plain≠Kw.entry; decide,by decide,.inl ⟨rfl,by simp,by simp⟩⟩
def tgW:List Tg→List Wk
 | []=>[]
 | .par ws :: r=>ws++tgW r
 | _ :: r=>tgW r
theorem qF:∀ a b:List Tg,tgW (a++b)=tgW a++tgW b
 | [],b=>rfl
 | t :: r,b=>by
  cases t <;> simp [tgW,qF r b]
theorem t4 (ws:List Wk) : ∀ l:List Tg,tgW (cp ws l)=tgW l++ws∧(cU l→cU (cp ws l))
 | []=>⟨by simp [cp,tgW],fun _ t ht=>by
   rw [show cp ws []=[.par ws] from rfl,List.mem_singleton] at ht
   exact ⟨ws,ht⟩⟩
 | [t]=>by
  cases t <;> refine ⟨by simp [cp,tgW],fun h t ht=>?_⟩ <;> simp [cp] at ht
  all_goals first | exact ⟨_,ht⟩ | (obtain ⟨z,e⟩:=h _ List.mem_cons_self; cases e)
 | t :: u :: r=>by
  obtain ⟨h1,h2⟩:=t4 ws (u :: r)
  have e:cp ws (t :: u :: r)=t :: cp ws (u :: r):=by cases t <;> rfl
  rw [e]
  refine ⟨?_,fun h x hx=>?_⟩
  ·rw [show t :: cp ws (u :: r)=[t]++cp ws (u :: r) from rfl,show t :: u :: r=[t]++(u :: r) from rfl,qF,qF,h1,List.append_assoc]
  ·rcases List.mem_cons.mp hx with rfl | hx
   ·exact h _ List.mem_cons_self
   ·exact h2 (fun y hy=>h y (List.mem_cons_of_mem _ hy)) x hx
def Dy:Rw→Prop
 | .empty=>True
 | .par _=>True
 | _=>False
def rwW:Rw→List Wk
 | .par ws=>ws
 | _=>[]
theorem Am (s:Rs) (w:Rw) (h:Dy w) : tgW (bM s w).things=tgW s.things++rwW w∧(cU s.things→cU (bM s w).things)∧(bM s w).feet=s.feet:=by
 cases w with
 | empty=>exact ⟨by simp [bM,rwW],id,rfl⟩
 | par ws =>
  unfold bM
  by_cases g:s.g=true
  ·simp only [g,if_true]
   exact ⟨(t4 ws _).1,(t4 ws _).2,trivial⟩
  ·rw [Bool.not_eq_true] at g
   simp only [g,Bool.false_eq_true,if_false]
   refine ⟨by rw [qF]; simp [tgW,rwW],fun h t ht=>?_,trivial⟩
   rcases List.mem_append.mp ht with ht | ht
   ·exact h t ht
   ·exact ⟨ws,List.mem_singleton.mp ht⟩
 | foot n ws=>exact h.elim
 | page=>exact h.elim
 | odd=>exact h.elim
 | lst=>exact h.elim
 | head n ws=>exact h.elim
theorem wW (a b:List Wk) : bH (a++b)=bH a+bH b:=by unfold bH; rw [List.filter_append,List.length_append]
theorem nN {β:Type} {n:Str} : ∀ {l:List (Str × β)},n ∉ l.map (·.1)→lkS n l=none
 | [],_=>rfl
 | (m,j) :: r,h=>by
  have h1:m≠n:=fun z=>h (by rw [z]; exact List.mem_cons_self)
  show (if m=n then some j else lkS n r)=none
  rw [if_neg h1]
  exact nN fun z=>h (List.mem_cons_of_mem _ z)
theorem rL {β:Type} {n:Str} : ∀ {l:List (Str × β)},n ∈ l.map (·.1)→∃ k,lkS n l=some k
 | [],h=>by cases h
 | (m,j) :: r,h=>by
  by_cases c:m=n
  ·exact ⟨j,if_pos c⟩
  ·rcases List.mem_cons.mp h with z | z
   ·exact absurd z.symm c
   ·obtain ⟨k,e⟩:=rL z
    exact ⟨k,by show (if m=n then some j else lkS n r)=_; rw [if_neg c]; exact e⟩
theorem jQ:∀ (ws:List NWd) (n:Nat),(bz (wkS ws) n).map (·.1)=(dA ws).map tx
 | [],_=>rfl
 | w :: r,n=>by
  by_cases h:w.1 = .mark
  ·have e1:bz (wkS (w :: r)) n=(tx w.2,n) :: bz (wkS r) n:=by show (if w.1 = .mark then _ else _)=_; rw [if_pos h]; rfl
   have e2:dA (w :: r)=w.2 :: dA r:=by unfold dA; simp [h]
   rw [e1,e2,List.map_cons,List.map_cons,jQ r n]
  ·have e1:bz (wkS (w :: r)) n=bz (wkS r) (n+1):=by show (if w.1 = .mark then _ else _)=_; rw [if_neg h]; rfl
   have e2:dA (w :: r)=dA r:=by unfold dA; simp [h]
   rw [e1,e2,jQ r (n+1)]
theorem t_:∀ (ws:List Wk) (n:Nat),∀ m ∈ bz ws n,m.2≤n+bH ws
 | [],_,m,h=>by cases h
 | w :: r,n,m,h=>by
  by_cases k:w.1 = .mark
  ·have ec:bH (w :: r)=bH r:=by unfold bH; simp [k]
   have em:bz (w :: r) n=(a9 w.2,n) :: bz r n:=by show (if w.1 = .mark then _ else _)=_; rw [if_pos k]
   rw [em] at h
   rw [ec]
   rcases List.mem_cons.mp h with rfl | h
   ·exact Nat.le_add_right _ _
   ·exact t_ r n m h
  ·have ec:bH (w :: r)=bH r+1:=by unfold bH; simp [k]
   have em:bz (w :: r) n=bz r (n+1):=by show (if w.1 = .mark then _ else _)=_; rw [if_neg k]
   rw [em] at h
   have:=t_ r (n+1) m h
   omega
theorem iE.rd {d:NWd} (h:iE d) : RdW (rz d):=by
 obtain ⟨h1,h2,h3⟩:=h
 refine ⟨.inl ⟨h1,d.2,?_,fun c hc=>(h2 c hc).2,rfl⟩,h1⟩
 rcases h3 with ⟨_,_,l⟩ | ⟨_,_,l⟩ <;> omega
theorem An {ws:List Wk} : ∀ {ts:List Tg},Tg.par ws ∈ ts→(∀ w ∈ ws,w ∈ tgW ts)∧ws.length≤(tgW ts).length
 | [],h=>by cases h
 | t :: r,h=>by
  rcases List.mem_cons.mp h with rfl | h
  ·exact ⟨fun w hw=>List.mem_append_left _ hw,by show _≤(ws++tgW r).length; rw [List.length_append]; omega⟩
  ·obtain ⟨h1,h2⟩:=An h
   have:∃ a,tgW (t :: r)=a++tgW r:=by cases t <;> first | exact ⟨[],rfl⟩ | exact ⟨_,rfl⟩
   obtain ⟨a,e⟩:=this
   rw [e]
   exact ⟨fun w hw=>List.mem_append_right _ (h1 w hw),by rw [List.length_append]; omega⟩
theorem uC {α β:Type} {f:α→β} : ∀ {l:List α},(∀ a ∈ l,∀ b ∈ l,f a=f b→a=b)→l.Nodup→(l.map f).Nodup
 | [],_,_=>by simp
 | a :: l,h,nd=>by
  rw [List.nodup_cons] at nd
  rw [List.map_cons,List.nodup_cons]
  refine ⟨fun z=>?_,uC (fun x hx y hy=>h x (List.mem_cons_of_mem _ hx) y (List.mem_cons_of_mem _ hy)) nd.2⟩
  obtain ⟨b,hb,e⟩:=List.mem_map.mp z
  have:=h b (List.mem_cons_of_mem _ hb) a List.mem_cons_self e
  rw [this] at hb
  exact nd.1 hb
def wf (t:Wt) : Wk × List Wk:=(t.w,t.foot)
structure nO (ft:List (Str × List Wk)) (σ σ':Ss) (rs:List Wk) : Prop where
 ms:σ'.ms=σ.ms++bz rs σ.ws.length
 ws:σ'.ws.map wf=σ.ws.map wf++bO ft σ.fs rs
 fs:σ'.fs=σ.fs+ftC rs
 hs:σ'.hs=σ.hs
theorem nO.len {ft:List (Str × List Wk)} {σ σ':Ss} {ws:List Wk} (h:nO ft σ σ' ws) : σ'.ws.length=σ.ws.length+bH ws:=by
 have:=congrArg List.length h.ws
 rw [List.length_map,List.length_append,List.length_map,gF] at this
 exact this
theorem nO.trans {ft:List (Str × List Wk)} {σ σ1 σ2:Ss} {a b:List Wk} (h:nO ft σ σ1 a) (h2:nO ft σ1 σ2 b) : nO ft σ σ2 (a++b):=
 ⟨by rw [h2.ms,h.ms,h.len,iG,List.append_assoc],by rw [h2.ws,h.ws,h.fs,iJ,List.append_assoc],by rw [h2.fs,h.fs]; unfold ftC; rw [List.filter_append,List.length_append]; omega,h2.hs.trans h.hs⟩
theorem rM {c:Sc} {byh:Bool} : ∀ {ws:List Wk} {σ:Ss} {ld:Int},(∀ w ∈ ws,w.1 = .foot→∃ f,lkS (a9 w.2) c.feet=some f)→((σ.ms++bz ws σ.ws.length).map (·.1)).Nodup→σ.ws.length+bH ws≤400→∃ σ',cQ c σ ld byh ws = .ok σ'∧nO c.feet σ σ' ws
 | [],σ,_,_,_,_=>⟨σ,rfl,by simp [bz],by simp [bO],rfl,rfl⟩
 | w :: r,σ,ld,hf,nd,hl=>by
  have hr:∀ x ∈ r,x.1 = .foot→∃ f,lkS (a9 x.2) c.feet=some f:=fun x hx=>hf x (List.mem_cons_of_mem _ hx)
  rw [sT]
  rw [pG] at hl
  by_cases k:w.1 = .mark
  ·rw [if_pos k]
   have em:bz (w :: r) σ.ws.length=(a9 w.2,σ.ws.length) :: bz r σ.ws.length:=by show (if w.1 = .mark then _ else _)=_; rw [if_pos k]
   rw [if_pos k] at hl
   rw [em] at nd
   have nn:lkS (a9 w.2) σ.ms=none:=nN fun z=>by
    rw [List.map_append,List.nodup_append] at nd
    exact nd.2.2 _ z _ (by rw [List.map_cons]; exact List.mem_cons_self) rfl
   have es:eQ σ (a9 w.2) = .ok { σ with ms:=σ.ms++[(a9 w.2,σ.ws.length)] }:=by unfold eQ; rw [nn]; rfl
   rw [es]
   obtain ⟨σ',e,h1,h2,h3,h4⟩:=rM (σ:={ σ with ms:=σ.ms++[(a9 w.2,σ.ws.length)] }) (ld:=ld) hr (by rw [List.append_assoc]; exact nd) (by show σ.ws.length+_≤_; omega)
   refine ⟨σ',e,?_,?_,?_,h4⟩
   ·rw [h1,em,List.append_assoc]; rfl
   ·rw [h2,dg,if_pos k]
   ·rw [h3,rK,if_neg (by rw [k]; decide),Nat.zero_add]
  ·rw [if_neg k]
   have em:bz (w :: r) σ.ws.length=bz r (σ.ws.length+1):=by show (if w.1 = .mark then _ else _)=_; rw [if_neg k]
   rw [if_neg k] at hl
   rw [em] at nd
   have put:∀ (σ1:Ss) (x:Wk) (f:List Wk),σ1.ws=σ.ws→σ1.ms=σ.ms→σ1.hs=σ.hs→cB c σ ld w=iu σ1 ld x f→bO c.feet σ.fs (w :: r)=(x,f) :: bO c.feet σ1.fs r→σ1.fs=σ.fs+(if w.1 = .foot then 1 else 0)→∃ σ',(match cB c σ ld w with | .error y=>.error y | .ok s'=>cQ c { s' with bh:=byh } 0 byh r)=Except.ok σ'∧nO c.feet σ σ' (w :: r):=fun σ1 x f ew emm eh es ef efs=>by
    rw [es]
    unfold iu
    rw [if_neg (by rw [ew]; omega)]
    have step:=fun (t:Wt) (lp:Int)=>rM (c:=c) (byh:=byh) (ws:=r) (σ:={ σ1 with lp:=lp,ws:=σ1.ws++[t],bh:=byh }) (ld:=0) hr (by show ((σ1.ms++bz r (σ1.ws++[t]).length).map (·.1)).Nodup; rw [emm,ew,List.length_append]; exact nd) (by show (σ1.ws++[t]).length+_≤_; rw [ew,List.length_append]; simp only [List.length_cons,List.length_nil]; omega)
    obtain ⟨σ',e,h1,h2,h3,h4⟩:=step ⟨if 0 < σ1.lp then σ1.lp else ld,σ1.bh && decide ((if 0 < σ1.lp then σ1.lp else ld)≤2),x,f⟩ (if 0 < σ1.lp then 0 else σ1.lp)
    refine ⟨σ',e,?_,?_,?_,h4.trans eh⟩
    ·rw [h1,em]
     show σ1.ms++bz r (σ1.ws++[_]).length=_
     rw [emm,ew,List.length_append]
     rfl
    ·rw [h2,ef]
     show (σ1.ws++[_]).map _++_=_
     rw [ew,List.map_append,List.append_assoc]
     rfl
    ·rw [h3,rK]
     show σ1.fs+_=_
     rw [efs]
     omega
   by_cases k2:w.1 = .foot
   ·obtain ⟨f,ef⟩:=hf w List.mem_cons_self k2
    refine put { σ with fs:=σ.fs+1 } (eS (σ.fs+1)) (eS (σ.fs+1) :: f) rfl rfl rfl ?_ ?_ (by rw [if_pos k2])
    ·unfold cB
     rw [if_pos k2]
     unfold gv
     rw [ef]
     rfl
    ·rw [dg,if_neg k,if_pos k2,ef]
     rfl
   ·refine put σ w [] rfl rfl rfl ?_ ?_ (by rw [if_neg k2]; rfl)
    ·unfold cB
     rw [if_neg k2]
    ·rw [dg,if_neg k,if_neg k2]
theorem wX {c:Sc} : ∀ {ts:List Tg} {σ:Ss},cU ts→(∀ w ∈ tgW ts,w.1 = .foot→∃ f,lkS (a9 w.2) c.feet=some f)→((σ.ms++bz (tgW ts) σ.ws.length).map (·.1)).Nodup→σ.ws.length+bH (tgW ts)≤400→∃ σ',je c σ ts = .ok σ'∧nO c.feet σ σ' (tgW ts)
 | [],σ,_,_,_,_=>⟨σ,rfl,by simp [tgW,bz],by simp [tgW,bO],rfl,rfl⟩
 | t :: r,σ,hp,hf,nd,hl=>by
  obtain ⟨ws,rfl⟩:=hp t List.mem_cons_self
  have e0:tgW (.par ws :: r)=ws++tgW r:=rfl
  rw [e0] at hf nd hl ⊢
  rw [wW] at hl
  rw [iG,← List.append_assoc] at nd
  obtain ⟨σ1,e1,h1⟩:=rM (c:=c) (byh:=false) (ws:=ws) (σ:=σ) (ld:=if σ.bh then 1 else 2) (fun w hw=>hf w (List.mem_append_left _ hw)) (by rw [List.map_append,List.nodup_append] at nd; exact nd.1) (by omega)
  have l1:=h1.len
  obtain ⟨σ2,e2,h2⟩:=wX (c:=c) (ts:=r) (σ:=σ1) (fun x hx=>hp x (List.mem_cons_of_mem _ hx)) (fun w hw=>hf w (List.mem_append_right _ hw)) (by rw [h1.ms,l1]; exact nd) (by omega)
  refine ⟨σ2,?_,h1.trans h2⟩
  show (match gZ c σ (.par ws) with | .error x=>Except.error x | .ok s'=>je c s' r)=_
  rw [show gZ c σ (.par ws) = .ok σ1 from e1]
  exact e2
def wY:Rw→Prop
 | .empty=>True
 | .par _=>True
 | .foot _ _=>True
 | _=>False
def rwF:Rw→List (Str × List Wk)
 | .foot n ws=>[(n,ws)]
 | _=>[]
theorem wZ (s:Rs) (w:Rw) (h:wY w) : tgW (bM s w).things=tgW s.things++rwW w∧(cU s.things→cU (bM s w).things)∧(bM s w).feet=s.feet++rwF w:=by
 have par:Dy w→rwF w=[]→tgW (bM s w).things=tgW s.things++rwW w∧(cU s.things→cU (bM s w).things)∧(bM s w).feet=s.feet++rwF w:=fun z e=>by
  rw [e,List.append_nil]
  exact Am s w z
 cases w with
 | empty=>exact par trivial rfl
 | par ws=>exact par trivial rfl
 | foot n ws=>exact ⟨by simp [bM,rwW],id,rfl⟩
 | page=>exact h.elim
 | odd=>exact h.elim
 | lst=>exact h.elim
 | head n ws=>exact h.elim
theorem w_:∀ (l:List Rw) (s:Rs),(∀ w ∈ l,wY w)→tgW (bp s l).things=tgW s.things++l.flatMap rwW∧(cU s.things→cU (bp s l).things)∧(bp s l).feet=s.feet++l.flatMap rwF
 | [],s,_=>⟨by simp [bp],id,by simp [bp]⟩
 | w :: l,s,h=>by
  obtain ⟨a1,a2,a3⟩:=wZ s w (h w List.mem_cons_self)
  obtain ⟨b1,b2,b3⟩:=w_ l (bM s w) fun x hx=>h x (List.mem_cons_of_mem _ hx)
  exact ⟨by show tgW (bp (bM s w) l).things=_; rw [b1,a1,List.flatMap_cons,List.append_assoc],fun z=>b2 (a2 z),by show (bp (bM s w) l).feet=_; rw [b3,a3,List.flatMap_cons,List.append_assoc]⟩
theorem xV:∀ (l:List Rw) (s:Rs),(∀ w ∈ l,wY w)→((s.feet++l.flatMap rwF).map (·.1)).Nodup→lx s l
 | [],_,_,_=>trivial
 | w :: l,s,h,nd=>by
  rw [List.flatMap_cons,← List.append_assoc] at nd
  refine ⟨?_,xV l _ (fun x hx=>h x (List.mem_cons_of_mem _ hx)) (by rw [(wZ s w (h w List.mem_cons_self)).2.2]; exact nd)⟩
  cases w with
  | foot n ws =>
   refine nN fun z=>?_
   rw [List.map_append,List.nodup_append] at nd
   have:=nd.1
   rw [List.map_append,List.nodup_append] at this
   exact this.2.2 _ z _ (by simp [rwF]) rfl
  | _=>trivial
def nP:List WyD:=[.way .words,.way .empty,.way .foot,.way .foot,.word,.word,.word,.word,.word,.word,.word,.word]
def qG:List Kw:=[.plain,.plain,.mark,.number,.page,.row,.foot,.foot,.foot]
def kC (long:List NWd) : List bN:=[(.foot,[113],long),(.words,[],[(.foot,[113]),(.plain,[113]),(.foot,[113])])]
def Ext (es:List bN) : Prop:=es=[]∨∃ long:List NWd,es=kC long∧long.length=39∧∀ d ∈ long,d.1 = .plain∧iE d
structure Eh (all:List bN) (σ:Ss) : Prop where
 ms:σ.ms=bz (wkS (bq all)) 0
 ws:σ.ws.map wf=bO (bI all) 0 (wkS (bq all))
 hs:σ.hs=[]
 tel:sS σ
structure Ei (all:List bN) : Prop where
 nr:∀ r ∈ all,ja r
 len:all.length≤66
 tw:lx rs0 (all.map cI)
 sum:((all.map cI).map rwN).sum≤500
 txg:TxG (bp rs0 (all.map cI)).things (bp rs0 (all.map cI)).feet
 wl:(bq all).length≤110
 wo:∀ d ∈ bq all,iE d
 nd:((bz (wkS (bq all)) 0).map (·.1)).Nodup
 fnd:((bI all).map (·.1)).Nodup
 ff:∀ w ∈ wkS (bq all),w.1 = .foot→∃ f,lkS (a9 w.2) (bI all)=some f
 ft:(bp rs0 (all.map cI)).feet=bI all
 op:cU (bp rs0 (all.map cI)).things
 set:∀ c:Sc,c.feet=bI all→∃ σ,iQ c (bp rs0 (all.map cI)).things = .ok σ∧Eh all σ
theorem rN (a b:List bN) : bq (a++b)=bq a++bq b:=by unfold bq; rw [List.flatMap_append]
theorem kD (a b:List bN) : bI (a++b)=bI a++bI b:=by unfold bI; rw [List.flatMap_append]
theorem nQ {l:List bN} {d:NWd} (h:d ∈ bq l) : ∃ r ∈ l,r.1 = .words∧d ∈ r.2.2:=by
 obtain ⟨r,hr,hd⟩:=List.mem_flatMap.mp h
 by_cases c:r.1 = .words
 ·rw [if_pos c] at hd; exact ⟨r,hr,c,hd⟩
 ·rw [if_neg c] at hd; cases hd
theorem xa {l:List bN} {p:Str × List Wk} (h:p ∈ bI l) : ∃ r ∈ l,r.1 = .foot∧p=(tx r.2.1,wkS r.2.2):=by
 obtain ⟨r,hr,hd⟩:=List.mem_flatMap.mp h
 by_cases c:r.1 = .foot
 ·rw [if_pos c,List.mem_singleton] at hd; exact ⟨r,hr,c,hd⟩
 ·rw [if_neg c] at hd; cases hd
theorem tm:∀ {l:List bN},(∀ r ∈ l,r.1≠.words→∀ d ∈ r.2.2,d.1≠.mark)→dA (bq l)=dA (nW l)
 | [],_=>rfl
 | r :: l,h=>by
  have e1:bq (r :: l)=(if r.1 = .words then r.2.2 else [])++bq l:=by unfold bq; simp
  have e2:nW (r :: l)=r.2.2++nW l:=by unfold nW; simp
  rw [e1,e2,kA,kA,tm fun x hx=>h x (List.mem_cons_of_mem _ hx)]
  congr 1
  by_cases c:r.1 = .words
  ·rw [if_pos c]
  ·rw [if_neg c]
   show []=dA r.2.2
   unfold dA
   rw [List.filter_eq_nil_iff.mpr fun d hd=>by simpa using h r List.mem_cons_self c d hd]
   rfl
theorem dG.feet {nm:Nat→List Nat} {M F:Nat} : ∀ {rs:List cu} {ns:List bN} {at_ hung:Nat},dG nm M F at_ hung rs ns→(bI ns).map (·.1)=(nms nm hung (ftN rs)).map tx
 | [],[],_,_,_=>rfl
 | r :: rs,n :: ns,at_,hung,h=>by
  have e1:ftN (r :: rs)=b1 (decide (r.1 = .foot))+ftN rs:=by
   unfold ftN
   cases e:decide (r.1 = .foot) <;> simp [List.filter,e,b1] <;> omega
  have e2:bI (n :: ns)=(if n.1 = .foot then [(tx n.2.1,wkS n.2.2)] else [])++bI ns:=by unfold bI; simp
  rw [e1,t0,e2,List.map_append,List.map_append,dG.feet h.2]
  congr 1
  obtain ⟨g1,g2,_⟩:=h.1
  by_cases c:r.1 = .foot
  ·have c2:n.1 = .foot:=by rw [g1,if_neg (fun z=>by rw [c] at z; cases z.1)]; exact c
   rw [if_pos c] at g2
   rw [if_pos c2,decide_eq_true c,g2]
   rfl
  ·have c2:n.1≠.foot:=by
    rw [g1]
    split
    ·decide
    ·exact c
   rw [if_neg c2,decide_eq_false c]
   rfl
theorem xb:∀ l:List bN,((l.map cI).map rwN).sum≤(l.map (·.2.2.length)).sum
 | []=>Nat.le_refl _
 | r :: l=>by
  have h2:=xb l
  have h1:rwN (cI r)≤r.2.2.length:=by
   obtain ⟨wy,n,ws⟩:=r
   have e:(wkS ws).length=ws.length:=List.length_map _
   cases wy <;> first | exact Nat.zero_le _ | (show (wkS ws).length≤ws.length; omega)
  simp only [List.map_cons,List.sum_cons]
  omega
theorem xc:∀ l:List bN,(bq l).length≤(l.map (·.2.2.length)).sum
 | []=>Nat.le_refl _
 | r :: l=>by
  have h2:=xc l
  have e1:bq (r :: l)=(if r.1 = .words then r.2.2 else [])++bq l:=by unfold bq; simp
  rw [e1,List.length_append,List.map_cons,List.sum_cons]
  by_cases c:r.1 = .words
  ·rw [if_pos c]; omega
  ·rw [if_neg c]; simp only [List.length_nil]; omega
theorem Bi (l:List bN) : (bI l).length≤l.length:=by
 induction l with
 | nil=>exact Nat.le_refl _
 | cons r l ih =>
  have e2:bI (r :: l)=(if r.1 = .foot then [(tx r.2.1,wkS r.2.2)] else [])++bI l:=by unfold bI; simp
  rw [e2,List.length_append,List.length_cons]
  split <;> simp <;> omega
theorem Cg (l:List cu) : bP l≤(l.map (·.2.length)).sum:=by
 induction l with
 | nil=>exact Nat.le_refl _
 | cons r l ih =>
  have:mkN r.2≤r.2.length:=List.length_filter_le _ _
  have e:bP (r :: l)=mkN r.2+bP l:=by unfold bP; simp
  rw [e,List.map_cons,List.sum_cons]
  omega
theorem qW {d:NWd} (h:d ∈ ([(.foot,[113]),(.plain,[113]),(.foot,[113])] : List NWd)) : d=(.foot,[113])∨d=(.plain,[113]):=by
 simp only [List.mem_cons,List.not_mem_nil,or_false] at h
 rcases h with h | h | h
 ·exact .inl h
 ·exact .inr h
 ·exact .inl h
theorem Ch {long:List NWd} (h:∀ d ∈ long,d.1 = .plain∧iE d) (hl:long.length=39) : ∀ r ∈ kC long,ja r:=fun r hr=>by
 have:r=(.foot,[113],long)∨r=(.words,[],[(.foot,[113]),(.plain,[113]),(.foot,[113])]):=by simpa [kC] using hr
 rcases this with rfl | rfl
 ·exact ⟨(fun z=>by cases z),by show long.length≤129; omega,(fun z=>by cases z),(fun z=>by cases z),(fun _=>⟨(by decide:bE [113]=true),(by decide:[113].length≤12),(by decide:∀ d ∈ [113],33≤d∧d < 127),by show long.length≤39; omega,fun w hw=>by rw [(h w hw).1]; exact ⟨by decide,by decide⟩⟩),fun w hw=>(h w hw).2⟩
 ·refine ⟨(fun z=>by cases z),by simp,fun _=>by simp,(fun z=>by cases z),(fun z=>by cases z),fun w hw=>?_⟩
  have:w=(.foot,[113])∨w=(.plain,[113]):=qW hw
  rcases this with rfl | rfl
  ·exact ⟨by show Kw.foot≠Kw.entry; decide,by decide,.inr ⟨by show Kw.foot≠Kw.plain; decide,by decide,by decide⟩⟩
  ·exact ⟨by show Kw.plain≠Kw.entry; decide,by decide,.inl ⟨rfl,by simp,by simp⟩⟩
theorem Ej {nm:Nat→List Nat} (hn:NmF nm) (hq:∀ j,nm j≠[113]) {rows:List cu} {ns es:List bN} (ok:j9 nP qG 62 rows) (rr:dG nm (bP rows) (ftN rows) 0 0 rows ns) (hx:Ext es) : Ei (ns++bF++es):=by
 have ke:∀ k ∈ qG,k≠.entry:=by decide
 obtain ⟨l1,l2⟩:=rr.len
 have osum:=ok.sum
 have olen:=ok.len
 have wy:∀ r ∈ rows,r.1 = .words∨r.1 = .empty∨r.1 = .foot:=fun r hr=>by
  rcases (ok.ok r hr).2 with z | z | ⟨_,z⟩
  ·exact .inl z
  ·have:r.1 = .words∨r.1 = .empty∨r.1 = .foot:=by simpa [nP] using z
   exact this
  ·exact absurd z (by simp [nP])
 have endM:∀ r ∈ bF,r=(.empty,[],[])∨r=(.words,[],[(.plain,[101,110,100])]):=fun r hr=>by simpa [bF] using hr
 have esL:es.length≤2∧(es.map (·.2.2.length)).sum≤42:=by
  rcases hx with rfl | ⟨long,rfl,hl,_⟩
  ·exact ⟨by simp,by simp⟩
  ·exact ⟨by simp [kC],by simp [kC,hl]⟩
 have esM:∀ r ∈ es,(∃ long:List NWd,long.length=39∧(∀ d ∈ long,d.1 = .plain∧iE d)∧es=kC long∧(r=(.foot,[113],long)∨r=(.words,[],[(.foot,[113]),(.plain,[113]),(.foot,[113])]))):=fun r hr=>by
  rcases hx with rfl | ⟨long,rfl,hl,ho⟩
  ·cases hr
  ·exact ⟨long,hl,ho,rfl,by simpa [kC] using hr⟩
 have nr:∀ r ∈ ns++bF++es,ja r:=fun r hr=>by
  rcases List.mem_append.mp hr with hr | hr
  ·rcases List.mem_append.mp hr with hr | hr
   ·obtain ⟨x,hx,a,h,g⟩:=rr.mem r hr
    exact g.ok hn ke (ok.ok x hx).1
   ·exact Cf r hr
  ·obtain ⟨long,hl,ho,e,_⟩:=esM r hr
   rw [e] at hr
   exact Ch ho hl r hr
 have nw:∀ r ∈ ns++bF++es,r.1 = .words∨r.1 = .empty∨r.1 = .foot:=fun r hr=>by
  rcases List.mem_append.mp hr with hr | hr
  ·rcases List.mem_append.mp hr with hr | hr
   ·obtain ⟨x,hx,a,h,g,_⟩:=rr.mem r hr
    by_cases e:x.1 = .words∧x.2=[]
    ·rw [if_pos e] at g; exact .inr (.inl g)
    ·rw [if_neg e] at g; rw [g]; exact wy x hx
   ·rcases endM r hr with rfl | rfl
    ·exact .inr (.inl rfl)
    ·exact .inl rfl
  ·obtain ⟨long,_,_,_,rfl | rfl⟩:=esM r hr
   ·exact .inr (.inr rfl)
   ·exact .inl rfl
 have one:∀ r ∈ ns++bF++es,wY (cI r)∧rwW (cI r)=(if r.1 = .words then wkS r.2.2 else [])∧rwF (cI r)=(if r.1 = .foot then [(tx r.2.1,wkS r.2.2)] else []):=fun r hr=>by
  obtain ⟨wy,n,ws⟩:=r
  rcases nw _ hr with z | z | z
  all_goals
   dsimp only at z
   subst z
   exact ⟨trivial,rfl,rfl⟩
 have pf:∀ w ∈ (ns++bF++es).map cI,wY w:=fun w hw=>by
  obtain ⟨r,hr,rfl⟩:=List.mem_map.mp hw
  exact (one r hr).1
 have fl:∀ l:List bN,(∀ r ∈ l,rwW (cI r)=(if r.1 = .words then wkS r.2.2 else [])∧rwF (cI r)=(if r.1 = .foot then [(tx r.2.1,wkS r.2.2)] else []))→(l.map cI).flatMap rwW=wkS (bq l)∧(l.map cI).flatMap rwF=bI l:=fun l=>by
  induction l with
  | nil=>intro _; exact ⟨rfl,rfl⟩
  | cons r l ih =>
   intro h
   obtain ⟨i1,i2⟩:=ih fun x hx=>h x (List.mem_cons_of_mem _ hx)
   obtain ⟨h1,h2⟩:=h r List.mem_cons_self
   refine ⟨?_,?_⟩
   ·rw [List.map_cons,List.flatMap_cons,i1,h1]
    have e1:bq (r :: l)=(if r.1 = .words then r.2.2 else [])++bq l:=by unfold bq; simp
    rw [e1]
    unfold wkS
    rw [List.map_append]
    split <;> rfl
   ·rw [List.map_cons,List.flatMap_cons,i2,h2]
    unfold bI
    simp
 obtain ⟨f1,f2⟩:=fl _ fun r hr=>(one r hr).2
 obtain ⟨p1,p2,p3⟩:=w_ ((ns++bF++es).map cI) rs0 pf
 have p1:tgW (bp rs0 ((ns++bF++es).map cI)).things=wkS (bq (ns++bF++es)):=by
  rw [p1,f1]
  rfl
 have p3:(bp rs0 ((ns++bF++es).map cI)).feet=bI (ns++bF++es):=by
  rw [p3,f2]
  rfl
 have op:=p2 (fun t ht=>by cases ht)
 have tot:((ns++bF++es).map (·.2.2.length)).sum≤105:=by
  rw [List.map_append,List.sum_append,List.map_append,List.sum_append,l2]
  have e:(bF.map (·.2.2.length)).sum=1:=rfl
  omega
 have wl:(bq (ns++bF++es)).length≤105:=Nat.le_trans (xc _) tot
 have wo:∀ d ∈ bq (ns++bF++es),iE d:=fun d hd=>by
  obtain ⟨r,hr,_,hd⟩:=nQ hd
  exact (nr r hr).ok d hd
 have sum:(((ns++bF++es).map cI).map rwN).sum≤500:=Nat.le_trans (xb _) (by omega)
 have len:(ns++bF++es).length≤66:=by
  rw [List.length_append,List.length_append,l1]
  show _+2+_≤66
  omega
 have tl:=(tM ((ns++bF++es).map cI) rs0).2
 rw [List.length_map] at tl
 have mle:bP rows≤62:=Nat.le_trans (Cg rows) (by omega)
 have fle:ftN rows≤62:=Nat.le_trans (List.length_filter_le _ _) (by omega)
 -- the marks
 have nomk:∀ r ∈ ns,r.1≠.words→∀ d ∈ r.2.2,d.1≠.mark:=fun r hr hw d hd=>by
  have hr':r ∈ ns++bF++es:=List.mem_append_left _ (List.mem_append_left _ hr)
  rcases nw r hr' with z | z | z
  ·exact absurd z hw
  ·rw [(nr r hr').bare (by rw [z]; rfl)] at hd; cases hd
  ·exact ((nr r hr').foot z).2.2.2.2 d hd |>.1
 have tail:∃ T:List NWd,bq (ns++bF++es)=bq ns++((.plain,[101,110,100]) :: T)∧∀ d ∈ T,d.1≠.mark:=by
  refine ⟨bq es,?_,fun d hd=>?_⟩
  ·rw [rN,rN,List.append_assoc]; rfl
  ·obtain ⟨r,hr,hw,hd⟩:=nQ hd
   obtain ⟨long,_,_,_,rfl | rfl⟩:=esM r hr
   ·cases hw
   ·have:d=(.foot,[113])∨d=(.plain,[113]):=qW hd
    rcases this with rfl | rfl
    ·show Kw.foot≠Kw.mark; decide
    ·show Kw.plain≠Kw.mark; decide
 obtain ⟨T,eT,hT⟩:=tail
 have nm':dA (bq (ns++bF++es))=nms nm 0 (bP rows):=by
  have e0:dA ((.plain,[101,110,100]) :: T)=[]:=by
   unfold dA
   rw [List.filter_eq_nil_iff.mpr fun d hd=>?_]
   ·rfl
   ·rcases List.mem_cons.mp hd with rfl | hd
    ·decide
    ·simpa using hT d hd
  rw [eT,kA,e0,List.append_nil,tm nomk,rr.marks]
 have names:(bz (wkS (bq (ns++bF++es))) 0).map (·.1)=(nms nm 0 (bP rows)).map tx:=by rw [jQ,nm']
 have inj:∀ n,n≤1296→((nms nm 0 n).map tx).Nodup:=fun n hle=>by
  unfold nms
  rw [List.map_map]
  refine uC (fun a ha b hb e=>?_) List.nodup_range
  rw [List.mem_range] at ha hb
  have:=hn.inj (0+a) (0+b) (by omega) (by omega) (ik e)
  omega
 have nd:((bz (wkS (bq (ns++bF++es))) 0).map (·.1)).Nodup:=by
  rw [names]
  exact inj _ (by omega)
 -- the feet
 have fe:bI (ns++bF++es)=bI ns++bI es:=by
  rw [kD,kD]
  show bI ns++[]++bI es=_
  rw [List.append_nil]
 have fnd:((bI (ns++bF++es)).map (·.1)).Nodup:=by
  rw [fe,List.map_append,rr.feet]
  rcases hx with rfl | ⟨long,rfl,_⟩
  ·show ((nms nm 0 (ftN rows)).map tx++[]).Nodup
   rw [List.append_nil]
   exact inj _ (by omega)
  ·rw [List.nodup_append]
   refine ⟨inj _ (by omega),by simp [bI,kC],fun a ha b hb e=>?_⟩
   have:b=tx [113]:=by simpa [bI,kC] using hb
   obtain ⟨n,hn',rfl⟩:=List.mem_map.mp ha
   unfold nms at hn'
   obtain ⟨j,_,rfl⟩:=List.mem_map.mp hn'
   rw [this] at e
   exact hq _ (ik e)
 have dk:∀ r ∈ ns++bF++es,∀ d ∈ r.2.2,d.1 = .plain∨d.1 = .mark∨(fg d.1=true∧∃ j,j < bP rows∧d.2=nm j)∨(d.1 = .foot∧tx d.2 ∈ (bI (ns++bF++es)).map (·.1)):=fun r hr d hd=>by
  rcases List.mem_append.mp hr with hr | hr
  ·rcases List.mem_append.mp hr with hr | hr
   ·obtain ⟨x,hx,a,h,_,_,g⟩:=rr.mem r hr
    obtain ⟨k,hk,a',z⟩:=g.mem d hd
    have kk:k.1≠.entry:=by
     rcases (ok.ok x hx).1.kds k hk with y | y
     ·exact ke _ y
     ·rw [y]; decide
    rcases z with ⟨_,rfl⟩ | ⟨_,z,_⟩ | ⟨z1,z2,z3,j,hj,e⟩
    ·exact .inr (.inl rfl)
    ·exact .inl z
    ·by_cases kf:k.1 = .foot
     ·refine .inr (.inr (.inr ⟨z3.trans kf,?_⟩))
      unfold eR at hj
      rw [if_pos kf] at hj
      rw [fe,List.map_append,rr.feet,e]
      refine List.mem_append_left _ (List.mem_map_of_mem ?_)
      unfold nms
      exact List.mem_map.mpr ⟨j,List.mem_range.mpr hj,by rw [Nat.zero_add]⟩
     ·refine .inr (.inr (.inl ⟨?_,j,?_,e⟩))
      ·rw [z3]
       revert z1 z2 kk kf
       cases k.1 <;> simp [fg]
      ·unfold eR at hj
       rw [if_neg kf] at hj
       exact hj
   ·rcases endM r hr with rfl | rfl
    ·cases hd
    ·have:d=(.plain,[101,110,100]):=by simpa using hd
     rw [this]
     exact .inl rfl
  ·obtain ⟨long,_,ho,e,rfl | rfl⟩:=esM r hr
   ·exact .inl (ho d hd).1
   ·have:d=(.foot,[113])∨d=(.plain,[113]):=qW hd
    rcases this with rfl | rfl
    ·refine .inr (.inr (.inr ⟨rfl,?_⟩))
     rw [fe,e]
     simp [bI,kC]
    ·exact .inl rfl
 have ff:∀ w ∈ wkS (bq (ns++bF++es)),w.1 = .foot→∃ f,lkS (a9 w.2) (bI (ns++bF++es))=some f:=fun w hw hk=>by
  obtain ⟨d,hd,rfl⟩:=List.mem_map.mp hw
  obtain ⟨r,hr,_,hd⟩:=nQ hd
  rcases dk r hr d hd with z | z | ⟨z,_⟩ | ⟨_,z⟩
  ·rw [show d.1 = .foot from hk] at z; cases z
  ·rw [show d.1 = .foot from hk] at z; cases z
  ·rw [show d.1 = .foot from hk] at z; cases z
  ·exact rL z
 have ftw:∀ p ∈ bI (ns++bF++es),p.2.length≤39∧∀ w ∈ p.2,∃ d,w=rz d∧iE d∧(d.1 = .plain∨(fg d.1=true∧∃ j,j < bP rows∧d.2=nm j)):=fun p hp=>by
  obtain ⟨r,hr,hf,rfl⟩:=xa hp
  obtain ⟨_,_,_,g4,g5⟩:=(nr r hr).foot hf
  refine ⟨by show (wkS r.2.2).length≤39; unfold wkS; rw [List.length_map]; exact g4,fun w hw=>?_⟩
  obtain ⟨d,hd,rfl⟩:=List.mem_map.mp hw
  refine ⟨d,rfl,(nr r hr).ok d hd,?_⟩
  rcases dk r hr d hd with z | z | z | ⟨z,_⟩
  ·exact .inl z
  ·exact absurd z (g5 d hd).1
  ·exact .inr z
  ·exact absurd z (g5 d hd).2
 have txg:TxG (bp rs0 ((ns++bF++es).map cI)).things (bp rs0 ((ns++bF++es).map cI)).feet:=by
  refine ⟨fun t ht=>?_,?_,by rw [jp op]; simp,?_⟩
  ·obtain ⟨ws,rfl⟩:=op t ht
   obtain ⟨h1,h2⟩:=An ht
   rw [p1] at h1 h2
   unfold wkS at h2
   rw [List.length_map] at h2
   refine ⟨by omega,fun w hw=>?_⟩
   obtain ⟨d,hd,rfl⟩:=List.mem_map.mp (h1 w hw)
   exact (wo d hd).rd
  ·refine ⟨?_,fun p hp=>?_⟩
   ·have e:rs0.feet.length=0:=rfl
    omega
   ·rw [p3] at hp
    obtain ⟨g1,g2⟩:=ftw p hp
    refine ⟨g1,fun w hw=>?_⟩
    obtain ⟨d,rfl,no,z⟩:=g2 w hw
    refine ⟨no.rd,?_⟩
    show d.1≠.mark∧d.1≠.foot
    rcases z with z | ⟨z,_⟩
    ·rw [z]; exact ⟨by decide,by decide⟩
    ·exact ⟨fun y=>(by rw [y] at z; cases z),fun y=>(by rw [y] at z; cases z)⟩
  ·have e:rs0.things.length=0:=rfl
   omega
 refine ⟨nr,len,xV _ _ pf (by rw [f2]; exact fnd),sum,txg,by omega,wo,nd,fnd,ff,p3,op,fun c hc=>?_⟩
 have cl:bH (wkS (bq (ns++bF++es)))≤105:=by
  have:bH (wkS (bq (ns++bF++es)))≤(wkS (bq (ns++bF++es))).length:=List.length_filter_le _ _
  unfold wkS at this
  rw [List.length_map] at this
  exact Nat.le_trans this wl
 obtain ⟨σ,e,R⟩:=wX (c:=c) (σ:=ss0) op (by rw [p1,hc]; exact ff) (by rw [p1]; exact nd) (by rw [p1]; show 0+_≤400; omega)
 rw [p1] at R
 have rms:σ.ms=bz (wkS (bq (ns++bF++es))) 0:=R.ms
 have rws:σ.ws.map wf=bO (bI (ns++bF++es)) 0 (wkS (bq (ns++bF++es))):=by
  have:=R.ws
  rw [hc] at this
  exact this
 have rlen:σ.ws.length=bH (wkS (bq (ns++bF++es))):=by rw [R.len]; exact Nat.zero_add _
 have lk:∀ j,j < bP rows→∃ k,lkS (tx (nm j)) σ.ms=some k:=fun j hj=>by
  refine rL ?_
  rw [rms,names]
  refine List.mem_map_of_mem ?_
  unfold nms
  exact List.mem_map.mpr ⟨j,List.mem_range.mpr hj,by rw [Nat.zero_add]⟩
 have say:∀ d:NWd,(d.1 = .plain∨(fg d.1=true∧∃ j,j < bP rows∧d.2=nm j))→fi σ (rz d):=fun d hd=>by
  rcases hd with z | ⟨z,j,hj,ej⟩
  ·exact .inl ⟨z,d.2,rfl⟩
  ·obtain ⟨k,ek⟩:=lk j hj
   exact .inr (.inr ⟨z,d.2,k,rfl,by rw [ej]; exact ek⟩)
 have sayF:∀ m,fi σ (eS m):=fun m=>.inl ⟨rfl,(gu m).cps.toList,by unfold eS; rw [← u9]⟩
 have tel:sS σ:=fun t ht=>by
  have hm:wf t ∈ bO (bI (ns++bF++es)) 0 (wkS (bq (ns++bF++es))):=by rw [← rws]; exact List.mem_map_of_mem ht
  rcases lC _ _ _ _ hm with ⟨m,f,e,z⟩ | ⟨z1,z2,z3,z4⟩
  ·have e1:t.w=eS m:=congrArg Prod.fst e
   have e2:t.foot=eS m :: f:=congrArg Prod.snd e
   rw [e1,e2]
   rcases z with rfl | ⟨q,hq,rfl⟩
   ·exact ⟨sayF m,by simp,fun w hw=>by rw [List.mem_singleton.mp hw]; exact sayF m⟩
   ·obtain ⟨g1,g2⟩:=ftw q hq
    refine ⟨sayF m,by rw [List.length_cons]; omega,fun w hw=>?_⟩
    rcases List.mem_cons.mp hw with rfl | hw
    ·exact sayF m
    ·obtain ⟨d,rfl,_,z⟩:=g2 w hw
     exact say d z
  ·have z4:t.foot=[]:=z4
   rw [z4]
   refine ⟨?_,by simp,fun w hw=>by cases hw⟩
   obtain ⟨d,hd,ed⟩:=List.mem_map.mp (show t.w ∈ wkS (bq (ns++bF++es)) from z1)
   rw [← ed]
   have k1:d.1≠.mark:=fun y=>z2 (by show t.w.1=_; rw [← ed]; exact y)
   have k2:d.1≠.foot:=fun y=>z3 (by show t.w.1=_; rw [← ed]; exact y)
   obtain ⟨r,hr,_,hd⟩:=nQ hd
   rcases dk r hr d hd with y | y | y | ⟨y,_⟩
   ·exact say d (.inl y)
   ·exact absurd y k1
   ·exact say d (.inr y)
   ·exact absurd y k2
 have nbad:∀ w,fi σ w→iy σ w=false:=fun w s=>by
  rcases s with ⟨z,_⟩ | ⟨z,_⟩ | ⟨z,n,k,e1,e2⟩
  ·unfold iy; rw [z]; rfl
  ·unfold iy; rw [z]; rfl
  ·unfold iy
   rw [e1]
   show (fg w.1 && (lkS (tx n) σ.ms).isNone)=false
   rw [e2]
   simp
 have ck:dL c σ=none:=by
  unfold dL
  rw [if_neg,if_neg]
  ·rw [hc,Bool.not_eq_true,List.any_eq_false]
   intro w hw
   rw [nbad w ?_]
   ·decide
   rcases List.mem_append.mp hw with hw | hw
   ·obtain ⟨t,ht,rfl⟩:=List.mem_map.mp hw
    exact (tel t ht).1
   ·obtain ⟨p,hp,hw⟩:=List.mem_flatMap.mp hw
    obtain ⟨d,rfl,_,z⟩:=(ftw p hp).2 w hw
    exact say d z
  ·rw [Bool.not_eq_true,List.any_eq_false]
   intro m hm
   have e2:bz (wkS ((.plain,[101,110,100]) :: T)) (0+bH (wkS (bq ns)))=[]:=by
    have:(bz (wkS ((.plain,[101,110,100]) :: T)) (0+bH (wkS (bq ns)))).map (·.1)=[]:=by
     rw [jQ]
     unfold dA
     rw [List.filter_eq_nil_iff.mpr fun d hd=>?_]
     ·rfl
     ·rcases List.mem_cons.mp hd with rfl | hd
      ·decide
      ·simpa using hT d hd
    exact List.map_eq_nil_iff.mp this
   have sp:wkS (bq (ns++bF++es))=wkS (bq ns)++wkS ((.plain,[101,110,100]) :: T):=by
    rw [eT]
    unfold wkS
    rw [List.map_append]
   rw [rms,sp,iG,e2,List.append_nil] at hm
   have h1:=t_ _ _ m hm
   have h2:σ.ws.length=bH (wkS (bq ns))+bH (wkS ((.plain,[101,110,100]) :: T)):=by rw [rlen,sp,wW]
   have h3:1≤bH (wkS ((.plain,[101,110,100]) :: T)):=by
    show 1≤bH (rz (.plain,[101,110,100]) :: wkS T)
    rw [pG,if_neg (by show Kw.plain≠Kw.mark; decide)]
    omega
   simp only [decide_eq_true_eq]
   omega
 refine ⟨σ,?_,rms,rws,R.hs,tel⟩
 unfold iQ
 rw [e]
 show (match dL c σ with | some e=>_ | none=>_)=_
 rw [ck]

theorem ET:[V.str (PySem.Str.ofString "words"),V.str (PySem.Str.ofString ""),V.str (PySem.Str.ofString ".foot"),V.str (PySem.Str.ofString ".foot"),V.str (PySem.Str.ofString "word"),V.str (PySem.Str.ofString "word"),V.str (PySem.Str.ofString "word"),V.str (PySem.Str.ofString "word"),V.str (PySem.Str.ofString "word"),V.str (PySem.Str.ofString "word"),V.str (PySem.Str.ofString "word"),V.str (PySem.Str.ofString "word")]=(nP.map fun w=>tx w.t).map V.str:=by decide +kernel
theorem EU:[V.str (PySem.Str.ofString "plain"),V.str (PySem.Str.ofString "plain"),V.str (PySem.Str.ofString "mark"),V.str (PySem.Str.ofString "number"),V.str (PySem.Str.ofString "page"),V.str (PySem.Str.ofString "row"),V.str (PySem.Str.ofString "foot"),V.str (PySem.Str.ofString "foot"),V.str (PySem.Str.ofString "foot")]=qG.map fun k=>V.str k.s:=by decide +kernel
theorem cQq:(PySem.Str.ofString "q")=tx [113]:=by decide +kernel
theorem Ek:∀ d:Nat,d < 14→atI (PySem.Str.ofString "abcdefghijklmn").cps.toList (d:Int)=some (97+d):=by decide +kernel
def jR (c:Int) (n:Nat) : List NWd:=(List.range n).map fun (k:Nat)=>(.plain,[97+(br c (1+(k:Int)) 14).toNat])
theorem Dz (c:Int) (n:Nat) : ∀ d ∈ jR c n,d.1 = .plain∧iE d:=fun d hd=>by
 obtain ⟨k,_,rfl⟩:=List.mem_map.mp hd
 have:=cT c (1+(k:Int)) (show (0:Int) < 14 by decide)
 refine ⟨rfl,by show Kw.plain≠Kw.entry; decide,fun x hx=>?_,.inl ⟨rfl,by simp,by simp⟩⟩
 rw [List.mem_singleton.mp hx]
 omega
theorem DA (c:Int) (j:Nat) : eg c j≠[113]:=fun z=>by
 have:=congrArg List.length z
 unfold eg nmB at this
 simp only [List.length_map,List.length_append,List.length_cons,List.length_nil] at this
 omega
def KpX (fs:List Addr) (H H':Hp) : Prop:=∀ b u,b ∉ fs→H b=some u→H' b=some u
theorem DB {F:Hp} : ∀ {vs:List V} {ws:List (V × V)},aR (SyA F) vs ws→(vs++[V.int 0]).countP (isK 0)=1
 | [],[],_=>rfl
 | v :: vs,_ :: _,h=>by
  obtain ⟨⟨a,rfl,_⟩,h2⟩:=h
  rw [List.cons_append,List.countP_cons,DB h2]
  rfl
theorem xW {P:V→α→Prop} : ∀ {vs:List V} {ws:List α},aR P vs ws→∀ v ∈ vs,∃ w ∈ ws,P v w
 | [],[],_,v,h=>by cases h
 | _ :: _,w :: _,⟨h1,h2⟩,v,h=>by
  rcases List.mem_cons.mp h with rfl | h
  ·exact ⟨w,List.mem_cons_self,h1⟩
  ·obtain ⟨w',hw,p⟩:=xW h2 v h
   exact ⟨w',List.mem_cons_of_mem _ hw,p⟩
theorem xf {K:PySem.W.Frag} {F:Hp} {a:Addr} {x y z u:Int} (h:F a=some (.tup [.int x,.int y,.int z,.int u])) : Rep K F (.tup [.int x,.int y,.int z,.int u]) (.ref a):=by
 have n:∀ t:Int,Rep K F (.int t) (.int t):=fun t=>by unfold Rep; rfl
 unfold Rep
 refine ⟨a,_,rfl,SqT.of h,by show 4≤1000; decide,?_⟩
 unfold cb
 refine ⟨_,_,rfl,n x,?_⟩
 unfold cb
 refine ⟨_,_,rfl,n y,?_⟩
 unfold cb
 refine ⟨_,_,rfl,n z,?_⟩
 unfold cb
 refine ⟨_,_,rfl,n u,?_⟩
 unfold cb
 rfl
theorem uD (x y z u:Int) : (DD.tup [.int x,.int y,.int z,.int u]).deep≤2:=by
 simp [DD.deep,dD]
theorem yS {ws:List NWd} (h:∀ d ∈ ws,iE d) : ∀ w ∈ wkS ws,w.1≠.entry∧∃ n,w.2 = .str (tx n):=fun w hw=>by
 obtain ⟨d,hd,rfl⟩:=List.mem_map.mp hw
 exact ⟨(h d hd).1,d.2,rfl⟩

theorem dC:aJ ["script","first","form","ways","kinds","named","long","stream","feet","way","name","words","rows","found","word"] ["script"] (av yu):=by walk_at "c"
theorem ok_law (T:Txt P w K mg a) : aX P w K mg base CX0 9 a.yT a.tq ["script"] (zx K):=by
 refine T.vc.fn.ok dC (fun vs H Q E h=>?_) (fun cdv A outer s H vs Q E hr h=>?_)
 ·obtain ⟨a,ns,rfl,_⟩:=h
  rfl
 obtain ⟨sa,zs,rfl,hS,h63,q⟩:=h
 have hu:=Nat.lt_of_succ_lt (df hr)
 refine ⟨_,(@af _ _ _ _ _ (aA (i:=1) dC.nd rfl (Or.inr rfl) (aB T.lV (wD T) (hr.mono (by decide)) rfl (@aa _ _ _ _ _ (pv 0) (@aa _ _ _ _ _ ai ac (by rfl)) (by rfl))))
   (@af _ _ _ _ _ (aA (i:=2) dC.nd rfl (Or.inl rfl) (aB T.rP (z8 T) (hr.mono (by decide)) rfl (@aa _ _ _ _ _ (pv 1) ac (by rfl))))
   (@af _ _ _ _ _ (@Br _ 3 _ _ _ _ _ _ dC.nd rfl (Or.inl rfl) (CL.str (CL.str (CL.str (CL.str (CL.str (CL.str (CL.str (CL.str (CL.str (CL.str (CL.str (CL.str CL.nil)))))))))))) (by first | exact .inl rfl | exact .inr rfl))
   (@af _ _ _ _ _ (aA (i:=4) dC.nd rfl (Or.inl rfl) (@aY _ _ _ _ (@sN _ _ _ (CL.str (CL.str (CL.str (CL.str (CL.str (CL.str (CL.str (CL.str (CL.str CL.nil))))))))))))
   (@af _ _ _ _ _ (aA (i:=5) dC.nd rfl (Or.inl rfl) (aB T.pW (yC T) (hr.mono (by decide)) rfl (@aa _ _ _ _ _ (aB T.rQ (Aj T) (hr.mono (by decide)) rfl (@aa _ _ _ _ _ (pv 0) (@aa _ _ _ _ _ (pv 3) (@aa _ _ _ _ _ (pv 4) ac (by rfl)) (by rfl)) (by rfl))) (@aa _ _ _ _ _ (pv 1) ac (by rfl)) (by rfl))))
   (@af _ _ _ _ _ (@aG _ _ _ _ _ _ _ _ (au a_ (aB T.bG (bA T) (hr.mono (by decide)) rfl (@aa _ _ _ _ _ (pv 1) (@aa _ _ _ _ _ ai (@aa _ _ _ _ _ ai ac (by rfl)) (by rfl)) (by rfl))) ai (nomark _)) (@af _ _ _ _ _ (yf (k:=6) rfl (eN (caps:=["first"]) (js:=[1]) (cap:=⟨⟨rfl,.inl rfl,rfl,.inl rfl⟩,trivial⟩)) (le rfl T.eZ (@aa _ _ _ _ _ ai ac (by rfl))) (fun _ _ _ _=>c9) (fun _ _ _ _=>(@aS _ _ _ _ _ (@aa _ _ _ _ _ aq (@aa _ _ _ _ _ (@aD _ _ _ _ _ _ _ d9 aq (aB T.bG (bA T) (hr.mono (by decide)) rfl (@aa _ _ _ _ _ (pv 1) (@aa _ _ _ _ _ (aO b_ ai (pv 0)) (@aa _ _ _ _ _ ai ac (by rfl)) (by rfl)) (by rfl))) (fun _ _=>rfl)) ac (by rfl)) (by rfl)))) dC.nd rfl rfl)
   (@ag _ _ _ (aA (i:=5) dC.nd rfl (Or.inl rfl) (aO mD (pv 5) (@aY _ _ _ _ (@aa _ _ _ _ _ (@aS _ _ _ _ _ (@aa _ _ _ _ _ aq (@aa _ _ _ _ _ aq (@aa _ _ _ _ _ (pv 6) ac (by rfl)) (by rfl)) (by rfl))) (@aa _ _ _ _ _ (@aS _ _ _ _ _ (@aa _ _ _ _ _ aq (@aa _ _ _ _ _ aq (@aa _ _ _ _ _ (@aY _ _ _ _ (@aa _ _ _ _ _ (@aS _ _ _ _ _ (@aa _ _ _ _ _ aq (@aa _ _ _ _ _ aq ac (by rfl)) (by rfl))) (@aa _ _ _ _ _ (@aS _ _ _ _ _ (@aa _ _ _ _ _ aq (@aa _ _ _ _ _ aq ac (by rfl)) (by rfl))) (@aa _ _ _ _ _ (@aS _ _ _ _ _ (@aa _ _ _ _ _ aq (@aa _ _ _ _ _ aq ac (by rfl)) (by rfl))) ac (by rfl)) (by rfl)) (by rfl))) ac (by rfl)) (by rfl)) (by rfl))) ac (by rfl)) (by rfl))))))) aE)
   (@af _ _ _ _ _ (aA (i:=7) dC.nd rfl (Or.inl rfl) (@aY _ _ _ _ ac))
   (@af _ _ _ _ _ (aA (i:=8) dC.nd rfl (Or.inl rfl) rc)
   (@af _ _ _ _ _ (b9 PassesOwn.never rfl (a7 (pv 5)) (d8 rfl (a6 (aM (i:=9) dC.nd rfl (Or.inl rfl)) (a6 (aM (i:=10) dC.nd rfl (Or.inl rfl)) (a6 (aM (i:=11) dC.nd rfl (Or.inl rfl)) dw)))) (@af _ _ _ _ _ (@aG _ _ _ _ _ _ _ _ (au a_ (pv 9) aq (nomark _)) (@ag _ _ _ (bj (cH PySem.F.plainAttrs_list PySem.F.slot_list_extend PySem.F.type_list_extend oS (pv 7) (@aa _ _ _ _ _ (pv 11) ac (by rfl))))) aE)
   (@ag _ _ _ (@aG _ _ _ _ _ _ _ _ (au a_ (pv 9) aq (nomark _)) (@ag _ _ _ (tE (df hr) (pv 8) (pv 10) (pv 11) rfl)) aE))))
   (@af _ _ _ _ _ (aA (i:=12) dC.nd rfl (Or.inl rfl) (aB T.nT (xp T) (hr.mono (by decide)) rfl (@aa _ _ _ _ _ (C_ rfl (eN (caps:=[]) (js:=[]) (cap:=trivial)) (a7 (pv 5)) (fun _ _ _ _=>c9) (fun _ _ _ _=>(aB T.rR (Al T) (hr.mono (by decide)) rfl (@aa _ _ _ _ _ (pv 0) (@aa _ _ _ _ _ (pv 1) (@aa _ _ _ _ _ (pv 2) ac (by rfl)) (by rfl)) (by rfl))))) (@aa _ _ _ _ _ (pv 1) ac (by rfl)) (by rfl))))
   (@af _ _ _ _ _ (aA (i:=13) dC.nd rfl (Or.inl rfl) (vU sO T.jg (pT T) (hr.mono (by decide)) rfl (@aa _ _ _ _ _ (jj vL rfl T.fG PyProof.Rows.boot_list (@aa _ _ _ _ _ (pv 12) ac (by rfl))) (@aa _ _ _ _ _ (pv 2) ac (by rfl)) (by rfl))))
   (@af _ _ _ _ _ (@aG _ _ _ _ _ _ _ _ (dO (b8 (aB T.lF (tj T) (hr.mono (by decide)) rfl (@aa _ _ _ _ _ (pv 13) (@aa _ _ _ _ _ (pv 2) (@aa _ _ _ _ _ (pv 7) (@aa _ _ _ _ _ (pv 8) ac (by rfl)) (by rfl)) (by rfl)) (by rfl))) (fun _=>rfl))) (@ag _ _ _ (@aF _ _ _ _ cW)) aE)
   (@af _ _ _ _ _ (b9 PassesOwn.never rfl (a7 (@aD _ _ _ _ _ _ _ aN (@aD _ _ _ _ _ _ _ aN (pv 13) ai (fun _ _=>rfl)) ai (fun _ _=>rfl))) (aM (i:=14) dC.nd rfl (Or.inl rfl)) (@ag _ _ _ (bj (cH PySem.F.plainAttrs_list PySem.F.slot_list_append PySem.F.type_list_append cf (@aD _ _ _ _ _ _ _ aN (pv 14) ai (fun _ _=>rfl)) (@aa _ _ _ _ _ ai ac (by rfl))))))
   (@af _ _ _ _ _ (@aG _ _ _ _ _ _ _ _ (au (mY hu) (ir rfl (eN (caps:=[]) (js:=[]) (cap:=trivial)) (a7 (@aD _ _ _ _ _ _ _ aN (@aD _ _ _ _ _ _ _ aN (pv 13) ai (fun _ _=>rfl)) ai (fun _ _=>rfl))) (fun _ _ _ _=>(mE (PW.pt (du (au jJ (aK (r:=C2 K) bD rfl T.bS PySem.boot_len (@aa _ _ _ _ _ (aD (r:=lI K) aN (pv 0) ai (fun _ _=>rfl)) ac (by rfl))) ai (nomark _)) (dN (au io (Db (K:=K) rfl PySem.F.plainAttrs_list PySem.F.slot_list_count PySem.F.type_list_count (zR (K:=K) (by rfl) (by exact df hr)) (aD (r:=lI K) aN (pv 0) ai (fun _ _=>rfl)) (@aa _ _ _ _ _ ai ac (by rfl))) ai (nomark _))))))) (fun _ _ _ _=>(pv 0))) (@aY _ _ _ _ ac) (nomark _)) (@ag _ _ _ (@aF _ _ _ _ cW)) aE)
   (@ag _ _ _ (@aF _ _ _ _ (aB T.lF (tj T) (hr.mono (by decide)) rfl (@aa _ _ _ _ _ (vU sO T.jg (pT T) (hr.mono (by decide)) rfl (@aa _ _ _ _ _ (pv 12) (@aa _ _ _ _ _ (pv 2) ac (by rfl)) (by rfl))) (@aa _ _ _ _ _ (pv 2) (@aa _ _ _ _ _ (pv 7) (@aa _ _ _ _ _ (pv 8) ac (by rfl)) (by rfl)) (by rfl)) (by rfl))))))))))))))))))),?_⟩
 refine ⟨_,rfl,sa,zs,0,rfl,hS,?_⟩
 generalize zs.getD 0 0=f
 refine ⟨_,rfl,f,rfl,fun fo H1 x y z u hfo s1 kfo=>?_⟩
 refine ⟨aW (by simp),fun p1 hp1=>?_⟩
 have s2:=ah hp1 (.lst [V.str (PySem.Str.ofString "words"),V.str (PySem.Str.ofString ""),V.str (PySem.Str.ofString ".foot"),V.str (PySem.Str.ofString ".foot"),V.str (PySem.Str.ofString "word"),V.str (PySem.Str.ofString "word"),V.str (PySem.Str.ofString "word"),V.str (PySem.Str.ofString "word"),V.str (PySem.Str.ofString "word"),V.str (PySem.Str.ofString "word"),V.str (PySem.Str.ofString "word"),V.str (PySem.Str.ofString "word")])
 have k2:upd H1 p1 (.lst [V.str (PySem.Str.ofString "words"),V.str (PySem.Str.ofString ""),V.str (PySem.Str.ofString ".foot"),V.str (PySem.Str.ofString ".foot"),V.str (PySem.Str.ofString "word"),V.str (PySem.Str.ofString "word"),V.str (PySem.Str.ofString "word"),V.str (PySem.Str.ofString "word"),V.str (PySem.Str.ofString "word"),V.str (PySem.Str.ofString "word"),V.str (PySem.Str.ofString "word"),V.str (PySem.Str.ofString "word")]) p1=some (.lst ((nP.map fun w=>tx w.t).map V.str)):=by rw [ae,ET]
 generalize upd H1 p1 (.lst [V.str (PySem.Str.ofString "words"),V.str (PySem.Str.ofString ""),V.str (PySem.Str.ofString ".foot"),V.str (PySem.Str.ofString ".foot"),V.str (PySem.Str.ofString "word"),V.str (PySem.Str.ofString "word"),V.str (PySem.Str.ofString "word"),V.str (PySem.Str.ofString "word"),V.str (PySem.Str.ofString "word"),V.str (PySem.Str.ofString "word"),V.str (PySem.Str.ofString "word"),V.str (PySem.Str.ofString "word")])=H2 at s2 k2 ⊢
 refine ⟨aW (by simp),fun p2 hp2=>?_⟩
 have s3:=ah hp2 (.lst [V.str (PySem.Str.ofString "plain"),V.str (PySem.Str.ofString "plain"),V.str (PySem.Str.ofString "mark"),V.str (PySem.Str.ofString "number"),V.str (PySem.Str.ofString "page"),V.str (PySem.Str.ofString "row"),V.str (PySem.Str.ofString "foot"),V.str (PySem.Str.ofString "foot"),V.str (PySem.Str.ofString "foot")])
 have k3:upd H2 p2 (.lst [V.str (PySem.Str.ofString "plain"),V.str (PySem.Str.ofString "plain"),V.str (PySem.Str.ofString "mark"),V.str (PySem.Str.ofString "number"),V.str (PySem.Str.ofString "page"),V.str (PySem.Str.ofString "row"),V.str (PySem.Str.ofString "foot"),V.str (PySem.Str.ofString "foot"),V.str (PySem.Str.ofString "foot")]) p2=some (.lst (qG.map fun k=>V.str k.s)):=by rw [ae,EU]
 generalize upd H2 p2 (.lst [V.str (PySem.Str.ofString "plain"),V.str (PySem.Str.ofString "plain"),V.str (PySem.Str.ofString "mark"),V.str (PySem.Str.ofString "number"),V.str (PySem.Str.ofString "page"),V.str (PySem.Str.ofString "row"),V.str (PySem.Str.ofString "foot"),V.str (PySem.Str.ofString "foot"),V.str (PySem.Str.ofString "foot")])=H3 at s3 k3 ⊢
 have s13:=s1.trans (s2.trans s3)
 refine ⟨_,rfl,_,rfl,_,rfl,sa,p1,p2,zs,nP,qG,rfl,s13.seq hS,h63,SqL.of (s3 _ _ k2),SqL.of k3,by decide,by decide,by decide,by decide,?_,fun pr H4 rows rv hpr s4 kr ral rok=>?_⟩
 ·intro w hw
  have:w = .words∨w = .empty∨w = .foot:=by simpa [nP] using hw
  rcases this with rfl | rfl | rfl <;> rfl
 have rne:∀ r ∈ rows,r.2.length≤6∧∀ w ∈ r.2,w.1≠.entry:=fun r hr=>⟨(rok.ok r hr).1.len,fun w hw=>by
  rcases (rok.ok r hr).1.kds w hw with z | z
  ·exact (show ∀ k ∈ qG,k≠.entry by decide) _ z
  ·rw [z]; decide⟩
 refine ⟨_,rfl,pr,f,rows,rv,rfl,kr,ral.imp fun _ _=>RrA.mono bJ,rok.len,rne,fun pn H5 ns nv hpn s5 kn nal rr=>?_⟩
 have s15:=s13.trans (s4.trans s5)
 have lnv:=nal.len
 have kfo5:=s5 _ _ (s4 _ _ ((s2.trans s3) _ _ kfo))
 dsimp only [bv]
 refine c_ (fun σ' G=>∃ (vl:Option V) (pm:Addr) (nu:List V) (es:List bN),σ' = [some (.ref sa),some (.int f),some (.ref fo),some (.ref p1),some (.ref p2),some (.ref pm),vl,none,none,none,none,none,none,none,none]∧ao H5 G∧G pm=some (.lst nu)∧aR (NnA G) nu (ns++bF++es)∧Ext es) ?_ (fun key=>?_)
 ·rintro σ' G0 ⟨vl,pm,nu,es,rfl,m0,kn0,nal0,hx⟩
  have L:=Ej (Eb f) (DA f) rok rr hx
  clear nal kn lnv
  have lnv:=nal0.len
  generalize ns++bF++es=all at *
  have nr:=L.nr
  have nlen:=L.len
  refine ⟨aW (by simp),fun p3 hp3=>?_⟩
  have n3:=ah hp3 (.lst [])
  have k3':upd G0 p3 (.lst []) p3=some (.lst []):=ae
  generalize upd G0 p3 (.lst [])=G1 at n3 k3' ⊢
  intro p4 hp4
  have n4:=ah hp4 (.dK [])
  have k4':upd G1 p4 (.dK []) p4=some (.dK []):=ae
  have e3:=n4 _ _ k3'
  have n34:=n3.trans n4
  have g04:G0 p4=none:=n3.free hp4
  have d34:p4≠p3:=fun z=>by rw [z,k3'] at hp4; cases hp4
  generalize upd G1 p4 (.dK [])=G2 at n4 k4' e3 n34 ⊢
  refine ⟨_,rfl,pm,rfl,⟨_,SqL.of (n34 _ _ kn0)⟩,bT (K:=K) (a:=pm) (xs:=nu) (fun i σ' G=>∃ (v9 v10 v11:Option V) (us:List V) (kv:List (Key × V)),σ' = [some (.ref sa),some (.int f),some (.ref fo),some (.ref p1),some (.ref p2),some (.ref pm),vl,some (.ref p3),some (.ref p4),v9,v10,v11,none,none,none]∧ao G0 G∧G p3=some (.lst us)∧bW G0 us (wkS (bq (all.take i)))∧G p4=some (.dK kv)∧FtA G0 kv (bI (all.take i))∧us.length≤129 * i) ⟨none,none,none,[],[],rfl,n34,e3,trivial,k4',trivial,Nat.zero_le _⟩ (fun i σ' G _ g=>by obtain ⟨_,_,_,_,_,_,m,_⟩:=g; exact SqL.of (m _ _ kn0)) ?_ ?_⟩
  ·rintro i y' σ' G hy ⟨v9,v10,v11,us,kv,rfl,m,g3,wal,g4,fal,ul⟩
   obtain ⟨n,hn,b,l,rfl,hb,cs,l1,l2⟩:=nal0.getL hy
   have hi:=(List.getElem?_eq_some_iff.mp hn).1
   have lc:=l2.len
   have ll:=(nr n (List.mem_of_getElem? hn)).len
   unfold wkS at lc
   rw [List.length_map] at lc
   have es1:bq (all.take (i+1))=bq (all.take i)++(if n.1 = .words then n.2.2 else []):=by rw [aP hn,rN]; unfold bq; simp
   have ef1:bI (all.take (i+1))=bI (all.take i)++(if n.1 = .foot then [(tx n.2.1,wkS n.2.2)] else []):=by rw [aP hn,kD]; unfold bI; simp
   refine ⟨b,_,rfl,SqT.of (m _ _ hb),rfl,_,_,rfl,_,_,rfl,_,_,rfl,rfl,?_⟩
   refine c_ (fun σ2 F=>∃ us':List V,σ2=[some (.ref sa),some (.int f),some (.ref fo),some (.ref p1),some (.ref p2),some (.ref pm),vl,some (.ref p3),some (.ref p4),some (.str (tx n.1.t)),some (.str (tx n.2.1)),some (.ref l),none,none,none]∧ao G0 F∧F p3=some (.lst us')∧bW G0 us' (wkS (bq (all.take (i+1))))∧F p4=some (.dK kv)∧us'.length≤129 * (i+1)) ?_ (fun key2=>?_)
   ·rintro σ2 F ⟨us',rfl,mF,f3,wal',f4,ul'⟩
    refine ⟨_,rfl,rfl,_,rfl,?_⟩
    rw [cz iR]
    by_cases hm:n.1 = .foot
    ·rw [decide_eq_true (show n.1.t=cY by rw [hm]; rfl)]
     refine aT ?_
     rw [if_pos hm] at ef1
     have nn:lkS (tx n.2.1) (bI (all.take i))=none:=nN fun z=>by
      have fnd:=L.fnd
      rw [← List.take_append_drop (i+1) all,kD,ef1,List.map_append,List.map_append,List.nodup_append] at fnd
      have:=fnd.1
      rw [List.nodup_append] at this
      exact this.2.2 _ z _ (by simp) rfl
     refine ⟨_,rfl,_,rfl,_,rfl,_,_,rfl,rb.k (k:=.inr (tx n.2.1)) f4 (aC (by have:=fal.len; have:(bI (all.take i)).length≤66:=(by have h1:=congrArg List.length (show bI all=bI (all.take i)++bI (all.drop i) from by rw [← kD,List.take_append_drop]); have h2:=Bi all; rw [List.length_append] at h1; omega); omega)),?_⟩
     rw [q_ _ ((FtA.val (n:=tx n.2.1) fal).1 nn)]
     have d3:p3≠p4:=fun z=>d34 z.symm
     refine ⟨_,_,_,us',kv++[(.inr (tx n.2.1),.ref l)],rfl,bn mF g04,by rw [aj d3]; exact f3,wal',ae,?_,ul'⟩
     rw [ef1]
     exact FtA.app ⟨rfl,l,rfl,cs,l1,l2⟩ fal
    ·rw [decide_eq_false (show ¬ (n.1.t=cY) from fun zz=>hm (Wy.inj (b:=.foot) zz))]
     refine ay ?_
     refine ⟨_,_,_,us',kv,rfl,mF,f3,wal',f4,?_,ul'⟩
     rw [ef1,if_neg hm,List.append_nil]
     exact fal
   ·refine ⟨_,rfl,rfl,_,rfl,?_⟩
    rw [cz jm]
    by_cases hm:n.1 = .words
    ·rw [decide_eq_true (show n.1.t=[119,111,114,100,115] by rw [hm]; rfl)]
     refine aT ?_
     rw [if_pos hm] at es1
     refine ⟨_,rfl,.inl ⟨rfl,_,SqL.of g3⟩,_,rfl,_,_,_,_,rfl,rfl,g3,m _ _ l1,Nat.le_of_lt (Nat.lt_of_le_of_lt (show us.length+cs.length≤20000 by omega) (by decide)),?_⟩
     refine key2 _ _ ⟨us++cs,rfl,bn m hp3,ae,?_,by rw [aj d34]; exact g4,by rw [List.length_append]; omega⟩
     rw [es1]
     unfold wkS
     rw [List.map_append]
     exact wal.app l2
    ·rw [decide_eq_false (show ¬ (n.1.t=[119,111,114,100,115]) from fun zz=>hm (Wy.inj (b:=.words) zz))]
     refine ay ?_
     refine key2 _ _ ⟨us,rfl,m,g3,?_,g4,by omega⟩
     rw [es1,if_neg hm,List.append_nil]
     exact wal
  rintro σ' G ⟨v9,v10,v11,us,kv,rfl,m,g3,wal,g4,fal,ul⟩
  rw [lnv,List.take_length] at wal fal
  have nalG:aR (NnA G) nu all:=nal0.imp fun _ _=>NnA.mono m
  have knG:=m _ _ kn0
  refine ⟨_,rfl,pm,rfl,⟨_,SqL.of knG⟩,A6 (K:=K) (a:=pm) (xs:=nu) (fun i ys G'=>ao G G'∧ys=(((all.take i).map fun r=>cj [32] (dY true r)).map tx).map V.str) ⟨ao.refl _,rfl⟩ (fun i ys G' _ z=>SqL.of (z.1 _ _ knG)) ?_ ?_ ?_⟩
  ·rintro i ys G' hi ⟨_,rfl⟩
   simp only [List.length_map,List.length_take]
   exact aC (by omega)
  ·rintro i y' ys G' hy ⟨m',rfl⟩
   obtain ⟨n,hn,b,l,rfl,hb,hl⟩:=nalG.getL hy
   refine ⟨b,_,_,_,rfl,SqT.of (m' _ _ hb),d_ ?_⟩
   refine ⟨_,rfl,_,rfl,_,rfl,n,l,rfl,hl.mono m',nr n (List.mem_of_getElem? hn),fun G2' m2=>⟨m'.trans m2,?_⟩⟩
   rw [aP hn,List.map_append,List.map_append,List.map_append]
   rfl
  rintro ys G' ⟨m',rfl⟩ pt hpt
  rw [lnv,List.take_length]
  have m8:=m'.trans (ah hpt (.lst (((all.map fun r=>cj [32] (dY true r)).map tx).map V.str)))
  have k8:upd G' pt (.lst (((all.map fun r=>cj [32] (dY true r)).map tx).map V.str)) pt=some (.lst (((all.map fun r=>cj [32] (dY true r)).map tx).map V.str)):=ae
  generalize upd G' pt (.lst (((all.map fun r=>cj [32] (dY true r)).map tx).map V.str))=G3 at m8 k8 ⊢
  refine ⟨_,rfl,pt,f,all.map fun r=>cj [32] (dY true r),rfl,SqL.of k8,by rw [List.length_map]; omega,?_,fun pq G4 ss hpq m9 kq spd ssl=>?_⟩
  ·intro r hr
   obtain ⟨n,hn,rfl⟩:=List.mem_map.mp hr
   exact o_ true (nr n hn)
  rw [List.length_map] at ssl
  dsimp only [bv]
  refine ⟨_,rfl,_,_,rfl,.inl (SqL.of kq),fun ph hph=>?_⟩
  have m10:=ah hph (.lst ((ss.map tx).map V.str))
  have kh:upd G4 ph (.lst ((ss.map tx).map V.str)) ph=some (.lst ((ss.map tx).map V.str)):=ae
  have kq':=m10 _ _ kq
  generalize upd G4 ph (.lst ((ss.map tx).map V.str))=B at m10 kh kq' ⊢
  have mB:=m8.trans (m9.trans m10)
  have sp:=spd.all nr
  have ar:=sp.rows nr
  have kfoB:B fo=some (.tup [.int x,.int y,.int z,.int u]):=mB _ _ (m _ _ (m0 _ _ kfo5))
  have g3B:=mB _ _ g3
  have g4B:=mB _ _ g4
  have mGB:=m.trans mB
  have walB:=bW.mono mGB wal
  have falB:=FtA.mono mGB fal
  obtain ⟨σ0,es0,O⟩:=L.set (nC (bg (bp rs0 (all.map cI)).things) (bp rs0 (all.map cI)).feet) L.ft
  have wl4:(wkS (bq all)).length≤400:=by unfold wkS; rw [List.length_map]; have:=L.wl; omega
  have ftk:∀ p ∈ bI all,∀ w ∈ p.2,w.1≠.entry∧∃ n,w.2 = .str (tx n):=fun p hp=>by
   obtain ⟨r,hr,_,rfl⟩:=xa hp
   exact yS (nr r hr).ok
  refine ⟨_,rfl,ph,.ref fo,ss,all.map cI,rfl,SqL.of kh,ar,by omega,L.tw,L.sum,L.txg,L.op,(fun e he=>by rw [es0] at he; cases he),fun σ0' fd G5 qa tp ma ha us5 fs hvs q1 sm q2 e1 e2 T e6 n2 e7 q7 n3' n4' q9 e8=>?_⟩
  rw [es0] at q1
  injection q1 with q1
  subst q1
  dsimp only [bv]
  have tal:aR (TwA σ0 G5) us5 (σ0.ws.zip fs):=T.all.imp fun _ _=>TwA.mono bJ
  refine ⟨_,rfl,_,rfl,_,rfl,_,rfl,fd,fo,qa,tp,ma,ha,p3,p4,us5,hvs,fs,σ0,.tup [.int x,.int y,.int z,.int u],wkS (bq all),kv,bI all,rfl,e1,e2,xf (sm _ _ kfoB),uD x y z u,T.at_,tal,T.len,e6,e7,O.hs,⟨us,sm _ _ g3B,bW.mono sm walB⟩,O.ms,L.nd,yS L.wo,sm _ _ g4B,FtA.mono sm falB,O.ws,L.ff,ftk,O.tel,wl4,fun G6 m6=>⟨_,rfl,?_⟩⟩
  refine ay ?_
  dsimp only [cX]
  have m56:=sm.trans m6
  have t1:=m6 _ _ e1
  have t2:=m6 _ _ e2
  have t3:=m6 _ _ T.at_
  have tal6:=tal.imp fun _ _=>TwA.mono m6
  have lz:=tal6.len
  have lfs:=T.len
  rw [List.length_zip,lfs,Nat.min_self] at lz
  have isL:∀ f ∈ fs,∃ xs,G6 f=some (.lst xs):=fun f hf=>by
   obtain ⟨j,hj,e⟩:=List.getElem_of_mem hf
   have hz:(σ0.ws.zip fs)[j]? = some (σ0.ws[j]'(by omega),fs[j]):=by
    rw [List.getElem?_zip_eq_some]
    exact ⟨List.getElem?_eq_getElem _,List.getElem?_eq_getElem _⟩
   obtain ⟨v,_,_,_,vs,_,_,_,h3,_⟩:=tal6.getR hz
   rw [← e]
   exact ⟨vs,h3⟩
  have nL:∀ {b xs},G6 b=some (.tup xs)→b ∉ fs:=fun h z=>by
   obtain ⟨_,e⟩:=isL _ z
   rw [h] at e; cases e
  have tpn:tp ∉ fs:=fun z=>(T.fr _ z).2 rfl
  refine ⟨_,rfl,_,_,_,_,rfl,rfl,SqT.of t1,rfl,_,_,_,_,rfl,rfl,SqT.of t2,rfl,tp,rfl,⟨_,SqL.of t3⟩,bT (K:=K) (a:=tp) (xs:=us5) (fun i σ' F=>∃ vw:Option V,σ' = [some (.ref sa),some (.int f),some (.ref fo),some (.ref p1),some (.ref p2),some (.ref pm),vl,some (.ref p3),some (.ref p4),v9,v10,v11,some (.ref pq),some (.ref fd),vw]∧KpX fs G6 F∧∀ (j:Nat) (f:Addr) (xs:List V),fs[j]? = some f→G6 f=some (.lst xs)→F f=some (.lst (if j < i then xs++[.int 0] else xs))) ⟨none,rfl,fun _ _ _ h=>h,fun j f xs _ h=>h⟩ (fun i σ' F _ g=>by obtain ⟨_,_,kp,_⟩:=g; exact SqL.of (kp _ _ tpn t3)) ?_ ?_⟩
  ·rintro i y' σ' F hy ⟨vw,rfl,kp,fr⟩
   obtain ⟨⟨t,f'⟩,hw,b,s,vs,rfl,hb,hsy,hf,hal⟩:=tal6.getL hy
   rw [List.getElem?_zip_eq_some] at hw
   obtain ⟨ht,hfi⟩:=hw
   have fl:=(O.tel t (List.mem_of_getElem? ht)).2.1
   have lv:=hal.len
   rw [List.length_map] at lv
   have cur:=fr i f' vs hfi hf
   rw [if_neg (Nat.lt_irrefl i)] at cur
   refine ⟨_,rfl,_,_,_,_,rfl,rfl,SqT.of (kp _ _ (nL hb) hb),rfl,.inl ⟨rfl,_,SqL.of cur⟩,_,_,_,rfl,rfl,cur,aC (by dsimp only at lv; omega),?_⟩
   refine ⟨_,rfl,fun b u nb hb=>?_,fun j f xs hj hx=>?_⟩
   ·rw [aj fun z=>nb (by rw [z]; exact List.mem_of_getElem? hfi)]
    exact kp b u nb hb
   ·by_cases e:j=i
    ·subst e
     rw [hfi] at hj
     cases hj
     rw [hf] at hx
     cases hx
     rw [ae,if_pos (Nat.lt_succ_self _)]
    ·have nf:f≠f':=fun z=>by
      subst z
      obtain ⟨h1,e1⟩:=List.getElem?_eq_some_iff.mp hj
      obtain ⟨h2,e2⟩:=List.getElem?_eq_some_iff.mp hfi
      rcases Nat.lt_or_gt_of_ne e with c | c
      ·exact absurd (e1.trans e2.symm) (List.pairwise_iff_getElem.mp T.nd _ _ h1 h2 c)
      ·exact absurd (e2.trans e1.symm) (List.pairwise_iff_getElem.mp T.nd _ _ h2 h1 c)
     rw [aj nf,fr j f xs hj hx]
     by_cases c:j < i
     ·rw [if_pos c,if_pos (by omega)]
     ·rw [if_neg c,if_neg (by omega)]
  rintro σ' F ⟨vw,rfl,kp,fr⟩
  rw [lz] at fr
  have f1:=kp _ _ (nL t1) t1
  have f2:=kp _ _ (nL t2) t2
  have f3:=kp _ _ tpn t3
  have mBF:ao B F:=fun b u h=>kp b u (fun z=>by rw [(T.fr _ z).1] at h; cases h) (m56 _ _ h)
  refine ⟨_,rfl,_,_,_,_,rfl,rfl,SqT.of f1,rfl,_,_,_,_,rfl,rfl,SqT.of f2,rfl,tp,rfl,⟨_,SqL.of f3⟩,eO (K:=K) (a:=tp) (xs:=us5) (fun i zs F'=>F=F'∧zs=[]) ⟨rfl,rfl⟩ (fun i zs F' _ z=>by rw [← z.1]; exact SqL.of f3) ?_ ?_ ?_⟩
  ·rintro i zs F' hi ⟨_,rfl⟩
   exact aW (by simp)
  ·rintro i y' zs F' hy ⟨rfl,rfl⟩
   obtain ⟨⟨t,f'⟩,hw,b,s,vs,rfl,hb,hsy,hf,hal⟩:=tal6.getL hy
   rw [List.getElem?_zip_eq_some] at hw
   obtain ⟨ht,hfi⟩:=hw
   have hi:=(List.getElem?_eq_some_iff.mp ht).1
   have fl:=(O.tel t (List.mem_of_getElem? ht)).2.1
   have lv:=hal.len
   rw [List.length_map] at lv
   have cur:=fr i f' vs hfi hf
   rw [if_pos hi] at cur
   have kb:=kp _ _ (nL hb) hb
   refine ⟨_,rfl,_,_,_,_,rfl,rfl,SqT.of kb,rfl,_,_,rfl,.inl (SqL.of cur),_,_,rfl,rfl,_,rfl,?_⟩
   refine dX (fun c=>?_) (fun c=>?_)
   ·exact absurd (of_decide_eq_true c) (by simp only [List.length_append,List.length_cons,List.length_nil]; dsimp only at lv; omega)
   ·refine ⟨_,rfl,_,_,_,_,rfl,rfl,SqT.of kb,rfl,.inl ⟨rfl,_,SqL.of cur⟩,f',0,vs++[.int 0],rfl,rfl,cur,?_,?_⟩
    ·intro v hv
     rcases List.mem_append.mp hv with hv | hv
     ·obtain ⟨w',_,a',rfl,h⟩:=xW hal v hv
      exact .inr ⟨a',_,rfl,SqT.of (kp _ _ (nL h) h)⟩
     ·exact .inl ⟨0,List.mem_singleton.mp hv⟩
    ·rw [DB hal]
     refine ⟨rfl,_,rfl,?_⟩
     refine dX (fun c=>absurd c (by decide)) (fun _=>?_)
     exact ⟨rfl,rfl⟩
  rintro zs F' ⟨rfl,rfl⟩ p6 hp6
  have b1':=ah hp6 (.lst [])
  have c1':upd F p6 (.lst []) p6=some (.lst []):=ae
  generalize upd F p6 (.lst [])=F1 at b1' c1' ⊢
  refine ⟨aW (by simp),fun p7 hp7=>?_⟩
  have b2':=ah hp7 (.lst [])
  have c2':upd F1 p7 (.lst []) p7=some (.lst []):=ae
  have c1'':=b2' _ _ c1'
  generalize upd F1 p7 (.lst [])=F2 at b2' c2' c1'' ⊢
  refine ⟨_,_,_,rfl,rfl,SqL.of c1'',SqL.of c2',_,rfl,?_⟩
  refine ay ?_
  dsimp only [cX]
  have mF2:=mBF.trans (b1'.trans b2')
  refine ⟨_,rfl,_,rfl,pq,.ref fo,ss,all.map cI,rfl,SqL.of (mF2 _ _ kq'),ar,by omega,L.tw,L.sum,L.txg,L.op,(fun e he=>by rw [es0] at he; cases he),fun σ0' fd2 G10 qa2 tp2 ma2 ha2 us10 fs2 hvs2 q1 sm2 q2 e1 e2 T2 e6 n2 e7 q7 n3' n4' q9 e8=>?_⟩
  rw [es0] at q1
  injection q1 with q1
  subst q1
  have mz:=mF2.trans sm2
  exact ⟨_,rfl,_,rfl,_,rfl,fd2,fo,qa2,tp2,ma2,ha2,p3,p4,us10,hvs2,fs2,σ0,.tup [.int x,.int y,.int z,.int u],wkS (bq all),kv,bI all,rfl,e1,e2,xf (mz _ _ kfoB),uD x y z u,T2.at_,T2.all.imp fun _ _=>TwA.mono bJ,T2.len,e6,e7,O.hs,⟨us,mz _ _ g3B,bW.mono mz walB⟩,O.ms,L.nd,yS L.wo,mz _ _ g4B,FtA.mono mz falB,O.ws,L.ff,ftk,O.tel,wl4,fun G11 m11=>q _⟩
 ·refine ⟨_,rfl,_,46,3,rfl,⟨by decide,by decide⟩,by decide,rfl,_,rfl,?_⟩
  refine dX (fun _=>?_) (fun _=>?_)
  ·refine ⟨_,rfl,by omega,by omega,rf (fun i ys G=>ao H5 G∧ys.length=i∧bW G ys (wkS (jR f i))) ⟨ao.refl _,rfl,trivial⟩ ?_ ?_ ?_⟩
   ·rintro i ys G hi ⟨_,z,_⟩
    exact aC (by omega)
   ·rintro i ys G hi ⟨m,zl,al⟩
    refine d_ ?_
    have h4:=cT f (1+(i:Int)) (show (0:Int) < 14 by decide)
    have e4:br f (1+(i:Int)) 14=((br f (1+(i:Int)) 14).toNat:Int):=by omega
    refine ⟨_,rfl,_,rfl,_,_,rfl,rfl,f,1+(i:Int),14,(by rw [Int.zero_add]; rfl),⟨by omega,by omega⟩,by decide,_,_,97+(br f (1+(i:Int)) 14).toNat,rfl,rfl,aW (by decide +kernel),(by rw [e4]; exact Ek _ (by omega)),le2,fun p hp=>?_⟩
    have m2:=ah hp (.tup [.str (PySem.Str.ofString "plain"),.str (tx [97+(br f (1+(i:Int)) 14).toNat])])
    refine ⟨m.trans m2,by rw [List.length_append,zl]; rfl,?_⟩
    have e5:jR f (i+1)=jR f i++[(.plain,[97+(br f (1+(i:Int)) 14).toNat])]:=by unfold jR; rw [List.range_succ,List.map_append]; rfl
    rw [e5]
    unfold wkS
    rw [List.map_append]
    exact (bW.mono m2 al).app (aR.one ⟨p,rfl,ae⟩)
   rintro ys G ⟨m,zl,al⟩ pl hpl
   have e39:(39:Int).toNat=39:=rfl
   have c0:=ah hpl (.lst ys)
   have k0:upd G pl (.lst ys) pl=some (.lst ys):=ae
   have al:=bW.mono c0 al
   generalize upd G pl (.lst ys)=F0 at c0 k0 al ⊢
   have al0:cg F0 pl (wkS (jR f 39)):=⟨ys,k0,al⟩
   dsimp only [bv]
   refine ⟨_,rfl,_,rfl,le3,fun j1 hj1=>?_⟩
   have c1:=ah hj1 (.tup [.str (PySem.Str.ofString ".foot"),.str (PySem.Str.ofString "q"),.ref pl])
   have q1:upd F0 j1 (.tup [.str (PySem.Str.ofString ".foot"),.str (PySem.Str.ofString "q"),.ref pl]) j1=some (.tup [.str (PySem.Str.ofString ".foot"),.str (PySem.Str.ofString "q"),.ref pl]):=ae
   generalize upd F0 j1 (.tup [.str (PySem.Str.ofString ".foot"),.str (PySem.Str.ofString "q"),.ref pl])=F1 at c1 q1  ⊢
   refine ⟨le2,fun j2 hj2=>?_⟩
   have c2:=ah hj2 (.tup [.str (PySem.Str.ofString "foot"),.str (PySem.Str.ofString "q")])
   have q2:upd F1 j2 (.tup [.str (PySem.Str.ofString "foot"),.str (PySem.Str.ofString "q")]) j2=some (.tup [.str (PySem.Str.ofString "foot"),.str (PySem.Str.ofString "q")]):=ae
   generalize upd F1 j2 (.tup [.str (PySem.Str.ofString "foot"),.str (PySem.Str.ofString "q")])=F2 at c2 q2  ⊢
   refine ⟨le2,fun j3 hj3=>?_⟩
   have c3:=ah hj3 (.tup [.str (PySem.Str.ofString "plain"),.str (PySem.Str.ofString "q")])
   have q3:upd F2 j3 (.tup [.str (PySem.Str.ofString "plain"),.str (PySem.Str.ofString "q")]) j3=some (.tup [.str (PySem.Str.ofString "plain"),.str (PySem.Str.ofString "q")]):=ae
   generalize upd F2 j3 (.tup [.str (PySem.Str.ofString "plain"),.str (PySem.Str.ofString "q")])=F3 at c3 q3  ⊢
   refine ⟨le2,fun j4 hj4=>?_⟩
   have c4:=ah hj4 (.tup [.str (PySem.Str.ofString "foot"),.str (PySem.Str.ofString "q")])
   have q4:upd F3 j4 (.tup [.str (PySem.Str.ofString "foot"),.str (PySem.Str.ofString "q")]) j4=some (.tup [.str (PySem.Str.ofString "foot"),.str (PySem.Str.ofString "q")]):=ae
   generalize upd F3 j4 (.tup [.str (PySem.Str.ofString "foot"),.str (PySem.Str.ofString "q")])=F4 at c4 q4  ⊢
   refine ⟨le3,fun j5 hj5=>?_⟩
   have c5:=ah hj5 (.lst [.ref j2,.ref j3,.ref j4])
   have q5:upd F4 j5 (.lst [.ref j2,.ref j3,.ref j4]) j5=some (.lst [.ref j2,.ref j3,.ref j4]):=ae
   generalize upd F4 j5 (.lst [.ref j2,.ref j3,.ref j4])=F5 at c5 q5  ⊢
   refine ⟨le3,fun j6 hj6=>?_⟩
   have c6:=ah hj6 (.tup [.str (PySem.Str.ofString "words"),.str (PySem.Str.ofString ""),.ref j5])
   have q6:upd F5 j6 (.tup [.str (PySem.Str.ofString "words"),.str (PySem.Str.ofString ""),.ref j5]) j6=some (.tup [.str (PySem.Str.ofString "words"),.str (PySem.Str.ofString ""),.ref j5]):=ae
   generalize upd F5 j6 (.tup [.str (PySem.Str.ofString "words"),.str (PySem.Str.ofString ""),.ref j5])=F6 at c6 q6  ⊢
   refine ⟨le2,fun j7 hj7=>?_⟩
   have c7:=ah hj7 (.lst [.ref j1,.ref j6])
   have q7:upd F6 j7 (.lst [.ref j1,.ref j6]) j7=some (.lst [.ref j1,.ref j6]):=ae
   generalize upd F6 j7 (.lst [.ref j1,.ref j6])=F7 at c7 q7  ⊢
   have c07:=c1.trans (c2.trans (c3.trans (c4.trans (c5.trans (c6.trans c7)))))
   have n7:=(m.trans (c0.trans c07)) _ _ kn
   have lnn:nv.length≤64:=by rw [lnv,List.length_append,rr.len.1]; have:=rok.len; show _+2≤64; omega
   refine ⟨_,_,_,_,rfl,rfl,n7,q7,aW (show nv.length+2≤1000 by omega),fun j8 hj8=>?_⟩
   have c8:=ah hj8 (.lst (nv++[.ref j1,.ref j6]))
   have q8:upd F7 j8 (.lst (nv++[.ref j1,.ref j6])) j8=some (.lst (nv++[.ref j1,.ref j6])):=ae
   generalize upd F7 j8 (.lst (nv++[.ref j1,.ref j6]))=F8 at c8 q8  ⊢
   have c18:=c07.trans c8
   have c28:=c2.trans (c3.trans (c4.trans (c5.trans (c6.trans (c7.trans c8)))))
   have c58:=c5.trans (c6.trans (c7.trans c8))
   have c48:=c4.trans c58
   have c38:=c3.trans c48
   refine key _ _ ⟨_,j8,_,kC (jR f 39),rfl,m.trans (c0.trans c18),q8,(nal.imp fun _ _=>NnA.mono (m.trans (c0.trans c18))).app ⟨⟨j1,pl,rfl,?_,al0.mono c18⟩,⟨j6,j5,rfl,?_,_,(c6.trans (c7.trans c8)) _ _ q5,⟨j2,rfl,?_⟩,⟨j3,rfl,?_⟩,⟨j4,rfl,?_⟩,trivial⟩,trivial⟩,.inr ⟨jR f 39,rfl,by unfold jR; rw [List.length_map,List.length_range],Dz f 39⟩⟩
   ·show F8 j1=some (.tup [.str (tx cY),.str (tx [113]),.ref pl])
    rw [← iR,← cQq]
    exact c28 _ _ q1
   ·show F8 j6=some (.tup [.str (tx [119,111,114,100,115]),.str (tx []),.ref j5])
    rw [← jm,← o9]
    exact (c7.trans c8) _ _ q6
   ·show F8 j2=some (.tup [.str (PySem.Str.ofString "foot"),.str (tx [113])])
    rw [← cQq]
    exact c38 _ _ q2
   ·show F8 j3=some (.tup [.str (PySem.Str.ofString "plain"),.str (tx [113])])
    rw [← cQq]
    exact c48 _ _ q3
   ·show F8 j4=some (.tup [.str (PySem.Str.ofString "foot"),.str (tx [113])])
    rw [← cQq]
    exact c58 _ _ q4
  ·exact key _ _ ⟨_,pn,nv,[],rfl,ao.refl _,kn,by rw [List.append_nil]; exact nal,.inl rfl⟩
end
abbrev Zn (K:PySem.W.Frag) (n:Str) : Prop:=PySem.W.nsIn K mainGlobals n=some none
theorem txt_mk {P:Program} {w:World} {K:PySem.W.Frag} {h:Heap} {mg:Str→Option Value} (X:K.In h) (G:h.Ns mainGlobals mg)
  {ad:AdD} (D:TxD K mg ad)
  (qH:Zn K "all")
  (il:Zn K "bool")
  (kZ:Zn K "dict")
  (fN:Zn K "enumerate")
  (jh:Zn K "int")
  (aV:Zn K "isinstance")
  (bS:Zn K "len")
  (fG:Zn K "list")
  (on:Zn K "max")
  (eZ:Zn K "range")
  (iV:Zn K "str")
  (qI:Zn K "sum")
  (d7:Zn K "tuple")
  {db:Addr} (m_NoFoot:PySem.W.nsIn K mainGlobals "NoFoot" = some (some (.ref db))) (e_NoFoot:PySem.W.excIn K db oX "ValueError.__new__" = true)
  {de:Addr} (m_NoMark:PySem.W.nsIn K mainGlobals "NoMark" = some (some (.ref de))) (e_NoMark:PySem.W.excIn K de oX "ValueError.__new__" = true)
  {cE:Addr} (m_TooLong:PySem.W.nsIn K mainGlobals "TooLong" = some (some (.ref cE))) (e_TooLong:PySem.W.excIn K cE oX "ValueError.__new__" = true)
  {dM:Addr} (m_Twice:PySem.W.nsIn K mainGlobals "Twice" = some (some (.ref dM))) (e_Twice:PySem.W.excIn K dM oX "ValueError.__new__" = true)
  {iL:Addr} (fJ:PySem.W.nsIn K mainGlobals "ALONE" = some (some (.ref iL))) {od_ALONE:Option Addr} {sl_ALONE:Array (Option Value)} {n_ALONE:Nat} {k_ALONE0:Tok} {k_ALONE1:Tok} {k_ALONE2:Tok} (l_ALONE:K.lookup iL=some ⟨.type "tuple",od_ALONE,.seq #[.str (PySem.Str.ofString ".page") k_ALONE0,.str (PySem.Str.ofString ".odd") k_ALONE1,.str (PySem.Str.ofString ".list") k_ALONE2] n_ALONE,sl_ALONE⟩)
  {t_FIGURES:Tok} (dH:PySem.W.nsIn K mainGlobals "FIGURES" = some (some (.str (PySem.Str.ofString "0123456789") t_FIGURES)))
  {iM:Addr} (fK:PySem.W.nsIn K mainGlobals "HEADS" = some (some (.ref iM))) {od_HEADS:Option Addr} {sl_HEADS:Array (Option Value)} {n_HEADS:Nat} {k_HEADS0:Tok} {k_HEADS1:Tok} {k_HEADS2:Tok} (l_HEADS:K.lookup iM=some ⟨.type "tuple",od_HEADS,.seq #[.str (PySem.Str.ofString "=") k_HEADS0,.str (PySem.Str.ofString "==") k_HEADS1,.str (PySem.Str.ofString "===") k_HEADS2] n_HEADS,sl_HEADS⟩)
  {dZ:Addr} (eV:PySem.W.nsIn K mainGlobals "KINDS" = some (some (.ref dZ))) {oc_KINDS:Value} {od_KINDS:Option Addr} {es_KINDS:Array DictEntry} {ep_KINDS:Nat} {sl_KINDS:Array (Option Value)} (l_KINDS:K.lookup dZ=some ⟨oc_KINDS,od_KINDS,.dict es_KINDS ep_KINDS,sl_KINDS⟩)
  (b_KINDS:(dZ == sysModules)=false) (c_KINDS:(⟨oc_KINDS,od_KINDS,.dict es_KINDS ep_KINDS,sl_KINDS⟩ : Obj).ExactDict) (e_KINDS:wu w es_KINDS jM)
  {fI:Addr} (fL:PySem.W.nsIn K mainGlobals "LEAPS" = some (some (.ref fI))) {oc_LEAPS:Value} {od_LEAPS:Option Addr} {es_LEAPS:Array DictEntry} {ep_LEAPS:Nat} {sl_LEAPS:Array (Option Value)} (l_LEAPS:K.lookup fI=some ⟨oc_LEAPS,od_LEAPS,.dict es_LEAPS ep_LEAPS,sl_LEAPS⟩)
  (b_LEAPS:(fI == sysModules)=false) (c_LEAPS:(⟨oc_LEAPS,od_LEAPS,.dict es_LEAPS ep_LEAPS,sl_LEAPS⟩ : Obj).ExactDict) (e_LEAPS:wu w es_LEAPS sV)
  {t_LETTERS:Tok} (dr:PySem.W.nsIn K mainGlobals "LETTERS" = some (some (.str (PySem.Str.ofString "abcdefghijklmnopqrstuvwxyz") t_LETTERS)))
  {t_LONGEST_NAME:Tok} (bZ:PySem.W.nsIn K mainGlobals "LONGEST_NAME" = some (some (.int 12 t_LONGEST_NAME)))
  {t_LONGEST_TEXT:Tok} (b7:PySem.W.nsIn K mainGlobals "LONGEST_TEXT" = some (some (.int 60 t_LONGEST_TEXT)))
  {t_MOST_CALLS:Tok} (cw:PySem.W.nsIn K mainGlobals "MOST_CALLS" = some (some (.int 400 t_MOST_CALLS)))
  {t_MOST_FOOT_WORDS:Tok} (bK:PySem.W.nsIn K mainGlobals "MOST_FOOT_WORDS" = some (some (.int 39 t_MOST_FOOT_WORDS)))
  {t_MOST_WORDS_books:Tok} (bu:PySem.W.nsIn K mainGlobals "MOST_WORDS_books" = some (some (.int 400 t_MOST_WORDS_books)))
  {t_MOST_WORDS_shorts:Tok} (bw:PySem.W.nsIn K mainGlobals "MOST_WORDS_shorts" = some (some (.int 400 t_MOST_WORDS_shorts)))
  {eo:Addr} (dh:PySem.W.nsIn K mainGlobals "POINTING" = some (some (.ref eo))) {od_POINTING:Option Addr} {sl_POINTING:Array (Option Value)} {n_POINTING:Nat} {k_POINTING0:Tok} {k_POINTING1:Tok} {k_POINTING2:Tok} (l_POINTING:K.lookup eo=some ⟨.type "tuple",od_POINTING,.seq #[.str (PySem.Str.ofString "number") k_POINTING0,.str (PySem.Str.ofString "page") k_POINTING1,.str (PySem.Str.ofString "row") k_POINTING2] n_POINTING,sl_POINTING⟩) :
  ∃ a:Adr,Txt P w K mg a:=by
 refine ⟨{ toAdD:=ad,iL:=iL,iM:=iM,dZ:=dZ,fI:=fI,eo:=eo,db:=db,de:=de,cE:=cE,dM:=dM },{
  toTxD:=D,
  qH:=PySem.W.mg_none_of X G qH,
  il:=PySem.W.mg_none_of X G il,
  kZ:=PySem.W.mg_none_of X G kZ,
  fN:=PySem.W.mg_none_of X G fN,
  jh:=PySem.W.mg_none_of X G jh,
  aV:=PySem.W.mg_none_of X G aV,
  bS:=PySem.W.mg_none_of X G bS,
  fG:=PySem.W.mg_none_of X G fG,
  on:=PySem.W.mg_none_of X G on,
  eZ:=PySem.W.mg_none_of X G eZ,
  iV:=PySem.W.mg_none_of X G iV,
  qI:=PySem.W.mg_none_of X G qI,
  d7:=PySem.W.mg_none_of X G d7,
  xg:=⟨PySem.W.mg_of X G m_NoFoot,e_NoFoot⟩,
  se:=⟨PySem.W.mg_of X G m_NoMark,e_NoMark⟩,
  uE:=⟨PySem.W.mg_of X G m_TooLong,e_TooLong⟩,
  xX:=⟨PySem.W.mg_of X G m_Twice,e_Twice⟩,
  fJ:=⟨PySem.W.mg_of X G fJ,fun H=>.inr ⟨_,_,_,l_ALONE,rfl,rfl,by show 3≤sizeLine; decide,.cons ⟨_,rfl⟩ (.cons ⟨_,rfl⟩ (.cons ⟨_,rfl⟩ (.nil)))⟩⟩,
  dH:=⟨t_FIGURES,PySem.W.mg_of X G dH⟩,
  fK:=⟨PySem.W.mg_of X G fK,fun H=>.inr ⟨_,_,_,l_HEADS,rfl,rfl,by show 3≤sizeLine; decide,.cons ⟨_,rfl⟩ (.cons ⟨_,rfl⟩ (.cons ⟨_,rfl⟩ (.nil)))⟩⟩,
  eV:=⟨PySem.W.mg_of X G eV,xN b_KINDS l_KINDS c_KINDS e_KINDS⟩,
  fL:=⟨PySem.W.mg_of X G fL,xN b_LEAPS l_LEAPS c_LEAPS e_LEAPS⟩,
  dr:=⟨t_LETTERS,PySem.W.mg_of X G dr⟩,
  bZ:=⟨t_LONGEST_NAME,PySem.W.mg_of X G bZ⟩,
  b7:=⟨t_LONGEST_TEXT,PySem.W.mg_of X G b7⟩,
  cw:=⟨t_MOST_CALLS,PySem.W.mg_of X G cw⟩,
  bK:=⟨t_MOST_FOOT_WORDS,PySem.W.mg_of X G bK⟩,
  bu:=⟨t_MOST_WORDS_books,PySem.W.mg_of X G bu⟩,
  bw:=⟨t_MOST_WORDS_shorts,PySem.W.mg_of X G bw⟩,
  dh:=⟨PySem.W.mg_of X G dh,fun H=>.inr ⟨_,_,_,l_POINTING,rfl,rfl,by show 3≤sizeLine; decide,.cons ⟨_,rfl⟩ (.cons ⟨_,rfl⟩ (.cons ⟨_,rfl⟩ (.nil)))⟩⟩ }⟩
theorem walk {l:PySem.W.OpenLaw} {q:Program} {loose:List Str} {XP:(Str→Option Value)→Heap→Prop} {YP:World→Heap→Prop} {d:DefRec} {K:Params→PySem.W.Frag} (hn:l.most=some 63) (hdf:d.params.defaults=[]) (hnm:d.name = "law")
  (hY:∀ (w:World) (h:Heap),YP w h→(K w.params).In h)
  (F:∀ (w:World) (mg:Str→Option Value) (h:Heap),(K w.params).In h→h.Ns mainGlobals mg→∃ a:Adr,Txt l.prog w (K w.params) mg a) :
  PySem.W.WalkO q loose XP YP l.row.toRowW d [] (fun f vs=>PySem.call f vs):=
 L2.walk_of (n:=63) (k:=9) (x := "script") (CX:=fun _=>CX0) (sp:=fun w=>zx (K w.params)) hn (by decide) hdf ⟨rfl,by decide,by decide⟩ hY (fun w mg fa h KX G hmg=>by
  obtain ⟨a,T⟩:=F w mg h KX G
  have e0:=hmg.symm.trans (hnm ▸ T.vc.mg)
  cases e0
  refine ⟨a.tq,fun s u=>.of_eq (T.vc.ba [u] rfl),fun base _ _=>ok_law T⟩) (fun _ _ a ns hl _ hS=>⟨a,ns,rfl,hS,hl,fun _=>rfl⟩) fun _ _ _ _ _ z=>z
end K60
namespace K60
open PySem PySem.W L2 Tl PyProof.Rows
theorem us1 {us:List Value} (h:us.length=1) : ∃ a0,us=[a0]:=by
 match us,h with
 | [a0],_=>exact ⟨a0,rfl⟩
theorem us2 {us:List Value} (h:us.length=2) : ∃ a0 a1,us=[a0,a1]:=by
 match us,h with
 | [a0,a1],_=>exact ⟨a0,a1,rfl⟩
theorem us3 {us:List Value} (h:us.length=3) : ∃ a0 a1 a2,us=[a0,a1,a2]:=by
 match us,h with
 | [a0,a1,a2],_=>exact ⟨a0,a1,a2,rfl⟩
theorem us4 {us:List Value} (h:us.length=4) : ∃ a0 a1 a2 a3,us=[a0,a1,a2,a3]:=by
 match us,h with
 | [a0,a1,a2,a3],_=>exact ⟨a0,a1,a2,a3,rfl⟩
theorem us6 {us:List Value} (h:us.length=6) : ∃ a0 a1 a2 a3 a4 a5,us=[a0,a1,a2,a3,a4,a5]:=by
 match us,h with
 | [a0,a1,a2,a3,a4,a5],_=>exact ⟨a0,a1,a2,a3,a4,a5,rfl⟩
noncomputable abbrev fdO (n q:Str) (s:Stmt) (d:Value) (m:String) (k:Nat) (r:Addr) : FuncData:=fnOf n q (ci s) (bX s) (av s) d .none .none (.str (Str.ofString m) k) none (.ref r) .none
noncomputable abbrev fb0 (n q:Str) (s:Stmt) (d:Value) (r:Addr) : FuncData:=fdO n q s d "law_trueleaf_k60_feet_hung" 818 r
noncomputable abbrev fa0 (n:Str) (s:Stmt) (r:Addr) : FuncData:=fb0 n n s .none r
noncomputable abbrev fb1 (n q:Str) (s:Stmt) (d:Value) (r:Addr) : FuncData:=fdO n q s d "trueleaf.heads" 407 r
noncomputable abbrev fa1 (n:Str) (s:Stmt) (r:Addr) : FuncData:=fb1 n n s .none r
noncomputable abbrev fb2 (n q:Str) (s:Stmt) (d:Value) (r:Addr) : FuncData:=fdO n q s d "trueleaf.setting" 670 r
noncomputable abbrev fa2 (n:Str) (s:Stmt) (r:Addr) : FuncData:=fb2 n n s .none r
noncomputable abbrev fb3 (n q:Str) (s:Stmt) (d:Value) (r:Addr) : FuncData:=fdO n q s d "trueleaf.signs" 355 r
noncomputable abbrev fa3 (n:Str) (s:Stmt) (r:Addr) : FuncData:=fb3 n n s .none r
noncomputable abbrev fb4 (n q:Str) (s:Stmt) (d:Value) (r:Addr) : FuncData:=fdO n q s d "trueleaf.reading" 554 r
noncomputable abbrev fa4 (n:Str) (s:Stmt) (r:Addr) : FuncData:=fb4 n n s .none r
noncomputable abbrev fb5 (n q:Str) (s:Stmt) (d:Value) (r:Addr) : FuncData:=fdO n q s d "trueleaf.shorts" 469 r
noncomputable abbrev fa5 (n:Str) (s:Stmt) (r:Addr) : FuncData:=fb5 n n s .none r
noncomputable abbrev fb6 (n q:Str) (s:Stmt) (d:Value) (r:Addr) : FuncData:=fdO n q s d "trueleaf.trees" 415 r
noncomputable abbrev fa6 (n:Str) (s:Stmt) (r:Addr) : FuncData:=fb6 n n s .none r
noncomputable def A0:AdD:={ l_:=443,kQ:=fa0 "_law_cell_at" lN 442,rT:=450,ql:=fa0 "_law_draw" rB 449,rW:=478,qo:=fa0 "_law_form" rC 477,lG:=457,jS:=fa0 "_law_alike" pc 456,rZ:=526,qr:=fa0 "_law_said" rD 525,rV:=545,qm:=fa0 "_law_feet" rE 544,nV:=533,mr:=fa0 "_law_marked" nq 532,qh:=540,og:=fa0 "_law_shape" pe 539,qf:=550,oa:=fa0 "_law_holds" pi 549,rX:=483,qp:=fa0 "_law_name" rF 482,mf:=464,kS:=fa0 "_law_sign_by" lO 463,kM:=488,jC:=fa0 "_law_plain_by" j_ 487,r_:=502,qu:=fa0 "_law_word" rG 501,qg:=514,oe:=fa0 "_law_named" pj 513,rY:=509,qq:=fa0 "_law_rows" rH 508,nX:=557,mt:=fa0 "_law_spaced" ny 556,md:=471,kR:=fa0 "_law_is_name" lP 470,mh:=495,kT:=fa0 "_law_written" lQ 494,r9:=519,qt:=fa0 "_law_text" rJ 518,kN:=165,jD:=fa1 "numbers_of" kg 164,jA:=358,jd:=fb2 "__init__" "Setter.__init__" ju .none 357,fB:=410,eU:=fb2 "check_marks" "Setter.check_marks" fj .none 409,ie:=391,gW:=fb2 "set_mark" "Setter.set_mark" hJ .none 390,kL:=153,jB:=fa3 "figures_of" ki 152,gQ:=405,gg:=fb2 "next_foot" "Setter.next_foot" gx .none 404,ig:=398,gX:=fb2 "set_word" "Setter.set_word" hU .none 397,iH:=384,ii:=fb2 "set_run" "Setter.set_run" iF .none 383,gT:=365,gj:=fb2 "set_thing" "Setter.set_thing" gy .none 364,gR:=429,gh:=fb2 "number_at" "Setter.number_at" gz .none 428,gS:=422,gi:=fb2 "saying_of" "Setter.saying_of" gB .none 421,gb:=415,fE:=fb2 "words_told" "Setter.words_told" fQ .none 414,jz:=280,jc:=fb4 "__init__" "Reader.__init__" jv .none 279,gN:=320,gc:=fb4 "add_thing" "Reader.add_thing" gC .none 319,f_:=306,fC:=fb4 "read_alone" "Reader.read_alone" fR .none 305,qc:=146,n9:=fa3 "is_name" pp 145,qd:=160,n_:=fa3 "kind_of" pz 159,qb:=233,nZ:=fa5 "by_name" pA 232,kP:=247,jF:=fa5 "size_among" kj 246,mq:=257,kX:=fa5 "words_out" lR 256,qj:=228,oj:=fa5 "put_out" pB 227,qi:=199,oh:=fa6 "node_of" pC 198,kO:=185,jE:=fa6 "opens_call" ko 184,qk:=173,om:=fb6 "tree_of" "tree_of" pE (.ref 166) 172,gP:=325,gf:=fb4 "words_out" "Reader.words_out" gD .none 324,gO:=299,ge:=fb4 "read_foot" "Reader.read_foot" gE .none 298,ga:=313,fD:=fb4 "read_words" "Reader.read_words" fS .none 312,ic:=287,gU:=fb4 "read_row" "Reader.read_row" hV .none 286,nY:=141,mv:=fa3 "words_in" nz 140,mi:=266,kU:=fa4 "read_rows" lS 265,mo:=346,kW:=fa2 "set_words" lT 345,yT:=562,tq:=fa0 "law" yu 561,aH:=328,ak:=432 }
local macro_rules | `(tactic| walk_at "b")=>`(tactic| (intro _ _ _ _ _ _ us hl; first | (obtain ⟨_,hx⟩:=us1 hl; subst hx; rfl) | (obtain ⟨_,⟨_,hx⟩⟩:=us2 hl; subst hx; rfl) | (obtain ⟨_,⟨_,⟨_,hx⟩⟩⟩:=us3 hl; subst hx; rfl) | (obtain ⟨_,⟨_,⟨_,⟨_,hx⟩⟩⟩⟩:=us4 hl; subst hx; rfl) | (obtain ⟨_,⟨_,⟨_,⟨_,⟨_,⟨_,hx⟩⟩⟩⟩⟩⟩:=us6 hl; subst hx; rfl)))
local macro_rules | `(tactic| walk_at "d")=>`(tactic| exact AK (oc:=.type "function") (od:=none) (sl:=#[]) (by assumption) (by assumption) (by kernel_rfl) (by kernel_rfl) (by kernel_rfl) (by kernel_rfl) (by walk_at "b"))
local macro_rules | `(tactic| walk_at "m")=>`(tactic| exact AU (oc:=.type "function") (od:=none) (sl:=#[]) (by kernel_rfl) (by kernel_rfl) (by kernel_rfl) (by kernel_rfl) (by kernel_rfl) (by walk_at "b"))
local macro_rules | `(tactic| walk_at "n")=>`(tactic| (show PySem.W.findIn _ _ _=some none; kernel_rfl))
set_option maxHeartbeats 0 in
theorem txd {w:World} {mg:Str→Option Value} {h:Heap} (X:(kk w.params).In h) (G:h.Ns mainGlobals mg) : TxD (kk w.params) mg A0 where
 bo:=⟨mg_of X G (by kernel_rfl),⟨by kernel_rfl,by kernel_rfl,by kernel_rfl,by kernel_rfl⟩,by kernel_rfl,by kernel_rfl⟩
 iI:=by walk_at "n"
 eW:=by walk_at "n"
 dS:=by walk_at "n"
 cF:=by walk_at "n"
 aI:=⟨mg_of X G (by kernel_rfl),⟨by kernel_rfl,by kernel_rfl,by kernel_rfl,by kernel_rfl⟩,by kernel_rfl,by kernel_rfl⟩
 jH:=by walk_at "n"
 kY:=by walk_at "n"
 eX:=by walk_at "n"
 dt:=by walk_at "n"
 cr:=by walk_at "n"
 ca:=by walk_at "n"
 ez:=by walk_at "n"
 eY:=by walk_at "n"
 cG:=by walk_at "n"
 lV:=by walk_at "d"
 bG:=by walk_at "d"
 rP:=by walk_at "d"
 e9:=by walk_at "d"
 nS:=by walk_at "d"
 rO:=by walk_at "d"
 nR:=by walk_at "d"
 pX:=by walk_at "d"
 lF:=by walk_at "d"
 kG:=by walk_at "d"
 jf:=by walk_at "d"
 kH:=by walk_at "d"
 rS:=by walk_at "d"
 pW:=by walk_at "d"
 rQ:=by walk_at "d"
 nT:=by walk_at "d"
 lW:=by walk_at "d"
 lX:=by walk_at "d"
 rR:=by walk_at "d"
 kI:=by walk_at "d"
 jy:=by walk_at "m"
 fq:=by walk_at "m"
 ia:=by walk_at "m"
 kE:=by walk_at "d"
 gK:=by walk_at "m"
 ib:=by walk_at "m"
 fA:=by walk_at "m"
 gM:=by walk_at "m"
 gL:=by walk_at "m"
 et:=by walk_at "m"
 fZ:=by walk_at "m"
 jx:=by walk_at "m"
 dm:=by walk_at "m"
 fX:=by walk_at "m"
 jq:=by walk_at "d"
 pV:=by walk_at "d"
 pU:=by walk_at "d"
 kK:=by walk_at "d"
 lZ:=by walk_at "d"
 pZ:=by walk_at "d"
 pY:=by walk_at "d"
 kJ:=by walk_at "d"
 p_:=zC (oc:=.type "function") (od:=none) (sl:=#[]) (oc2:=.type "tuple") (od2:=none) (sl2:=#[]) (n2:=0) X G (by kernel_rfl) (by kernel_rfl) (by kernel_rfl) (by kernel_rfl) (by kernel_rfl) (fun _ _ _ _ _ _ us hl=>by obtain ⟨_,⟨_,rfl⟩⟩:=us2 hl; exact ⟨_,rfl,rfl⟩) (fun _ _ _ _ _ _ us hl=>by obtain ⟨_,rfl⟩:=us1 (Nat.succ.inj hl); exact ⟨_,rfl,rfl⟩)
 dq:=by walk_at "m"
 gJ:=by walk_at "m"
 fY:=by walk_at "m"
 h_:=by walk_at "m"
 nU:=by walk_at "d"
 lY:=by walk_at "d"
 jg:=by walk_at "d"
 vc:=by walk_at "d"
end K60
local macro_rules | `(tactic| walk_at "z")=>`(tactic| (first | k_is | (delta K60.Zn; k_is)))
open PySem PySem.W PyProof.Rows
set_option maxRecDepth 100000 in
set_option maxHeartbeats 0 in
theorem PySem.Challenge.cw_trueleaf_k60_feet_hung_holds : PySem.Challenge.rw_trueleaf_k60_feet_hung.Holds := by
 w_on
 refine ⟨K60.wsL,?_⟩
 have said:PySem.Challenge.rw_trueleaf_k60_feet_hung.row.wellSaid=true:=K60.wsR
 refine holds_open (q:=K60.vw) (loose:=K60.ls) (Xt:=K60.xt) (XP:=XL K60.vw []) (Yf:=Hook.obs K60.hk) (Ya:=Hook.val K60.hk) (YP:=InK K60.kk) K60.left
  (Hook.of K60.hk) (Hook.keeps K60.hk) (fun s e=>xl_of s (Bool.and_eq_true_iff.mp e).1) XL.keeps (by rfl) (by rfl) (by rfl)
  (fun s e=>recFacts_of (Bool.and_eq_true_iff.mp e).2) (by rfl) (by assumption) (by decide +kernel) ⟨rfl,rfl,rfl,rfl,rfl,by decide +kernel⟩ ?hw ?hc
 (case hw=>w_witness2)
 k_fill
 refine K60.walk (l:=PySem.Challenge.rw_trueleaf_k60_feet_hung) rfl rfl rfl (fun w h Y=>Y) ?F
 case F =>
  intro w mg h KX G
  refine' K60.txt_mk (D:=K60.txd KX G) KX G ?qH ?il ?kZ ?fN ?jh ?aV ?bS ?fG ?on ?eZ ?iV ?qI ?d7 ?m_NoFoot ?e_NoFoot ?m_NoMark ?e_NoMark ?m_TooLong ?e_TooLong ?m_Twice ?e_Twice ?fJ ?l_ALONE ?dH ?fK ?l_HEADS ?eV ?l_KINDS ?b_KINDS ?c_KINDS ?e_KINDS ?fL ?l_LEAPS ?b_LEAPS ?c_LEAPS ?e_LEAPS ?dr ?bZ ?b7 ?cw ?bK ?bu ?bw ?dh ?l_POINTING
  (case qH | il | kZ | fN | jh | aV | bS | fG | on | eZ | iV | qI | d7 | m_NoFoot=>walk_at "z")
  (case e_NoFoot=>k_exc)
  (case m_NoMark=>walk_at "z")
  (case e_NoMark=>k_exc)
  (case m_TooLong=>walk_at "z")
  (case e_TooLong=>k_exc)
  (case m_Twice=>walk_at "z")
  (case e_Twice=>k_exc)
  (case fJ | l_ALONE | dH | fK | l_HEADS | eV | l_KINDS=>walk_at "z")
  (case b_KINDS=>rfl)
  (case c_KINDS=>exact ⟨rfl,rfl,rfl⟩)
  (case e_KINDS=>(refine ⟨?_,by decide +kernel⟩; exact .cons rfl rfl ⟨_,rfl⟩ (.cons rfl rfl ⟨_,rfl⟩ (.cons rfl rfl ⟨_,rfl⟩ (.cons rfl rfl ⟨_,rfl⟩ (.cons rfl rfl ⟨_,rfl⟩ .nil))))))
  (case fL | l_LEAPS=>walk_at "z")
  (case b_LEAPS=>rfl)
  (case c_LEAPS=>exact ⟨rfl,rfl,rfl⟩)
  (case e_LEAPS=>(refine ⟨?_,by decide +kernel⟩; exact .cons rfl rfl ⟨_,rfl⟩ (.cons rfl rfl ⟨_,rfl⟩ .nil)))
  (case dr | bZ | b7 | cw | bK | bu | bw | dh | l_POINTING=>walk_at "z")
