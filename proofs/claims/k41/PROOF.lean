import PyProof.Rows.All
import Wide.All
import OpenK.AllK
import Wide.FinOn
import Lean
import PyProof.EqAt
import PyProof.EqKinds
import PyProof.TupleCall
import PyProof.NeKinds
import KE.LcSums
import PyProof.ExcBaseAll.ValueError
import KE.KTryMore
import KE.RegKTryMore
import PyProof.StrLawsRepr
import PyProof.ReprStr
import PyProof.EnumMake
import PyProof.EnumFor
import KE.KEqDict
import PyProof.Rows.Range3
import PyProof.SumWalkG
import PyProof.ZipIter
import KE.KIsAll
import PyProof.ExcArgsOwn
import PyProof.ExcAttrAll.ValueError
import PyProof.RulesAs
import PyProof.NsDelKeeps
import PyProof.Rows.TupAdd
import PySem.Challenge.RW_trueleaf_k41_papers_walked
set_option Elab.async false
set_option linter.all false
set_option maxRecDepth 100000
set_option maxHeartbeats 4000000
namespace L2
open PySem
def defArgs (s:Stmt) : Arguments:=match s with
 | .FunctionDef _ a _ _ _ _ _ _ _ _=>a
 | _=>{ posonlyargs:=[],args:=[],vararg:=none,kwonlyargs:=[],kw_defaults:=[],kwarg:=none,defaults:=[] }
def defBody (s:Stmt) : List Stmt:=match s with
 | .FunctionDef _ _ b _ _ _ _ _ _ _=>b
 | _=>[]
def defScope (s:Stmt) : Scope:=match s with
 | .FunctionDef _ _ _ _ _ _ sc _ _ _=>sc
 | _=>{ kind:=.function,names:=[],isGenerator:=false,isCoroutine:=false }

end L2
namespace K41
open PySem PySem.W L2 PyProof.Rows
noncomputable def top (i:Nat) : Stmt:=PySem.Challenge.pw_trueleaf_k41_papers_walked.main.body.getD i (.Pass ⟨0,0,0,0⟩)
noncomputable abbrev os (s:String) : Str:=Str.ofString s
noncomputable abbrev kh (P:Params) (s:Str) : Int:=PyData.keyHash P s
noncomputable abbrev cO (n:String) (a b c:Nat) (l1 l2 l5:Int) (r0:Addr) (m:Int) (r1 r2 r3 r4:Addr) (x y:Int) (d:Nat) : Obj:=⟨.type "code",none,.fields #[.str (os n) a,.str (os n) b,.str (os "/claim/cut.py") c,.int l1 0,.int l2 0,.int 0 0,.int 0 0,.int l5 0,.ref r0,.bool true,.int m 0,.ref r1,.none,.ref r2,.ref r3,.ref r4,.int x 0,.int y 0,.str (os "/claim/cut.py") d],#[]⟩
noncomputable abbrev fO (n:String) (i:Nat) (d:Value) (m:String) (k:Nat) (r:Addr) : Obj:=⟨.type "function",none,.func (fnOf (os n) (os n) (defArgs (top i)) (defBody (top i)) (defScope (top i)) d .none .none (.str (os m) k) none (.ref r) .none),#[]⟩
noncomputable def kk:Params→Frag:=fun P=>(nat_lit 2,⟨(.none),none,.dict ([]).toArray 0,#[]⟩) ::
 (nat_lit 3,⟨(.type "dict"),none,.dict (List.toArray (⟨kh P (os "__name__"),(.str (os "__name__") 165),(.str (os "law_trueleaf_k41_papers_walked") 464)⟩ :: ⟨kh P (os "__doc__"),(.str (os "__doc__") 166),(.none)⟩ :: ⟨kh P (os "__package__"),(.str (os "__package__") 167),(.none)⟩ :: ⟨kh P (os "__loader__"),(.str (os "__loader__") 168),(.builtin "__main__.__loader__#opaque")⟩ :: ⟨kh P (os "__spec__"),(.str (os "__spec__") 169),(.none)⟩ :: ⟨kh P (os "__annotations__"),(.str (os "__annotations__") 170),(.ref 6)⟩ :: ⟨kh P (os "__builtins__"),(.str (os "__builtins__") 171),(.ref 4)⟩ :: ⟨kh P (os "__file__"),(.str (os "__file__") 173),(.str (os "/claim/cut.py") 172)⟩ :: ⟨kh P (os "__cached__"),(.str (os "__cached__") 174),(.none)⟩ :: ⟨kh P (os "TrueleafError"),(.str (os "TrueleafError") 206),(.ref 24)⟩ :: ⟨kh P (os "BadWord"),(.str (os "BadWord") 222),(.ref 37)⟩ :: ⟨kh P (os "BadPaper"),(.str (os "BadPaper") 238),(.ref 49)⟩ :: ⟨kh P (os "NoLaying"),(.str (os "NoLaying") 254),(.ref 61)⟩ :: ⟨kh P (os "later"),(.str (os "later") 264),(.ref 70)⟩ :: ⟨kh P (os "behind"),(.str (os "behind") 273),(.ref 77)⟩ :: ⟨kh P (os "first_from"),(.str (os "first_from") 282),(.ref 84)⟩ :: ⟨kh P (os "rows_on"),(.str (os "rows_on") 292),(.ref 91)⟩ :: ⟨kh P (os "next_top"),(.str (os "next_top") 299),(.ref 98)⟩ :: ⟨kh P (os "figures_of"),(.str (os "figures_of") 308),(.ref 105)⟩ :: ⟨kh P (os "said"),(.str (os "said") 320),(.ref 112)⟩ :: ⟨kh P (os "wide_of"),(.str (os "wide_of") 329),(.ref 119)⟩ :: ⟨kh P (os "together"),(.str (os "together") 336),(.ref 126)⟩ :: ⟨kh P (os "foot_rows"),(.str (os "foot_rows") 348),(.ref 133)⟩ :: ⟨kh P (os "foot_high"),(.str (os "foot_high") 354),(.ref 138)⟩ :: ⟨kh P (os "reach"),(.str (os "reach") 368),(.ref 145)⟩ :: ⟨kh P (os "walked"),(.str (os "walked") 383),(.ref 152)⟩ :: ⟨kh P (os "told_by_kind"),(.str (os "told_by_kind") 394),(.ref 159)⟩ :: ⟨kh P (os "wides_of"),(.str (os "wides_of") 400),(.ref 164)⟩ :: ⟨kh P (os "highs_of"),(.str (os "highs_of") 406),(.ref 169)⟩ :: ⟨kh P (os "told_behind"),(.str (os "told_behind") 418),(.ref 176)⟩ :: ⟨kh P (os "told_wide"),(.str (os "told_wide") 429),(.ref 183)⟩ :: ⟨kh P (os "told_high"),(.str (os "told_high") 441),(.ref 190)⟩ :: ⟨kh P (os "told_kept"),(.str (os "told_kept") 452),(.ref 197)⟩ :: ⟨kh P (os "told_never"),(.str (os "told_never") 463),(.ref 204)⟩ :: ⟨kh P (os "_law_cell_at"),(.str (os "_law_cell_at") 473),(.ref 211)⟩ :: ⟨kh P (os "_law_stream"),(.str (os "_law_stream") 484),(.ref 218)⟩ :: ⟨kh P (os "_law_whole"),(.str (os "_law_whole") 491),(.ref 225)⟩ :: ⟨kh P (os "_law_place"),(.str (os "_law_place") 498),(.ref 232)⟩ :: ⟨kh P (os "_law_text"),(.str (os "_law_text") 504),(.ref 237)⟩ :: ⟨kh P (os "_law_first"),(.str (os "_law_first") 514),(.ref 244)⟩ :: ⟨kh P (os "_law_form"),(.str (os "_law_form") 527),(.ref 251)⟩ :: ⟨kh P (os "_law_saying"),(.str (os "_law_saying") 536),(.ref 258)⟩ :: ⟨kh P (os "_law_word"),(.str (os "_law_word") 542),(.ref 263)⟩ :: ⟨kh P (os "_law_book"),(.str (os "_law_book") 548),(.ref 268)⟩ :: ⟨kh P (os "_law_said"),(.str (os "_law_said") 559),(.ref 275)⟩ :: ⟨kh P (os "_law_high"),(.str (os "_law_high") 573),(.ref 282)⟩ :: ⟨kh P (os "_law_behind"),(.str (os "_law_behind") 583),(.ref 289)⟩ :: ⟨kh P (os "_law_from"),(.str (os "_law_from") 592),(.ref 296)⟩ :: ⟨kh P (os "_law_reach"),(.str (os "_law_reach") 598),(.ref 301)⟩ :: ⟨kh P (os "_law_low"),(.str (os "_law_low") 614),(.ref 308)⟩ :: ⟨kh P (os "_law_copy"),(.str (os "_law_copy") 620),(.ref 313)⟩ :: ⟨kh P (os "_law_paper"),(.str (os "_law_paper") 638),(.ref 320)⟩ :: ⟨kh P (os "_law_spoiled"),(.str (os "_law_spoiled") 657),(.ref 327)⟩ :: ⟨kh P (os "_law_less"),(.str (os "_law_less") 665),(.ref 334)⟩ :: ⟨kh P (os "_law_refused"),(.str (os "_law_refused") 678),(.ref 341)⟩ :: ⟨kh P (os "_law_refused_by_base"),(.str (os "_law_refused_by_base") 689),(.ref 348)⟩ :: ⟨kh P (os "law"),(.str (os "law") 695),(.ref 353)⟩ :: [])) 57,#[]⟩) ::
 (nat_lit 15,⟨(.type "tuple"),none,(.seq #[.type "ValueError"]),#[]⟩) ::
 (nat_lit 22,⟨(.type "tuple"),none,(.seq #[]),#[]⟩) ::
 (nat_lit 23,⟨(.type "dict"),none,.dict (List.toArray (⟨kh P (os "__module__"),(.str (os "__module__") 196),(.str (os "trueleaf.errors") 187)⟩ :: ⟨kh P (os "__firstlineno__"),(.str (os "__firstlineno__") 200),(.int 2 199)⟩ :: ⟨kh P (os "__static_attributes__"),(.str (os "__static_attributes__") 201),(.ref 22)⟩ :: ⟨kh P (os "__weakref__"),(.str (os "__weakref__") 203),(.ref 25)⟩ :: ⟨kh P (os "__doc__"),(.str (os "__doc__") 204),(.none)⟩ :: [])) 3,#[]⟩) ::
 (nat_lit 24,⟨(.type "type"),none,(.cls (PySem.ClassData.mk (os "TrueleafError") [.type "ValueError"] [.ref 24,.type "ValueError",.type "Exception",.type "BaseException",.type "object"] 23 (os "TrueleafError") true [] [.ref 37,.ref 49,.ref 61] false none false)),#[Option.some (.ref 15),none,Option.some (.str (os "TrueleafError") 189),Option.some (.str (os "TrueleafError") 197),Option.some (.builtin "ValueError.__new__"),Option.some (.bool true)]⟩) ::
 (nat_lit 25,⟨(.type "getset_descriptor"),none,(.fields #[.str (os "__weakref__") 202,.ref 24,.builtin "ExceptionGroup.__weakref__",.none]),#[]⟩) ::
 (nat_lit 28,⟨(.type "tuple"),none,(.seq #[.ref 24]),#[]⟩) ::
 (nat_lit 35,⟨(.type "tuple"),none,(.seq #[]),#[]⟩) ::
 (nat_lit 36,⟨(.type "dict"),none,.dict (List.toArray (⟨kh P (os "__module__"),(.str (os "__module__") 214),(.str (os "trueleaf.errors") 187)⟩ :: ⟨kh P (os "__firstlineno__"),(.str (os "__firstlineno__") 218),(.int 4 217)⟩ :: ⟨kh P (os "__static_attributes__"),(.str (os "__static_attributes__") 219),(.ref 35)⟩ :: ⟨kh P (os "__doc__"),(.str (os "__doc__") 220),(.none)⟩ :: [])) 2,#[]⟩) ::
 (nat_lit 37,⟨(.type "type"),none,(.cls (PySem.ClassData.mk (os "BadWord") [.ref 24] [.ref 37,.ref 24,.type "ValueError",.type "Exception",.type "BaseException",.type "object"] 36 (os "BadWord") true [] [] false none false)),#[Option.some (.ref 28),none,Option.some (.str (os "BadWord") 207),Option.some (.str (os "BadWord") 215),Option.some (.builtin "ValueError.__new__"),Option.some (.bool true)]⟩) ::
 (nat_lit 40,⟨(.type "tuple"),none,(.seq #[.ref 24]),#[]⟩) ::
 (nat_lit 47,⟨(.type "tuple"),none,(.seq #[]),#[]⟩) ::
 (nat_lit 48,⟨(.type "dict"),none,.dict (List.toArray (⟨kh P (os "__module__"),(.str (os "__module__") 230),(.str (os "trueleaf.errors") 187)⟩ :: ⟨kh P (os "__firstlineno__"),(.str (os "__firstlineno__") 234),(.int 6 233)⟩ :: ⟨kh P (os "__static_attributes__"),(.str (os "__static_attributes__") 235),(.ref 47)⟩ :: ⟨kh P (os "__doc__"),(.str (os "__doc__") 236),(.none)⟩ :: [])) 2,#[]⟩) ::
 (nat_lit 49,⟨(.type "type"),none,(.cls (PySem.ClassData.mk (os "BadPaper") [.ref 24] [.ref 49,.ref 24,.type "ValueError",.type "Exception",.type "BaseException",.type "object"] 48 (os "BadPaper") true [] [] false none false)),#[Option.some (.ref 40),none,Option.some (.str (os "BadPaper") 223),Option.some (.str (os "BadPaper") 231),Option.some (.builtin "ValueError.__new__"),Option.some (.bool true)]⟩) ::
 (nat_lit 52,⟨(.type "tuple"),none,(.seq #[.ref 24]),#[]⟩) ::
 (nat_lit 59,⟨(.type "tuple"),none,(.seq #[]),#[]⟩) ::
 (nat_lit 60,⟨(.type "dict"),none,.dict (List.toArray (⟨kh P (os "__module__"),(.str (os "__module__") 246),(.str (os "trueleaf.errors") 187)⟩ :: ⟨kh P (os "__firstlineno__"),(.str (os "__firstlineno__") 250),(.int 8 249)⟩ :: ⟨kh P (os "__static_attributes__"),(.str (os "__static_attributes__") 251),(.ref 59)⟩ :: ⟨kh P (os "__doc__"),(.str (os "__doc__") 252),(.none)⟩ :: [])) 2,#[]⟩) ::
 (nat_lit 61,⟨(.type "type"),none,(.cls (PySem.ClassData.mk (os "NoLaying") [.ref 24] [.ref 61,.ref 24,.type "ValueError",.type "Exception",.type "BaseException",.type "object"] 60 (os "NoLaying") true [] [] false none false)),#[Option.some (.ref 52),none,Option.some (.str (os "NoLaying") 239),Option.some (.str (os "NoLaying") 247),Option.some (.builtin "ValueError.__new__"),Option.some (.bool true)]⟩) ::
 (nat_lit 69,cO "later" 257 258 259 11 2 3 64 181 65 66 67 68 262 11 263) ::
 (nat_lit 70,fO "later" 6 (.none) "trueleaf.places" 255 69) ::
 (nat_lit 76,cO "behind" 265 266 267 13 3 3 71 181 72 73 74 75 271 13 272) ::
 (nat_lit 77,fO "behind" 7 (.none) "trueleaf.places" 255 76) ::
 (nat_lit 83,cO "first_from" 274 275 276 21 3 3 78 181 79 80 81 82 280 21 281) ::
 (nat_lit 84,fO "first_from" 8 (.none) "trueleaf.places" 255 83) ::
 (nat_lit 90,cO "rows_on" 283 284 285 25 3 3 85 181 86 87 88 89 290 25 291) ::
 (nat_lit 91,fO "rows_on" 9 (.none) "trueleaf.places" 255 90) ::
 (nat_lit 97,cO "next_top" 293 294 295 30 1 3 92 181 93 94 95 96 297 30 298) ::
 (nat_lit 98,fO "next_top" 10 (.none) "trueleaf.places" 255 97) ::
 (nat_lit 104,cO "figures_of" 302 303 304 33 1 3 99 181 100 101 102 103 306 33 307) ::
 (nat_lit 105,fO "figures_of" 12 (.none) "trueleaf.signs" 300 104) ::
 (nat_lit 111,cO "said" 311 312 313 36 3 3 106 181 107 108 109 110 318 36 319) ::
 (nat_lit 112,fO "said" 14 (.none) "trueleaf.widths" 309 111) ::
 (nat_lit 118,cO "wide_of" 321 322 323 43 3 3 113 181 114 115 116 117 327 43 328) ::
 (nat_lit 119,fO "wide_of" 15 (.none) "trueleaf.widths" 309 118) ::
 (nat_lit 125,cO "together" 330 331 332 45 1 3 120 181 121 122 123 124 334 45 335) ::
 (nat_lit 126,fO "together" 16 (.none) "trueleaf.widths" 309 125) ::
 (nat_lit 132,cO "foot_rows" 337 338 339 47 3 3 127 181 128 129 130 131 346 47 347) ::
 (nat_lit 133,fO "foot_rows" 17 (.none) "trueleaf.widths" 309 132) ::
 (nat_lit 137,⟨(.type "code"),none,(.fields #[.str (os "foot_high") 349,.str (os "foot_high") 350,.str (os "/claim/cut.py") 351,.int 56 0,.int 3 0,.int 0 0,.int 0 0,.int 3 0,.ref 134,.bool true,.int 181 0,.ref 135,.none,.none,.none,.ref 136,.int 352 0,.int 56 0,.str (os "/claim/cut.py") 353]),#[]⟩) ::
 (nat_lit 138,fO "foot_high" 18 (.none) "trueleaf.widths" 309 137) ::
 (nat_lit 144,cO "reach" 357 358 359 62 5 3 139 181 140 141 142 143 366 62 367) ::
 (nat_lit 145,fO "reach" 20 (.none) "trueleaf.bounds" 355 144) ::
 (nat_lit 151,cO "walked" 369 370 371 67 3 3 146 181 147 148 149 150 381 67 382) ::
 (nat_lit 152,fO "walked" 21 (.none) "trueleaf.bounds" 355 151) ::
 (nat_lit 158,cO "told_by_kind" 384 385 386 77 5 3 153 181 154 155 156 157 392 77 393) ::
 (nat_lit 159,fO "told_by_kind" 22 (.none) "trueleaf.bounds" 355 158) ::
 (nat_lit 163,⟨(.type "code"),none,(.fields #[.str (os "wides_of") 395,.str (os "wides_of") 396,.str (os "/claim/cut.py") 397,.int 89 0,.int 4 0,.int 0 0,.int 0 0,.int 3 0,.ref 160,.bool true,.int 181 0,.ref 161,.none,.none,.none,.ref 162,.int 398 0,.int 89 0,.str (os "/claim/cut.py") 399]),#[]⟩) ::
 (nat_lit 164,fO "wides_of" 23 (.none) "trueleaf.bounds" 355 163) ::
 (nat_lit 168,⟨(.type "code"),none,(.fields #[.str (os "highs_of") 401,.str (os "highs_of") 402,.str (os "/claim/cut.py") 403,.int 91 0,.int 4 0,.int 0 0,.int 0 0,.int 3 0,.ref 165,.bool true,.int 181 0,.ref 166,.none,.none,.none,.ref 167,.int 404 0,.int 91 0,.str (os "/claim/cut.py") 405]),#[]⟩) ::
 (nat_lit 169,fO "highs_of" 24 (.none) "trueleaf.bounds" 355 168) ::
 (nat_lit 175,cO "told_behind" 407 408 409 93 3 3 170 181 171 172 173 174 416 93 417) ::
 (nat_lit 176,fO "told_behind" 25 (.none) "trueleaf.bounds" 355 175) ::
 (nat_lit 182,cO "told_wide" 419 420 421 100 4 3 177 181 178 179 180 181 427 100 428) ::
 (nat_lit 183,fO "told_wide" 26 (.none) "trueleaf.bounds" 355 182) ::
 (nat_lit 189,cO "told_high" 430 431 432 105 5 3 184 181 185 186 187 188 439 105 440) ::
 (nat_lit 190,fO "told_high" 27 (.none) "trueleaf.bounds" 355 189) ::
 (nat_lit 196,cO "told_kept" 442 443 444 110 3 3 191 181 192 193 194 195 450 110 451) ::
 (nat_lit 197,fO "told_kept" 28 (.none) "trueleaf.bounds" 355 196) ::
 (nat_lit 203,cO "told_never" 453 454 455 116 3 3 198 181 199 200 201 202 461 116 462) ::
 (nat_lit 204,fO "told_never" 29 (.none) "trueleaf.bounds" 355 203) ::
 (nat_lit 210,cO "_law_cell_at" 466 467 468 123 2 3 205 181 206 207 208 209 471 123 472) ::
 (nat_lit 211,fO "_law_cell_at" 31 (.none) "law_trueleaf_k41_papers_walked" 464 210) ::
 (nat_lit 217,cO "_law_stream" 474 475 476 127 2 3 212 181 213 214 215 216 482 127 483) ::
 (nat_lit 218,fO "_law_stream" 32 (.none) "law_trueleaf_k41_papers_walked" 464 217) ::
 (nat_lit 224,cO "_law_whole" 485 486 487 134 1 3 219 181 220 221 222 223 489 134 490) ::
 (nat_lit 225,fO "_law_whole" 33 (.none) "law_trueleaf_k41_papers_walked" 464 224) ::
 (nat_lit 231,cO "_law_place" 492 493 494 136 1 3 226 181 227 228 229 230 496 136 497) ::
 (nat_lit 232,fO "_law_place" 34 (.none) "law_trueleaf_k41_papers_walked" 464 231) ::
 (nat_lit 236,⟨(.type "code"),none,(.fields #[.str (os "_law_text") 499,.str (os "_law_text") 500,.str (os "/claim/cut.py") 501,.int 138 0,.int 3 0,.int 0 0,.int 0 0,.int 3 0,.ref 233,.bool true,.int 181 0,.ref 234,.none,.none,.none,.ref 235,.int 502 0,.int 138 0,.str (os "/claim/cut.py") 503]),#[]⟩) ::
 (nat_lit 237,fO "_law_text" 35 (.none) "law_trueleaf_k41_papers_walked" 464 236) ::
 (nat_lit 243,cO "_law_first" 505 506 507 142 1 3 238 181 239 240 241 242 512 142 513) ::
 (nat_lit 244,fO "_law_first" 36 (.none) "law_trueleaf_k41_papers_walked" 464 243) ::
 (nat_lit 250,cO "_law_form" 515 516 517 152 1 3 245 181 246 247 248 249 525 152 526) ::
 (nat_lit 251,fO "_law_form" 37 (.none) "law_trueleaf_k41_papers_walked" 464 250) ::
 (nat_lit 257,cO "_law_saying" 528 529 530 160 2 3 252 181 253 254 255 256 534 160 535) ::
 (nat_lit 258,fO "_law_saying" 38 (.none) "law_trueleaf_k41_papers_walked" 464 257) ::
 (nat_lit 262,⟨(.type "code"),none,(.fields #[.str (os "_law_word") 537,.str (os "_law_word") 538,.str (os "/claim/cut.py") 539,.int 169 0,.int 2 0,.int 0 0,.int 0 0,.int 3 0,.ref 259,.bool true,.int 181 0,.ref 260,.none,.none,.none,.ref 261,.int 540 0,.int 169 0,.str (os "/claim/cut.py") 541]),#[]⟩) ::
 (nat_lit 263,fO "_law_word" 39 (.none) "law_trueleaf_k41_papers_walked" 464 262) ::
 (nat_lit 267,⟨(.type "code"),none,(.fields #[.str (os "_law_book") 543,.str (os "_law_book") 544,.str (os "/claim/cut.py") 545,.int 176 0,.int 2 0,.int 0 0,.int 0 0,.int 3 0,.ref 264,.bool true,.int 181 0,.ref 265,.none,.none,.none,.ref 266,.int 546 0,.int 176 0,.str (os "/claim/cut.py") 547]),#[]⟩) ::
 (nat_lit 268,fO "_law_book" 40 (.none) "law_trueleaf_k41_papers_walked" 464 267) ::
 (nat_lit 274,cO "_law_said" 549 550 551 179 3 3 269 181 270 271 272 273 557 179 558) ::
 (nat_lit 275,fO "_law_said" 41 (.none) "law_trueleaf_k41_papers_walked" 464 274) ::
 (nat_lit 281,cO "_law_high" 560 561 562 187 3 3 276 181 277 278 279 280 571 187 572) ::
 (nat_lit 282,fO "_law_high" 42 (.none) "law_trueleaf_k41_papers_walked" 464 281) ::
 (nat_lit 288,cO "_law_behind" 574 575 576 201 3 3 283 181 284 285 286 287 581 201 582) ::
 (nat_lit 289,fO "_law_behind" 43 (.none) "law_trueleaf_k41_papers_walked" 464 288) ::
 (nat_lit 295,cO "_law_from" 584 585 586 210 3 3 290 181 291 292 293 294 590 210 591) ::
 (nat_lit 296,fO "_law_from" 44 (.none) "law_trueleaf_k41_papers_walked" 464 295) ::
 (nat_lit 300,⟨(.type "code"),none,(.fields #[.str (os "_law_reach") 593,.str (os "_law_reach") 594,.str (os "/claim/cut.py") 595,.int 214 0,.int 5 0,.int 0 0,.int 0 0,.int 3 0,.ref 297,.bool true,.int 181 0,.ref 298,.none,.none,.none,.ref 299,.int 596 0,.int 214 0,.str (os "/claim/cut.py") 597]),#[]⟩) ::
 (nat_lit 301,fO "_law_reach" 45 (.none) "law_trueleaf_k41_papers_walked" 464 300) ::
 (nat_lit 307,cO "_law_low" 599 600 601 236 2 3 302 181 303 304 305 306 612 236 613) ::
 (nat_lit 308,fO "_law_low" 46 (.none) "law_trueleaf_k41_papers_walked" 464 307) ::
 (nat_lit 312,⟨(.type "code"),none,(.fields #[.str (os "_law_copy") 615,.str (os "_law_copy") 616,.str (os "/claim/cut.py") 617,.int 253 0,.int 1 0,.int 0 0,.int 0 0,.int 3 0,.ref 309,.bool true,.int 181 0,.ref 310,.none,.none,.none,.ref 311,.int 618 0,.int 253 0,.str (os "/claim/cut.py") 619]),#[]⟩) ::
 (nat_lit 313,fO "_law_copy" 47 (.none) "law_trueleaf_k41_papers_walked" 464 312) ::
 (nat_lit 319,cO "_law_paper" 621 622 623 255 3 3 314 181 315 316 317 318 636 255 637) ::
 (nat_lit 320,fO "_law_paper" 48 (.none) "law_trueleaf_k41_papers_walked" 464 319) ::
 (nat_lit 326,cO "_law_spoiled" 639 640 641 270 4 3 321 181 322 323 324 325 655 270 656) ::
 (nat_lit 327,fO "_law_spoiled" 49 (.none) "law_trueleaf_k41_papers_walked" 464 326) ::
 (nat_lit 333,cO "_law_less" 658 659 660 294 2 3 328 181 329 330 331 332 663 294 664) ::
 (nat_lit 334,fO "_law_less" 50 (.none) "law_trueleaf_k41_papers_walked" 464 333) ::
 (nat_lit 340,cO "_law_refused" 666 667 668 298 3 3 335 181 336 337 338 339 676 298 677) ::
 (nat_lit 341,fO "_law_refused" 51 (.none) "law_trueleaf_k41_papers_walked" 464 340) ::
 (nat_lit 347,cO "_law_refused_by_base" 679 680 681 307 3 3 342 181 343 344 345 346 687 307 688) ::
 (nat_lit 348,fO "_law_refused_by_base" 52 (.none) "law_trueleaf_k41_papers_walked" 464 347) ::
 (nat_lit 352,⟨(.type "code"),none,(.fields #[.str (os "law") 690,.str (os "law") 691,.str (os "/claim/cut.py") 692,.int 314 0,.int 1 0,.int 0 0,.int 0 0,.int 3 0,.ref 349,.bool true,.int 181 0,.ref 350,.none,.none,.none,.ref 351,.int 693 0,.int 314 0,.str (os "/claim/cut.py") 694]),#[]⟩) ::
 (nat_lit 353,fO "law" 53 (.none) "law_trueleaf_k41_papers_walked" 464 352) :: []
noncomputable def vw:Program:={ PySem.Challenge.pw_trueleaf_k41_papers_walked with main:={ PySem.Challenge.pw_trueleaf_k41_papers_walked.main with body:=top 1 :: top 2 :: top 3 :: top 4 :: top 6 :: top 7 :: top 8 :: top 9 :: top 10 :: top 12 :: top 14 :: top 15 :: top 16 :: top 17 :: top 18 :: top 20 :: top 21 :: top 22 :: top 23 :: top 24 :: top 25 :: top 26 :: top 27 :: top 28 :: top 29 :: top 31 :: top 32 :: top 33 :: top 34 :: top 35 :: top 36 :: top 37 :: top 38 :: top 39 :: top 40 :: top 41 :: top 42 :: top 43 :: top 44 :: top 45 :: top 46 :: top 47 :: top 48 :: top 49 :: top 50 :: top 51 :: top 52 :: top 53 :: [] } }
noncomputable abbrev ls:List Str:=[]
noncomputable abbrev hk:Hook:=kHook kk (nat_lit 2 :: nat_lit 3 :: nat_lit 15 :: nat_lit 22 :: nat_lit 23 :: nat_lit 24 :: nat_lit 25 :: nat_lit 28 :: nat_lit 35 :: nat_lit 36 :: nat_lit 37 :: nat_lit 40 :: nat_lit 47 :: nat_lit 48 :: nat_lit 49 :: nat_lit 52 :: nat_lit 59 :: nat_lit 60 :: nat_lit 61 :: nat_lit 69 :: nat_lit 70 :: nat_lit 76 :: nat_lit 77 :: nat_lit 83 :: nat_lit 84 :: nat_lit 90 :: nat_lit 91 :: nat_lit 97 :: nat_lit 98 :: nat_lit 104 :: nat_lit 105 :: nat_lit 111 :: nat_lit 112 :: nat_lit 118 :: nat_lit 119 :: nat_lit 125 :: nat_lit 126 :: nat_lit 132 :: nat_lit 133 :: nat_lit 137 :: nat_lit 138 :: nat_lit 144 :: nat_lit 145 :: nat_lit 151 :: nat_lit 152 :: nat_lit 158 :: nat_lit 159 :: nat_lit 163 :: nat_lit 164 :: nat_lit 168 :: nat_lit 169 :: nat_lit 175 :: nat_lit 176 :: nat_lit 182 :: nat_lit 183 :: nat_lit 189 :: nat_lit 190 :: nat_lit 196 :: nat_lit 197 :: nat_lit 203 :: nat_lit 204 :: nat_lit 210 :: nat_lit 211 :: nat_lit 217 :: nat_lit 218 :: nat_lit 224 :: nat_lit 225 :: nat_lit 231 :: nat_lit 232 :: nat_lit 236 :: nat_lit 237 :: nat_lit 243 :: nat_lit 244 :: nat_lit 250 :: nat_lit 251 :: nat_lit 257 :: nat_lit 258 :: nat_lit 262 :: nat_lit 263 :: nat_lit 267 :: nat_lit 268 :: nat_lit 274 :: nat_lit 275 :: nat_lit 281 :: nat_lit 282 :: nat_lit 288 :: nat_lit 289 :: nat_lit 295 :: nat_lit 296 :: nat_lit 300 :: nat_lit 301 :: nat_lit 307 :: nat_lit 308 :: nat_lit 312 :: nat_lit 313 :: nat_lit 319 :: nat_lit 320 :: nat_lit 326 :: nat_lit 327 :: nat_lit 333 :: nat_lit 334 :: nat_lit 340 :: nat_lit 341 :: nat_lit 347 :: nat_lit 348 :: nat_lit 352 :: nat_lit 353 :: []) (fun _=>by kernel_rfl)
noncomputable abbrev rr:RowW:=OpenRow.toRowW (OpenLaw.row PySem.Challenge.rw_trueleaf_k41_papers_walked)
noncomputable abbrev xt:Shared→Bool:=fun s=>xlAt vw [] s && recOk (RowW.records rr) s
theorem left_of {σ α β γ δ ε:Type} {o:Option σ} {f:σ→α × β × γ × δ} {g:σ→ε} {z:α × β × γ × δ} {c:ε} (h1:o.map (fun s=>(f s).1)=some z.1) (h2:o.map (fun s=>(f s).2.1)=some z.2.1) (h3:o.map (fun s=>(f s).2.2.1)=some z.2.2.1) (h4:o.map (fun s=>(f s).2.2.2)=some z.2.2.2) (h5:o.map g=some c) : o.map (fun s=>(f s,g s))=some (z,c):=by
 cases o with
 | none=>cases h1
 | some s=>exact congrArg some (Prod.ext (Prod.ext (Option.some.inj h1) (Prod.ext (Option.some.inj h2) (Prod.ext (Option.some.inj h3) (Option.some.inj h4)))) (Option.some.inj h5))
set_option maxHeartbeats 0 in
theorem leftA (w:World) : Option.map (fun s=>(openSeen vw ls (importedModules PySem.Challenge.pw_trueleaf_k41_papers_walked.main.body) xt true s).1) (openEnds PySem.treeTable PySem.Challenge.pw_trueleaf_k41_papers_walked w 4646)=some (openGood vw ls).1:=by
 kernel_rfl
set_option maxHeartbeats 0 in
theorem leftB (w:World) : Option.map (fun s=>(openSeen vw ls (importedModules PySem.Challenge.pw_trueleaf_k41_papers_walked.main.body) xt true s).2.1) (openEnds PySem.treeTable PySem.Challenge.pw_trueleaf_k41_papers_walked w 4646)=some (openGood vw ls).2.1:=by
 kernel_rfl
set_option maxHeartbeats 0 in
theorem leftC (w:World) : Option.map (fun s=>(openSeen vw ls (importedModules PySem.Challenge.pw_trueleaf_k41_papers_walked.main.body) xt true s).2.2.1) (openEnds PySem.treeTable PySem.Challenge.pw_trueleaf_k41_papers_walked w 4646)=some (openGood vw ls).2.2.1:=by
 kernel_rfl
set_option maxHeartbeats 0 in
theorem leftD (w:World) : Option.map (fun s=>(openSeen vw ls (importedModules PySem.Challenge.pw_trueleaf_k41_papers_walked.main.body) xt true s).2.2.2) (openEnds PySem.treeTable PySem.Challenge.pw_trueleaf_k41_papers_walked w 4646)=some (openGood vw ls).2.2.2:=by
 kernel_rfl
set_option maxHeartbeats 0 in
theorem leftE (w:World) : Option.map (fun s=>Hook.obs hk s) (openEnds PySem.treeTable PySem.Challenge.pw_trueleaf_k41_papers_walked w 4646)=some (Hook.val hk w):=by
 kernel_rfl
theorem left:LeftO PySem.Challenge.pw_trueleaf_k41_papers_walked vw ls xt (Hook.obs hk) (Hook.val hk) 4646:=fun w=>left_of (f:=fun s=>openSeen vw ls (importedModules PySem.Challenge.pw_trueleaf_k41_papers_walked.main.body) xt true s) (leftA w) (leftB w) (leftC w) (leftD w) (leftE w)
end K41
set_option maxHeartbeats 4000000
namespace L2
open PySem PySem.Spec PyProof.Rows

abbrev Key:=Sum Int Str
def keyIs:Key→Value→Bool
 | .inl k,v=>Value.isInt k v
 | .inr x,v=>Value.isStrOf x v
def keyH (w:World) : Key→Int
 | .inl k=>hashInt k
 | .inr x=>hashStr w x
theorem keyIs_shape:∀ {k:Key} {v:Value},keyIs k v=true→(∃ i t,k=Sum.inl i∧v=Value.int i t)∨(∃ x t,k=Sum.inr x∧v=Value.str x t)
 | .inl i,v,h=>by
  obtain ⟨t,e⟩:=Value.isInt_shape (k:=i) (v:=v) h
  exact .inl ⟨i,t,rfl,e⟩
 | .inr x,v,h=>by
  obtain ⟨t,e⟩:=Value.isStrOf_shape (x:=x) (v:=v) h
  exact .inr ⟨x,t,rfl,e⟩
theorem key_ll (a b:Int) : decide ((Sum.inl a:Key)=Sum.inl b)=(a == b):=by
 by_cases e:a=b
 ·subst e; simp
 ·have h:¬ (Sum.inl a:Key)=Sum.inl b:=fun q=>e (Sum.inl.inj q)
  rw [decide_eq_false h]
  exact (beq_eq_false_iff_ne.mpr e).symm
theorem key_rr (a b:Str) : decide ((Sum.inr a:Key)=Sum.inr b)=decide (a=b):=by
 by_cases e:a=b
 ·subst e; simp
 ·have h:¬ (Sum.inr a:Key)=Sum.inr b:=fun q=>e (Sum.inr.inj q)
  rw [decide_eq_false h,decide_eq_false e]
theorem key_lr (a:Int) (b:Str) : decide ((Sum.inl a:Key)=Sum.inr b)=false:=decide_eq_false (fun q=>nomatch q)
theorem key_rl (a:Str) (b:Int) : decide ((Sum.inr a:Key)=Sum.inl b)=false:=decide_eq_false (fun q=>nomatch q)

def mixKind (prog:Program) (w:World) : PySem.KeyKind prog w Key where
 is:=keyIs
 hash:=keyH w
 inj:=fun v a b ha hb=>by
  rcases keyIs_shape ha with ⟨i,t,rfl,rfl⟩ | ⟨x,t,rfl,rfl⟩
  ·rcases keyIs_shape hb with ⟨j,u,rfl,e⟩ | ⟨y,u,rfl,e⟩
   ·injection e with e1 _; rw [e1]
   ·exact nomatch e
  ·rcases keyIs_shape hb with ⟨j,u,rfl,e⟩ | ⟨y,u,rfl,e⟩
   ·exact nomatch e
   ·injection e with e1 _; rw [e1]
 byValue:=fun k v h=>by
  rcases keyIs_shape h with ⟨i,t,rfl,rfl⟩ | ⟨x,t,rfl,rfl⟩ <;> rfl
 pyHash:=fun hv h=>by
  rcases keyIs_shape hv with ⟨i,t,rfl,rfl⟩ | ⟨x,t,rfl,rfl⟩
  ·exact wpAny_pyHash_int h
  ·exact wpAny_pyHash_str h
 eqBool:=fun hu hv h=>by
  rcases keyIs_shape hu with ⟨i,t,rfl,rfl⟩ | ⟨x,t,rfl,rfl⟩
  ·rcases keyIs_shape hv with ⟨j,u,rfl,rfl⟩ | ⟨y,u,rfl,rfl⟩
   ·rw [key_ll] at h; exact wpAny_eqBool_int h
   ·rw [key_lr] at h; exact SeqAt.EqAt.int_str i t y u _ _ _ _ h
  ·rcases keyIs_shape hv with ⟨j,u,rfl,rfl⟩ | ⟨y,u,rfl,rfl⟩
   ·rw [key_rl] at h; exact SeqAt.EqAt.str_int x t j u _ _ _ _ h
   ·rw [key_rr] at h; exact wpAny_eqBool_str h
 «strs»:=fun k x t v h=>by
  rcases keyIs_shape h with ⟨i,u,rfl,e⟩ | ⟨y,u,rfl,e⟩
  ·exact nomatch e
  ·injection e with e1 _
   subst e1
   cases v <;> rfl


inductive V where
 | non | bl (b:Bool) | int (i:Int) | str (x:Str) | byt (b:Array UInt8) | flt (b:UInt64) | ref (a:Addr) | ty (n:String)
 deriving DecidableEq

def RelV:V→Value→Prop
 | .non,u=>u=Value.none
 | .bl b,u=>u=Value.bool b
 | .int i,u=>∃ t,u=Value.int i t
 | .str x,u=>∃ t,u=Value.str x t
 | .byt b,u=>∃ t,u=Value.bytes b t
 | .flt b,u=>∃ t,u=Value.float b t
 | .ref a,u=>u=Value.ref a
 | .ty n,u=>u=Value.type n

abbrev Vals:List V→List Value→Prop:=Paired RelV
theorem Vals.length {xs:List V} {us:List Value} (r:Vals xs us) : xs.length=us.length:=Paired.length r
theorem Vals.get:∀ {xs:List V} {us:List Value} {i:Nat} {x:V},Vals xs us→xs[i]? = some x→∃ u,us[i]? = some u∧RelV x u
 | _,_,_,_,.nil,e=>by simp at e
 | _,_,0,_,.cons r _,e=>by simp at e; subst e; exact ⟨_,rfl,r⟩
 | _,_,i+1,x,.cons _ t,e=>by
  obtain ⟨u,h1,h2⟩:=Vals.get (i:=i) (x:=x) t (by simpa using e)
  exact ⟨u,by simpa using h1,h2⟩
theorem Vals.set {x:V} {u:Value} (r:RelV x u) : ∀ {xs:List V} {us:List Value} (i:Nat),Vals xs us→Vals (xs.set i x) (us.set i u)
 | _,_,_,.nil=>.nil
 | _,_,0,.cons _ t=>.cons r t
 | _,_,i+1,.cons q t=>.cons q (Vals.set r i t)
theorem Vals.append:∀ {xs ys:List V} {us ws:List Value},Vals xs us→Vals ys ws→Vals (xs++ys) (us++ws)
 | _,_,_,_,.nil,s=>s
 | _,_,_,_,.cons r t,s=>.cons r (Vals.append t s)
theorem Vals.take:∀ {xs:List V} {us:List Value} (n:Nat),Vals xs us→Vals (xs.take n) (us.take n)
 | _,_,0,_=>.nil
 | _,_,_+1,.nil=>.nil
 | _,_,n+1,.cons r t=>.cons r (Vals.take n t)
theorem Vals.drop:∀ {xs:List V} {us:List Value} (n:Nat),Vals xs us→Vals (xs.drop n) (us.drop n)
 | _,_,0,r=>r
 | _,_,_+1,.nil=>.nil
 | _,_,n+1,.cons _ t=>Vals.drop n t
def RelO:Option V→Option Value→Prop
 | some v,some u=>RelV v u
 | none,none=>True
 | _,_=>False
def KV {κ:Type} : List (κ × V)→List (κ × Value)→Prop:=Paired fun (p:κ × V) (q:κ × Value)=>p.1=q.1∧RelV p.2 q.2

def kV:Key→V
 | .inl i=>.int i
 | .inr x=>.str x

inductive HO where
  | lst (xs:List V)
  | tup (xs:List V)
  | dK (kvs:List (Key × V)) | dT (kvs:List (List Key × V))
  | set (S:Int→Bool) (n:Nat)
  | ins (C dx:Addr) (fs:List (Str × V))
  | own (x:Addr)
  | xd (fs:List (Str × V))
  | met (f x:Addr)
  | rng (lo hi:Int)
  | frz (o:Obj) (u:HO)
  | tbl (ps:Array Value)
  | ext (φ:Heap→Prop)

abbrev Hp:=Addr→Option HO
def upd (H:Hp) (a:Addr) (o:HO) : Hp:=fun b=>if b=a then some o else H b
theorem upd_same {H:Hp} {a:Addr} {o:HO} : upd H a o a=some o:=by unfold upd; rw [if_pos rfl]
theorem upd_ne {H:Hp} {a b:Addr} {o:HO} (h:b≠a) : upd H a o b=H b:=by unfold upd; rw [if_neg h]
theorem ne_of {H:Hp} {a b:Addr} {o u:HO} (h:H a=some o) (h':H b=some u) (d:o≠u) : a≠b:=by
 intro e; subst e; rw [h] at h'; exact d (Option.some.inj h')
theorem ne_of_none {H:Hp} {a b:Addr} {o:HO} (h:H a=some o) (h':H b=none) : a≠b:=by
 intro e; subst e; rw [h] at h'; cases h'

section
variable (P:Program) (w:World)
def ObjOk (H:Hp) (h:Heap) (a:Addr) : HO→Prop
 | .lst xs=>xs.length≤sizeLine∧∃ (its:List Value) (n:Nat),Vals xs its∧h.get? a=some { cls:=.type "list",data:=.seq its.toArray n }
 | .tup xs=>xs.length≤sizeLine∧∃ its:List Value,Vals xs its∧IsTup h a its.toArray
 | .dK kvs=>kvs.length≤sizeLine∧(a == sysModules)=false∧∃ vs,KV kvs vs∧h.DictOf (mixKind P w) a vs
 | .dT kvs=>kvs.length≤sizeLine∧(a == sysModules)=false∧∃ xs:List (List Key × Addr × Value),
   Paired (fun (p:List Key × V) (q:List Key × Addr × Value)=>p.1=q.1∧H q.2.1=some (.tup (p.1.map kV))∧RelV p.2 q.2.2) kvs xs ∧
   ∃ o es ep,h.get? a=some o∧o.ExactDict∧o.data = .dict es ep∧es.toList=xs.map (entryOfKey (tupleKind (mixKind P w)))∧(xs.map (·.1)).Nodup
 | .set S n=>h.SetOf (intKind P w) a S n
 | .ins C dx fs=>H dx=some (.own a)∧fs.length≤1000∧dx≠a∧h.get? a=some (PySem.W.instObj C dx) ∧
   ∃ mA,h.Ns1 dx mA∧(∀ f,RelO (fs.lookup f) (mA f))∧PySem.Within mA (fs.map (·.1))
 | .own _=>∃ o,h.get? a=some o
 | .xd fs=>∃ mA,h.Ns1 a mA∧∀ f,RelO (fs.lookup f) (mA f)
 | .rng lo hi=>∃ t u v,h.get? a=some { cls:=.type "range",data:=.fields #[.int lo t,.int hi u,.int 1 v] }
 | .frz o u=>h.get? a=some o∧ObjOk H h a u
 | .tbl ps=>h.get? a=some { cls:=.none,data:=.fields ps }
 | .met f x=>h.get? a=some (PySem.W.methodObj (.ref f) (.ref x))
 | .ext φ=>φ h∧(∃ o,h.get? a=some o)∧∀ h1 h2:Heap,φ h1→(∀ o,h1.get? a=some o→h2.get? a=some o)→φ h2
def HOk (H:Hp) (h:Heap) : Prop:=∀ a o,H a=some o→ObjOk P w H h a o
end

section
variable {P:Program} {w:World} {H H':Hp} {h h':Heap} {a:Addr} {o:HO}
theorem ObjOk.lt (x:ObjOk P w H h a o) : a < h.objs.size:=by
 cases o with
 | lst xs=>obtain ⟨_,_,_,_,e⟩:=x; exact Heap.lt_size e
 | tup xs=>obtain ⟨_,_,_,p⟩:=x; exact p.lt
 | dK kvs=>obtain ⟨_,_,_,_,o,_,_,e,_⟩:=x; exact Heap.lt_size e
 | dT kvs=>obtain ⟨_,_,_,_,o,_,_,e,_⟩:=x; exact Heap.lt_size e
 | set S n=>obtain ⟨o,_,_,_,e,_⟩:=x; exact Heap.lt_size e
 | ins C dx fs=>obtain ⟨_,_,_,e,_⟩:=x; exact Heap.lt_size e
 | own y=>obtain ⟨_,e⟩:=x; exact Heap.lt_size e
 | xd fs=>obtain ⟨_,⟨_,_,_,e,_⟩,_⟩:=x; exact Heap.lt_size e
 | rng lo hi=>obtain ⟨_,_,_,e⟩:=x; exact Heap.lt_size e
 | frz ob u=>obtain ⟨e,_⟩:=x; exact Heap.lt_size e
 | tbl ps=>exact Heap.lt_size (show h.get? a=some _ from x)
 | met f y=>exact Heap.lt_size (show h.get? a=some _ from x)
 | ext φ=>obtain ⟨_,⟨_,e⟩,_⟩:=x; exact Heap.lt_size e
theorem Paired.mapP {α β:Type} {F G:α→β→Prop} : ∀ {l₁:List α} {l₂:List β},Paired F l₁ l₂→(∀ a b,F a b→G a b)→Paired G l₁ l₂
 | _,_,.nil,_=>.nil
 | _,_,.cons r t,f=>.cons (f _ _ r) (Paired.mapP t f)
theorem ObjOk.stay (x:ObjOk P w H h a o) (k:∀ b u,(b=a∨H b=some (.own a))→h.get? b=some u→h'.get? b=some u)
  (ho:∀ b,H b=some (.own a)→H' b=some (.own a)) (ht:∀ b xs,H b=some (.tup xs)→H' b=some (.tup xs)) : ObjOk P w H' h' a o:=by
 induction o with
 | lst xs=>obtain ⟨z,its,n,r,e⟩:=x; exact ⟨z,its,n,r,k _ _ (.inl rfl) e⟩
 | tup xs=>obtain ⟨z,its,r,ob,e,c⟩:=x; exact ⟨z,its,r,ob,k _ _ (.inl rfl) e,c⟩
 | dK kvs=>obtain ⟨z,y,vs,r,ob,es,ep,e,c⟩:=x; exact ⟨z,y,vs,r,ob,es,ep,k _ _ (.inl rfl) e,c⟩
 | dT kvs =>
  obtain ⟨z,y,xs,r,ob,es,ep,e,c⟩:=x
  exact ⟨z,y,xs,Paired.mapP r fun p q z=>⟨z.1,ht _ _ z.2.1,z.2.2⟩,ob,es,ep,k _ _ (.inl rfl) e,c⟩
 | set S n=>obtain ⟨ob,es,ep,t,e,c⟩:=x; exact ⟨ob,es,ep,t,k _ _ (.inl rfl) e,c⟩
 | ins C dx fs =>
  obtain ⟨d,z,ne,e,mA,⟨od,es,ep,e2,c⟩,r⟩:=x
  exact ⟨ho _ d,z,ne,k _ _ (.inl rfl) e,mA,⟨od,es,ep,k _ _ (.inr d) e2,c⟩,r⟩
 | own y=>obtain ⟨ob,e⟩:=x; exact ⟨ob,k _ _ (.inl rfl) e⟩
 | xd fs=>obtain ⟨mA,⟨od,es,ep,e,c⟩,r⟩:=x; exact ⟨mA,⟨od,es,ep,k _ _ (.inl rfl) e,c⟩,r⟩
 | rng lo hi=>obtain ⟨t,u,v,e⟩:=x; exact ⟨t,u,v,k _ _ (.inl rfl) e⟩
 | frz ob u ih=>obtain ⟨e,q⟩:=x; exact ⟨k _ _ (.inl rfl) e,ih q⟩
 | tbl ps =>
  have e:h.get? a=some { cls:=.none,data:=.fields ps }:=x
  show h'.get? a=some { cls:=.none,data:=.fields ps }
  exact k a _ (.inl rfl) e
 | met f y =>
  have e:h.get? a=some (PySem.W.methodObj (.ref f) (.ref y)):=x
  show h'.get? a=some (PySem.W.methodObj (.ref f) (.ref y))
  exact k a _ (.inl rfl) e
 | ext φ=>obtain ⟨p,⟨o,e⟩,st⟩:=x; exact ⟨st _ _ p fun o q=>k _ _ (.inl rfl) q,⟨o,k _ _ (.inl rfl) e⟩,st⟩
theorem HOk.lt (x:HOk P w H h) (e:H a=some o) : a < h.objs.size:=(x a o e).lt
theorem HOk.fresh (x:HOk P w H h) (e:h.objs.size≤a) : H a=none:=by
 cases q:H a with
 | none=>rfl
 | some u=>exact absurd (Nat.lt_of_lt_of_le (x.lt q) e) (Nat.lt_irrefl _)
theorem HOk.kept (x:HOk P w H h) (k:∀ b u,h.get? b=some u→h'.get? b=some u) : HOk P w H h':=fun a o e =>
 (x a o e).stay (fun b u _ q=>k b u q) (fun _ q=>q) fun _ _ q=>q
theorem HOk.laid (x:HOk P w H h) (k:∀ b u,h.get? b=some u→h'.get? b=some u) (hp:h.objs.size≤a) (new:ObjOk P w (upd H a o) h' a o) : HOk P w (upd H a o) h':=fun b u e=>by
 have hn:=x.fresh hp
 by_cases hb:b=a
 ·subst hb; rw [upd_same] at e; cases e; exact new
 ·rw [upd_ne hb] at e
  exact (x b u e).stay (fun c v _ q=>k c v q) (fun c q=>by rw [upd_ne (ne_of_none q hn)]; exact q) fun c xs q=>by rw [upd_ne (ne_of_none q hn)]; exact q
end

def Rd (H:Hp) (a:Addr) (u:HO) : Prop:=H a=some u∨∃ o,H a=some (.frz o u)
theorem Rd.of {H:Hp} {a:Addr} {u:HO} (h:H a=some u) : Rd H a u:=.inl h
theorem Rd.ok {P:Program} {w:World} {H:Hp} {h:Heap} {a:Addr} {u:HO} (r:Rd H a u) (x:HOk P w H h) : ObjOk P w H h a u:=by
 rcases r with r | ⟨o,r⟩
 ·exact x a u r
 ·obtain ⟨_,q⟩:=x a _ r
  exact q
def Mut:Option HO→Prop
 | some (.lst _)=>True
 | some (.dK _)=>True
 | some (.dT _)=>True
 | some (.set _ _)=>True
 | some (.ins _ _ _)=>True
 | some (.ext _)=>True
 | _=>False
section
variable {P:Program} {w:World} {H:Hp} {h h':Heap} {x e:Addr} {o':HO}
theorem HOk.write (ok:HOk P w H h) (mu:Mut (H x)) (he:e=x∨H e=some (.own x)) (k:∀ b u,b≠e→h.get? b=some u→h'.get? b=some u) (heo:∃ u,h'.get? e=some u)
  (new:ObjOk P w (upd H x o') h' x o') : HOk P w (upd H x o') h':=fun b u q=>by
 have nown:∀ c y,H c=some (.own y)→c≠x:=fun c y r z=>by subst z; rw [r] at mu; exact mu
 have ntup:∀ c xs,H c=some (.tup xs)→c≠x:=fun c xs r z=>by subst z; rw [r] at mu; exact mu
 by_cases hb:b=x
 ·subst hb; rw [upd_same] at q; cases q; exact new
 ·rw [upd_ne hb] at q
  by_cases hbe:b=e
  ·have q':H b=some (.own x):=by
    rcases he with z | z
    ·exact absurd (hbe.trans z) hb
    ·rw [hbe]; exact z
   rw [q] at q'; cases q'
   obtain ⟨v,hv⟩:=heo
   exact ⟨v,by rw [hbe]; exact hv⟩
  ·refine (ok b u q).stay (fun c v hc r=>k c v ?_ r) (fun c r=>by rw [upd_ne (nown c b r)]; exact r) fun c xs r=>by rw [upd_ne (ntup c xs r)]; exact r
   rcases hc with rfl | hc
   ·exact hbe
   ·rintro rfl
    rcases he with z | z
    ·exact nown c b hc z
    ·rw [hc] at z; cases z; exact hb rfl
end

structure Un (fs ex:List Addr) (H H':Hp) (h h':Heap) : Prop where
 keep:∀ b o,h.get? b=some o→H b=none→b ∉ fs→b ∉ ex→h'.get? b=some o
 slot:∀ b o,h.get? b=some o→H b=none→b ∈ fs→b ∉ ex→∃ sl,h'.get? b=some { o with slots:=sl }
 free:∀ b o,h.get? b=some o→H b=none→b ∉ ex→H' b=none
 there:∀ b o,h.get? b=some o→b ∉ ex→∃ o',h'.get? b=some o'
 tups:∀ b xs,H b=some (.tup xs)→H' b=some (.tup xs)
 frzs:∀ b o u,H b=some (.frz o u)→H' b=some (.frz o u)
 tbls:∀ b ps,H b=some (.tbl ps)→∃ more,H' b=some (.tbl (ps++more))
section
variable {fs fs' ex ex':List Addr} {H H1 H2:Hp} {h h1 h2 h':Heap} {a x e:Addr} {o:HO}
theorem Un.any (u:Un fs ex H H1 h h1) {b:Addr} {ob:Obj} (q:h.get? b=some ob) (n:H b=none) (hx:b ∉ ex) : ∃ sl,h1.get? b=some { ob with slots:=sl }:=by
 by_cases hb:b ∈ fs
 ·exact u.slot b ob q n hb hx
 ·exact ⟨ob.slots,u.keep b ob q n hb hx⟩
theorem Un.trans (a:Un fs ex H H1 h h1) (b:Un fs ex H1 H2 h1 h2) : Un fs ex H H2 h h2 where
 keep:=fun c ob q n hc hx=>b.keep c ob (a.keep c ob q n hc hx) (a.free c ob q n hx) hc hx
 slot:=fun c ob q n hc hx=>by
  obtain ⟨sl,e1⟩:=a.slot c ob q n hc hx
  obtain ⟨sl',e2⟩:=b.slot c _ e1 (a.free c ob q n hx) hc hx
  exact ⟨sl',e2⟩
 free:=fun c ob q n hx=>by
  obtain ⟨o',e1⟩:=a.there c ob q hx
  exact b.free c o' e1 (a.free c ob q n hx) hx
 there:=fun c ob q hx=>by
  obtain ⟨o',e1⟩:=a.there c ob q hx
  exact b.there c o' e1 hx
 tups:=fun c xs q=>b.tups c xs (a.tups c xs q)
 frzs:=fun c ob xs q=>b.frzs c ob xs (a.frzs c ob xs q)
 tbls:=fun c ps q=>by
  obtain ⟨m1,e1⟩:=a.tbls c ps q
  obtain ⟨m2,e2⟩:=b.tbls c _ e1
  exact ⟨m1++m2,by rw [e2,Array.append_assoc]⟩
theorem Un.kept (k:∀ b u,h.get? b=some u→h'.get? b=some u) : Un fs ex H H h h':=
 ⟨fun b ob q _ _ _=>k b ob q,fun b ob q _ _ _=>⟨ob.slots,k b ob q⟩,fun _ _ _ n _=>n,fun b ob q _=>⟨ob,k b ob q⟩,fun _ _ q=>q,fun _ _ _ q=>q,fun _ ps q=>⟨#[],by rw [q]; simp⟩⟩
theorem Un.refl:Un fs ex H H h h:=Un.kept fun _ _ q=>q
theorem Un.laid (k:∀ b u,h.get? b=some u→h'.get? b=some u) (hp:h.objs.size≤a) (hn:H a=none) : Un fs ex H (upd H a o) h h' where
 keep:=fun b u q _ _ _=>k b u q
 slot:=fun b u q _ _ _=>⟨u.slots,k b u q⟩
 free:=fun b u q n _=>by rw [upd_ne (Nat.ne_of_lt (Nat.lt_of_lt_of_le (Heap.lt_size q) hp))]; exact n
 there:=fun b u q _=>⟨u,k b u q⟩
 tups:=fun b xs q=>by rw [upd_ne (ne_of_none q hn)]; exact q
 frzs:=fun b u xs q=>by rw [upd_ne (ne_of_none q hn)]; exact q
 tbls:=fun b ps q=>⟨#[],by rw [upd_ne (ne_of_none q hn),q]; simp⟩
theorem Un.write (mu:Mut (H x)) (he:e=x∨H e=some (.own x)) (k:∀ b u,b≠e→h.get? b=some u→h'.get? b=some u) (heo:∃ u,h'.get? e=some u) : Un fs ex H (upd H x o) h h':=by
 have hx:∀ b,H b=none→b≠x:=fun b n z=>by subst z; rw [n] at mu; exact mu
 have hb:∀ b,H b=none→b≠e:=fun b n z=>by
  subst z
  rcases he with r | r
  ·exact hx b n r
  ·rw [n] at r; cases r
 have hm:∀ b u,H b=some u→¬ Mut (some u)→b≠x:=fun b u q nm z=>by subst z; rw [q] at mu; exact nm mu
 refine ⟨fun b u q n _ _=>k b u (hb b n) q,fun b u q n _ _=>⟨u.slots,k b u (hb b n) q⟩,fun b u q n _=>by rw [upd_ne (hx b n)]; exact n,fun b u q _=>?_,
  fun b xs q=>by rw [upd_ne (hm b _ q fun z=>z)]; exact q,fun b u xs q=>by rw [upd_ne (hm b _ q fun z=>z)]; exact q,fun b ps q=>⟨#[],by rw [upd_ne (hm b _ q fun z=>z),q]; simp⟩⟩
 by_cases hbe:b=e
 ·subst hbe; exact heo
 ·exact ⟨u,k b u hbe q⟩
theorem Un.mono (u:Un fs ex H H1 h h1) (hs:∀ b ∈ fs,b ∈ fs') (hx:∀ b ∈ ex,b ∈ ex') : Un fs' ex' H H1 h h1:=
 ⟨fun b ob q n hb he=>u.keep b ob q n (fun z=>hb (hs b z)) fun z=>he (hx b z),fun _ _ q n _ he=>u.any q n fun z=>he (hx _ z),fun b ob q n he=>u.free b ob q n fun z=>he (hx b z),fun b ob q he=>u.there b ob q fun z=>he (hx b z),u.tups,u.frzs,u.tbls⟩
end

def trk (h:Heap) (H:Hp) : List Addr:=(List.range h.objs.size).filter fun a=>(H a).isSome
def hidT (h:Heap) (H:Hp) : Heap:=PySem.W.hideAll h (trk h H)
theorem hidT_size (h:Heap) (H:Hp) : (hidT h H).objs.size=h.objs.size:=PySem.W.hideAll_size _ _
theorem hidT_get {h:Heap} {H:Hp} {b:Addr} {o:Obj} (e:h.get? b=some o) (n:H b=none) : (hidT h H).get? b=some o:=
 PySem.W.hideAll_get _ e fun hm=>by
  have q:(H b).isSome=true:=(List.mem_filter.mp hm).2
  rw [n] at q; simp at q
theorem of_hidT {h:Heap} {H:Hp} {b:Addr} {o:Obj} (e:(hidT h H).get? b=some o) : h.get? b=some o∧H b=none:=by
 have e':h.get? b=some o:=PySem.W.of_hideAll (trk h H) e
 refine ⟨e',?_⟩
 cases q:H b with
 | none=>rfl
 | some x =>
  have hm:b ∈ trk h H:=List.mem_filter.mpr ⟨List.mem_range.mpr (Heap.lt_size e'),by simp [q]⟩
  have z:(hidT h H).get? b=none:=PySem.W.hideAll_none (trk h H) hm
  rw [z] at e; cases e

def allNews (g h:Heap) (L:Addr) : List (Addr × Obj):=(List.range h.objs.size).filterMap fun a=>if a=L∨(g.get? a).isSome=true then none else (h.get? a).map fun o=>(a,o)
def rest (g h:Heap) (L d:Addr) : List (Addr × Obj):=(allNews g h L).filter fun p=>decide (p.1≠d)

structure Mod (K:PySem.W.Frag) (mg:Str→Option Value) (base:Heap) : Prop where
 kin:K.In base
 glob:base.Ns mainGlobals mg
 blt:∃ mb,base.Ns builtinsNs mb∧∀ x:Str,x≠"__name__"→mb x=bootBuiltins x
 nolimit:base.NoLimit

structure Cx where
 prog:Program
 w:World
 K:PySem.W.Frag
 mg:Str→Option Value
 base:Heap
 A:Around
 N:List Str
 s₀:Shared
 H₀:Hp
 env:Env
 outer:List Env
 stack:List Env
 ex:List Addr
 fn:Str→Bool
 calm:Bool
 pn:List (Addr × Obj)
 xe:Value→Shared→Prop
def frs (l:List Env) : List Addr:=l.filterMap (·.frame)
abbrev Cx.fs (X:Cx) : List Addr:=frs X.outer

def Vis (sc:Scope) (x:Str) : Prop:=sc.names.lookup x=some .local∨sc.names.lookup x=some .cell∨sc.names.lookup x=some .free
def Loc (sc:Scope) (x:Str) : Prop:=sc.names.lookup x=some .local∨sc.names.lookup x=some .cell
def Look (env:Env) (h:Heap) (m:Str→Option Value) (x:Str) (u:Value) : Prop:=
 (env.kindOf x=some .local∧m x=some u)∨((env.kindOf x=some .cell∨env.kindOf x=some .free)∧∃ c,env.cells.lookup x=some c∧h.IsCell c (some u))

structure Cx.Ok (X:Cx) : Prop where
 mod:Mod X.K X.mg X.base
 kind:X.env.scope.kind = .function
 glob:X.env.globals=mainGlobals
 blt:X.env.builtins=builtinsNs
 above:X.s₀.heap.objs.size≤X.env.locals
 inj:∀ x y c,X.env.cells.lookup x=some c→X.env.cells.lookup y=some c→x=y
 has:∀ x,(X.env.kindOf x=some .cell∨X.env.kindOf x=some .free)→∃ c,X.env.cells.lookup x=some c
 cab:∀ x c,X.fn x=true→X.env.cells.lookup x=some c→X.s₀.heap.objs.size≤c
 hd:X.calm=true→X.A.handled=none
 frames:X.A.frames=some X.stack
 stk:X.stack=X.outer∨(X.stack=X.env :: X.outer∧X.env.frame=some X.env.locals)
 exf:∀ b ∈ X.ex,b≠X.env.locals∧∀ x c,X.env.cells.lookup x=some c→c≠b
 bs:∀ b o,X.base.get? b=some o→X.s₀.heap.get? b=some o∧X.H₀ b=none
 bsz:X.base.objs.size≤X.s₀.heap.objs.size
 noex:∀ b o,X.base.get? b=some o→b ∉ X.ex
 exfs:∀ b ∈ X.ex,b ∉ X.fs
 funs:X.s₀.heap.FunFrames X.base X.outer
 frf:∀ b ∈ X.fs,X.H₀ b=none

structure Inv (X:Cx) (pins:List (Addr × Obj)) (σ:List (Option V)) (H:Hp) (s:Shared) : Prop where
 ok:X.Ok
 os:s.os=X.s₀.os
 bare:AllBare s.gens
 base:Un X.fs X.ex X.H₀ H X.s₀.heap s.heap
 loc:∃ m,s.heap.Ns X.env.locals m∧∀ (i:Nat) (x:Str) (v:V),X.N[i]? = some x→σ[i]? = some (some v)→Vis X.env.scope x→∃ u,RelV v u∧Look X.env s.heap m x u
 cell:∀ x c,X.env.cells.lookup x=some c→∃ v,s.heap.IsCell c v
 free:H X.env.locals=none
 freeC:∀ x c,X.env.cells.lookup x=some c→H c=none
 pin:∀ p ∈ X.pn++pins,s.heap.get? p.1=some p.2∧H p.1=none∧p.1≠X.env.locals∧p.1 ∉ X.fs∧∀ v,p.2.data≠.cell v
 hok:HOk X.prog X.w H s.heap
 len:σ.length=X.N.length

section
variable {X:Cx} {pins:List (Addr × Obj)} {σ:List (Option V)} {H H':Hp} {s:Shared} {h':Heap}

theorem Cx.Ok.nofr (ok:X.Ok) {b:Addr} {o:Obj} (e:X.base.get? b=some o) : b ∉ X.fs:=fun hb=>by
 have:=(ok.funs.mem hb).1
 rw [e] at this; cases this
theorem Inv.bs (I:Inv X pins σ H s) : ∀ b o,X.base.get? b=some o→s.heap.get? b=some o∧H b=none:=fun b o e =>
 ⟨I.base.keep b o (I.ok.bs b o e).1 (I.ok.bs b o e).2 (I.ok.nofr e) (I.ok.noex b o e),I.base.free b o (I.ok.bs b o e).1 (I.ok.bs b o e).2 (I.ok.noex b o e)⟩
theorem Inv.bk (I:Inv X pins σ H s) : ∀ b o,X.base.get? b=some o→s.heap.get? b=some o:=fun b o e=>(I.bs b o e).1
theorem Inv.mod (I:Inv X pins σ H s) : Mod X.K X.mg X.base:=I.ok.mod
theorem Inv.kIn (I:Inv X pins σ H s) : X.K.In s.heap:=I.ok.mod.kin.keeps I.bk
theorem Inv.nolimit (I:Inv X pins σ H s) : s.heap.NoLimit:=I.ok.mod.nolimit.keeps I.bk
theorem Inv.fr (I:Inv X pins σ H s) : ∃ m,Fr X.base X.env.locals s.heap m:=
 let ⟨m,hn,_⟩:=I.loc
 ⟨m,hn,I.bk,Nat.le_trans I.ok.bsz I.ok.above⟩
theorem Inv.lt (I:Inv X pins σ H s) : X.env.locals < s.heap.objs.size:=let ⟨_,hn,_⟩:=I.loc; hn.lt
theorem Inv.sz (I:Inv X pins σ H s) : X.s₀.heap.objs.size≤s.heap.objs.size:=Nat.le_trans I.ok.above (Nat.le_of_lt I.lt)
theorem Inv.nofs (I:Inv X pins σ H s) {a:Addr} (h:s.heap.objs.size≤a) : a ∉ X.fs:=fun hb=>by
 obtain ⟨_,o,ho,_⟩:=I.ok.funs.mem hb
 exact absurd (Nat.lt_of_lt_of_le (Heap.lt_size ho) (Nat.le_trans I.sz h)) (Nat.lt_irrefl _)
theorem Inv.cne (I:Inv X pins σ H s) : ∀ x c,X.env.cells.lookup x=some c→c≠X.env.locals:=fun x c e z=>by
 obtain ⟨v,o,ho,hd⟩:=I.cell x c e
 obtain ⟨m,⟨o',es,ep,ho',hd',_⟩,_⟩:=I.loc
 rw [z,ho'] at ho; cases ho; rw [hd'] at hd; cases hd
theorem Inv.funs (I:Inv X pins σ H s) : s.heap.FunFrames X.base X.outer:=by
 have all:∀ (l:List Env),(∀ b ∈ frs l,b ∈ X.fs)→X.s₀.heap.FunFrames X.base l→s.heap.FunFrames X.base l:=by
  intro l
  induction l with
  | nil=>intro _ _; trivial
  | cons env r ih =>
   intro hs hl
   obtain ⟨hk,⟨L,o,hf,hn,ho,hd⟩,hr⟩:=hl
   have hL:L ∈ X.fs:=hs L (by unfold frs; rw [List.filterMap_cons,hf]; exact List.mem_cons_self)
   obtain ⟨sl,e⟩:=I.base.slot L o ho (I.ok.frf L hL) hL fun z=>I.ok.exfs L z hL
   exact ⟨hk,⟨L,_,hf,hn,e,hd⟩,ih (fun b hb=>hs b (by unfold frs; rw [List.filterMap_cons,hf]; exact List.mem_cons_of_mem _ hb)) hr⟩
 exact all X.outer (fun _ hb=>hb) I.ok.funs

theorem Inv.stack (I:Inv X pins σ H s) : s.heap.FunFrames X.base X.stack:=by
 rcases I.ok.stk with e | ⟨e,hf⟩
 ·rw [e]; exact I.funs
 ·rw [e]
  obtain ⟨m,hn,_⟩:=I.loc
  refine .cons (by rw [I.ok.kind]; decide) hf hn ?_ I.funs
  exact Heap.get?_none_of_le (Nat.le_trans I.ok.bsz I.ok.above)
theorem Inv.stkSub (I:Inv X pins σ H s) : ∀ b ∈ frs X.stack,b ∈ X.env.locals :: X.fs:=fun b hb=>by
 rcases I.ok.stk with e | ⟨e,hf⟩
 ·rw [e] at hb; exact List.mem_cons_of_mem _ hb
 ·rw [e] at hb
  unfold frs at hb
  rw [List.filterMap_cons,hf] at hb
  exact hb
theorem Inv.stkFree (I:Inv X pins σ H s) : ∀ b ∈ frs X.stack,H b=none:=fun b hb=>by
 rcases List.mem_cons.mp (I.stkSub b hb) with e | hb
 ·rw [e]; exact I.free
 ·obtain ⟨_,o,ho,_⟩:=I.ok.funs.mem hb
  exact I.base.free b o ho (I.ok.frf b hb) fun z=>I.ok.exfs b z hb

theorem Inv.step {g':Array GenState} {t':Nat} {d':Drawn} {ch:List Addr} (I:Inv X pins σ H s)
  (hch:∀ b ∈ ch,(b ∈ X.ex∨X.s₀.heap.objs.size≤b)∧b≠X.env.locals∧(∀ x c,X.env.cells.lookup x=some c→c≠b)∧∀ p ∈ X.pn++pins,p.1≠b)
  (keep:∀ b o,b≠X.env.locals→b ∉ X.fs→b ∉ ch→s.heap.get? b=some o→H b=none→h'.get? b=some o)
  (slot:∀ b o,b≠X.env.locals→b ∈ X.fs→b ∉ ch→s.heap.get? b=some o→H b=none→∃ sl,h'.get? b=some { o with slots:=sl }) (free:∀ b o,b ∉ ch→s.heap.get? b=some o→H b=none→H' b=none)
  (there:∀ b o,b ∉ ch→s.heap.get? b=some o→∃ o',h'.get? b=some o')
  (tups:∀ b xs,H b=some (.tup xs)→H' b=some (.tup xs)) (frzs:∀ b o u,H b=some (.frz o u)→H' b=some (.frz o u)) (tbls:∀ b ps,H b=some (.tbl ps)→∃ more,H' b=some (.tbl (ps++more)))
  (ns:∀ m,s.heap.Ns X.env.locals m→h'.Ns X.env.locals m) (hok:HOk X.prog X.w H' h') (hg:AllBare g') :
  Inv X pins σ H' { s with heap:=h',gens:=g',drawn:=d',toks:=t' }:=by
 have neL:∀ b o,X.s₀.heap.get? b=some o→b≠X.env.locals:=fun b o e=>Nat.ne_of_lt (Nat.lt_of_lt_of_le (Heap.lt_size e) I.ok.above)
 have neC:∀ b o,X.s₀.heap.get? b=some o→b ∉ X.ex→b ∉ ch:=fun b o e hx hb=>by
  rcases (hch b hb).1 with z | z
  ·exact hx z
  ·exact absurd (Nat.lt_of_lt_of_le (Heap.lt_size e) z) (Nat.lt_irrefl _)
 have cellK:∀ x c,X.env.cells.lookup x=some c→∀ v,s.heap.IsCell c v→h'.IsCell c v:=fun x c e v ⟨o,ho,hd⟩=>by
  have nch:c ∉ ch:=fun z=>(hch c z).2.2.1 x c e rfl
  by_cases hc:c ∈ X.fs
  ·obtain ⟨sl,q⟩:=slot c o (I.cne x c e) hc nch ho (I.freeC x c e)
   exact ⟨_,q,hd⟩
  ·exact ⟨o,keep c o (I.cne x c e) hc nch ho (I.freeC x c e),hd⟩
 refine ⟨I.ok,I.os,hg,⟨fun b o e n hb hx=>?_,fun b o e n hb hx=>?_,fun b o e n hx=>?_,fun b o e hx=>?_,fun b xs e=>tups b xs (I.base.tups b xs e),fun b o xs e=>frzs b o xs (I.base.frzs b o xs e),fun b ps e=>?_⟩,?_,fun x c e=>?_,?_,fun x c e=>?_,fun p hp=>?_,hok,I.len⟩
 ·exact keep b o (neL b o e) hb (neC b o e hx) (I.base.keep b o e n hb hx) (I.base.free b o e n hx)
 ·obtain ⟨sl,e1⟩:=I.base.slot b o e n hb hx
  obtain ⟨sl',e2⟩:=slot b _ (neL b o e) hb (neC b o e hx) e1 (I.base.free b o e n hx)
  exact ⟨sl',e2⟩
 ·obtain ⟨o',e1⟩:=I.base.there b o e hx
  exact free b o' (neC b o e hx) e1 (I.base.free b o e n hx)
 ·obtain ⟨o',e1⟩:=I.base.there b o e hx
  exact there b o' (neC b o e hx) e1
 ·obtain ⟨m1,e1⟩:=I.base.tbls b ps e
  obtain ⟨m2,e2⟩:=tbls b _ e1
  exact ⟨m1++m2,by rw [e2,Array.append_assoc]⟩
 ·obtain ⟨m,hn,hl⟩:=I.loc
  refine ⟨m,ns m hn,fun i x v e1 e2 e3=>?_⟩
  obtain ⟨u,r,l⟩:=hl i x v e1 e2 e3
  refine ⟨u,r,?_⟩
  rcases l with l | ⟨k,c,e,z⟩
  ·exact .inl l
  ·exact .inr ⟨k,c,e,cellK x c e _ z⟩
 ·obtain ⟨v,z⟩:=I.cell x c e
  exact ⟨v,cellK x c e v z⟩
 ·obtain ⟨m,⟨o,_,_,ho,_⟩,_⟩:=I.loc
  exact free _ o (fun z=>(hch _ z).2.1 rfl) ho I.free
 ·obtain ⟨v,o,ho,hd⟩:=I.cell x c e
  exact free c o (fun z=>(hch c z).2.2.1 x c e rfl) ho (I.freeC x c e)
 ·obtain ⟨e,n,ne,nf,d⟩:=I.pin p hp
  have nch:p.1 ∉ ch:=fun z=>(hch p.1 z).2.2.2 p hp rfl
  exact ⟨keep p.1 p.2 ne nf nch e n,free p.1 p.2 nch e n,ne,nf,d⟩
theorem Inv.un {t':Nat} (I:Inv X pins σ H s) (u:Un X.fs [] H H' s.heap h') (hok:HOk X.prog X.w H' h') : Inv X pins σ H' { s with heap:=h',toks:=t' }:=by
 obtain ⟨m,⟨o,es,ep,ho,r⟩,_⟩:=id I.loc
 obtain ⟨sl,hL⟩:=u.any ho I.free (by simp)
 exact I.step (g':=s.gens) (d':=s.drawn) (ch:=[]) (fun _ z=>nomatch z) (fun b o _ hb _ e n=>u.keep b o e n hb (by simp)) (fun b o _ hb _ e n=>u.slot b o e n hb (by simp)) (fun b o _ e n=>u.free b o e n (by simp)) (fun b o _ e=>u.there b o e (by simp)) u.tups u.frzs u.tbls (fun m' hm=>by
  obtain ⟨o',es',ep',ho',r'⟩:=hm
  rw [ho] at ho'; cases ho'
  exact ⟨_,es',ep',hL,r'⟩) hok I.bare
theorem Inv.call {g':Array GenState} {t':Nat} {d':Drawn} {ch:List Addr} (I:Inv X pins σ H s) (u:Un (frs X.stack) ch H H' s.heap h') (hok:HOk X.prog X.w H' h') (hg:AllBare g')
  (hch:∀ b ∈ ch,(b ∈ X.ex∨X.s₀.heap.objs.size≤b)∧b≠X.env.locals∧(∀ x c,X.env.cells.lookup x=some c→c≠b)∧∀ p ∈ X.pn++pins,p.1≠b) :
  Inv X pins σ H' { s with heap:=h',gens:=g',drawn:=d',toks:=t' }:=by
 obtain ⟨m,⟨o,es,ep,ho,r⟩,_⟩:=id I.loc
 obtain ⟨sl,hL⟩:=u.any ho I.free fun z=>(hch _ z).2.1 rfl
 exact I.step (ch:=ch) hch (fun b o hL hb hc e n=>u.keep b o e n (fun z=>(List.mem_cons.mp (I.stkSub b z)).elim hL hb) hc) (fun b o _ _ hc e n=>u.any e n hc) (fun b o hc e n=>u.free b o e n hc) (fun b o hc e=>u.there b o e hc) u.tups u.frzs u.tbls (fun m' hm=>by
  obtain ⟨o',es',ep',ho',r'⟩:=hm
  rw [ho] at ho'; cases ho'
  exact ⟨_,es',ep',hL,r'⟩) hok hg
theorem Inv.turned {t':Nat} {it:Addr} (I:Inv X pins σ H s) (k:∀ b o,b≠it→s.heap.get? b=some o→h'.get? b=some o) (hn:H it=none) (hL:it≠X.env.locals)
  (h1:it ∈ X.ex∨X.s₀.heap.objs.size≤it) (h2:∀ x c,X.env.cells.lookup x=some c→c≠it) (h3:∀ p ∈ X.pn++pins,p.1≠it) : Inv X pins σ H { s with heap:=h',toks:=t' }:=by
 have nit:∀ b u,H b=some u→b≠it:=fun b u e z=>by rw [z,hn] at e; cases e
 refine I.step (g':=s.gens) (d':=s.drawn) (ch:=[it]) (fun b hb=>?_) (fun b o _ _ hc e _=>k b o (fun z=>hc (by simp [z])) e) (fun b o _ _ hc e _=>⟨o.slots,k b o (fun z=>hc (by simp [z])) e⟩) (fun _ _ _ _ n=>n)
  (fun b o hc e=>⟨o,k b o (fun z=>hc (by simp [z])) e⟩) (fun _ _ e=>e) (fun _ _ _ e=>e) (fun b ps e=>⟨#[],by rw [e]; simp⟩) (fun m hm=>?_) (fun b u e=>?_) I.bare
 ·have e:b=it:=by simpa using hb
  subst e
  exact ⟨h1,hL,h2,h3⟩
 ·obtain ⟨o,es,ep,ho,r⟩:=hm
  exact ⟨o,es,ep,k _ o (Ne.symm hL) ho,r⟩
 ·refine (I.hok b u e).stay (fun c v hc q=>k c v ?_ q) (fun _ q=>q) fun _ _ q=>q
  rcases hc with z | z
  ·rw [z]; exact nit b u e
  ·exact nit c _ z
theorem Inv.tok (I:Inv X pins σ H s) (t:Nat) : Inv X pins σ H { s with toks:=t }:=I.un (h':=s.heap) (t':=t) Un.refl I.hok
theorem Inv.kept {t':Nat} (I:Inv X pins σ H s) (k:∀ b u,s.heap.get? b=some u→h'.get? b=some u) : Inv X pins σ H { s with heap:=h',toks:=t' }:=I.un (Un.kept k) (I.hok.kept k)
theorem Inv.laid {a:Addr} {o:HO} {t':Nat} (I:Inv X pins σ H s) (k:∀ b u,s.heap.get? b=some u→h'.get? b=some u) (hp:s.heap.objs.size≤a) (new:ObjOk X.prog X.w (upd H a o) h' a o) :
  Inv X pins σ (upd H a o) { s with heap:=h',toks:=t' }:=I.un (Un.laid k hp (I.hok.fresh hp)) (I.hok.laid k hp new)
theorem Inv.write {x e:Addr} {o:HO} {t':Nat} (I:Inv X pins σ H s) (mu:Mut (H x)) (he:e=x∨H e=some (.own x)) (k:∀ b u,b≠e→s.heap.get? b=some u→h'.get? b=some u) (heo:∃ u,h'.get? e=some u)
  (new:ObjOk X.prog X.w (upd H x o) h' x o) : Inv X pins σ (upd H x o) { s with heap:=h',toks:=t' }:=I.un (Un.write mu he k heo) (I.hok.write mu he k heo new)
theorem Inv.pins_of {pins':List (Addr × Obj)} (I:Inv X pins σ H s) (h:∀ p ∈ pins',s.heap.get? p.1=some p.2∧H p.1=none∧p.1≠X.env.locals∧p.1 ∉ X.fs∧∀ v,p.2.data≠.cell v) : Inv X pins' σ H s:=
 ⟨I.ok,I.os,I.bare,I.base,I.loc,I.cell,I.free,I.freeC,fun p hp=>(List.mem_append.mp hp).elim (fun z=>I.pin p (List.mem_append_left _ z)) (h p),I.hok,I.len⟩

theorem nodup_ix {N:List Str} (hN:N.Nodup) {i j:Nat} {x:Str} (a:N[i]? = some x) (b:N[j]? = some x) : i=j:=by
 obtain ⟨h1,e1⟩:=List.getElem?_eq_some_iff.mp a
 obtain ⟨h2,e2⟩:=List.getElem?_eq_some_iff.mp b
 exact (List.getElem_inj hN).mp (e1.trans e2.symm)

theorem store_ok2 {M:Model} {A:Around} {E:Value→Shared→Prop} {i:Nat} {x:Str} {v:V} {u:Value} {Q:Unit→Shared→Prop} (I:Inv X pins σ H s) (hN:X.N.Nodup) (hi:X.N[i]? = some x) (hx:Loc X.env.scope x) (r:RelV v u)
  (h:∀ s',Inv X pins (σ.set i (some v)) H s'→(∃ a,Heap.SameBut a s.heap s'.heap∧(a=X.env.locals∨X.env.cells.lookup x=some a))→Q () s') (hf:X.fn x=true∨X.env.scope.names.lookup x=some .local:=by first | exact .inl rfl | exact .inr rfl | assumption) : wpAny M A (storeName X.env x u) Q E s:=by
 obtain ⟨m,hn,hl⟩:=id I.loc
 have hcls:(X.env.scope.kind == .class || (X.env.scope.kind == .module && X.env.locals != X.env.globals))=false:=by rw [I.ok.kind]; rfl
 have hiσ:i < σ.length:=by rw [I.len]; exact (List.getElem?_eq_some_iff.mp hi).1
 have cne:=I.cne
 have tracked:∀ {a:Addr} {h':Heap},(∃ o,s.heap.get? a=some o∧H a=none)→Heap.SameBut a s.heap h'→HOk X.prog X.w H h':=fun {a h'} ha hs b ob e=>by
  obtain ⟨_,_,hfree⟩:=ha
  refine (I.hok b ob e).stay (fun c w' hc q=>(hs.2 c ?_).trans q) (fun _ q=>q) fun _ _ q=>q
  rintro rfl
  rcases hc with rfl | hc
  ·rw [hfree] at e; cases e
  ·rw [hfree] at hc; cases hc
 rcases hx with hk | hk
 ·refine wpAny_storeName_local hk hn (fun h' hn' hs=>?_) hcls
  obtain ⟨oL,_,_,hoL,_⟩:=id hn
  refine h _ ⟨I.ok,I.os,I.bare,⟨fun b o e n hb hx=>?_,fun b o e n hb hx=>?_,I.base.free,fun b o e hx=>?_,I.base.tups,I.base.frzs,I.base.tbls⟩,⟨_,hn',fun j y v' e1 e2 e3=>?_⟩,fun y c e=>?_,I.free,I.freeC,fun p hp=>?_,tracked ⟨oL,hoL,I.free⟩ hs,by simpa using I.len⟩ ⟨_,hs,.inl rfl⟩
  ·exact (hs.2 b (Nat.ne_of_lt (Nat.lt_of_lt_of_le (Heap.lt_size e) I.ok.above))).trans (I.base.keep b o e n hb hx)
  ·obtain ⟨sl,e1⟩:=I.base.slot b o e n hb hx
   exact ⟨sl,(hs.2 b (Nat.ne_of_lt (Nat.lt_of_lt_of_le (Heap.lt_size e) I.ok.above))).trans e1⟩
  ·obtain ⟨o',e1⟩:=I.base.there b o e hx
   exact ⟨o',(hs.2 b (Nat.ne_of_lt (Nat.lt_of_lt_of_le (Heap.lt_size e) I.ok.above))).trans e1⟩
  ·by_cases hj:j=i
   ·subst hj
    rw [hi] at e1; cases e1
    rw [List.getElem?_set_self hiσ] at e2
    cases e2
    exact ⟨u,r,.inl ⟨hk,by simp⟩⟩
   ·rw [List.getElem?_set_ne (Ne.symm hj)] at e2
    obtain ⟨u',r',q⟩:=hl j y v' e1 e2 e3
    refine ⟨u',r',?_⟩
    rcases q with ⟨k,e⟩ | ⟨k,c,e,z⟩
    ·refine .inl ⟨k,?_⟩
     have:y≠x:=fun e=>hj (nodup_ix hN e1 (e ▸ hi))
     simp [this,e]
    ·exact .inr ⟨k,c,e,z.sameBut hs (cne y c e)⟩
  ·obtain ⟨w',z⟩:=I.cell y c e
   exact ⟨w',z.sameBut hs (cne y c e)⟩
  ·obtain ⟨e,n,ne,nf,d⟩:=I.pin p hp
   exact ⟨(hs.2 p.1 ne).trans e,n,ne,nf,d⟩
 ·have hfn:X.fn x=true:=by
   rcases hf with z | z
   ·exact z
   ·rw [z] at hk; cases hk
  obtain ⟨c,hc⟩:=I.ok.has x (.inl hk)
  obtain ⟨w',z⟩:=I.cell x c hc
  refine wpAny_storeName_cell I.ok.kind hk hc z (fun h' hc' hs=>?_)
  obtain ⟨oc,hoc,hocd⟩:=id z
  refine h { s with heap:=h' } ⟨I.ok,I.os,I.bare,⟨fun b o e n hb hx=>?_,fun b o e n hb hx=>?_,I.base.free,fun b o e hx=>?_,I.base.tups,I.base.frzs,I.base.tbls⟩,⟨m,hn.sameBut hs (Ne.symm (cne x c hc)),fun j y v' e1 e2 e3=>?_⟩,fun y c' e=>?_,I.free,I.freeC,fun p hp=>?_,tracked ⟨oc,hoc,I.freeC x c hc⟩ hs,by simpa using I.len⟩ ⟨c,hs,.inr hc⟩
  ·exact (hs.2 b (Nat.ne_of_lt (Nat.lt_of_lt_of_le (Heap.lt_size e) (I.ok.cab x c hfn hc)))).trans (I.base.keep b o e n hb hx)
  ·obtain ⟨sl,e1⟩:=I.base.slot b o e n hb hx
   exact ⟨sl,(hs.2 b (Nat.ne_of_lt (Nat.lt_of_lt_of_le (Heap.lt_size e) (I.ok.cab x c hfn hc)))).trans e1⟩
  ·obtain ⟨o',e1⟩:=I.base.there b o e hx
   exact ⟨o',(hs.2 b (Nat.ne_of_lt (Nat.lt_of_lt_of_le (Heap.lt_size e) (I.ok.cab x c hfn hc)))).trans e1⟩
  ·by_cases hj:j=i
   ·subst hj
    rw [hi] at e1; cases e1
    rw [List.getElem?_set_self hiσ] at e2
    cases e2
    exact ⟨u,r,.inr ⟨.inl hk,c,hc,hc'⟩⟩
   ·rw [List.getElem?_set_ne (Ne.symm hj)] at e2
    obtain ⟨u',r',q⟩:=hl j y v' e1 e2 e3
    refine ⟨u',r',?_⟩
    rcases q with q | ⟨k,c',e,z'⟩
    ·exact .inl q
    ·refine .inr ⟨k,c',e,z'.sameBut hs ?_⟩
     rintro rfl
     exact hj (nodup_ix hN e1 (I.ok.inj _ _ _ e hc ▸ hi))
  ·by_cases hcc:c' = c
   ·subst hcc; exact ⟨_,hc'⟩
   ·obtain ⟨w2,z2⟩:=I.cell y c' e
    exact ⟨w2,z2.sameBut hs hcc⟩
  ·obtain ⟨e,n,ne,nf,d⟩:=I.pin p hp
   refine ⟨(hs.2 p.1 ?_).trans e,n,ne,nf,d⟩
   intro q
   rw [q,hoc] at e
   have q':oc=p.2:=Option.some.inj e
   exact d w' (by rw [← q']; exact hocd)
theorem store_ok {M:Model} {A:Around} {E:Value→Shared→Prop} {i:Nat} {x:Str} {v:V} {u:Value} {Q:Unit→Shared→Prop} (I:Inv X pins σ H s) (hN:X.N.Nodup) (hi:X.N[i]? = some x) (hx:Loc X.env.scope x) (r:RelV v u)
  (h:∀ s',Inv X pins (σ.set i (some v)) H s'→Q () s') (hf:X.fn x=true∨X.env.scope.names.lookup x=some .local:=by first | exact .inl rfl | exact .inr rfl | assumption) : wpAny M A (storeName X.env x u) Q E s:=
 store_ok2 I hN hi hx r (fun s' I' _=>h s' I') hf
theorem Inv.call' {s':Shared} {ch:List Addr} (I:Inv X pins σ H s) (ho:s'.os=s.os) (u:Un (frs X.stack) ch H H' s.heap s'.heap) (hok:HOk X.prog X.w H' s'.heap) (hg:AllBare s'.gens)
  (hch:∀ b ∈ ch,(b ∈ X.ex∨X.s₀.heap.objs.size≤b)∧b≠X.env.locals∧(∀ x c,X.env.cells.lookup x=some c→c≠b)∧∀ p ∈ X.pn++pins,p.1≠b) : Inv X pins σ H' s':=by
 obtain ⟨h',g',d',t',o'⟩:=s'
 have e:o' = s.os:=ho
 subst e
 exact I.call (g':=g') (t':=t') (d':=d') u hok hg hch
end

abbrev XK:=Value→Option Addr→Hp→Prop
abbrev St:=List (Option V)
abbrev VK:=V→Hp→Prop
abbrev TE:=St→Hp→VK→Prop
abbrev TT:=St→Hp→(Bool→Hp→Prop)→Prop
abbrev TA:=St→Hp→(List V→Hp→Prop)→Prop
structure Ends where
 nx:St→Hp→Prop
 rt:VK
 bk:St→Hp→Prop:=fun _ _=>False
 ct:St→Hp→Prop:=fun _ _=>False
abbrev TS:=Ends→St→Hp→Prop

def EP (X:Cx) (pins:List (Addr × Obj)) (σ:St) (Q:VK) (u:Value) (s':Shared) : Prop:=∃ v H',Inv X pins σ H' s'∧RelV v u∧Q v H'
def TP (X:Cx) (pins:List (Addr × Obj)) (σ:St) (Q:Bool→Hp→Prop) (b:Bool) (s':Shared) : Prop:=∃ H',Inv X pins σ H' s'∧Q b H'
def AP (X:Cx) (pins:List (Addr × Obj)) (σ:St) (Q:List V→Hp→Prop) (us:List Value) (s':Shared) : Prop:=∃ vs H',Inv X pins σ H' s'∧Vals vs us∧Q vs H'
def SP (X:Cx) (pins:List (Addr × Obj)) (D:Ends) (f:Flow) (s':Shared) : Prop:=
 match f with
 | .next=>∃ σ' H',Inv X pins σ' H' s'∧D.nx σ' H'
 | .brk=>∃ σ' H',Inv X pins σ' H' s'∧D.bk σ' H'
 | .cont=>∃ σ' H',Inv X pins σ' H' s'∧D.ct σ' H'
 | .ret u=>∃ v σ' H',Inv X pins σ' H' s'∧RelV v u∧D.rt v H'

def PE (X:Cx) (e:Expr) (t:TE) : Prop:=
 ∀ (pins:List (Addr × Obj)) (s:Shared) (σ:St) (H:Hp) (Q:VK),Inv X pins σ H s→t σ H Q→wpAny (model X.prog X.w) X.A (eval e X.env) (EP X pins σ Q) X.xe s
def PT (X:Cx) (e:Expr) (t:TT) : Prop:=
 ∀ (pins:List (Addr × Obj)) (s:Shared) (σ:St) (H:Hp) (Q:Bool→Hp→Prop),Inv X pins σ H s→t σ H Q→wpAny (model X.prog X.w) X.A (isTrue e X.env (eval e X.env)) (TP X pins σ Q) X.xe s
def PW (X:Cx) (e:Expr) (t:TT) : Prop:=
 ∀ (whole:Sem Value) (pins:List (Addr × Obj)) (s:Shared) (σ:St) (H:Hp) (Q:Bool→Hp→Prop),Inv X pins σ H s→t σ H Q→wpAny (model X.prog X.w) X.A (isTrue e X.env whole) (TP X pins σ Q) X.xe s
theorem PW.pt {X:Cx} {e:Expr} {t:TT} (h:PW X e t) : PT X e t:=h _
def PA (X:Cx) (es:List Expr) (t:TA) : Prop:=
 ∀ (pos:Pos) (pins:List (Addr × Obj)) (s:Shared) (σ:St) (H:Hp) (Q:List V→Hp→Prop),Inv X pins σ H s→t σ H Q→wpAny (model X.prog X.w) X.A (spliced (backTo pos (starEach es X.env))) (AP X pins σ Q) X.xe s
def PS (X:Cx) (st:Stmt) (t:TS) : Prop:=
 ∀ (pins:List (Addr × Obj)) (s:Shared) (σ:St) (H:Hp) (D:Ends),Inv X pins σ H s→t D σ H→wpAny (model X.prog X.w) X.A (exec st X.env) (SP X pins D) X.xe s
def PSs (X:Cx) (st:List Stmt) (t:TS) : Prop:=
 ∀ (pins:List (Addr × Obj)) (s:Shared) (σ:St) (H:Hp) (D:Ends),Inv X pins σ H s→t D σ H→wpAny (model X.prog X.w) X.A (execs st X.env) (SP X pins D) X.xe s
theorem thn {α:Type} {t:Sem α} {Q Q':α→Shared→Prop} {M:Model} {A:Around} {E:Value→Shared→Prop} {s:Shared} (h:wpAny M A t Q E s) (hQ:∀ a s,Q a s→Q' a s) : wpAny M A t Q' E s:=wpAny_mono h hQ fun _ _ x=>x
section
variable {X:Cx}

def tVar (i:Nat) : TE:=fun σ H Q=>∃ v,σ[i]? = some (some v)∧Q v H
def tC (v:V) : TE:=fun _ H Q=>Q v H
theorem pe_var {i:Nat} {x:Str} {pos:Pos} (hN:X.N[i]? = some x) (hv:Vis X.env.scope x) (hd:(x == ("__debug__" : Str))=false:=by decide) (hcd:(x == ("__classdict__" : Str))=false:=by decide) : PE X (.Name x pos) (tVar i):=by
 intro pins s σ H Q I h
 obtain ⟨v,e,h⟩:=h
 obtain ⟨m,hn,hl⟩:=I.loc
 obtain ⟨u,r,l⟩:=hl i x v hN e hv
 have fin:EP X pins σ Q u s:=⟨v,H,I,r,h⟩
 rcases l with ⟨hk,hm⟩ | ⟨hk,c,hc,hcell⟩
 ·exact wpAny_Name (wpAny_loadName_local I.ok.kind hk hn hm fin) hd
 ·rcases hk with hk | hk
  ·exact wpAny_Name (wpAny_loadName_cell I.ok.kind hk hc hcell fin) hd
  ·exact wpAny_Name (wpAny_loadName_free I.ok.kind hk hc hcell fin hcd) hd
theorem pe_int {i j pos} : PE X (.Constant (.int i) j pos) (tC (.int i)):=fun _ _ _ H _ I h=>wpAny_Constant_int ⟨.int i,H,I.tok _,⟨_,rfl⟩,h⟩
theorem pe_bl {b j pos} : PE X (.Constant (.bool b) j pos) (tC (.bl b)):=fun _ _ _ H _ I h=>Constant_bool ⟨.bl b,H,I,rfl,h⟩
theorem pe_non {j pos} : PE X (.Constant .none j pos) (tC .non):=fun _ _ _ H _ I h=>Constant_none ⟨.non,H,I,rfl,h⟩
theorem pe_str {x j pos} : PE X (.Constant (.str x) j pos) (tC (.str x)):=fun _ _ _ H _ I h=>Calls.Constant_str ⟨.str x,H,I.tok _,⟨_,rfl⟩,h⟩

def Gl (X:Cx) (x:Str) : Prop:=X.env.kindOf x=some .globalImplicit
theorem ld_glob {E:Value→Shared→Prop} {pins:List (Addr × Obj)} {s:Shared} {σ:St} {H:Hp} {x:Str} {u:Value} {pos:Pos} {Q:Value→Shared→Prop} (I:Inv X pins σ H s) (hg:Gl X x) (hm:X.mg x=some u) (h:Q u s)
  (hd:(x == ("__debug__" : Str))=false:=by decide) : wpAny (model X.prog X.w) X.A (eval (.Name x pos) X.env) Q E s:=
 Calls.Name_function_global I.ok.kind hg (Calls.loadGlobal_global (by rw [I.ok.glob]; exact I.mod.glob.keeps I.bk) hm h) hd
theorem ld_blt {E:Value→Shared→Prop} {pins:List (Addr × Obj)} {s:Shared} {σ:St} {H:Hp} {x:Str} {u:Value} {pos:Pos} {Q:Value→Shared→Prop} (I:Inv X pins σ H s) (hg:Gl X x) (hm:X.mg x=none) (hv:bootBuiltins x=some u) (h:Q u s)
  (hn:x≠"__name__":=by decide) (hd:(x == ("__debug__" : Str))=false:=by decide) : wpAny (model X.prog X.w) X.A (eval (.Name x pos) X.env) Q E s:=by
 obtain ⟨mb,h1,h2⟩:=I.mod.blt
 exact Calls.Name_function_global I.ok.kind hg (Calls.loadGlobal_builtin (by rw [I.ok.glob]; exact I.mod.glob.keeps I.bk) hm (by rw [I.ok.blt]; exact h1.keeps I.bk) ((h2 x hn).trans hv) h) hd
theorem pe_glob {x:Str} {v:V} {u:Value} {pos:Pos} (hg:Gl X x) (hm:X.mg x=some u) (r:RelV v u) (hd:(x == ("__debug__" : Str))=false:=by decide) : PE X (.Name x pos) (tC v):=
 fun _ _ _ H _ I h=>ld_glob I hg hm ⟨v,H,I,r,h⟩ hd
theorem pe_bltn {x:Str} {v:V} {u:Value} {pos:Pos} (hg:Gl X x) (hm:X.mg x=none) (hv:bootBuiltins x=some u) (r:RelV v u) (hn:x≠"__name__":=by decide) (hd:(x == ("__debug__" : Str))=false:=by decide) : PE X (.Name x pos) (tC v):=
 fun _ _ _ H _ I h=>ld_blt I hg hm hv ⟨v,H,I,r,h⟩ hn hd

variable {a b:Expr} {ta tb:TE} {pos:Pos}
def tB (t:TE) : TT:=fun σ H Q=>t σ H fun x H1=>∃ c,x = .bl c∧Q c H1
theorem pt_val {e:Expr} {t:TE} (h:PE X e t) (he:∀ whole,isTrue e X.env whole=(do let v ← whole; standAt e.pos; holding [v] (truthy v)):=by intro _; rfl) : PT X e (tB t):=by
 intro pins s σ H Q I hw
 refine isTrue_plain (thn (h pins s σ H _ I hw) fun v s1 ⟨x,H1,I1,r1,q1⟩=>?_) (he _)
 obtain ⟨d,rfl,q⟩:=q1
 cases r1
 exact wpAny_truthy_bool ⟨H1,I1,q⟩

variable {tA tB':TT} {rest:List Expr}
def tAnd (t u:TT) : TT:=fun σ H Q=>t σ H fun c H1=>if c=true then u σ H1 Q else Q false H1
def tOr (t u:TT) : TT:=fun σ H Q=>t σ H fun c H1=>if c=true then Q true H1 else u σ H1 Q
def tNot (t:TT) : TT:=fun σ H Q=>t σ H fun c H1=>Q (!c) H1
theorem pw_and1 (ha:PT X a tA) : PW X (.BoolOp .And [a] pos) tA:=by
 intro wh pins s σ H Q I h
 refine isTrue_and (thn (ha pins s σ H Q I h) fun c s1 e=>?_)
 cases c with
 | true=>exact isTrue_and_nil e
 | false=>exact e
theorem pw_or1 (ha:PT X a tA) : PW X (.BoolOp .Or [a] pos) tA:=by
 intro wh pins s σ H Q I h
 refine isTrue_or (thn (ha pins s σ H Q I h) fun c s1 e=>?_)
 cases c with
 | false=>exact isTrue_or_nil e
 | true=>exact e
theorem pw_and (ha:PT X a tA) (hb:PW X (.BoolOp .And (b :: rest) pos) tB') : PW X (.BoolOp .And (a :: b :: rest) pos) (tAnd tA tB'):=by
 intro wh pins s σ H Q I h
 refine isTrue_and (thn (ha pins s σ H _ I h) fun c s1 ⟨H1,I1,q1⟩=>?_)
 cases c with
 | true=>exact hb wh pins s1 σ H1 Q I1 q1
 | false=>exact ⟨H1,I1,q1⟩
theorem pw_or (ha:PT X a tA) (hb:PW X (.BoolOp .Or (b :: rest) pos) tB') : PW X (.BoolOp .Or (a :: b :: rest) pos) (tOr tA tB'):=by
 intro wh pins s σ H Q I h
 refine isTrue_or (thn (ha pins s σ H _ I h) fun c s1 ⟨H1,I1,q1⟩=>?_)
 cases c with
 | true=>exact ⟨H1,I1,q1⟩
 | false=>exact hb wh pins s1 σ H1 Q I1 q1
theorem pt_not (ha:PT X a tA) : PT X (.UnaryOp .Not a pos) (tNot tA):=by
 intro pins s σ H Q I h
 exact isTrue_not (ha pins s σ H (fun c H1=>Q (!c) H1) I h)
def tAndV (ta tb:TE) : TE:=fun σ H Q=>ta σ H fun x H1=>∃ c,x = .bl c∧if c=true then tb σ H1 Q else Q (.bl false) H1
def tOrV (ta tb:TE) : TE:=fun σ H Q=>ta σ H fun x H1=>∃ c,x = .bl c∧if c=true then Q (.bl true) H1 else tb σ H1 Q
def tNotV (ta:TE) : TE:=fun σ H Q=>ta σ H fun x H1=>∃ c,x = .bl c∧Q (.bl (!c)) H1
theorem pe_one {op} {t:TE} (h:PE X a t) : PE X (.BoolOp op [a] pos) t:=fun pins s σ H Q I hw=>BoolOp_one (h pins s σ H Q I hw)
theorem pe_and (ha:PE X a ta) (hb:PE X (.BoolOp .And (b :: rest) pos) tb) : PE X (.BoolOp .And (a :: b :: rest) pos) (tAndV ta tb):=by
 intro pins s σ H Q I h
 refine BoolOp_and (thn (ha pins s σ H _ I h) fun v s1 ⟨x,H1,I1,r1,q1⟩=>?_)
 obtain ⟨c,rfl,q1⟩:=q1
 cases r1
 refine wpAny_truthy_bool ?_
 cases c with
 | true=>exact hb pins s1 σ H1 Q I1 q1
 | false=>exact ⟨.bl false,H1,I1,rfl,q1⟩
theorem pe_or (ha:PE X a ta) (hb:PE X (.BoolOp .Or (b :: rest) pos) tb) : PE X (.BoolOp .Or (a :: b :: rest) pos) (tOrV ta tb):=by
 intro pins s σ H Q I h
 refine BoolOp_or (thn (ha pins s σ H _ I h) fun v s1 ⟨x,H1,I1,r1,q1⟩=>?_)
 obtain ⟨c,rfl,q1⟩:=q1
 cases r1
 refine wpAny_truthy_bool ?_
 cases c with
 | false=>exact hb pins s1 σ H1 Q I1 q1
 | true=>exact ⟨.bl true,H1,I1,rfl,q1⟩
theorem pe_not (ha:PE X a ta) : PE X (.UnaryOp .Not a pos) (tNotV ta):=by
 intro pins s σ H Q I h
 refine UnaryOp_ (thn (ha pins s σ H _ I h) fun v s1 ⟨x,H1,I1,r1,q1⟩=>?_)
 obtain ⟨c,rfl,q1⟩:=q1
 cases r1
 exact not_of (wpAny_truthy_bool ⟨.bl (!c),H1,I1,rfl,q1⟩)
end

def SqL (K:PySem.W.Frag) (H:Hp) (a:Addr) (xs:List V) : Prop:=
 Rd H a (.lst xs) ∨
  ∃ (o:Obj) (its:Array Value) (n:Nat),K.lookup a=some o∧o.cls = .type "list"∧o.dict=none∧o.data = .seq its n∧its.size≤sizeLine∧Vals xs its.toList
def SqT (K:PySem.W.Frag) (H:Hp) (a:Addr) (xs:List V) : Prop:=
 Rd H a (.tup xs) ∨
  ∃ (o:Obj) (its:Array Value) (n:Nat),K.lookup a=some o∧o.cls = .type "tuple"∧o.data = .seq its n∧its.size≤sizeLine∧Vals xs its.toList
def absV:Value→Option V
 | .none=>some .non
 | .bool b=>some (.bl b)
 | .int i _=>some (.int i)
 | .str x _=>some (.str x)
 | .bytes b _=>some (.byt b)
 | .float b _=>some (.flt b)
 | .ref a=>some (.ref a)
 | .type n=>some (.ty n)
 | _=>none
theorem RelV.abs {x:V} {u:Value} (r:RelV x u) : absV u=some x:=by
 cases x with
 | non=>cases r; rfl
 | bl _=>cases r; rfl
 | int _=>obtain ⟨t,rfl⟩:=r; rfl
 | str _=>obtain ⟨t,rfl⟩:=r; rfl
 | byt _=>obtain ⟨t,rfl⟩:=r; rfl
 | flt _=>obtain ⟨t,rfl⟩:=r; rfl
 | ref _=>cases r; rfl
 | ty _=>cases r; rfl
theorem RelV.inj {x y:V} {u:Value} (r:RelV x u) (q:RelV y u) : x=y:=Option.some.inj (r.abs.symm.trans q.abs)
theorem Vals.inj:∀ {xs ys:List V} {us:List Value},Vals xs us→Vals ys us→xs=ys
 | _,_,_,.nil,.nil=>rfl
 | _,_,_,.cons r t,.cons r' t'=>by rw [r.inj r',Vals.inj t t']
section
variable {X:Cx} {pins:List (Addr × Obj)} {σ:St} {H:Hp} {s:Shared} {a:Addr} {xs ys:List V}
theorem SqL.of {K:PySem.W.Frag} (h:H a=some (.lst xs)) : SqL K H a xs:=.inl (.inl h)
theorem SqT.of {K:PySem.W.Frag} (h:H a=some (.tup xs)) : SqT K H a xs:=.inl (.inl h)
theorem Inv.list (I:Inv X pins σ H s) (h:SqL X.K H a xs) : ∃ its:List Value,Vals xs its∧PlainL s.heap a its.toArray∧xs.length≤sizeLine:=by
 rcases h with h | ⟨o,its,n,hk,hc,hd,hs,hz,r⟩
 ·obtain ⟨z,its,n,r,e⟩:=h.ok I.hok
  exact ⟨its,r,⟨_,n,e,rfl,rfl,rfl⟩,z⟩
 ·refine ⟨its.toList,r,⟨o,n,I.kIn a o hk,hc,hd,by simpa using hs⟩,?_⟩
  have e:=r.length
  simp only [Array.length_toList] at e
  omega
theorem Inv.tuple (I:Inv X pins σ H s) (h:SqT X.K H a xs) : ∃ its:List Value,Vals xs its∧IsTup s.heap a its.toArray∧xs.length≤sizeLine:=by
 rcases h with h | ⟨o,its,n,hk,hc,hs,hz,r⟩
 ·obtain ⟨z,its,r,p⟩:=h.ok I.hok
  exact ⟨its,r,p,z⟩
 ·refine ⟨its.toList,r,⟨o,I.kIn a o hk,hc,n,by simpa using hs⟩,?_⟩
  have e:=r.length
  simp only [Array.length_toList] at e
  omega
theorem Inv.list_inj (I:Inv X pins σ H s) (h:SqL X.K H a xs) (h':SqL X.K H a ys) : xs=ys:=by
 obtain ⟨its,r,⟨o,n,e,_,_,d⟩,_⟩:=I.list h
 obtain ⟨its',r',⟨o',n',e',_,_,d'⟩,_⟩:=I.list h'
 rw [e] at e'; cases e'
 rw [d] at d'
 injection d' with d1 _
 have:its=its':=by simpa using congrArg Array.toList d1
 subst this
 exact r.inj r'
end

abbrev Cx.wish (X:Cx) (E:Value→Shared→Prop) : Cx:={ X with xe:=E }
abbrev Cx.nox (X:Cx) : Cx:=X.wish fun _ _=>False
theorem Cx.Ok.wish {X:Cx} (ok:X.Ok) (E:Value→Shared→Prop) : (X.wish E).Ok:=
 ⟨ok.mod,ok.kind,ok.glob,ok.blt,ok.above,ok.inj,ok.has,ok.cab,ok.hd,ok.frames,ok.stk,ok.exf,ok.bs,ok.bsz,ok.noex,ok.exfs,ok.funs,ok.frf⟩
theorem Cx.Ok.unwish {X:Cx} {E:Value→Shared→Prop} (ok:(X.wish E).Ok) : X.Ok:=
 ⟨ok.mod,ok.kind,ok.glob,ok.blt,ok.above,ok.inj,ok.has,ok.cab,ok.hd,ok.frames,ok.stk,ok.exf,ok.bs,ok.bsz,ok.noex,ok.exfs,ok.funs,ok.frf⟩
section
variable {X:Cx} {pins:List (Addr × Obj)} {σ:St} {H:Hp} {s:Shared} {E:Value→Shared→Prop}
theorem Inv.wish (I:Inv X pins σ H s) (E:Value→Shared→Prop) : Inv (X.wish E) pins σ H s:=⟨I.ok.wish E,I.os,I.bare,I.base,I.loc,I.cell,I.free,I.freeC,I.pin,I.hok,I.len⟩
theorem Inv.unwish (I:Inv (X.wish E) pins σ H s) : Inv X pins σ H s:=⟨I.ok.unwish,I.os,I.bare,I.base,I.loc,I.cell,I.free,I.freeC,I.pin,I.hok,I.len⟩
theorem SP.unwish {D:Ends} {f:Flow} {s':Shared} (h:SP (X.wish E) pins D f s') : SP X pins D f s':=by
 cases f with
 | next=>obtain ⟨σ',H',I,q⟩:=h; exact ⟨σ',H',I.unwish,q⟩
 | brk=>obtain ⟨σ',H',I,q⟩:=h; exact ⟨σ',H',I.unwish,q⟩
 | cont=>obtain ⟨σ',H',I,q⟩:=h; exact ⟨σ',H',I.unwish,q⟩
 | ret u=>obtain ⟨v,σ',H',I,r,q⟩:=h; exact ⟨v,σ',H',I.unwish,r,q⟩
theorem PE.nox {e:Expr} {t:TE} (h:PE X.nox e t) : PE X e t:=fun pins s σ H Q I hw =>
 wpAny_mono (h pins s σ H Q (I.wish _) hw) (fun _ _ ⟨v,H',I',r,q⟩=>⟨v,H',I'.unwish,r,q⟩) fun _ _ z=>False.elim z
theorem PT.nox {e:Expr} {t:TT} (h:PT X.nox e t) : PT X e t:=fun pins s σ H Q I hw =>
 wpAny_mono (h pins s σ H Q (I.wish _) hw) (fun _ _ ⟨H',I',q⟩=>⟨H',I'.unwish,q⟩) fun _ _ z=>False.elim z
theorem PSs.nox {st:List Stmt} {t:TS} (h:PSs X.nox st t) : PSs X st t:=fun pins s σ H D I hw =>
 wpAny_mono (h pins s σ H D (I.wish _) hw) (fun _ _ q=>q.unwish) fun _ _ z=>False.elim z
end

section
variable {X:Cx} {st:Stmt} {rest:List Stmt} {t u:TS} {e:Expr} {te:TE} {pos:Pos}
def tNext:TS:=fun D σ H=>D.nx σ H
def tSeq (t u:TS) : TS:=fun D σ H=>t { D with nx:=u D } σ H
theorem pss_nil:PSs X [] tNext:=fun _ _ σ H _ I h=>wpAny_execs_nil ⟨σ,H,I,h⟩
theorem pss_cons (h1:PS X st t) (h2:PSs X rest u) : PSs X (st :: rest) (tSeq t u):=by
 intro pins s σ H D I h
 refine wpAny_execs_cons (thn (h1 pins s σ H { D with nx:=u D } I h) fun f s1 q=>?_)
 cases f with
 | next =>
  obtain ⟨σ',H',I',q⟩:=q
  exact h2 pins s1 σ' H' D I' q
 | ret v=>exact q
 | brk=>exact q
 | cont=>exact q
theorem pss_one (h1:PS X st t) : PSs X [st] t:=by
 intro pins s σ H D I h
 refine wpAny_execs_cons (thn (h1 pins s σ H D I h) fun f s1 q=>?_)
 cases f with
 | next=>exact wpAny_execs_nil q
 | ret v=>exact q
 | brk=>exact q
 | cont=>exact q
theorem Inv.quiet {pins:List (Addr × Obj)} {σ:St} {H:Hp} {s:Shared} (I:Inv X pins σ H s) : interactive X.env=false:=by simp [interactive,I.ok.kind]
def tDrop (te:TE) : TS:=fun D σ H=>te σ H fun _ H1=>D.nx σ H1
theorem ps_expr (he:PE X e te) (hs:swapsWith e none pos.line X.env=pure false:=by rfl) : PS X (.Expr e pos) (tDrop te):=by
 intro pins s σ H D I h
 exact wpAny_Expr_any (thn (he pins s σ H _ I h) fun v s1 ⟨x,H1,I1,r1,q1⟩=>⟨σ,H1,I1,q1⟩) I.quiet hs
def tRet (te:TE) : TS:=fun D σ H=>te σ H D.rt
theorem ps_ret (he:PE X e te) : PS X (.Return (some e) pos) (tRet te):=by
 intro pins s σ H D I h
 exact wpAny_Return_some (thn (he pins s σ H _ I h) fun v s1 ⟨x,H1,I1,r1,q1⟩=>⟨x,σ,H1,I1,r1,q1⟩)
def tIfS (c:TT) (t u:TS) : TS:=fun D σ H=>c σ H fun b H1=>if b=true then t D σ H1 else u D σ H1
theorem ps_if {c:Expr} {a b:List Stmt} {tc:TT} (hc:PT X c tc) (ha:PSs X a t) (hb:PSs X b u) : PS X (.If c a b pos) (tIfS tc t u):=by
 intro pins s σ H D I h
 refine wpAny_If (thn (hc pins s σ H _ I h) fun d s1 ⟨H1,I1,q1⟩=>?_)
 cases d with
 | true=>exact ha pins s1 σ H1 D I1 q1
 | false=>exact hb pins s1 σ H1 D I1 q1
end

abbrev TG:=V→St→Hp→(St→Hp→Prop)→Prop
abbrev TGs:=List V→St→Hp→(St→Hp→Prop)→Prop
def PG (X:Cx) (target:Expr) (t:TG) : Prop:=
 ∀ (pins:List (Addr × Obj)) (s:Shared) (σ:St) (H:Hp) (v:V) (u:Value) (Q:St→Hp→Prop),Inv X pins σ H s→RelV v u→t v σ H Q →
  wpAny (model X.prog X.w) X.A (assign target X.env u) (fun _ s'=>∃ σ' H',Inv X pins σ' H' s'∧Q σ' H') X.xe s
def PGs (X:Cx) (ts:List Expr) (t:TGs) : Prop:=
 ∀ (pins:List (Addr × Obj)) (s:Shared) (σ:St) (H:Hp) (vs:List V) (us:List Value) (Q:St→Hp→Prop),Inv X pins σ H s→Vals vs us→t vs σ H Q →
  wpAny (model X.prog X.w) X.A (assignInOrder ((assignEach ts X.env).map (·.2)) us) (fun _ s'=>∃ σ' H',Inv X pins σ' H' s'∧Q σ' H') X.xe s
abbrev TSet:=V→V→V→Hp→(Hp→Prop)→Prop
def PSet (X:Cx) (t:TSet) : Prop:=
 ∀ (pins:List (Addr × Obj)) (s:Shared) (σ:St) (H:Hp) (o i v:V) (ov iv u:Value) (Q:Hp→Prop),Inv X pins σ H s→RelV o ov→RelV i iv→RelV v u→t o i v H Q →
  wpAny (model X.prog X.w) X.A (setItem ov iv u) (fun _ s'=>∃ H',Inv X pins σ H' s'∧Q H') X.xe s
section
variable {X:Cx} {pos:Pos}
def gName (i:Nat) : TG:=fun v σ H Q=>Q (σ.set i (some v)) H
theorem pg_name {i:Nat} {x:Str} (hN:X.N.Nodup) (hi:X.N[i]? = some x) (hx:Loc X.env.scope x) (hf:X.fn x=true∨X.env.scope.names.lookup x=some .local:=by first | exact .inl rfl | exact .inr rfl | assumption) : PG X (.Name x pos) (gName i):=by
 intro pins s σ H v u Q I r h
 exact wpAny_assign_Name (store_ok I hN hi hx r (fun s' I'=>⟨_,H,I',h⟩) hf)
def gNil:TGs:=fun vs σ H Q=>vs=[]∧Q σ H
def gCons (t:TG) (u:TGs) : TGs:=fun vs σ H Q=>∃ v r,vs=v :: r∧t v σ H fun σ' H'=>u r σ' H' Q
theorem pgs_nil:PGs X [] gNil:=by
 intro pins s σ H vs us Q I r h
 obtain ⟨e,h⟩:=h
 subst e
 cases r
 exact assignInOrder_nil ⟨σ,H,I,h⟩
theorem pgs_cons {e:Expr} {es:List Expr} {t:TG} {u:TGs} (h1:PG X e t) (h2:PGs X es u)
  (hs:(assignEach (e :: es) X.env).map (·.2)=assign e X.env :: (assignEach es X.env).map (·.2):=by rfl) : PGs X (e :: es) (gCons t u):=by
 intro pins s σ H vs us Q I r h
 obtain ⟨v,vr,e1,h⟩:=h
 subst e1
 cases r with
 | cons r rr =>
  rw [hs]
  refine assignInOrder_cons (thn (h1 pins s σ H _ _ _ I r h) fun _ s1 ⟨σ1,H1,I1,q1⟩=>?_)
  exact h2 pins s1 σ1 H1 _ _ Q I1 rr q1
def gTup (K:PySem.W.Frag) (n:Nat) (t:TGs) : TG:=fun v σ H Q=>∃ a xs,v = .ref a∧SqT K H a xs∧xs.length=n∧t xs σ H Q
theorem pg_tup {es:List Expr} {k:Nat} {t:TGs} {n:Nat} (hc:X.calm=true) (h:PGs X es t)
  (hn:(assignEach es X.env).length=n:=by rfl) (hst:(assignEach es X.env).findIdx? (·.1)=none:=by rfl) : PG X (.Tuple es k pos) (gTup X.K n t):=by
 intro pins s σ H v u Q I r hw
 obtain ⟨a,xs,e1,hq,hl,hw⟩:=hw
 subst e1
 cases r
 obtain ⟨its,rv,ht,hz⟩:=I.tuple hq
 refine assign_Tuple_tuple (I.ok.hd hc) ht (by simp [hn,← hl,rv.length]) hst fun h' hx=>?_
 have I1:Inv X pins σ H { s with heap:=h' }:=I.kept (t':=s.toks) fun b o e=>hx b o (Nat.ne_of_lt (Heap.lt_size e)) e
 exact h pins _ σ H xs _ Q I1 (by simpa using rv) hw
def gSub (to ti:TE) (t:TSet) : TG:=fun v σ H Q=>to σ H fun o H1=>ti σ H1 fun i H2=>t o i v H2 fun H3=>Q σ H3
theorem pg_sub {o i:Expr} {to ti:TE} {t:TSet} (ho:PE X o to) (hi:PE X i ti) (hs:PSet X t)
  (ha:∀ v,assign (.Subscript o i pos) X.env v=(do
   let ov ← holding [v] (eval o X.env)
   let iv ← holding [v,ov] (eval i X.env)
   standAt pos
   holding [v,ov,iv] (setItem ov iv v)
   release [v,ov,iv] []):=by intro _; rfl) : PG X (.Subscript o i pos) (gSub to ti t):=by
 intro pins s σ H v u Q I r h
 rw [ha]
 refine wpAny_bind (wpAny_holding (thn (ho pins s σ H _ I h) fun ov s1 ⟨x,H1,I1,r1,q1⟩=>?_))
 refine wpAny_bind (wpAny_holding (thn (hi pins s1 σ H1 _ I1 q1) fun iv s2 ⟨y,H2,I2,r2,q2⟩=>?_))
 refine wpAny_bind (wpAny_standAt (wpAny_bind (wpAny_holding (thn (hs pins s2 σ H2 x y v ov iv u _ I2 r1 r2 r q2) fun _ s3 ⟨H3,I3,q3⟩=>?_))))
 exact wpAny_release ⟨σ,H3,I3,q3⟩
def tAsg (te:TE) (g:TG) : TS:=fun D σ H=>te σ H fun x H1=>g x σ H1 D.nx
theorem ps_asg {tg e:Expr} {te:TE} {g:TG} (he:PE X e te) (hg:PG X tg g) (hs:swapsWithSole [tg] e pos.line X.env=pure false:=by rfl) (hw:swappedStores [tg] e X.env=pure none:=by rfl)
  (h1:(assignEach [tg] X.env).map (·.2)=[assign tg X.env]:=by rfl) : PS X (.Assign [tg] e pos) (tAsg te g):=by
 intro pins s σ H D I h
 refine wpAny_Assign_stores (thn (he pins s σ H _ I h) fun v s1 ⟨x,H1,I1,r1,q1⟩=>?_) hs hw
 rw [h1]
 exact thn (hg pins s1 σ H1 x v _ I1 r1 q1) fun _ s2 q=>q
theorem ps_set {i:Nat} {x:Str} {e:Expr} {te:TE} {pos':Pos} (hN:X.N.Nodup) (hi:X.N[i]? = some x) (hx:Loc X.env.scope x) (he:PE X e te) (hs:swapsWith e (some (.Name x pos')) pos.line X.env=pure false:=by rfl) (hf:X.fn x=true∨X.env.scope.names.lookup x=some .local:=by first | exact .inl rfl | exact .inr rfl | assumption) :
  PS X (.Assign [.Name x pos'] e pos) (tAsg te (gName i)):=by
 intro pins s σ H D I h
 refine wpAny_Assign_Name (thn (he pins s σ H _ I h) fun v s1 ⟨y,H1,I1,r1,q1⟩=>?_) hs
 exact store_ok I1 hN hi hx r1 (fun s2 I2=>⟨_,H1,I2,q1⟩) hf
end

section
variable {X:Cx} {pos:Pos}
end

structure It where
 go:Nat→Hp→Prop
 yld:Nat→Hp→V→Hp→Prop
 stop:Nat→Hp→Prop
def FpOk (X:Cx) (pins:List (Addr × Obj)) (H:Hp) (b:Addr) : Prop:=
 H b=none∧b≠X.env.locals∧b ∉ X.fs∧(b ∈ X.ex∨X.s₀.heap.objs.size≤b)∧(∀ x c,X.env.cells.lookup x=some c→c≠b)∧∀ p ∈ X.pn++pins,p.1≠b
theorem Inv.fpOk {X:Cx} {pins:List (Addr × Obj)} {σ:St} {H H':Hp} {s:Shared} {b:Addr} (I:Inv X pins σ H s) (hb:s.heap.objs.size≤b) (hn:H' b=none) : FpOk X pins H' b:=by
 refine ⟨hn,Nat.ne_of_gt (Nat.lt_of_lt_of_le I.lt hb),I.nofs hb,.inr (Nat.le_trans I.sz hb),fun x c e z=>?_,fun p hp z=>?_⟩
 ·obtain ⟨v,q⟩:=I.cell x c e
  exact absurd (Nat.lt_of_lt_of_le q.lt (by rw [z]; exact hb)) (Nat.lt_irrefl _)
 ·exact absurd (Nat.lt_of_lt_of_le (Heap.lt_size (I.pin p hp).1) (by rw [z]; exact hb)) (Nat.lt_irrefl _)
structure Turn (P:Program) (w:World) (K:PySem.W.Frag) (tg:Expr) (J:It) (fp:List Addr) (it:Addr) (tn:Nat→Heap→Prop) : Prop where
 mem:it ∈ fp
 obj:∀ i h,tn i h→∀ b ∈ fp,∃ o,h.get? b=some o∧∀ v,o.data≠.cell v
 keep:∀ i h h',tn i h→(∀ b ∈ fp,∀ o,h.get? b=some o→h'.get? b=some o)→tn i h'
 item:∀ (X:Cx),X.prog=P→X.w=w→X.K=K→X.calm=true→∀ (i:Nat) (pins:List (Addr × Obj)) (s:Shared) (σ:St) (H:Hp) (E:Value→Shared→Prop),Inv X pins σ H s→(∀ b ∈ fp,FpOk X pins H b)→tn i s.heap→J.go i H →
  wpAny (model P w) X.A (pyNext (.ref it)) (fun r s1=>∃ u,r=some u ∧
   wpAny (model P w) X.A (letOwnedTupleGo tg (.ref it) u) (fun _ s2=>∃ x H',Inv X pins σ H' s2∧RelV x u∧J.yld i H x H'∧tn (i+1) s2.heap∧∀ b ∈ fp,H' b=none) E s1) E s
 done:∀ (X:Cx),X.prog=P→X.w=w→X.K=K→X.calm=true→∀ (i:Nat) (pins:List (Addr × Obj)) (s:Shared) (σ:St) (H:Hp) (E:Value→Shared→Prop),Inv X pins σ H s→(∀ b ∈ fp,FpOk X pins H b)→tn i s.heap→J.stop i H →
  wpAny (model P w) X.A (pyNext (.ref it)) (fun r s1=>r=none∧Inv X pins σ H s1) E s
 self:∀ (A:Around) (i:Nat) (s:Shared) (Q:Value→Shared→Prop) (E:Value→Shared→Prop),tn i s.heap→Q (.ref it) s→wpAny (model P w) A (pyIter (.ref it)) Q E s
abbrev TI:=St→Hp→(It→Hp→Prop)→Prop
def PIE (X:Cx) (pins:List (Addr × Obj)) (σ:St) (tg:Expr) (R:It→Hp→Prop) (itv:Value) (s2:Shared) : Prop:=
 ∃ (it:Addr) (fp:List Addr) (tn:Nat→Heap→Prop) (J:It) (H':Hp),itv = .ref it∧Inv X pins σ H' s2∧Turn X.prog X.w X.K tg J fp it tn∧tn 0 s2.heap∧(∀ b ∈ fp,FpOk X pins H' b)∧R J H'
def PI (X:Cx) (tg iter:Expr) (wi:TI) : Prop:=
 ∀ (pins:List (Addr × Obj)) (s:Shared) (σ:St) (H:Hp) (R:It→Hp→Prop),Inv X pins σ H s→wi σ H R →
  wpAny (model X.prog X.w) X.A (eval iter X.env) (fun v s1=>wpAny (model X.prog X.w) X.A (pyIter v) (PIE X pins σ tg R) X.xe s1) X.xe s

theorem go_of {M:Model} {A:Around} {E:Value→Shared→Prop} {s:Shared} {tg:Expr} {it:Addr} {u:Value} {o:Obj} {n:String} {vs:Array Value} {Q:Unit→Shared→Prop} (ho:s.heap.get? it=some o) (hc:o.cls = .type n) (hd:o.data = .fields vs)
  (hn:["enumerate","zip","dict_itemiterator","dict_reverseitemiterator","odict_iterator","itertools.zip_longest","itertools.pairwise"].contains n=false) (hQ:Q () s) : wpAny M A (letOwnedTupleGo tg (.ref it) u) Q E s:=by
 unfold letOwnedTupleGo
 cases tg <;> first
  | exact wpAny_pure hQ
  | (cases u <;> first
    | exact wpAny_pure hQ
    | (refine wpAny_bind (wpAny_load ho ?_)
       rw [hc,hd]
       show wpAny M A (if (["enumerate","zip","dict_itemiterator","dict_reverseitemiterator","odict_iterator","itertools.zip_longest","itertools.pairwise"].contains n && vs[0]? == some (rawInt _))=true then _ else _) Q E s
       rw [if_neg (by intro h; rw [hn,Bool.false_and] at h; cases h)]
       exact wpAny_pure hQ))

def Itl (K:PySem.W.Frag) (a:Addr) : It:=
 ⟨fun i H=>∃ xs x,SqL K H a xs∧xs[i]? = some x,fun i H x H'=>H' = H∧∀ xs,SqL K H a xs→xs[i]? = some x,fun i H=>∃ xs,SqL K H a xs∧xs.length≤i⟩
def Itr (lo:Int) (n:Nat) : It:=⟨fun i _=>i < n,fun i H x H'=>H' = H∧x = .int (lo+i),fun i _=>n≤i⟩
theorem turn_list {P:Program} {w:World} {K:PySem.W.Frag} {tg:Expr} (a it:Addr) : Turn P w K tg (Itl K a) [it] it (fun i h=>h.IsListIter it a i) where
 mem:=by simp
 obj:=fun i h st b hb=>by
  have e:b=it:=by simpa using hb
  subst e
  obtain ⟨o,e,c,d⟩:=st
  exact ⟨o,e,fun v z=>by rw [d] at z; cases z⟩
 keep:=fun i h h' st k=>st.at fun o e=>k it (by simp) o e
 item:=by
  intro X hP hw hK hc i pins s σ H E I hf st hg
  subst hP hw hK
  obtain ⟨xs,x,hq,hx⟩:=hg
  obtain ⟨its,rv,p,hz⟩:=I.list hq
  obtain ⟨u,hu,ru⟩:=rv.get hx
  obtain ⟨f0,f1,f2,f3,f4,f5⟩:=hf it (by simp)
  refine wpAny_pyNext_list_item st p.isList (x:=u) (by simpa using hu) fun h' st' sb=>?_
  have I1:Inv X pins σ H { s with heap:=h' }:=I.turned (t':=s.toks) (fun b o hb e=>(sb.2 b hb).trans e) f0 f1 f3 f4 f5
  obtain ⟨o,e,c,d⟩:=id st'
  exact ⟨u,rfl,go_of (s:={ s with heap:=h' }) e c d (by decide) ⟨x,H,I1,ru,⟨rfl,fun ys hy=>by rw [I.list_inj hy hq]; exact hx⟩,st',fun b hb=>(hf b hb).1⟩⟩
 done:=by
  intro X hP hw hK hc i pins s σ H E I hf st hg
  subst hP hw hK
  obtain ⟨xs,hq,hx⟩:=hg
  obtain ⟨its,rv,p,hz⟩:=I.list hq
  obtain ⟨f0,f1,f2,f3,f4,f5⟩:=hf it (by simp)
  have hl:=rv.length
  exact wpAny_pyNext_list_end (I.ok.hd hc) st p.isList (by simp; omega) fun h' eb=>⟨rfl,I.turned (t':=s.toks) (fun b o hb e=>eb b o hb e) f0 f1 f3 f4 f5⟩
 self:=fun _ _ _ _ _ st h=>wpAny_pyIter_listiter st h
theorem turn_range {P:Program} {w:World} {K:PySem.W.Frag} {tg:Expr} (it:Addr) (lo:Int) (n:Nat) : Turn P w K tg (Itr lo n) [it] it (fun i h=>IsRangeIter h it (lo+(i:Nat) * 1) ((n:Int) - (i:Nat)) 1) where
 mem:=by simp
 obj:=fun i h st b hb=>by
  have e:b=it:=by simpa using hb
  subst e
  exact ⟨_,st,fun v z=>by
   have z':Data.fields _=Data.cell v:=z
   cases z'⟩
 keep:=fun i h h' st k=>k it (by simp) _ st
 item:=by
  intro X hP hw hK hc i pins s σ H E I hf st hg
  subst hP hw hK
  obtain ⟨f0,f1,f2,f3,f4,f5⟩:=hf it (by simp)
  have W:=Walks.range (prog:=X.prog) (w:=X.w) (I.ok.hd hc) it lo 1 n
  refine W.item i s _ _ hg st fun v h' tk hv st' kk=>?_
  obtain ⟨t,rfl⟩:=hv
  have I1:Inv X pins σ H { s with heap:=h',toks:=tk }:=I.turned (fun b o hb e=>kk b o (by simpa using hb) e) f0 f1 f3 f4 f5
  refine ⟨_,rfl,go_of (s:={ s with heap:=h',toks:=tk }) (n := "range_iterator") st' rfl rfl (by decide) ⟨.int (lo+i),H,I1,⟨t,?_⟩,⟨rfl,rfl⟩,st',fun b hb=>(hf b hb).1⟩⟩
  rw [Int.mul_one]
 done:=by
  intro X hP hw hK hc i pins s σ H E I hf st hg
  subst hP hw hK
  obtain ⟨f0,f1,f2,f3,f4,f5⟩:=hf it (by simp)
  exact wpAny_pyNext_range_end (I.ok.hd hc) st (by have:n≤i:=hg; omega) fun h' eb=>⟨rfl,I.turned (t':=s.toks) (fun b o hb e=>eb b o hb e) f0 f1 f3 f4 f5⟩
 self:=fun _ _ _ _ _ st h=>wpAny_pyIter_rangeiter st h
section
variable {X:Cx} {tg:Expr}
def iList (K:PySem.W.Frag) (tl:TE) : TI:=fun σ H R=>tl σ H fun x H1=>∃ a,x = .ref a∧(∃ xs,SqL K H1 a xs)∧R (Itl K a) H1
theorem pi_list {l:Expr} {tl:TE} (hl:PE X l tl) : PI X tg l (iList X.K tl):=by
 intro pins s σ H R I h
 refine thn (hl pins s σ H _ I h) fun v s1 ⟨x,H1,I1,r1,q1⟩=>?_
 obtain ⟨a,e,⟨xs,hq⟩,q⟩:=q1
 subst e
 cases r1
 obtain ⟨its,rv,p,hz⟩:=I1.list hq
 refine wpAny_pyIter_list p.isList ?_
 refine ⟨s1.heap.objs.size,[s1.heap.objs.size],_,_,H1,rfl,I1.kept (t':=s1.toks) fun b o e=>Heap.get?_push_of_some _ e,turn_list a _,⟨_,Heap.get?_push_size _ rfl,rfl,rfl⟩,fun b hb=>?_,q⟩
 have e:b=s1.heap.objs.size:=by simpa using hb
 subst e
 exact I1.fpOk (Nat.le_refl _) (I1.hok.fresh (Nat.le_refl _))
theorem range_it {pins:List (Addr × Obj)} {σ:St} {H:Hp} {s:Shared} {R:It→Hp→Prop} {E:Value→Shared→Prop} {lo hi:Int} {t u v:Tok} {tk:Nat} (I:Inv X pins σ H s) (h1:-(2 ^ 62)≤lo) (h2:lo < 2 ^ 62) (h3:-(2 ^ 62)≤hi) (h4:hi < 2 ^ 62)
  (q:R (Itr lo (hi - lo).toNat) H) : wpAny (model X.prog X.w) X.A (pyIter (.ref s.heap.objs.size)) (PIE X pins σ tg R) E { s with heap:=s.heap.push { cls:=.type "range",data:=.fields #[.int lo t,.int hi u,.int 1 v] },toks:=tk }:=by
 refine wpAny_pyIter_range (IsRange.new ..) (small_one h1 h2 h3 h4) ?_
 have I1:Inv X pins σ H { s with heap:=s.heap.push { cls:=.type "range",data:=.fields #[.int lo t,.int hi u,.int 1 v] },toks:=tk }:=I.kept fun b o e=>Heap.get?_push_of_some _ e
 refine ⟨(s.heap.push { cls:=.type "range",data:=.fields #[.int lo t,.int hi u,.int 1 v] }).objs.size,[(s.heap.push { cls:=.type "range",data:=.fields #[.int lo t,.int hi u,.int 1 v] }).objs.size],_,_,H,rfl,
  I1.kept (t':=tk) fun b o e=>Heap.get?_push_of_some _ e,turn_range _ lo (hi - lo).toNat,?_,fun b hb=>?_,q⟩
 ·have e1:lo+((0:Nat) : Int) * 1=lo:=by simp
  have e2:(((hi - lo).toNat:Nat) : Int) - ((0:Nat) : Int)=Builtin.Range.rangeSize lo hi 1:=by rw [rangeSize_one]; split <;> omega
  show IsRangeIter _ _ (lo+((0:Nat) : Int) * 1) ((((hi - lo).toNat:Nat) : Int) - ((0:Nat) : Int)) 1
  rw [e1,e2]
  exact Heap.get?_push_size _ rfl
 ·have e:b=(s.heap.push { cls:=.type "range",data:=.fields #[.int lo t,.int hi u,.int 1 v] }).objs.size:=by simpa using hb
  subst e
  exact I1.fpOk (Nat.le_refl _) (I1.hok.fresh (Nat.le_refl _))
def iRng1 (ta:TA) : TI:=fun σ H R=>ta σ H fun vs H1=>∃ j:Int,vs=[.int j]∧-(2 ^ 62)≤j∧j < 2 ^ 62∧R (Itr 0 j.toNat) H1
theorem pi_range1 {a:Expr} {ta:TA} {p pos:Pos} (hg:Gl X "range") (hm:X.mg "range" = none) (ha:PA X [a] ta) (hs:starEach [a] X.env=[(false,eval a X.env)]:=by rfl) : PI X tg (.Call (.Name "range" p) [a] [] pos) (iRng1 ta):=by
 intro pins s σ H R I h
 refine Call_ (ld_blt I hg hm boot_range (PyProof.Rows.callWith_type1 (thn (ha pos pins s σ H _ I h) fun us s1 ⟨vs,H1,I1,r1,q1⟩=>?_) hs rfl))
 obtain ⟨j,e,q1,q2,q⟩:=q1
 subst e
 cases r1 with
 | cons r rr =>
  cases rr
  obtain ⟨t,rfl⟩:=r
  exact call_range_1 (range_it I1 (by omega) (by omega) q1 q2 (by simpa using q))
def tFor (wi:TI) (g:TG) (tb:TS) : TS:=fun D σ H=>wi σ H fun J H1=>∃ W:Nat→Nat→St→Hp→Prop,(∃ m,W 0 m σ H1)∧∀ i m σ H,W i m σ H →
 (J.stop i H∧D.nx σ H)∨(J.go i H∧∃ N:St→Hp→Prop,(∀ σ' H',N σ' H'→∃ m',m' < m∧W (i+1) m' σ' H')∧∀ x H',J.yld i H x H'→g x σ H' fun σ2 H2=>tb { D with nx:=N,ct:=N,bk:=D.nx } σ2 H2)
def pinsAt (fp:List Addr) (h:Heap) : List (Addr × Obj):=fp.filterMap fun b=>(h.get? b).map fun o=>(b,o)
theorem mem_pinsAt {fp:List Addr} {h:Heap} {b:Addr} {o:Obj} (hb:b ∈ fp) (e:h.get? b=some o) : (b,o) ∈ pinsAt fp h:=List.mem_filterMap.mpr ⟨b,hb,by rw [e]; rfl⟩
theorem of_pinsAt {fp:List Addr} {h:Heap} {p:Addr × Obj} (hp:p ∈ pinsAt fp h) : p.1 ∈ fp∧h.get? p.1=some p.2:=by
 obtain ⟨b,hb,e⟩:=List.mem_filterMap.mp hp
 cases q:h.get? b with
 | none=>rw [q] at e; cases e
 | some o =>
  rw [q] at e
  have e':(b,o)=p:=Option.some.inj e
  subst e'
  exact ⟨hb,q⟩
theorem Inv.pinned {pins:List (Addr × Obj)} {σ:St} {H:Hp} {s:Shared} {fp:List Addr} (I:Inv X pins σ H s) (hf:∀ b ∈ fp,FpOk X pins H b) (ho:∀ b ∈ fp,∃ o,s.heap.get? b=some o∧∀ v,o.data≠.cell v) : Inv X (pins++pinsAt fp s.heap) σ H s:=
 I.pins_of fun p hp=>(List.mem_append.mp hp).elim (fun z=>I.pin p (List.mem_append_right _ z)) fun z=>by
  obtain ⟨hb,e⟩:=of_pinsAt z
  obtain ⟨f0,f1,f2,_⟩:=hf p.1 hb
  obtain ⟨o,e',d⟩:=ho p.1 hb
  rw [e] at e'; cases e'
  exact ⟨e,f0,f1,f2,d⟩
theorem Inv.unpinned {pins pl:List (Addr × Obj)} {σ:St} {H:Hp} {s:Shared} (I:Inv X (pins++pl) σ H s) : Inv X pins σ H s:=I.pins_of fun p hp=>I.pin p (List.mem_append_right _ (List.mem_append_left _ hp))
theorem ps_for {iter:Expr} {body:List Stmt} {wi:TI} {g:TG} {tb:TS} {pos:Pos} (hp:PassesOwn (model X.prog X.w) X.A X.env X.xe) (hc:X.calm=true) (hi:PI X tg iter wi) (hg:PG X tg g) (hb:PSs X body tb)
  (hs:∀ x,foldedSetIterable iter X.env x=pure x:=by intro _; rfl) : PS X (.For tg iter body [] pos) (tFor wi g tb):=by
 intro pins s σ H D I h
 refine wpAny_For (thn (hi pins s σ H _ I h) fun v s1 h1=>thn h1 fun itv s2 h2=>?_) hs
 obtain ⟨it,fp,tn,J,H2,e,I2,T,st2,f2,W,⟨m0,w0⟩,turn⟩:=h2
 subst e
 -- what stays true of the iterator's objects through the loop
 have stat:∀ {H':Hp},(∀ b ∈ fp,H' b=none)→∀ b ∈ fp,FpOk X pins H' b:=fun hn b hb=>⟨hn b hb,(f2 b hb).2⟩
 refine codeAny_forLoop_any (fun n s'=>∃ i σ' H',Inv X pins σ' H' s'∧tn i s'.heap∧(∀ b ∈ fp,H' b=none)∧W i n σ' H') ?_ m0 ⟨0,σ,H2,I2,st2,fun b hb=>(f2 b hb).1,w0⟩
 rintro n s3 ⟨i,σ3,H3,I3,st3,fr3,w3⟩
 rcases turn i n σ3 H3 w3 with ⟨stop,qn⟩ | ⟨go,N,hN,step⟩
 ·refine wpAny_passesOwn hp (thn (T.done X rfl rfl rfl hc i pins s3 σ3 H3 X.xe I3 (stat fr3) st3 stop) fun r s4 ⟨hr,I4⟩=>?_)
  subst hr
  exact wpAny_execs_nil ⟨σ3,H3,I4,qn⟩
 ·refine wpAny_passesOwn hp (thn (T.item X rfl rfl rfl hc i pins s3 σ3 H3 X.xe I3 (stat fr3) st3 go) fun r s4 ⟨u,hr,h4⟩=>?_)
  subst hr
  refine wpAny_passesOwn hp (thn h4 fun _ s5 ⟨x,H5,I5,r5,y5,st5,fr5⟩=>?_)
  have I5':=I5.pinned (stat fr5) (T.obj _ _ st5)
  refine wpAny_passesOwn hp (thn (hg _ s5 σ3 H5 x u _ I5' r5 (step x H5 y5)) fun _ s6 ⟨σ6,H6,I6,q6⟩=>?_)
  refine wpAny_passesOwn hp (thn (hb _ s6 σ6 H6 _ I6 q6) fun f s7 q7=>?_)
  have again:∀ {σ7:St} {H7:Hp},Inv X (pins++pinsAt fp s5.heap) σ7 H7 s7→N σ7 H7→∃ m,m < n∧∃ i σ' H',Inv X pins σ' H' s7∧tn i s7.heap∧(∀ b ∈ fp,H' b=none)∧W i m σ' H':=fun {σ7 H7} I7 n7=>by
   obtain ⟨m',hm,w7⟩:=hN σ7 H7 n7
   refine ⟨m',hm,i+1,σ7,H7,I7.unpinned,T.keep _ _ _ st5 fun b hb o e=>(I7.pin (b,o) (List.mem_append_right _ (List.mem_append_right _ (mem_pinsAt hb e)))).1,fun b hb=>?_,w7⟩
   obtain ⟨o,e,d⟩:=T.obj _ _ st5 b hb
   exact (I7.pin (b,o) (List.mem_append_right _ (List.mem_append_right _ (mem_pinsAt hb e)))).2.1
  cases f with
  | next=>obtain ⟨σ7,H7,I7,n7⟩:=q7; exact again I7 n7
  | cont=>obtain ⟨σ7,H7,I7,n7⟩:=q7; exact again I7 n7
  | brk=>obtain ⟨σ7,H7,I7,q7⟩:=q7; exact ⟨σ7,H7,I7.unpinned,q7⟩
  | ret v=>obtain ⟨x7,σ7,H7,I7,r7,q7⟩:=q7; exact ⟨x7,σ7,H7,I7.unpinned,r7,q7⟩
end

theorem for_list {K:PySem.W.Frag} {a:Addr} {xs:List V} {g:TG} {tb:TS} {D:Ends} {σ:St} {H:Hp} (Pv:Nat→St→Hp→Prop) (h0:Pv 0 σ H) (hl:∀ i σ H,i≤xs.length→Pv i σ H→SqL K H a xs)
  (hs:∀ i x σ H,xs[i]? = some x→Pv i σ H→g x σ H fun σ2 H2=>tb { D with nx:=Pv (i+1),ct:=Pv (i+1),bk:=D.nx } σ2 H2) (hd:∀ σ H,Pv xs.length σ H→D.nx σ H) :
  ∃ W:Nat→Nat→St→Hp→Prop,(∃ m,W 0 m σ H)∧∀ i m σ H,W i m σ H →
   ((Itl K a).stop i H∧D.nx σ H)∨((Itl K a).go i H∧∃ N:St→Hp→Prop,(∀ σ' H',N σ' H'→∃ m',m' < m∧W (i+1) m' σ' H')∧∀ x H',(Itl K a).yld i H x H'→g x σ H' fun σ2 H2=>tb { D with nx:=N,ct:=N,bk:=D.nx } σ2 H2):=by
 refine ⟨fun i m σ H=>m=xs.length - i∧i≤xs.length∧Pv i σ H,⟨xs.length,by simp,Nat.zero_le _,h0⟩,?_⟩
 rintro i m σ H ⟨rfl,hi,p⟩
 have q:=hl i σ H hi p
 by_cases hlt:i < xs.length
 ·refine .inr ⟨⟨xs,xs[i],q,by simp [hlt]⟩,Pv (i+1),fun σ' H' p'=>⟨xs.length - (i+1),by omega,rfl,hlt,p'⟩,fun x H' y=>?_⟩
  obtain ⟨e,y⟩:=y
  subst e
  exact hs i x σ _ (y xs q) p
 ·have e:i=xs.length:=by omega
  subst e
  exact .inl ⟨⟨xs,q,Nat.le_refl _⟩,hd σ H p⟩
theorem for_range {lo:Int} {n:Nat} {g:TG} {tb:TS} {D:Ends} {σ:St} {H:Hp} (Pv:Nat→St→Hp→Prop) (h0:Pv 0 σ H)
  (hs:∀ i σ H,i < n→Pv i σ H→g (.int (lo+i)) σ H fun σ2 H2=>tb { D with nx:=Pv (i+1),ct:=Pv (i+1),bk:=D.nx } σ2 H2) (hd:∀ σ H,Pv n σ H→D.nx σ H) :
  ∃ W:Nat→Nat→St→Hp→Prop,(∃ m,W 0 m σ H)∧∀ i m σ H,W i m σ H →
   ((Itr lo n).stop i H∧D.nx σ H)∨((Itr lo n).go i H∧∃ N:St→Hp→Prop,(∀ σ' H',N σ' H'→∃ m',m' < m∧W (i+1) m' σ' H')∧∀ x H',(Itr lo n).yld i H x H'→g x σ H' fun σ2 H2=>tb { D with nx:=N,ct:=N,bk:=D.nx } σ2 H2):=by
 refine ⟨fun i m σ H=>m=n - i∧i≤n∧Pv i σ H,⟨n,by simp,Nat.zero_le _,h0⟩,?_⟩
 rintro i m σ H ⟨rfl,hi,p⟩
 by_cases hlt:i < n
 ·refine .inr ⟨hlt,Pv (i+1),fun σ' H' p'=>⟨n - (i+1),by omega,rfl,hlt,p'⟩,fun x H' y=>?_⟩
  obtain ⟨e,y⟩:=y
  subst e y
  exact hs i σ _ hlt p
 ·have e:i=n:=by omega
  subst e
  exact .inl ⟨Nat.le_refl _,hd σ H p⟩

abbrev R2:=V→V→Hp→VK→Prop
def OpR (X:Cx) (f:Value→Value→Sem Value) (r:R2) : Prop:=
 ∀ (pins:List (Addr × Obj)) (s:Shared) (σ:St) (H:Hp) (x y:V) (v u:Value) (Q:VK),Inv X pins σ H s→RelV x v→RelV y u→r x y H Q →
  wpAny (model X.prog X.w) X.A (f v u) (EP X pins σ Q) X.xe s
def UnR (X:Cx) (f:Value→Sem Value) (r:V→Hp→VK→Prop) : Prop:=
 ∀ (pins:List (Addr × Obj)) (s:Shared) (σ:St) (H:Hp) (x:V) (v:Value) (Q:VK),Inv X pins σ H s→RelV x v→r x H Q →
  wpAny (model X.prog X.w) X.A (f v) (EP X pins σ Q) X.xe s
def CallR (X:Cx) (f:Value) (r:List V→Hp→VK→Prop) : Prop:=
 ∀ (pins:List (Addr × Obj)) (s:Shared) (σ:St) (H:Hp) (xs:List V) (us:List Value) (Q:VK),Inv X pins σ H s→Vals xs us→r xs H Q →
  wpAny (model X.prog X.w) X.A (call f us) (EP X pins σ Q) X.xe s
def tOp (r:R2) (ta tb:TE) : TE:=fun σ H Q=>ta σ H fun x H1=>tb σ H1 fun y H2=>r x y H2 Q
def tUn (r:V→Hp→VK→Prop) (ta:TE) : TE:=fun σ H Q=>ta σ H fun x H1=>r x H1 Q
def rI (C:Int→Int→Prop) (g:Int→Int→V) : R2:=fun x y H Q=>∃ i j,x = .int i∧y = .int j∧C i j∧Q (g i j) H
def rI0 (g:Int→Int→V) : R2:=fun x y H Q=>∃ i j,x = .int i∧y = .int j∧Q (g i j) H
def rU (g:Int→V) : V→Hp→VK→Prop:=fun x H Q=>∃ i,x = .int i∧Q (g i) H

section
variable {X:Cx} {a b c:Expr} {ta tb tc:TE} {pos:Pos}

theorem binT (ha:PE X a ta) (hb:PE X b tb) {pins:List (Addr × Obj)} {s:Shared} {σ:St} {H:Hp} {R:V→V→Hp→Prop} (I:Inv X pins σ H s)
  (h:ta σ H fun x H1=>tb σ H1 fun y H2=>R x y H2) {Q:Value→Shared→Prop} {f:Value→Value→Sem Value}
  (hf:∀ v u s2 x y H2,Inv X pins σ H2 s2→RelV x v→RelV y u→R x y H2→wpAny (model X.prog X.w) X.A (f v u) Q X.xe s2) :
  wpAny (model X.prog X.w) X.A (eval a X.env) (fun v s₁=>wpAny (model X.prog X.w) X.A (eval b X.env) (fun u s₂=>wpAny (model X.prog X.w) X.A (f v u) Q X.xe s₂) X.xe s₁) X.xe s:=by
 refine thn (ha pins s σ H _ I h) fun v s1 ⟨x,H1,I1,r1,q1⟩=>?_
 refine thn (hb pins s1 σ H1 _ I1 q1) fun u s2 ⟨y,H2,I2,r2,q2⟩=>?_
 exact hf v u s2 x y H2 I2 r1 r2 q2

theorem pe_op {op:Operator} {r:R2} (ho:OpR X (binaryOp op) r) (ha:PE X a ta) (hb:PE X b tb) : PE X (.BinOp a op b pos) (tOp r ta tb):=by
 intro pins s σ H Q I h
 exact wpAny_BinOp (binT ha hb I h fun v u s2 x y H2 I2 rx ry q=>ho pins s2 σ H2 x y v u Q I2 rx ry q)
theorem pe_un {op:UnaryOp} {r:V→Hp→VK→Prop} (ho:UnR X (unaryOp op) r) (ha:PE X a ta) : PE X (.UnaryOp op a pos) (tUn r ta):=by
 intro pins s σ H Q I h
 exact UnaryOp_ (thn (ha pins s σ H _ I h) fun v s1 ⟨x,H1,I1,r1,q1⟩=>ho pins s1 σ H1 x v Q I1 r1 q1)
theorem opI {f:Value→Value→Sem Value} {C:Int→Int→Prop} {g:Int→Int→Int}
  (rule:∀ (i j:Int) (t u:Tok) (s:Shared) (Q:Value→Shared→Prop) (E:Value→Shared→Prop),C i j→Q (.int (g i j) s.toks) { s with toks:=s.toks+1 }→wpAny (model X.prog X.w) X.A (f (.int i t) (.int j u)) Q E s) :
  OpR X f (rI C fun i j=>.int (g i j)):=by
 intro pins s σ H x y v u Q I rx ry h
 obtain ⟨i,j,rfl,rfl,hc,q⟩:=h
 obtain ⟨t,rfl⟩:=rx
 obtain ⟨t',rfl⟩:=ry
 exact rule i j t t' s _ _ hc ⟨.int (g i j),H,I.tok _,⟨_,rfl⟩,q⟩
theorem opI0 {f:Value→Value→Sem Value} {g:Int→Int→Int}
  (rule:∀ (i j:Int) (t u:Tok) (s:Shared) (Q:Value→Shared→Prop) (E:Value→Shared→Prop),Q (.int (g i j) s.toks) { s with toks:=s.toks+1 }→wpAny (model X.prog X.w) X.A (f (.int i t) (.int j u)) Q E s) :
  OpR X f (rI0 fun i j=>.int (g i j)):=by
 intro pins s σ H x y v u Q I rx ry h
 obtain ⟨i,j,rfl,rfl,q⟩:=h
 obtain ⟨t,rfl⟩:=rx
 obtain ⟨t',rfl⟩:=ry
 exact rule i j t t' s _ _ ⟨.int (g i j),H,I.tok _,⟨_,rfl⟩,q⟩
theorem opB0 {f:Value→Value→Sem Value} {g:Int→Int→Bool}
  (rule:∀ (i j:Int) (t u:Tok) (s:Shared) (Q:Value→Shared→Prop) (E:Value→Shared→Prop),Q (.bool (g i j)) s→wpAny (model X.prog X.w) X.A (f (.int i t) (.int j u)) Q E s) :
  OpR X f (rI0 fun i j=>.bl (g i j)):=by
 intro pins s σ H x y v u Q I rx ry h
 obtain ⟨i,j,rfl,rfl,q⟩:=h
 obtain ⟨t,rfl⟩:=rx
 obtain ⟨t',rfl⟩:=ry
 exact rule i j t t' s _ _ ⟨.bl (g i j),H,I,rfl,q⟩

def CDiv (i j:Int) : Prop:=0 < j∧j < 1073741824
def CPow (i j:Int) : Prop:=0≤j∧j≤1000000∧i.natAbs < 2 ^ 64
def CMul (i j:Int) : Prop:=(-(2 ^ 64) < i∧i < 2 ^ 64)∨(-(2 ^ 64) < j∧j < 2 ^ 64)
theorem CMul.ok {i j:Int} (h:CMul i j) : IntMulOk i j:=by
 rcases h with ⟨h1,h2⟩ | ⟨h1,h2⟩
 ·exact .of_left (intBits_le_64 h1 h2)
 ·exact .of_right (intBits_le_64 h1 h2)
theorem op_add:OpR X (binaryOp .Add) (rI0 fun i j=>.int (i+j)):=opI0 fun _ _ _ _ _ _ _ q=>add_int q
theorem op_sub:OpR X (binaryOp .Sub) (rI0 fun i j=>.int (i - j)):=opI0 fun _ _ _ _ _ _ _ q=>sub_int q
theorem op_mul:OpR X (binaryOp .Mult) (rI CMul fun i j=>.int (i * j)):=opI fun _ _ _ _ _ _ _ hc q=>mul_int q hc.ok
theorem op_fdiv:OpR X (binaryOp .FloorDiv) (rI CDiv fun i j=>.int (i / j)):=opI fun i j _ _ _ _ _ hc q=>by
 have h1:(0:Int) < j:=hc.1
 have h2:j < 1073741824:=hc.2
 exact floordiv_int (by omega) (by rw [Int.fdiv_eq_ediv_of_nonneg i (by omega)]; exact q) (.inl (PyProof.noPylong_small (by omega)))
theorem op_mod:OpR X (binaryOp .Mod) (rI (fun _ j=>0 < j) fun i j=>.int (i % j)):=opI fun i j _ _ _ _ _ hc q=>by
 have h1:(0:Int) < j:=hc
 exact mod_int' (by omega) (by rw [Int.fmod_eq_emod_of_nonneg i (by omega)]; exact q)
theorem op_pow:OpR X (binaryOp .Pow) (rI CPow fun i j=>.int (i ^ j.toNat)):=opI fun _ _ _ _ _ _ _ hc q=>pow_int_small hc.1 hc.2.1 hc.2.2 q
theorem unI {f:Value→Sem Value} {g:Int→Int}
  (rule:∀ (i:Int) (t:Tok) (s:Shared) (Q:Value→Shared→Prop) (E:Value→Shared→Prop),Q (.int (g i) s.toks) { s with toks:=s.toks+1 }→wpAny (model X.prog X.w) X.A (f (.int i t)) Q E s) :
  UnR X f (rU fun i=>.int (g i)):=by
 intro pins s σ H x v Q I rx h
 obtain ⟨i,rfl,q⟩:=h
 obtain ⟨t,rfl⟩:=rx
 exact rule i t s _ _ ⟨.int (g i),H,I.tok _,⟨_,rfl⟩,q⟩
theorem un_neg:UnR X (unaryOp .USub) (rU fun i=>.int (-i)):=unI fun _ _ _ _ _ q=>neg_int q
end

def scal:V→V→Bool
 | .non,.non=>true | .non,.int _=>true | .int _,.non=>true | .non,.bl _=>true | .bl _,.non=>true | .non,.str _=>true | .str _,.non=>true
 | .int _,.int _=>true | .bl _,.bl _=>true | .str _,.str _=>true | .byt _,.byt _=>true
 | .int _,.str _=>true | .str _,.int _=>true | .bl _,.str _=>true | .str _,.bl _=>true
 | _,_=>false
def rEq:R2:=fun x y H Q=>scal x y=true∧Q (.bl (decide (x=y))) H
theorem dec_int {i j:Int} : decide (V.int i=V.int j)=(i == j):=by
 rw [Bool.eq_iff_iff]
 simp
theorem dec_bl {i j:Bool} : decide (V.bl i=V.bl j)=(i == j):=by
 rw [Bool.eq_iff_iff]
 simp
theorem dec_str {i j:Str} : decide (V.str i=V.str j)=(i == j):=by
 rw [Bool.eq_iff_iff]
 simp
theorem dec_byt {i j:Array UInt8} : decide (V.byt i=V.byt j)=(i.toList == j.toList):=by
 rw [Bool.eq_iff_iff]
 cases i
 cases j
 simp

section
variable {X:Cx} {a b c:Expr} {ta tb tc:TE} {pos:Pos}
theorem fin_bl {pins:List (Addr × Obj)} {σ:St} {H:Hp} {s:Shared} {Q:VK} {k k':Bool} (I:Inv X pins σ H s) (q:Q (.bl k) H) (e:k=k') : EP X pins σ Q (.bool k') s:=by
 subst e
 exact ⟨.bl k,H,I,rfl,q⟩
theorem op_eq:OpR X (compareOp .Eq) rEq:=by
 intro pins s σ H x y v u Q I rx ry h
 obtain ⟨hs,q⟩:=h
 cases x with
 | non =>
  cases rx
  cases y with
  | non=>cases ry; exact PySem.EqNone.eq_none_none (fin_bl I q (by simp))
  | bl j=>cases ry; exact PySem.EqNone.eq_none_bool (fin_bl I q (by simp))
  | int j=>obtain ⟨t',rfl⟩:=ry; exact PySem.EqNone.eq_none_int (fin_bl I q (by simp))
  | str j=>obtain ⟨t',rfl⟩:=ry; exact PySem.EqNone.eq_none_str (fin_bl I q (by simp))
  | _=>exact absurd (show false=true from hs) Bool.false_ne_true
 | bl i =>
  cases rx
  cases y with
  | non=>cases ry; exact PySem.EqNone.eq_bool_none (fin_bl I q (by simp))
  | bl j=>cases ry; exact eq_bool (fin_bl I q dec_bl)
  | str j=>obtain ⟨t',rfl⟩:=ry; exact PySem.EqMixed.eq_bool_str (fin_bl I q (by simp))
  | _=>exact absurd (show false=true from hs) Bool.false_ne_true
 | int i =>
  obtain ⟨t,rfl⟩:=rx
  cases y with
  | non=>cases ry; exact PySem.EqNone.eq_int_none (fin_bl I q (by simp))
  | int j=>obtain ⟨t',rfl⟩:=ry; exact eq_int (fin_bl I q dec_int)
  | str j=>obtain ⟨t',rfl⟩:=ry; exact PySem.EqMixed.eq_int_str (fin_bl I q (by simp))
  | _=>exact absurd (show false=true from hs) Bool.false_ne_true
 | str i =>
  obtain ⟨t,rfl⟩:=rx
  cases y with
  | non=>cases ry; exact PySem.EqNone.eq_str_none (fin_bl I q (by simp))
  | bl j=>cases ry; exact PySem.EqMixed.eq_str_bool (fin_bl I q (by simp))
  | int j=>obtain ⟨t',rfl⟩:=ry; exact PySem.EqMixed.eq_str_int (fin_bl I q (by simp))
  | str j=>obtain ⟨t',rfl⟩:=ry; exact eq_str (fin_bl I q dec_str)
  | _=>exact absurd (show false=true from hs) Bool.false_ne_true
 | byt i =>
  obtain ⟨t,rfl⟩:=rx
  cases y with
  | byt j=>obtain ⟨t',rfl⟩:=ry; exact PySem.W.eq_bytes (fin_bl I q dec_byt)
  | _=>exact absurd (show false=true from hs) Bool.false_ne_true
 | _=>cases y <;> exact absurd (show false=true from hs) Bool.false_ne_true
theorem op_lt:OpR X (compareOp .Lt) (rI0 fun i j=>.bl (decide (i < j))):=opB0 fun _ _ _ _ _ _ _ q=>lt_int q
theorem op_le:OpR X (compareOp .LtE) (rI0 fun i j=>.bl (decide (i≤j))):=opB0 fun _ _ _ _ _ _ _ q=>le_int q
theorem op_gt:OpR X (compareOp .Gt) (rI0 fun i j=>.bl (decide (j < i))):=opB0 fun _ _ _ _ _ _ _ q=>gt_int q
theorem op_ge:OpR X (compareOp .GtE) (rI0 fun i j=>.bl (decide (j≤i))):=opB0 fun _ _ _ _ _ _ _ q=>ge_int q
theorem op_isN:OpR X (compareOp .Is) (fun x y H Q=>y = .non∧Q (.bl (decide (x = .non))) H):=by
 intro pins s σ H x y v u Q I rx ry h
 obtain ⟨rfl,q⟩:=h
 cases ry
 refine is_none_gen (fin_bl I q ?_)
 cases x <;> first
  | (cases rx; rfl)
  | (obtain ⟨t,rfl⟩:=rx; rfl)
theorem op_notN:OpR X (compareOp .IsNot) (fun x y H Q=>y = .non∧Q (.bl (!decide (x = .non))) H):=by
 intro pins s σ H x y v u Q I rx ry h
 obtain ⟨rfl,q⟩:=h
 cases ry
 refine isnot_none_gen (fin_bl I q ?_)
 cases x <;> first
  | (cases rx; rfl)
  | (obtain ⟨t,rfl⟩:=rx; rfl)

theorem nomark (b:Expr) {op:CmpOp} (h:op≠.In:=by decide) (h2:op≠.NotIn:=by decide) : behindInMarks op b=false:=by
 have e1:(op == CmpOp.In)=false:=by cases op <;> first | rfl | exact absurd rfl h
 have e2:(op == CmpOp.NotIn)=false:=by cases op <;> first | rfl | exact absurd rfl h2
 cases b <;> simp [behindInMarks,e1,e2]
theorem pe_cmpR {op:CmpOp} {r:R2} (ho:OpR X (compareOp op) r) (ha:PE X a ta) (hb:PE X b tb) (hm:behindInMarks op b=false) : PE X (.Compare a [op] [b] pos) (tOp r ta tb):=by
 intro pins s σ H Q I h
 exact wpAny_Compare1 (binT ha hb I h fun v u s2 x y H2 I2 rx ry q=>ho pins s2 σ H2 x y v u Q I2 rx ry q) hm
def tTest (t:TE) : TT:=fun σ H Q=>t σ H fun x H'=>∃ k,x = .bl k∧Q k H'
theorem pt_cmpR {op:CmpOp} {r:R2} (ho:OpR X (compareOp op) r) (ha:PE X a ta) (hb:PE X b tb) (hm:behindInMarks op b=false) : PT X (.Compare a [op] [b] pos) (tTest (tOp r ta tb)):=by
 intro pins s σ H Q I h
 refine wpAny_isTrue_Compare1 (thn (ha pins s σ H _ I h) fun v s1 ⟨x,H1,I1,r1,q1⟩=>thn (hb pins s1 σ H1 _ I1 q1) fun u s2 ⟨y,H2,I2,r2,q2⟩ =>
  thn (ho pins s2 σ H2 x y v u _ I2 r1 r2 q2) fun c s3 ⟨z,H3,I3,r3,k,e,q3⟩=>?_) hm
 subst e
 cases r3
 exact wpAny_truthy_bool ⟨H3,I3,q3⟩
def tChain (r r':R2) (ta tb tc:TE) : TE:=fun σ H Q=>ta σ H fun x H1=>tb σ H1 fun y H2=>r x y H2 fun z H3=>∃ k,z = .bl k ∧
 (if k=true then tc σ H3 fun w' H4=>r' y w' H4 Q else Q (.bl false) H3)
theorem pt_chain {op op':CmpOp} {r r':R2} (ho:OpR X (compareOp op) r) (ho':OpR X (compareOp op') r') (ha:PE X a ta) (hb:PE X b tb) (hc:PE X c tc)
  (hm:lastMarks [op,op'] [b,c]=false:=by with_unfolding_all rfl) : PT X (.Compare a [op,op'] [b,c] pos) (tTest (tChain r r' ta tb tc)):=by
 intro pins s σ H Q I h
 refine isTrue_chain (thn (ha pins s σ H _ I h) fun v s1 ⟨x,H1,I1,r1,q1⟩=>test_link (thn (hb pins s1 σ H1 _ I1 q1) fun u s2 ⟨y,H2,I2,r2,q2⟩ =>
  thn (ho pins s2 σ H2 x y v u _ I2 r1 r2 q2) fun d s3 ⟨z,H3,I3,r3,k,e,q3⟩=>?_)) hm
 subst e
 cases r3
 refine wpAny_truthy_bool ?_
 cases k with
 | false =>
  obtain ⟨k',e',q'⟩:=q3
  cases e'
  exact ite_ff ⟨H3,I3,q'⟩
 | true =>
  refine ite_tt (test_last (thn (hc pins s3 σ H3 _ I3 q3) fun w' s4 ⟨z',H4,I4,r4,q4⟩=>thn (ho' pins s4 σ H4 y z' u w' _ I4 r2 r4 q4) fun d' s5 ⟨z2,H5,I5,r5,k2,e2,q5⟩=>?_))
  subst e2
  cases r5
  exact wpAny_truthy_bool ⟨H5,I5,q5⟩

theorem line63:(sizeLine:Nat) < 2 ^ 63:=by rw [sizeLine_eq]; decide
theorem op_add_str:OpR X (binaryOp .Add) (fun x y H Q=>∃ i j,x = .str i∧y = .str j∧i.length+j.length≤sizeLine∧Q (.str (i++j)) H):=by
 intro pins s σ H x y v u Q I rx ry h
 obtain ⟨i,j,rfl,rfl,hz,q⟩:=h
 obtain ⟨t,rfl⟩:=rx
 obtain ⟨t',rfl⟩:=ry
 exact add_str (fun t' tk=>⟨.str (i++j),H,I.tok _,⟨_,rfl⟩,q⟩) hz
theorem vals1 {x:V} {us:List Value} (r:Vals [x] us) : ∃ u,us=[u]∧RelV x u:=by
 cases r with
 | cons r1 r2=>cases r2; exact ⟨_,rfl,r1⟩
theorem vals2 {x y:V} {us:List Value} (r:Vals [x,y] us) : ∃ u w',us=[u,w']∧RelV x u∧RelV y w':=by
 cases r with
 | cons r1 r2 =>
  cases r2 with
  | cons r3 r4=>cases r4; exact ⟨_,_,rfl,r1,r3⟩
theorem call_min2 (hc:X.calm=true) : CallR X (.builtin "min") (fun xs H Q=>∃ i j,xs=[.int i,.int j]∧Q (.int (if j < i then j else i)) H):=by
 intro pins s σ H xs us Q I r h
 obtain ⟨i,j,rfl,q⟩:=h
 obtain ⟨u,w',rfl,⟨t,rfl⟩,⟨t',rfl⟩⟩:=vals2 r
 refine min_two_ints (I.ok.hd hc) fun h' tk k=>⟨_,H,I.kept k,?_,q⟩
 by_cases hj:j < i
 ·rw [if_pos hj,if_pos hj]; exact ⟨_,rfl⟩
 ·rw [if_neg hj,if_neg hj]; exact ⟨_,rfl⟩
theorem call_int1:CallR X (.type "int") (fun xs H Q=>(∃ i,xs=[.int i]∧Q (.int i) H)∨∃ k,xs=[.bl k]∧Q (.int (if k then 1 else 0)) H):=by
 intro pins s σ H xs us Q I r h
 rcases h with ⟨i,rfl,q⟩ | ⟨k,rfl,q⟩
 ·obtain ⟨u,rfl,t,rfl⟩:=vals1 r
  exact call_int_int ⟨.int i,H,I,⟨_,rfl⟩,q⟩
 ·obtain ⟨u,rfl,r1⟩:=vals1 r
  cases r1
  exact call_int_bool ⟨.int (if k then 1 else 0),H,I.tok _,⟨_,rfl⟩,q⟩
theorem call_str_int:CallR X (.type "str") (fun xs H Q=>∃ i,xs=[.int i]∧i.natAbs.log2 < 1920∧Q (.str (toString i)) H):=by
 intro pins s σ H xs us Q I r h
 obtain ⟨i,rfl,hz,q⟩:=h
 obtain ⟨u,rfl,t,rfl⟩:=vals1 r
 exact PySem.P.str_of_int hz ⟨.str _,H,I.tok _,⟨_,rfl⟩,q⟩
end

section
variable {prog:Program} {w:World} {A:Around} {E:Value→Shared→Prop} {s:Shared} {K:PySem.W.Frag} {x dx C f:Addr} {mA:Str→Option Value} {name:Str} {v:Value}

end

section
variable {P:Program} {w:World} {H H':Hp} {h h':Heap} {a C dx:Addr} {fs fs':List (Str × V)}
end

structure Cls (K:PySem.W.Frag) (C:Addr) : Prop where
 pg:PySem.W.plainGet K C Str.empty=true
 hd:PySem.W.hasDictIn K C=true
 po:PySem.W.plainOver K C=true
 sa:PySem.W.findIn K (.ref C) "__setattr__" = some (some (.builtin "object.__setattr__"))
theorem Cls.get {K:PySem.W.Frag} {C:Addr} (c:Cls K C) (f:Str) : PySem.W.plainGet K C f=true:=c.pg
section
variable {X:Cx} {pins:List (Addr × Obj)} {σ:St} {H:Hp} {s:Shared} {a C dx:Addr} {fs:List (Str × V)} {f:Str} {v:V} {A:Around} {E:Value→Shared→Prop}

end

section
variable {X:Cx} {o e value:Expr} {f:Str} {pos pos' tpos:Pos} {ta tv:TE}
end

section
variable {X:Cx} {pins:List (Addr × Obj)} {σ:St} {H:Hp} {s:Shared} {A:Around} {E:Value→Shared→Prop} {Q:Value→Shared→Prop} {c:Value} {b:Bool}
end

structure Room (k:Nat) (A:Around) : Prop where
 hd:A.handled=none
 dp:A.depth+3 * k+5 < recursionLimit
 un:A.units+16 * k+200 < cLine
theorem Room.mono {j k:Nat} {A:Around} (r:Room k A) (h:j≤k) : Room j A:=⟨r.hd,by have:=r.dp; omega,by have:=r.un; omega⟩
theorem Room.deeper {k:Nat} {A:Around} (r:Room (k+1) A) (env:Env) : Room k (A.deeper env):=
 ⟨r.hd,by have:=r.dp; show A.depth+1+3 * k+5 < _; omega,by have:=r.un; show A.units+3+16 * k+200 < _; omega⟩
theorem Room.in1 {k:Nat} {A:Around} (r:Room (k+1) A) : Room k A.in1:=
 ⟨r.hd,by have:=r.dp; show A.depth+3 * k+5 < _; omega,by have:=r.un; show A.units+1+16 * k+200 < _; omega⟩
theorem Room.depth {k:Nat} {A:Around} (r:Room k A) : A.depth < recursionLimit:=by have:=r.dp; omega
theorem Room.units {k:Nat} {A:Around} (r:Room k A) : A.units+64 < cLine:=by have:=r.un; omega
def tNil:TA:=fun _ H Q=>Q [] H
def tCons (ta:TE) (tr:TA) : TA:=fun σ H Q=>ta σ H fun x H1=>tr σ H1 fun xs H2=>Q (x :: xs) H2
section
variable {X:Cx} {e:Expr} {es:List Expr} {te:TE} {t:TA} {pos:Pos}
theorem pa_nil:PA X [] tNil:=fun _ _ _ _ H Q I h=>Calls.spliced_nil ⟨[],H,I,.nil,h⟩
theorem pa_cons (ha:PE X e te) (hr:PA X es t) (hs:starEach (e :: es) X.env=(false,eval e X.env) :: starEach es X.env:=by rfl) : PA X (e :: es) (tCons te t):=by
 intro pos pins s σ H Q I h
 rw [hs]
 show wpAny _ _ (spliced ((false,eval e X.env) :: backTo pos (starEach es X.env))) _ _ s
 refine Calls.spliced_cons (thn (ha pins s σ H _ I h) fun u s1 ⟨x,H1,I1,r1,q1⟩=>?_)
 exact thn (hr pos pins s1 σ H1 _ I1 q1) fun us s2 ⟨xs,H2,I2,r2,q2⟩=>⟨x :: xs,H2,I2,.cons r1 r2,q2⟩

def tTup (t:TA) : TE:=fun σ H Q=>t σ H fun xs H1=>xs.length≤sizeLine∧∀ p,H1 p=none→Q (.ref p) (upd H1 p (.tup xs))
def tLst (t:TA) : TE:=fun σ H Q=>t σ H fun xs H1=>xs.length≤sizeLine∧∀ p,H1 p=none→Q (.ref p) (upd H1 p (.lst xs))
theorem pe_tup {x1} (h:PA X es t) : PE X (.Tuple es x1 pos) (tTup t):=by
 intro pins s σ H Q I hq
 refine wpAny_Tuple_spliced (thn (h pos pins s σ H _ I hq) fun us s1 ⟨xs,H1,I1,r,z,q⟩=>⟨by rw [← r.length]; exact z,?_⟩)
 have hf:H1 s1.heap.objs.size=none:=I1.hok.fresh (Nat.le_refl _)
 refine ⟨.ref s1.heap.objs.size,upd H1 s1.heap.objs.size (.tup xs),I1.laid (t':=s1.toks) (fun b u e=>Heap.get?_push_of_some _ e) (Nat.le_refl _) ?_,rfl,q _ hf⟩
 exact ⟨z,us,r,⟨_,Heap.get?_push_size _ rfl,rfl,_,rfl⟩⟩
theorem pe_lst (h:PA X es t) : PE X (.List es pos) (tLst t):=by
 intro pins s σ H Q I hq
 refine wpAny_List_spliced (thn (h pos pins s σ H _ I hq) fun us s1 ⟨xs,H1,I1,r,z,q⟩=>⟨by rw [← r.length]; exact z,?_⟩)
 have hf:H1 s1.heap.objs.size=none:=I1.hok.fresh (Nat.le_refl _)
 refine ⟨.ref s1.heap.objs.size,upd H1 s1.heap.objs.size (.lst xs),I1.laid (t':=s1.toks) (fun b u e=>Heap.get?_push_of_some _ e) (Nat.le_refl _) ?_,rfl,q _ hf⟩
 exact ⟨z,us,0,r,Heap.get?_push_size _ rfl⟩
end

abbrev Sp:=List V→Hp→VK→XK→Prop
abbrev CXT:=List Env→Hp→Shared→XK→Value→Shared→Prop

structure Env0 (P:Program) (w:World) (K:PySem.W.Frag) (mg:Str→Option Value) (base:Heap) (A:Around) (outer:List Env) (s:Shared) (H:Hp) : Prop where
 frames:A.frames=some outer
 mod:Mod K mg base
 bs:∀ b o,base.get? b=some o→s.heap.get? b=some o∧H b=none
 bsz:base.objs.size≤s.heap.objs.size
 funs:s.heap.FunFrames base outer
 frf:∀ b ∈ frs outer,H b=none
 hok:HOk P w H s.heap
 bare:AllBare s.gens
def CE (outer:List Env) (P:Program) (w:World) (H:Hp) (s:Shared) (Q:VK) (u:Value) (s':Shared) : Prop:=
 ∃ v H',s'.os=s.os∧AllBare s'.gens∧Un (frs outer) [] H H' s.heap s'.heap∧HOk P w H' s'.heap∧RelV v u∧Q v H'
def CR (CX:CXT) (outer:List Env) (P:Program) (w:World) (H:Hp) (s:Shared) (Q:VK) (E:XK) (r:Result) (s':Shared) : Prop:=
 match r with
 | .ok (.ret u)=>CE outer P w H s Q u s'
 | .ok _=>False
 | .error e=>CX outer H s E e s'
structure FnOk (P:Program) (w:World) (K:PySem.W.Frag) (mg:Str→Option Value) (base:Heap) (CX:CXT) (k:Nat) (f:Addr) (fd:FuncData) (ps:List Str) (sp:Sp) : Prop where
 len:∀ vs H Q E,sp vs H Q E→vs.length=ps.length
 run:∀ (A:Around) (outer:List Env) (s:Shared) (H:Hp) (args:Args) (us:List Value) (vs:List V) (Q:VK) (E:XK),Room k A→Env0 P w K mg base A outer s H→BindsTo s fd args (ps.zip us)→Vals vs us→sp vs H Q E →
  codeAny (model P w) A (.call (.ref f) args) (CR CX outer P w H s Q E) s
theorem FnOk.mono {P:Program} {w:World} {K:PySem.W.Frag} {mg:Str→Option Value} {base:Heap} {CX:CXT} {j k:Nat} {f:Addr} {fd:FuncData} {ps:List Str} {sp:Sp} (F:FnOk P w K mg base CX j f fd ps sp) (h:j≤k) :
  FnOk P w K mg base CX k f fd ps sp:=⟨F.len,fun A outer s H args us vs Q E hr=>F.run A outer s H args us vs Q E (hr.mono h)⟩
theorem Env0.in1 {P:Program} {w:World} {K:PySem.W.Frag} {mg:Str→Option Value} {base:Heap} {A:Around} {outer:List Env} {s:Shared} {H:Hp} (e:Env0 P w K mg base A outer s H) :
  Env0 P w K mg base A.in1 outer s H:=⟨e.frames,e.mod,e.bs,e.bsz,e.funs,e.frf,e.hok,e.bare⟩

section
variable {X:Cx} {pins:List (Addr × Obj)} {σ:St} {H:Hp} {s s':Shared}
theorem Inv.env0 (I:Inv X pins σ H s) : Env0 X.prog X.w X.K X.mg X.base X.A X.stack s H:=
 ⟨I.ok.frames,I.ok.mod,I.bs,Nat.le_trans I.ok.bsz I.sz,I.stack,I.stkFree,I.hok,I.bare⟩
theorem Inv.after {Q:VK} {u:Value} (I:Inv X pins σ H s) (h:CE X.stack X.prog X.w H s Q u s') : EP X pins σ Q u s':=by
 obtain ⟨v,H',os,bare,un,hok,r,q⟩:=h
 obtain ⟨hh,g,d,t,os'⟩:=s'
 obtain rfl:os' = s.os:=os
 exact ⟨v,H',I.call (h':=hh) (g':=g) (d':=d) (t':=t) (ch:=[]) un hok bare (fun b z=>absurd z (by simp)),r,q⟩
end

def tCall (sp:Sp) (dvs:List V) (E:XK) (t:TA) : TE:=fun σ H Q=>t σ H fun vs H1=>sp (vs++dvs) H1 Q E
def Binds (K:PySem.W.Frag) (fd:FuncData) (ps:List Str) (ds:List Value) : Prop:=
 ∀ (s:Shared) (us:List Value),K.In s.heap→(us++ds).length=ps.length→BindsTo s fd ⟨us,[]⟩ (ps.zip (us++ds))
theorem Binds.all {K:PySem.W.Frag} {fd:FuncData} {ps:List Str} (h:∀ us:List Value,us.length=ps.length→bindArgs fd ⟨us,[]⟩=pure (ps.zip us)) : Binds K fd ps []:=fun s us _ hl=>by
 rw [List.append_nil] at hl ⊢
 exact .of_eq (h us hl)

def Passes (CX:CXT) (X:Cx) (E:XK) : Prop:=∀ (pins:List (Addr × Obj)) (σ:St) (H:Hp) (s:Shared) (e:Value) (s':Shared),Inv X pins σ H s→CX X.stack H s E e s'→X.xe e s'

section
variable {X:Cx} {CX:CXT} {k:Nat} {f C:Addr} {fd:FuncData} {ps:List Str} {sp:Sp} {dvs:List V} {ds:List Value} {E:XK} {x m:Str} {p pos apos:Pos} {e o:Expr} {es:List Expr} {ta:TE} {t:TA}

theorem run_fn {pins:List (Addr × Obj)} {σ:St} {H:Hp} {s:Shared} {Q:VK} {us:List Value} {vs:List V} (F:FnOk X.prog X.w X.K X.mg X.base CX k f fd ps sp) (hr:Room k X.A) (hb:Binds X.K fd ps ds) (hd:Vals dvs ds) (hx:Passes CX X E)
  (I:Inv X pins σ H s) (r:Vals vs us) (h:sp (vs++dvs) H Q E) : wpAny (model X.prog X.w) X.A (call (.ref f) us) (EP X pins σ Q) X.xe s:=by
 have r2:Vals (vs++dvs) (us++ds):=r.append hd
 have hl:(us++ds).length=ps.length:=by rw [← r2.length]; exact F.len _ _ _ _ h
 refine wpAny_call (codeAny_mono (F.run X.A X.stack s H ⟨us,[]⟩ (us++ds) (vs++dvs) Q E hr I.env0 (hb s us I.kIn hl) r2 h) fun r s' hq=>?_)
 cases r with
 | error e=>exact hx pins σ H s e s' I hq
 | ok fl =>
  cases fl with
  | ret u=>exact I.after hq
  | next=>exact False.elim hq
  | brk=>exact False.elim hq
  | cont=>exact False.elim hq

theorem pe_call (F:FnOk X.prog X.w X.K X.mg X.base CX k f fd ps sp) (hr:Room k X.A) (hg:Gl X x) (hm:X.mg x=some (.ref f)) (hk:PySem.W.keepIn X.K (.ref f)=true) (hb:Binds X.K fd ps ds) (hd:Vals dvs ds) (hx:Passes CX X E)
  (ha:PA X (e :: es) t) (hdb:(x == ("__debug__" : Str))=false:=by decide) (he:starEach (e :: es) X.env=(false,eval e X.env) :: starEach es X.env:=by rfl) (hpl:(backTo pos (starEach es X.env)).any (·.1)=false:=by rfl) :
  PE X (.Call (.Name x p) (e :: es) [] pos) (tCall sp dvs E t):=by
 intro pins s σ H Q I h
 refine wpAny_Call_Name_kw (ld_glob I hg hm ?_ hdb)
 refine PySem.W.callWith_K (h₀:=X.base) I.ok.mod.kin hk (thn (ha pos pins s σ H _ I h) fun us s1 ⟨vs,H1,I1,r,q⟩=>⟨I1.kIn,?_⟩) he hpl
 exact run_fn F hr hb hd hx I1 r q
end

section
variable {X:Cx} {CX:CXT} {k:Nat} {f C:Addr} {fd:FuncData} {ps ks:List Str} {sp:Sp} {E:XK} {x m:Str} {p pos apos kpos:Pos} {e o:Expr} {es:List Expr} {kws:List Keyword} {te ta:TE} {t tk:TA} {nm:Option Str}
variable {g:List Value→List Value→List Value} {gV:List V→List V→List V}
end

structure FnScope (N P:List Str) (sc:Scope) : Prop where
 kind:sc.kind = .function
 co:sc.isCoroutine=false
 gen:sc.isGenerator=false
 nd:N.Nodup
 pre:N.take P.length=P
 par:∀ x ∈ P,sc.names.lookup x=some .local∨sc.names.lookup x=some .cell
 nofree:∀ y ∈ sc.names,y.2≠.free

theorem bindL_out {kindOf:Str→Option NameKind} {x:Str} : ∀ {binds:List (Str × Value)} {m:Str→Option Value},(∀ v,(x,v) ∉ binds)→bindL kindOf binds m x=m x
 | [],_,_=>rfl
 | (n,v) :: r,m,h=>by
  unfold bindL
  rw [bindL_out fun w hw=>h w (List.mem_cons_of_mem _ hw)]
  split
  ·have:x≠n:=by rintro rfl; exact h v List.mem_cons_self
   simp [this]
  ·rfl
theorem bindC_out {kindOf:Str→Option NameKind} {x:Str} : ∀ {binds:List (Str × Value)} {m:Str→Option Value},(∀ v,(x,v) ∉ binds)→bindC kindOf binds m x=m x
 | [],_,_=>rfl
 | (n,v) :: r,m,h=>by
  unfold bindC
  rw [bindC_out fun w hw=>h w (List.mem_cons_of_mem _ hw)]
  split
  ·rfl
  ·have:x≠n:=by rintro rfl; exact h v List.mem_cons_self
   simp [this]
theorem bindL_get {kindOf:Str→Option NameKind} {x:Str} {v:Value} : ∀ {P:List Str} {vs:List Value} {i:Nat} {m:Str→Option Value},P.Nodup→P[i]? = some x→vs[i]? = some v→kindOf x=some .local →
  bindL kindOf (P.zip vs) m x=some v
 | [],_,_,_,_,h,_,_=>by simp at h
 | _ :: _,[],_,_,_,_,h,_=>by simp at h
 | p :: P,w :: vs,0,m,nd,h1,h2,hk=>by
  simp at h1 h2; subst h1; subst h2
  show bindL kindOf ((p,w) :: P.zip vs) m p=_
  unfold bindL
  rw [bindL_out fun v hv=>(List.nodup_cons.mp nd).1 (List.of_mem_zip hv).1,if_pos hk]
  simp
 | p :: P,w :: vs,i+1,m,nd,h1,h2,hk=>by
  show bindL kindOf ((p,w) :: P.zip vs) m x=_
  unfold bindL
  exact bindL_get (i:=i) (List.nodup_cons.mp nd).2 (by simpa using h1) (by simpa using h2) hk
theorem bindC_get {kindOf:Str→Option NameKind} {x:Str} {v:Value} : ∀ {P:List Str} {vs:List Value} {i:Nat} {m:Str→Option Value},P.Nodup→P[i]? = some x→vs[i]? = some v→kindOf x≠some .local →
  bindC kindOf (P.zip vs) m x=some v
 | [],_,_,_,_,h,_,_=>by simp at h
 | _ :: _,[],_,_,_,_,h,_=>by simp at h
 | p :: P,w :: vs,0,m,nd,h1,h2,hk=>by
  simp at h1 h2; subst h1; subst h2
  show bindC kindOf ((p,w) :: P.zip vs) m p=_
  unfold bindC
  rw [bindC_out fun v hv=>(List.nodup_cons.mp nd).1 (List.of_mem_zip hv).1,if_neg hk]
  simp
 | p :: P,w :: vs,i+1,m,nd,h1,h2,hk=>by
  show bindC kindOf ((p,w) :: P.zip vs) m x=_
  unfold bindC
  exact bindC_get (i:=i) (List.nodup_cons.mp nd).2 (by simpa using h1) (by simpa using h2) hk

def start (N:List Str) (vs:List V) : St:=vs.map some++List.replicate (N.length - vs.length) none

def cxOf (CX:CXT) (P:Program) (w:World) (K:PySem.W.Frag) (mg:Str→Option Value) (base:Heap) (N:List Str) (qual:Str) (scope:Scope) (f:Addr) (cd:Value) (A:Around) (outer:List Env) (s:Shared) (H:Hp) (E:XK) : Cx where
 prog:=P
 w:=w
 K:=K
 mg:=mg
 base:=base
 A:=A.deeper (envOfC qual scope s.heap.objs.size f cd)
 N:=N
 s₀:=s
 H₀:=H
 env:=envOfC qual scope s.heap.objs.size f cd
 outer:=outer
 stack:=envOfC qual scope s.heap.objs.size f cd :: outer
 ex:=[]
 calm:=true
 fn:=fun _=>true
 pn:=[]
 xe:=fun e s'=>wpAny (model P w) (A.deeper (envOfC qual scope s.heap.objs.size f cd)) (leaving (envOfC qual scope s.heap.objs.size f cd) e) (fun _ s''=>CX outer H s E e s'') (fun e' s''=>CX outer H s E e' s'') s'

theorem cell_has {sc:Scope} {n:Nat} {x:Str} (h:sc.names.lookup x=some .cell) : ∃ c,(cellsFrom n sc.names []).lookup x=some c:=by
 have q:=PySem.W.cellsFrom_some sc.names n [] (.inl h)
 exact Option.isSome_iff_exists.mp q

theorem inv_start {CX:CXT} {P:Program} {w:World} {K:PySem.W.Frag} {mg:Str→Option Value} {base:Heap} {N ps:List Str} {qual:Str} {scope:Scope} {f:Addr} {cd:Value} {A:Around} {outer:List Env} {s s1:Shared} {H:Hp} {E:XK} {us:List Value} {vs:List V}
  (S:FnScope N ps scope) (hd:A.handled=none) (e0:Env0 P w K mg base A outer s H) (hl:vs.length=ps.length) (r:Vals vs us)
  (x:InCallC s s.heap.objs.size (bindL (envOfC qual scope s.heap.objs.size f cd).kindOf (ps.zip us) fun _=>none) (cellsFrom (s.heap.objs.size+1) scope.names []) (bindC (envOfC qual scope s.heap.objs.size f cd).kindOf (ps.zip us) fun _=>none) s1) :
  Inv (cxOf CX P w K mg base N qual scope f cd A outer s H E) [] (start N vs) H s1:=by
 have hpl:ps.length≤N.length:=by have:=congrArg List.length S.pre; rw [List.length_take] at this; omega
 obtain ⟨h1,tk,rfl,hk⟩:=x.done
 have noA:∀ b:Addr,b ∉ (cxOf CX P w K mg base N qual scope f cd A outer s H E).ex:=fun b z=>absurd (show b ∈ ([] : List Addr) from z) (by simp)
 refine ⟨⟨e0.mod,S.kind,rfl,rfl,Nat.le_refl _,fun y z c h1 h2=>?_,fun y hy=>?_,fun y c _ h=>?_,fun _=>hd,Around.frames_deeper e0.frames,.inr ⟨rfl,rfl⟩,fun b z=>absurd z (noA b),e0.bs,e0.bsz,fun b _ _=>noA b,fun b z=>absurd z (noA b),e0.funs,e0.frf⟩,
  rfl,e0.bare,Un.kept hk,⟨_,x.toInCall.ns,fun i y v h1 h2 h3=>?_⟩,fun y c h=>⟨_,x.cell y c h⟩,e0.hok.fresh (Nat.le_refl _),fun y c h=>?_,fun p hp=>absurd (show p ∈ ([] : List (Addr × Obj)) from hp) (by simp),e0.hok.kept hk,?_⟩
 ·exact name_of_addr x.apart (PySem.mem_of_lookup h1) (PySem.mem_of_lookup h2)
 ·have hy:scope.names.lookup y=some .cell∨scope.names.lookup y=some .free:=hy
  rcases hy with hy | hy
  ·exact cell_has hy
  ·exact absurd rfl (S.nofree _ (PySem.mem_of_lookup hy))
 ·exact Nat.le_of_lt (x.above y c (PySem.mem_of_lookup h))
 ·have hi:i < vs.length:=by
   unfold start at h2
   by_cases hi:i < vs.length
   ·exact hi
   ·rw [List.getElem?_append_right (by simpa using hi)] at h2
    rw [List.getElem?_replicate] at h2
    split at h2 <;> cases h2
  have ha:vs[i]? = some v:=by
   unfold start at h2
   rw [List.getElem?_append_left (by simpa using hi),List.getElem?_map] at h2
   cases e:vs[i]? with
   | none=>rw [e] at h2; cases h2
   | some a=>rw [e] at h2; cases h2; rfl
  obtain ⟨u,hu,rv⟩:=r.get ha
  have hp:ps[i]? = some y:=by
   rw [← S.pre,List.getElem?_take_of_lt (by omega)]; exact h1
  have ndP:ps.Nodup:=by rw [← S.pre]; exact S.nd.sublist (List.take_sublist _ _)
  refine ⟨u,rv,?_⟩
  rcases S.par y (List.mem_of_getElem? hp) with k | k
  ·exact .inl ⟨k,bindL_get ndP hp hu k⟩
  ·obtain ⟨c,e⟩:=cell_has (n:=s.heap.objs.size+1) k
   refine .inr ⟨.inl k,c,e,?_⟩
   have q:=x.cell y c e
   rw [bindC_get ndP hp hu (by show scope.names.lookup y≠_; rw [k]; decide)] at q
   exact q
 ·exact e0.hok.fresh (Nat.le_of_lt (x.above y c (PySem.mem_of_lookup h)))
 ·unfold start
  show _=N.length
  rw [List.length_append,List.length_map,List.length_replicate]
  omega

theorem fn_of {CX:CXT} {P:Program} {w:World} {K:PySem.W.Frag} {mg:Str→Option Value} {base:Heap} {k:Nat} {f:Addr} {name qual:Str} {params:Arguments} {body:List Stmt} {scope:Scope} {dV kV doc pm cdv ct oc:Value} {an od:Option Addr}
  {osl:Array (Option Value)} {N ps:List Str} {sp:Sp} (lk:K.lookup f=some ⟨oc,od,.func (PySem.W.fnOf name qual params body scope dV kV doc pm an cdv ct),osl⟩) (hcd:PySem.W.codeIn K cdv qual=true) (S:FnScope N ps scope)
  (len:∀ vs H Q E,sp vs H Q E→vs.length=ps.length)
  (hbody:∀ (A:Around) (outer:List Env) (s:Shared) (H:Hp) (vs:List V) (Q:VK) (E:XK),Room k (A.deeper (envOfC qual scope s.heap.objs.size f cdv))→sp vs H Q E →
   ∃ t,PSs (cxOf CX P w K mg base N qual scope f cdv A outer s H E) body t∧t { nx:=fun _ H'=>Q .non H',rt:=Q } (start N vs) H) :
  FnOk P w K mg base CX (k+1) f (PySem.W.fnOf name qual params body scope dV kV doc pm an cdv ct) ps sp:=by
 refine ⟨len,fun A outer s H args us vs Q E hr e0 hb r hsp=>?_⟩
 have hl:=len _ _ _ _ hsp
 have KX:K.In s.heap:=e0.mod.kin.keeps fun b o e=>(e0.bs b o e).1
 have lim:s.heap.NoLimit:=e0.mod.nolimit.keeps fun b o e=>(e0.bs b o e).1
 have hkind:∀ y ∈ ps.zip us,scope.names.lookup y.1=some .local∨(scope.names.lookup y.1=some .cell∧((cellsFrom (s.heap.objs.size+1) scope.names []).lookup y.1).isSome=true):=fun ⟨n,v⟩ hy=>by
  rcases S.par n (List.of_mem_zip hy).1 with q | q
  ·exact .inl q
  ·exact .inr ⟨q,PySem.W.cellsFrom_some _ _ _ (.inl q)⟩
 refine codeAny_call_function hr.depth (KX _ _ lk) rfl S.co S.gen rfl (PySem.W.codeRec_of KX hcd) (hb _ _ _ _ ?_)
 refine wpAny_newFunctionEnv_cells S.kind hkind fun env he s1 x=>?_
 subst he
 refine ⟨lim.keeps x.toInCall.keep,codeAny_func ?_⟩
 obtain ⟨t,ht,hq⟩:=hbody A outer s H vs Q E (hr.deeper _) hsp
 have I:Inv (cxOf CX P w K mg base N qual scope f cdv A outer s H E) [] (start N vs) H s1:=inv_start S hr.hd e0 hl r x
 refine wpAny_mono (ht [] s1 (start N vs) H _ I hq) (fun fl s' hs=>?_) fun e s' hs=>hs
 have fin:∀ {σ':St} {H':Hp} {v:V} {u:Value},Inv (cxOf CX P w K mg base N qual scope f cdv A outer s H E) [] σ' H' s'→RelV v u→Q v H'→CE outer P w H s Q u s':=
  fun {σ' H' v u} J rv q=>⟨v,H',J.os,J.bare,J.base,J.hok,rv,q⟩
 cases fl with
 | ret u =>
  obtain ⟨v,σ',H',J,rv,q⟩:=hs
  exact fin J rv q
 | next =>
  obtain ⟨σ',H',J,q⟩:=hs
  exact fin (v:=V.non) (u:=Value.none) J rfl q
 | brk =>
  obtain ⟨_,_,_,q⟩:=hs
  exact False.elim q
 | cont =>
  obtain ⟨_,_,_,q⟩:=hs
  exact False.elim q
section
variable {X:Cx} {x:Str} {p pos:Pos} {e:Expr} {es:List Expr} {t:TA} {id T:String} {r:List V→Hp→VK→Prop}

def tCB (r:List V→Hp→VK→Prop) (t:TA) : TE:=fun σ H Q=>t σ H fun vs H1=>r vs H1 Q
theorem pe_callB (hc:CallR X (.builtin id) r) (hg:Gl X x) (hm:X.mg x=none) (hv:bootBuiltins x=some (.builtin id)) (ha:PA X (e :: es) t) (hn:x≠"__name__":=by decide) (hdb:(x == ("__debug__" : Str))=false:=by decide)
  (he:starEach (e :: es) X.env=(false,eval e X.env) :: starEach es X.env:=by rfl) (hpl:(backTo pos (starEach es X.env)).any (·.1)=false:=by rfl) : PE X (.Call (.Name x p) (e :: es) [] pos) (tCB r t):=by
 intro pins s σ H Q I h
 refine wpAny_Call_Name_kw (ld_blt I hg hm hv ?_ hn hdb)
 exact PyProof.Rows.callWith_builtin1 (thn (ha pos pins s σ H _ I h) fun us s1 ⟨vs,H1,I1,r1,q1⟩=>hc pins s1 σ H1 vs us Q I1 r1 q1) he hpl
theorem pe_callTy (hc:CallR X (.type T) r) (hg:Gl X x) (hm:X.mg x=none) (hv:bootBuiltins x=some (.type T)) (ha:PA X (e :: es) t) (hn:x≠"__name__":=by decide) (hdb:(x == ("__debug__" : Str))=false:=by decide)
  (he:starEach (e :: es) X.env=(false,eval e X.env) :: starEach es X.env:=by rfl) (hpl:(backTo pos (starEach es X.env)).any (·.1)=false:=by rfl) : PE X (.Call (.Name x p) (e :: es) [] pos) (tCB r t):=by
 intro pins s σ H Q I h
 refine wpAny_Call_Name_kw (ld_blt I hg hm hv ?_ hn hdb)
 exact PyProof.Rows.callWith_type1 (thn (ha pos pins s σ H _ I h) fun us s1 ⟨vs,H1,I1,r1,q1⟩=>hc pins s1 σ H1 vs us Q I1 r1 q1) he hpl
end
end L2

namespace HT
open PySem PyProof.Rows

theorem eqAt_int (A:Around) (s:Shared) (a:Int) (t:Tok) (c:Int) (u:Tok) : ∃ e,SeqAt.EqAt A s (.int a t) (.int c u) e∧(e=true↔a=c):=
 ⟨(a == c),SeqAt.EqAt.int_int a t c u,by simp⟩
section
open PySem.SeqAt
open PySem.AutoSeq1 (wpAny_loadPart')
open PySem.MeetsSeq PySem.MeetsSeq2 PySem.MeetsSeq3

end

section
variable {prog:Program} {w:World} {A:Around} {E:Value→Shared→Prop} {s:Shared}

def sIx (n d:Nat) : Option Int→Nat
 | none=>d
 | some v=>if v < 0 then (v+(n:Int)).toNat else min v.toNat n
theorem sIx_none (n d:Nat) : sIx n d none=d:=rfl
theorem sIx_nat (n d k:Nat) : sIx n d (some (k:Int))=min k n:=by
 show (if (k:Int) < 0 then ((k:Int)+(n:Int)).toNat else min (k:Int).toNat n)=min k n
 rw [if_neg (by omega),Int.toNat_natCast]
end
end HT

namespace L2
open PySem PySem.Spec PyProof.Rows

abbrev TO:=St→Hp→(Option Int→Hp→Prop)→Prop
def PO (X:Cx) (e:Option Expr) (t:TO) : Prop:=
 ∀ (pins:List (Addr × Obj)) (s:Shared) (σ:St) (H:Hp) (Q:Option Int→Hp→Prop),Inv X pins σ H s→t σ H Q →
  wpAny (model X.prog X.w) X.A (evalPart e X.env) (fun u s'=>∃ o H',Inv X pins σ H' s'∧IsPart u o∧Q o H') X.xe s
def tNoPart:TO:=fun _ H Q=>Q none H
def tPart (t:TE) : TO:=fun σ H Q=>t σ H fun x H1=>∃ i,x = .int i∧Q (some i) H1

theorem intsAre_of {ns:List Int} : ∀ {us:List Value},Vals (ns.map V.int) us→IntsAre us ns:=by
 induction ns with
 | nil=>intro us r; rw [List.map_nil] at r; cases r; exact .nil
 | cons n ns ih =>
  intro us r
  rw [List.map_cons] at r
  cases r with
  | cons r1 r2 =>
   obtain ⟨t,e⟩:=r1
   subst e
   exact .cons n t (ih r2)

section
variable {X:Cx} {e:Expr} {te:TE} {lo hi:Option Expr} {tl th:TO} {pos p2:Pos}

theorem po_none:PO X none tNoPart:=by
 intro pins s σ H Q I h
 rw [evalPart_none]
 exact wpAny_pure ⟨none,H,I,.none,h⟩
theorem po_some (h:PE X e te) : PO X (some e) (tPart te):=by
 intro pins s σ H Q I hw
 rw [evalPart_some]
 refine thn (h pins s σ H _ I hw) fun u s1 ⟨x,H1,I1,r1,q1⟩=>?_
 obtain ⟨i,rfl,q⟩:=q1
 obtain ⟨t,rfl⟩:=r1
 exact ⟨some i,H1,I1,.int i t,q⟩

def SlR (X:Cx) (r:V→Option Int→Option Int→Hp→VK→Prop) : Prop:=
 ∀ (pins:List (Addr × Obj)) (s:Shared) (σ:St) (H:Hp) (x:V) (v vl vu:Value) (lo hi:Option Int) (sl:Addr) (Q:VK),Inv X pins σ H s→RelV x v→s.heap.IsSliceOf sl vl vu .none→IsPart vl lo→IsPart vu hi→r x lo hi H Q →
  ∃ T id,typeLookup (.type T) "__getitem__" = pure (some (.builtin id))∧s.TypeIs v T∧wpAny (model X.prog X.w) X.A (getItem v (.ref sl)) (EP X pins σ Q) X.xe s
def tSl (r:V→Option Int→Option Int→Hp→VK→Prop) (te:TE) (tl th:TO) : TE:=fun σ H Q=>te σ H fun x H1=>tl σ H1 fun l H2=>th σ H2 fun u H3=>r x l u H3 Q
theorem pe_slice {r:V→Option Int→Option Int→Hp→VK→Prop} (hr:SlR X r) (he:PE X e te) (hl:PO X lo tl) (hu:PO X hi th) : PE X (.Subscript e (.Slice lo hi none p2) pos) (tSl r te tl th):=by
 intro pins s σ H Q I h
 refine Subscript_ (thn (he pins s σ H _ I h) fun v s1 ⟨x,H1,I1,r1,q1⟩=>?_)
 refine wpAny_Slice (thn (hl pins s1 σ H1 _ I1 q1) fun vl s2 ⟨l,H2,I2,pl,q2⟩=>thn (hu pins s2 σ H2 _ I2 q2) fun vu s3 ⟨u,H3,I3,pu,q3⟩=>?_)
 rw [evalPart_none]
 refine wpAny_pure ?_
 have I4:Inv X pins σ H3 { s3 with heap:=s3.heap.push { cls:=.type "slice",data:=.fields #[vl,vu,.none] } }:=I3.kept (t':=s3.toks) fun b ob q=>Heap.get?_push_of_some _ q
 obtain ⟨T,id,hT,ht,hg⟩:=hr pins { s3 with heap:=s3.heap.push { cls:=.type "slice",data:=.fields #[vl,vu,.none] } } σ H3 x v vl vu l u s3.heap.objs.size Q I4 r1 (Heap.IsSliceOf.new ..) pl pu q3
 show wpAny (model X.prog X.w) X.A (subscriptTail e (.Slice lo hi none p2) v (.ref s3.heap.objs.size)) (EP X pins σ Q) X.xe { s3 with heap:=s3.heap.push { cls:=.type "slice",data:=.fields #[vl,vu,.none] } }
 exact tail_any (ops:=[.ref s3.heap.objs.size,v]) ht hT hg (by with_unfolding_all rfl)

def cutV (xs:List V) (lo hi:Option Int) : List V:=(xs.drop (HT.sIx xs.length 0 lo)).take (HT.sIx xs.length xs.length hi - HT.sIx xs.length 0 lo)
theorem cutV_length (xs:List V) (lo hi:Option Int) : (cutV xs lo hi).length≤xs.length:=by
 unfold cutV
 rw [List.length_take,List.length_drop]
 omega
end

def ixN (n:Nat) (i:Int) : Option Nat:=if 0≤i then (if i < n then some i.toNat else none) else if -(n:Int)≤i then some (i+n).toNat else none
def atI {α:Type} (xs:List α) (i:Int) : Option α:=(ixN xs.length i).bind fun j=>xs[j]?
theorem ixN_seq {n:Nat} {i:Int} {j:Nat} (h:ixN n i=some j) : seqIndex? i n=some j∧j < n∧-(n:Int)≤i∧i < n:=by
 unfold ixN at h
 by_cases h0:0≤i
 ·rw [if_pos h0] at h
  by_cases h1:i < n
  ·rw [if_pos h1] at h
   have e:i.toNat=j:=Option.some.inj h
   exact ⟨by rw [seqIndex_of h0 h1,e],by omega,by omega,h1⟩
  ·rw [if_neg h1] at h; cases h
 ·rw [if_neg h0] at h
  by_cases h1:-(n:Int)≤i
  ·rw [if_pos h1] at h
   have e:(i+n).toNat=j:=Option.some.inj h
   exact ⟨by rw [seqIndex_neg (by omega) h1,e],by omega,h1,by omega⟩
  ·rw [if_neg h1] at h; cases h
theorem atI_get {α:Type} {xs:List α} {i:Int} {v:α} (h:atI xs i=some v) : ∃ j,seqIndex? i xs.length=some j∧xs[j]? = some v∧j < xs.length∧-(xs.length:Int)≤i∧i < xs.length:=by
 unfold atI at h
 cases e:ixN xs.length i with
 | none=>rw [e] at h; cases h
 | some j =>
  rw [e] at h
  obtain ⟨h1,h2,h3,h4⟩:=ixN_seq e
  exact ⟨j,h1,h,h2,h3,h4⟩
theorem atI_nat {α:Type} {xs:List α} {j:Nat} {v:α} (h:xs[j]? = some v) : atI xs (j:Int)=some v:=by
 have hj:j < xs.length:=(List.getElem?_eq_some_iff.mp h).1
 have e:ixN xs.length (j:Int)=some j:=by
  unfold ixN
  rw [if_pos (by omega),if_pos (by omega)]; simp
 unfold atI; rw [e]; exact h
def PlainIx (b:Expr) : Prop:=∀ o i,subscripted b false o i=operate [o,i] (getItem o i)
def IxR (X:Cx) (r:R2) : Prop:=
 ∀ (value slice:Expr) (pins:List (Addr × Obj)) (s:Shared) (σ:St) (H:Hp) (x y:V) (v u:Value) (Q:VK),Inv X pins σ H s→RelV x v→RelV y u→r x y H Q →
  subscripted slice false v u=operate [v,u] (getItem v u)→wpAny (model X.prog X.w) X.A (subscriptTail value slice v u) (EP X pins σ Q) X.xe s
def MtR (X:Cx) (id:String) (r:V→List V→Hp→VK→Prop) : Prop:=
 ∀ (pins:List (Addr × Obj)) (s:Shared) (σ:St) (H:Hp) (x:V) (xs:List V) (v:Value) (us:List Value) (Q:VK),Inv X pins σ H s→RelV x v→Vals xs us→r x xs H Q →
  wpAny (model X.prog X.w) X.A (call (.builtin id) (v :: us)) (EP X pins σ Q) X.xe s
section
variable {X:Cx} {a b:Expr} {ta tb:TE} {pos:Pos}
theorem pe_ix {r:R2} (hr:IxR X r) (ha:PE X a ta) (hb:PE X b tb) (hs:PlainIx b) : PE X (.Subscript a b pos) (tOp r ta tb):=by
 intro pins s σ H Q I h
 exact Subscript_ (binT ha hb I h fun v u s2 x y H2 I2 rx ry q=>hr a b pins s2 σ H2 x y v u Q I2 rx ry q (hs _ _))

def rIxL (K:PySem.W.Frag) : R2:=fun x y H Q=>∃ p xs i v,x = .ref p∧y = .int i∧SqL K H p xs∧atI xs i=some v∧Q v H
def rIxT (K:PySem.W.Frag) : R2:=fun x y H Q=>∃ p xs i v,x = .ref p∧y = .int i∧SqT K H p xs∧atI xs i=some v∧Q v H
def rIxS:R2:=fun x y H Q=>∃ z i c,x = .str z∧y = .int i∧z.length≤sizeLine∧atI z.cps.toList i=some c∧Q (.str ⟨#[c]⟩) H
theorem ix_list:IxR X (rIxL X.K):=by
 intro value slice pins s σ H x y v u Q I rx ry h hs
 obtain ⟨p,xs,i,z,rfl,rfl,hq,he,q⟩:=h
 cases rx
 obtain ⟨t,rfl⟩:=ry
 obtain ⟨its,r,pl,hz⟩:=I.list hq
 obtain ⟨j,h1,h2,h3,h4,h5⟩:=atI_get he
 obtain ⟨w,ew,rw'⟩:=r.get h2
 have hl:=r.length
 have hn:=line63
 have fin:EP X pins σ Q w s:=⟨z,H,I,rw',q⟩
 by_cases h0:0≤i
 ·have hj:i.toNat=j:=by
   rw [seqIndex_of h0 h5] at h1
   exact Option.some.inj h1
  exact item_listR pl.isList h0 (by omega) (by rw [hj]; simpa using ew) fin hs
 ·have hj:(i+(its.toArray.size:Int)).toNat=j:=by
   rw [seqIndex_neg (by omega) h4] at h1
   rw [List.size_toArray,← hl]
   exact Option.some.inj h1
  exact subscriptTail_builtinR (x:=w) pl.isList.typeIs slot_list_getitem.lookup
   (wpAny_getItem_list_neg (Q:=fun r s'=>r=w∧EP X pins σ Q r s') pl.isList (by omega) (by rw [List.size_toArray] <;> omega) (by omega) (by rw [hj]; simpa using ew) ⟨rfl,fin⟩) hs
theorem ix_tup:IxR X (rIxT X.K):=by
 intro value slice pins s σ H x y v u Q I rx ry h hs
 obtain ⟨p,xs,i,z,rfl,rfl,hq,he,q⟩:=h
 cases rx
 obtain ⟨t,rfl⟩:=ry
 obtain ⟨its,r,pl,hz⟩:=I.tuple hq
 obtain ⟨j,h1,h2,h3,h4,h5⟩:=atI_get he
 obtain ⟨w,ew,rw'⟩:=r.get h2
 have hl:=r.length
 have hn:=line63
 have fin:EP X pins σ Q w s:=⟨z,H,I,rw',q⟩
 exact subscriptTail_builtinR (x:=w) pl.typeIs slot_tuple_getitem.lookup
  (getItem_tuple (j:=j) (Q:=fun r s'=>r=w∧EP X pins σ Q r s') pl (by omega) (by omega) (by rw [List.size_toArray,← hl]; exact h1) (by simpa using ew) ⟨rfl,fin⟩) hs
theorem ix_str:IxR X rIxS:=by
 intro value slice pins s σ H x y v u Q I rx ry h hs
 obtain ⟨z,i,c,rfl,rfl,hz,he,q⟩:=h
 obtain ⟨t,rfl⟩:=rx
 obtain ⟨t',rfl⟩:=ry
 obtain ⟨j,h1,h2,h3,h4,h5⟩:=atI_get he
 have hl:z.cps.toList.length=z.length:=by simp [Str.length]
 rw [hl] at h1 h4 h5
 have hn:=line63
 exact tail_any (typeIs_str s z t) slot_str_getitem.lookup (getItem_str (c:=c) (by
  have e1:decide (i < -(2 ^ 63:Int))=false:=decide_eq_false (by omega)
  have e2:decide (i ≥ 2 ^ 63)=false:=decide_eq_false (by omega)
  rw [e1,e2,Bool.or_false]) (by rw [h1]; simpa using h2) ⟨.str ⟨#[c]⟩,H,I.tok _,⟨_,rfl⟩,q⟩) hs
theorem mapSeq_set (its:List Value) (n j:Nat) (u:Value) : Obj.mapSeq (·.setIfInBounds j u) { cls:=.type "list",data:=.seq its.toArray n }={ cls:=.type "list",data:=.seq (its.set j u).toArray n }:=by
 simp [Obj.mapSeq]
theorem Inv.lst {pins:List (Addr × Obj)} {σ:St} {H:Hp} {s:Shared} {p:Addr} {xs:List V} (I:Inv X pins σ H s) (h:H p=some (.lst xs)) :
  ∃ (its:List Value) (n:Nat),Vals xs its∧s.heap.get? p=some { cls:=.type "list",data:=.seq its.toArray n }∧xs.length≤sizeLine:=by
 obtain ⟨z,its,n,r,e⟩:=I.hok p _ h
 exact ⟨its,n,r,e,z⟩
theorem Inv.lstUpd {pins:List (Addr × Obj)} {σ:St} {H:Hp} {s:Shared} {p:Addr} {xs ys:List V} {its its':List Value} {n n':Nat} {f:Obj→Obj} (I:Inv X pins σ H s) (h:H p=some (.lst xs))
  (ho:s.heap.get? p=some { cls:=.type "list",data:=.seq its.toArray n }) (hf:f { cls:=.type "list",data:=.seq its.toArray n }={ cls:=.type "list",data:=.seq its'.toArray n' }) (r:Vals ys its') (hz:ys.length≤sizeLine) (t:Nat) :
  Inv X pins σ (upd H p (.lst ys)) { s with heap:=s.heap.update p f,toks:=t }:=by
 have e:(s.heap.update p f).get? p=some { cls:=.type "list",data:=.seq its'.toArray n' }:=by
  rw [Heap.get?_update_self f ho (by rw [hf] <;> rfl),hf]
 refine I.write (x:=p) (e:=p) (by rw [h]; trivial) (.inl rfl) (fun b u hb q=>(Heap.get?_update_other _ _ (Ne.symm hb)).trans q) ⟨_,e⟩ ?_
 exact ⟨hz,its',n',r,e⟩
def rSetL:V→V→V→Hp→(Hp→Prop)→Prop:=fun o i v H Q=>∃ p xs k j,o = .ref p∧i = .int k∧H p=some (.lst xs)∧ixN xs.length k=some j∧Q (upd H p (.lst (xs.set j v)))
theorem set_list:PSet X rSetL:=by
 intro pins s σ H o i v ov iv u Q I ro ri rv h
 obtain ⟨p,xs,k,j,rfl,rfl,hp,hj,q⟩:=h
 cases ro
 obtain ⟨t,rfl⟩:=ri
 obtain ⟨its,n,r,ho,hz⟩:=I.lst hp
 obtain ⟨h1,h2,h3,h4⟩:=ixN_seq hj
 have hl:=r.length
 have hn:=line63
 have I':Inv X pins σ (upd H p (.lst (xs.set j v))) { s with heap:=s.heap.update p (Obj.mapSeq (·.setIfInBounds j u)) }:=
  I.lstUpd hp ho (mapSeq_set its n j u) (r.set rv j) (by rw [List.length_set]; exact hz) s.toks
 by_cases h0:0≤k
 ·have hk:k.toNat=j:=by
   rw [seqIndex_of h0 h4] at h1
   exact Option.some.inj h1
  exact PySem.W.ki_setAt ho h0 (by omega) (by rw [List.size_toArray,← hl]; exact h4) (by rw [hk]; exact ⟨_,I',q⟩)
 ·have hk:(k+(its.toArray.size:Int)).toNat=j:=by
   rw [seqIndex_neg (by omega) h3] at h1
   rw [List.size_toArray,← hl]
   exact Option.some.inj h1
  exact PySem.W.ki_setBack ho (by omega) (by rw [List.size_toArray,← hl]; exact h3) (by omega) (by rw [hk]; exact ⟨_,I',q⟩)

theorem slice_bounds (lo hi:Option Int) (n:Nat) : (sliceBounds lo hi none n).1=((HT.sIx n 0 lo:Nat) : Int)∧(sliceBounds lo hi none n).2.1=((HT.sIx n n hi:Nat) : Int)∧(sliceBounds lo hi none n).2.2=1:=by
 refine ⟨?_,?_,rfl⟩
 ·cases lo with
  | none=>simp [sliceBounds,HT.sIx]
  | some i =>
   simp only [sliceBounds,HT.sIx,Option.getD_none,show (1:Int) > 0 by decide,if_true]
   by_cases h:i < 0
   ·simp only [h,if_true] <;> omega
   ·simp only [h,if_false] <;> omega
 ·cases hi with
  | none=>simp [sliceBounds,HT.sIx]
  | some i =>
   simp only [sliceBounds,HT.sIx,Option.getD_none,show (1:Int) > 0 by decide,if_true]
   by_cases h:i < 0
   ·simp only [h,if_true] <;> omega
   ·simp only [h,if_false] <;> omega
theorem slicePick_cut (its:List Value) (lo hi:Option Int) : slicePick its.toArray lo hi none=((its.drop (HT.sIx its.length 0 lo)).take (HT.sIx its.length its.length hi - HT.sIx its.length 0 lo)).toArray:=by
 obtain ⟨h1,h2,h3⟩:=slice_bounds lo hi its.toArray.size
 unfold slicePick
 rw [h1,h2,h3]
 simp only [sliceRange_one,pick_run,List.size_toArray] <;> rfl
def rSlL (K:PySem.W.Frag) : V→Option Int→Option Int→Hp→VK→Prop:=fun x lo hi H Q=>∃ a xs,x = .ref a∧SqL K H a xs∧∀ p,H p=none→Q (.ref p) (upd H p (.lst (cutV xs lo hi)))
theorem sl_list:SlR X (rSlL X.K):=by
 intro pins s σ H x v vl vu lo hi sl Q I rx hs pl pu h
 obtain ⟨a,xs,rfl,hx,q⟩:=h
 cases rx
 obtain ⟨its,r,ht,hz⟩:=I.list hx
 have hlen:=r.length
 refine ⟨"list",_,slot_list_getitem.lookup,ht.isList.typeIs,?_⟩
 refine wpAny_getItem_list_slice ht.isList hs pl pu .none (by simp) ?_ (by rw [List.size_toArray] <;> omega)
 rw [slicePick_cut,← hlen]
 refine ⟨.ref s.heap.objs.size,_,I.laid (t':=s.toks) (o:=.lst (cutV xs lo hi)) (fun b ob q=>Heap.get?_push_of_some _ q) (Nat.le_refl _) ?_,rfl,q _ (I.hok.fresh (Nat.le_refl _))⟩
 exact ⟨Nat.le_trans (cutV_length xs lo hi) hz,_,0,(r.drop (HT.sIx xs.length 0 lo)).take (HT.sIx xs.length xs.length hi - HT.sIx xs.length 0 lo),Heap.get?_push_size _ rfl⟩

def flatV:V→Bool
 | .non=>true
 | .bl _=>true
 | .int _=>true
 | .str _=>true
 | _=>false
def eqV:V→V→Bool
 | .non,.non=>true
 | .bl a,.bl b=>a == b
 | .bl a,.int b=>(if a then 1 else 0) == b
 | .int a,.bl b=>a == (if b then 1 else 0)
 | .int a,.int b=>a == b
 | .str a,.str b=>a == b
 | _,_=>false
theorem eqAt_V {A:Around} {s:Shared} {y x:V} {u v:Value} (ry:RelV y u) (rx:RelV x v) (fy:flatV y=true) (fx:flatV x=true) : SeqAt.EqAt A s u v (eqV y x):=by
 cases y with
 | non =>
  cases ry
  cases x with
  | non=>cases rx; exact SeqAt.EqAt.same _
  | bl b=>cases rx; exact SeqAt.EqAt.none_bool b
  | int b=>obtain ⟨t,rfl⟩:=rx; exact SeqAt.EqAt.none_int b t
  | str b=>obtain ⟨t,rfl⟩:=rx; exact SeqAt.EqAt.none_str b t
  | _=>exact absurd (show false=true from fx) Bool.false_ne_true
 | bl a =>
  cases ry
  cases x with
  | non=>cases rx; exact SeqAt.EqAt.bool_none a
  | bl b=>cases rx; exact SeqAt.EqAt.bool_bool a b
  | int b=>obtain ⟨t,rfl⟩:=rx; exact SeqAt.EqAt.bool_int a b t
  | str b=>obtain ⟨t,rfl⟩:=rx; exact SeqAt.EqAt.bool_str a b t
  | _=>exact absurd (show false=true from fx) Bool.false_ne_true
 | int a =>
  obtain ⟨t',rfl⟩:=ry
  cases x with
  | non=>cases rx; exact SeqAt.EqAt.int_none a t'
  | bl b=>cases rx; exact SeqAt.EqAt.int_bool a t' b
  | int b=>obtain ⟨t,rfl⟩:=rx; exact SeqAt.EqAt.int_int a t' b t
  | str b=>obtain ⟨t,rfl⟩:=rx; exact SeqAt.EqAt.int_str a t' b t
  | _=>exact absurd (show false=true from fx) Bool.false_ne_true
 | str a =>
  obtain ⟨t',rfl⟩:=ry
  cases x with
  | non=>cases rx; exact SeqAt.EqAt.str_none a t'
  | bl b=>cases rx; exact SeqAt.EqAt.str_bool a t' b
  | int b=>obtain ⟨t,rfl⟩:=rx; exact SeqAt.EqAt.str_int a t' b t
  | str b=>obtain ⟨t,rfl⟩:=rx; exact SeqAt.EqAt.str_str a t' b t
  | _=>exact absurd (show false=true from fx) Bool.false_ne_true
 | _=>exact absurd (show false=true from fy) Bool.false_ne_true
def eqU (x:V) (u:Value) : Bool:=match u with
 | .none=>eqV .non x
 | .bool b=>eqV (.bl b) x
 | .int i _=>eqV (.int i) x
 | .str z _=>eqV (.str z) x
 | _=>false
theorem eqU_of {x y:V} {u:Value} (r:RelV y u) (f:flatV y=true) : eqU x u=eqV y x:=by
 cases y with
 | non=>cases r; rfl
 | bl b=>cases r; rfl
 | int i=>obtain ⟨t,rfl⟩:=r; rfl
 | str z=>obtain ⟨t,rfl⟩:=r; rfl
 | _=>exact absurd (show false=true from f) Bool.false_ne_true
theorem any_eqU {x:V} : ∀ {xs:List V} {us:List Value},Vals xs us→xs.all flatV=true→us.any (eqU x)=xs.any fun y=>eqV y x
 | _,_,.nil,_=>rfl
 | y :: xs,u :: us,.cons r t,f=>by
  rw [List.all_cons,Bool.and_eq_true] at f
  rw [List.any_cons,List.any_cons,eqU_of r f.1,any_eqU t f.2]
theorem mem_eqAt {A:Around} {s:Shared} {x:V} {v:Value} (rx:RelV x v) (fx:flatV x=true) : ∀ {xs:List V} {us:List Value},Vals xs us→xs.all flatV=true→∀ u ∈ us,SeqAt.EqAt A s u v (eqU x u)
 | _,_,.nil,_=>fun u hu=>by cases hu
 | y :: xs,u :: us,.cons r t,f=>fun u' hu=>by
  rw [List.all_cons,Bool.and_eq_true] at f
  rcases List.mem_cons.mp hu with rfl | hu
  ·rw [eqU_of r f.1]; exact eqAt_V r rx f.1 fx
  ·exact mem_eqAt rx fx t f.2 u' hu
def inV (x:V) (xs:List V) : Bool:=xs.any fun y=>eqV y x
def rIn (K:PySem.W.Frag) (neg:Bool) : R2:=fun x y H Q=>∃ p xs,y = .ref p∧(SqL K H p xs∨SqT K H p xs)∧flatV x=true∧xs.all flatV=true∧Q (.bl (if neg then !inV x xs else inV x xs)) H
theorem op_in_seq:OpR X (compareOp .In) (rIn X.K false):=by
 intro pins s σ H x y v u Q I rx ry h
 obtain ⟨p,xs,rfl,hq,fx,fs,q⟩:=h
 cases ry
 rcases hq with hq | hq
 ·obtain ⟨its,r,pl,hz⟩:=I.list hq
  refine SeqAt.in_listAt (eqU x) pl.isList (fun w hw=>mem_eqAt rx fx r fs w (by simpa using hw)) ⟨.bl _,H,I,rfl,?_⟩
  rw [show its.toArray.any (eqU x)=its.any (eqU x) by simp,any_eqU r fs]
  exact q
 ·obtain ⟨its,r,pl,hz⟩:=I.tuple hq
  refine SeqAt.in_tupleAt (eqU x) pl (fun w hw=>mem_eqAt rx fx r fs w (by simpa using hw)) ⟨.bl _,H,I,rfl,?_⟩
  rw [show its.toArray.any (eqU x)=its.any (eqU x) by simp,any_eqU r fs]
  exact q
theorem call_len_seq:CallR X (.builtin "len") (fun xs H Q=>∃ p ys,xs=[.ref p]∧(SqL X.K H p ys∨SqT X.K H p ys)∧Q (.int ys.length) H):=by
 intro pins s σ H xs us Q I r h
 obtain ⟨p,ys,rfl,hq,q⟩:=h
 obtain ⟨u,rfl,rx⟩:=vals1 r
 cases rx
 have hn:=line63
 rcases hq with hq | hq
 ·obtain ⟨its,r',pl,hz⟩:=I.list hq
  have hlen:=r'.length
  exact Calls.call_len_list pl.isList (by simp only [List.size_toArray] <;> omega) ⟨.int ys.length,H,I.tok _,⟨s.toks+1,by rw [List.size_toArray,hlen]⟩,q⟩
 ·obtain ⟨its,r',pl,hz⟩:=I.tuple hq
  have hlen:=r'.length
  exact len_tuple pl (by simp only [List.size_toArray] <;> omega) ⟨.int ys.length,H,I.tok _,⟨s.toks+1,by rw [List.size_toArray,hlen]⟩,q⟩
theorem call_len_str:CallR X (.builtin "len") (fun xs H Q=>∃ z,xs=[.str z]∧z.length≤sizeLine∧Q (.int z.length) H):=by
 intro pins s σ H xs us Q I r h
 obtain ⟨z,rfl,hz,q⟩:=h
 obtain ⟨u,rfl,t,rfl⟩:=vals1 r
 have hn:=line63
 exact len_str (by omega) ⟨.int z.length,H,I.tok _,⟨_,rfl⟩,q⟩
theorem call_list_of:CallR X (.type "list") (fun xs H Q=>∃ p ys,xs=[.ref p]∧(SqL X.K H p ys∨SqT X.K H p ys)∧∀ l,H l=none→Q (.ref l) (upd H l (.lst ys))):=by
 intro pins s σ H xs us Q I r h
 obtain ⟨p,ys,rfl,hq,q⟩:=h
 obtain ⟨u,rfl,rx⟩:=vals1 r
 cases rx
 have fin:∀ (its:List Value),Vals ys its→ys.length≤sizeLine→∀ (h':Heap) (c':Nat),(∀ b o',s.heap.get? b=some o'→h'.get? b=some o') →
   h'.get? s.heap.objs.size=some { cls:=.type "list",dict:=none,data:=.seq its.toArray c',slots:=#[] }→EP X pins σ Q (.ref s.heap.objs.size) { s with heap:=h' }:=fun its r' hz h' c' kp e =>
  ⟨.ref s.heap.objs.size,_,I.laid (t':=s.toks) kp (Nat.le_refl _) (show ObjOk X.prog X.w _ h' _ (.lst ys) from ⟨hz,its,c',r',e⟩),rfl,q _ (I.hok.fresh (Nat.le_refl _))⟩
 rcases hq with hq | hq
 ·obtain ⟨its,r',pl,hz⟩:=I.list hq
  have hlen:=r'.length
  obtain ⟨o,ho,hc,n,hd⟩:=pl.isList
  exact call_list_seq p (.inl rfl) ho hc hd (fun h' c' kp e=>fin its r' hz h' c' kp e) (by simp only [List.size_toArray] <;> omega)
 ·obtain ⟨its,r',pl,hz⟩:=I.tuple hq
  have hlen:=r'.length
  obtain ⟨o,ho,hc,n,hd⟩:=pl
  exact call_list_seq p (.inr rfl) ho hc hd (fun h' c' kp e=>fin its r' hz h' c' kp e) (by simp only [List.size_toArray] <;> omega)
def tyV (K:PySem.W.Frag) (T:String) (x:V) (H:Hp) : Prop:=match x with
 | .str _=>T = "str"
 | .int _=>T = "int"
 | .ref p=>(T = "list"∧∃ xs,SqL K H p xs)∨(T = "tuple"∧∃ o,K.lookup p=some o∧o.cls = .type "tuple"∧o.dict=none) ∨
   (T = "dict"∧((∃ kvs,H p=some (.dK kvs))∨∃ kvs,H p=some (.dT kvs)))∨(T = "set"∧∃ S n,H p=some (.set S n))
 | _=>False
theorem tyV_is {pins:List (Addr × Obj)} {σ:St} {H:Hp} {s:Shared} {T:String} {x:V} {v:Value} (I:Inv X pins σ H s) (r:RelV x v) (ty:tyV X.K T x H) :
  s.TypeIs v T∧∀ a,v = .ref a→∃ ob,s.heap.get? a=some ob∧ob.dict=none:=by
 cases x with
 | str z =>
  obtain ⟨t,rfl⟩:=r
  cases (show T = "str" from ty)
  exact ⟨typeIs_str s z t,fun _ e=>nomatch e⟩
 | int i =>
  obtain ⟨t,rfl⟩:=r
  cases (show T = "int" from ty)
  exact ⟨typeIs_int s i t,fun _ e=>nomatch e⟩
 | ref p =>
  cases r
  rcases ty with ⟨rfl,xs,hq⟩ | ⟨rfl,o,hk,hc,hd⟩ | ⟨rfl,hk⟩ | ⟨rfl,S,n,hk⟩
  ·obtain ⟨its,_,pl,_⟩:=I.list hq
   refine ⟨pl.isList.typeIs,fun a e=>?_⟩
   cases e
   obtain ⟨o,n,e,c,hd,_⟩:=pl
   exact ⟨o,e,hd⟩
  ·refine ⟨⟨o,I.kIn p o hk,hc⟩,fun a e=>?_⟩
   cases e
   exact ⟨o,I.kIn _ o hk,hd⟩
  ·have z:∃ o,s.heap.get? p=some o∧o.ExactDict:=by
    rcases hk with ⟨kvs,hk⟩ | ⟨kvs,hk⟩
    ·obtain ⟨_,_,_,_,o,_,_,e,ex,_⟩:=I.hok p _ hk
     exact ⟨o,e,ex⟩
    ·obtain ⟨_,_,_,_,o,_,_,e,ex,_⟩:=I.hok p _ hk
     exact ⟨o,e,ex⟩
   obtain ⟨o,e,ex⟩:=z
   refine ⟨⟨o,e,ex.1⟩,fun a e2=>?_⟩
   cases e2
   exact ⟨o,e,ex.2.1⟩
  ·obtain ⟨o,_,_,_,e,ex,_⟩:=I.hok p _ hk
   refine ⟨⟨o,e,ex.1⟩,fun a e2=>?_⟩
   cases e2
   exact ⟨o,e,ex.2.1⟩
 | _=>exact False.elim ty
def tBM0 (K:PySem.W.Frag) (T:String) (r:V→List V→Hp→VK→Prop) (to:TE) : TE:=fun σ H Q=>to σ H fun x H1=>tyV K T x H1∧r x [] H1 Q
def tBM (K:PySem.W.Frag) (T:String) (r:V→List V→Hp→VK→Prop) (to:TE) (t:TA) : TE:=fun σ H Q=>to σ H fun x H1=>tyV K T x H1∧t σ H1 fun xs H2=>r x xs H2 Q
variable {o e:Expr} {es:List Expr} {to:TE} {t:TA} {name:Str} {apos cpos:Pos} {T id:String} {r:V→List V→Hp→VK→Prop}
theorem pe_bm0 (pa:PlainAttrs T) (slot:Slot T name id) (hty:typeOf (.builtin id)=pure (.type "method_descriptor")) (hm:MtR X id r) (ho:PE X o to)
  (hbase:attributeBase o name X.env (eval o X.env)=eval o X.env:=by rfl) (hline:(apos.endLine == cpos.line)=true:=by rfl) : PE X (.Call (.Attribute o name apos) [] [] cpos) (tBM0 X.K T r to):=by
 intro pins s σ H Q I h
 refine wpAny_Call_method0_late hbase hline (thn (ho pins s σ H _ I h) fun v s1 ⟨x,H1,I1,r1,ty,q1⟩=>?_)
 obtain ⟨h1,h2⟩:=tyV_is I1 r1 ty
 exact ⟨T,id,pa,slot,hty,h1,h2,Calls.callWith_builtin rfl (PySem.evalArgs_none (hm pins s1 σ H1 x [] v [] Q I1 r1 .nil q1))⟩
theorem pe_bm (pa:PlainAttrs T) (slot:Slot T name id) (hty:typeOf (.builtin id)=pure (.type "method_descriptor")) (hm:MtR X id r) (ho:PE X o to) (ha:PA X (e :: es) t)
  (hbase:attributeBase o name X.env (eval o X.env)=eval o X.env:=by rfl)
  (hfew:((backTo cpos (starEach (e :: es) X.env)).all (fun x=>!x.1) && (backToKw cpos (keywordEach [] X.env)).all (fun x=>x.1.isSome)
   && decide ((e :: es).length+([] : List Keyword).length+(if ([] : List Keyword).isEmpty then 0 else 1) < 30))=true:=by rfl)
  (hline:(apos.endLine == cpos.line)=true:=by rfl) (hs:starEach (e :: es) X.env=(false,eval e X.env) :: starEach es X.env:=by rfl) (hplain:(backTo cpos (starEach es X.env)).any (·.1)=false:=by rfl) :
  PE X (.Call (.Attribute o name apos) (e :: es) [] cpos) (tBM X.K T r to t):=by
 intro pins s σ H Q I h
 refine wpAny_Call_method_late hbase hfew hline rfl (thn (ho pins s σ H _ I h) fun v s1 ⟨x,H1,I1,r1,ty,q1⟩=>?_)
 obtain ⟨h1,h2⟩:=tyV_is I1 r1 ty
 refine ⟨T,id,pa,slot,hty,h1,h2,?_⟩
 have hA:=ha cpos pins s1 σ H1 _ I1 q1
 rw [hs] at hA ⊢
 refine Calls.callWith_builtin (by show (false || (backTo cpos (starEach es X.env)).any (·.1))=false; rw [hplain] <;> rfl) (Calls.evalArgs_plain ?_)
 exact thn hA fun us s2 ⟨vs,H2,I2,r2,q2⟩=>hm pins s2 σ H2 x vs v us Q I2 r1 r2 q2
end

def MtM (X:Cx) (id:String) (r:V→List V→Hp→VK→Prop) : Prop:=
 ∀ (pins:List (Addr × Obj)) (s:Shared) (σ:St) (H:Hp) (x:V) (xs:List V) (v:Value) (us:List Value) (Q:VK),Inv X pins σ H s→RelV x v→Vals xs us→r x xs H Q →
  wpAny (model X.prog X.w) X.A (call (.builtin id) (v :: us)) (EP X pins σ Q) X.xe s

theorem Vals.one:∀ {x:V} {us:List Value},Vals [x] us→∃ u,us=[u]∧RelV x u
 | _,_,.cons r .nil=>⟨_,rfl,r⟩
theorem Vals.zero:∀ {us:List Value},Vals [] us→us=[]
 | _,.nil=>rfl
theorem Vals.dropLast {xs:List V} {us:List Value} (h:Vals xs us) : Vals xs.dropLast us.dropLast:=by
 induction h with
 | nil=>exact .nil
 | cons r t ih =>
  cases t with
  | nil=>exact .nil
  | cons q t'=>exact .cons r ih
theorem Vals.reverse {xs:List V} {us:List Value} (h:Vals xs us) : Vals xs.reverse us.reverse:=by
 induction h with
 | nil=>exact .nil
 | cons r t ih=>rw [List.reverse_cons,List.reverse_cons]; exact Vals.append ih (.cons r .nil)
section
variable {X:Cx} {pins:List (Addr × Obj)} {σ:St} {H:Hp} {s:Shared} {l b:Addr} {xs ys zs:List V}

theorem Inv.lset {its its':List Value} {n:Nat} {f:Array Value→Array Value} {t':Nat} (I:Inv X pins σ H s) (hH:H l=some (.lst xs))
  (e:s.heap.get? l=some { cls:=.type "list",data:=.seq its.toArray n }) (hf:f its.toArray=its'.toArray) (hv:Vals ys its') (hz:ys.length≤sizeLine) :
  Inv X pins σ (upd H l (.lst ys)) { s with heap:=s.heap.update l (Obj.mapSeq f),toks:=t' }:=by
 have q:=PySem.IsL.update e f
 rw [hf] at q
 refine I.write (x:=l) (e:=l) (by rw [hH]; exact trivial) (.inl rfl) (fun b' u hb hu=>(Heap.get?_update_other s.heap (Obj.mapSeq f) (Ne.symm hb)).trans hu) ⟨_,q⟩ ?_
 exact ⟨hz,its',_,hv,q⟩
theorem Inv.lnew {its:List Value} {t':Nat} (I:Inv X pins σ H s) (hv:Vals ys its) (hz:ys.length≤sizeLine) :
  Inv X pins σ (upd H s.heap.objs.size (.lst ys)) { s with heap:=s.heap.push { cls:=.type "list",data:=.seq its.toArray },toks:=t' }:=
 I.laid (fun _ _ q=>Heap.get?_push_of_some _ q) (Nat.le_refl _) ⟨hz,its,0,hv,Heap.get?_push_size _ rfl⟩
theorem Inv.fresh (I:Inv X pins σ H s) : H s.heap.objs.size=none:=I.hok.fresh (Nat.le_refl _)
theorem Inv.lstM (I:Inv X pins σ H s) (hH:H l=some (.lst xs)) : xs.length≤sizeLine∧∃ (its:List Value) (n:Nat),Vals xs its∧xs.length=its.length∧s.heap.get? l=some { cls:=.type "list",data:=.seq its.toArray n }:=by
 obtain ⟨z,its,n,r,e⟩:=I.hok l _ hH
 exact ⟨z,its,n,r,r.length,e⟩

end

section
variable {X:Cx}

def rAppend:V→List V→Hp→VK→Prop:=fun x vs H Q=>∃ l xs y,x = .ref l∧vs=[y]∧H l=some (.lst xs)∧xs.length < sizeLine∧Q .non (upd H l (.lst (xs++[y])))
theorem mt_append:MtM X "list.append" rAppend:=by
 intro pins s σ H x vs v us Q I rx rv h
 obtain ⟨l,xs,y,rfl,rfl,hH,hz,q⟩:=h
 cases rx
 obtain ⟨u,rfl,ru⟩:=rv.one
 obtain ⟨z,its,n,r,hl,e⟩:=I.lstM hH
 refine call_meets F.slot_list_append ⟨_,e,rfl⟩ F.entry_list_append (F.args_list_append_2 _ _) (PySem.list_append l its.toArray n u (by rw [List.size_toArray]; omega)) ⟨e,?_⟩
 refine ⟨.non,_,I.lset (its':=its++[u]) hH e (by simp) (r.append (.cons ru .nil)) ?_,rfl,q⟩
 rw [List.length_append,List.length_singleton]
 omega

def rClear:V→List V→Hp→VK→Prop:=fun x vs H Q=>∃ l xs,x = .ref l∧vs=[]∧H l=some (.lst xs)∧Q .non (upd H l (.lst []))
theorem mt_clear:MtM X "list.clear" rClear:=by
 intro pins s σ H x vs v us Q I rx rv h
 obtain ⟨l,xs,rfl,rfl,hH,q⟩:=h
 cases rx
 have hus:=rv.zero
 subst hus
 obtain ⟨z,its,n,r,hl,e⟩:=I.lstM hH
 refine call_meets F.slot_list_clear ⟨_,e,rfl⟩ F.entry_list_clear (F.args_list_clear_1 _) (AutoSeq1.list_clear_list_0 l its.toArray n (by rw [List.size_toArray]; omega)) ⟨e,?_⟩
 exact ⟨.non,_,I.lset (its':=[]) (ys:=[]) hH e rfl .nil (Nat.zero_le _),rfl,q⟩

def rCat:R2:=fun x y H Q=>∃ l b xs zs,x = .ref l∧y = .ref b∧H l=some (.lst xs)∧H b=some (.lst zs)∧xs.length+zs.length≤sizeLine∧∀ p,H p=none→Q (.ref p) (upd H p (.lst (xs++zs)))
theorem op_cat:OpR X (binaryOp .Add) rCat:=by
 intro pins s σ H x y v u Q I rx ry h
 obtain ⟨l,b,xs,zs,rfl,rfl,hH,hB,hz,q⟩:=h
 cases rx
 cases ry
 obtain ⟨z,its,n,r,hl,e⟩:=I.lstM hH
 obtain ⟨z2,its2,n2,r2,hl2,e2⟩:=I.lstM hB
 refine PySem.P.add_list e e2 ?_ (by rw [List.size_toArray,List.size_toArray]; omega)
 have ea:its.toArray++its2.toArray=(its++its2).toArray:=by simp
 rw [ea]
 exact ⟨.ref _,_,I.lnew (t':=s.toks) (r.append r2) (by rw [List.length_append]; omega),rfl,q _ I.fresh⟩
end

section
variable {prog:Program} {w:World} {A:Around} {E:Value→Shared→Prop} {s:Shared}
end

section
variable {X:Cx}
end

section
variable {κ:Type} [DecidableEq κ]
def valV (kvs:List (κ × V)) (k:κ) : Option V:=(kvs.find? fun kv=>decide (kv.1=k)).map (·.2)
def putK (kvs:List (κ × V)) (k:κ) (v:V) : List (κ × V):=
 if (kvs.any fun kv=>decide (kv.1=k))=true then kvs.map (fun kv=>if kv.1=k then (kv.1,v) else kv) else kvs++[(k,v)]
def dropK (kvs:List (κ × V)) (k:κ) : List (κ × V):=kvs.filter fun kv=>decide (kv.1≠k)

theorem valV_pos {p:κ × V} {r:List (κ × V)} {k:κ} (e:p.1=k) : valV (p :: r) k=some p.2:=by simp [valV,List.find?_cons,e]
theorem valV_neg {p:κ × V} {r:List (κ × V)} {k:κ} (e:¬ p.1=k) : valV (p :: r) k=valV r k:=by simp [valV,List.find?_cons,e]
theorem valV_any (k:κ) : ∀ kvs:List (κ × V),(kvs.any fun kv=>decide (kv.1=k))=(valV kvs k).isSome
 | []=>rfl
 | p :: r=>by
  rw [List.any_cons]
  by_cases e:p.1=k
  ·simp only [valV_pos e,decide_eq_true e,Bool.true_or,Option.isSome_some]
  ·rw [valV_neg e,decide_eq_false e,Bool.false_or]; exact valV_any k r
theorem RelO.isSome_eq {o:Option V} {u:Option Value} (r:RelO o u) : o.isSome=u.isSome:=by
 cases o with
 | none=>cases u with
  | none=>rfl
  | some _=>exact (show False from r).elim
 | some _=>cases u with
  | none=>exact (show False from r).elim
  | some _=>rfl
theorem RelO.getD {o:Option V} {u:Option Value} {d:V} {d':Value} (r:RelO o u) (rd:RelV d d') : RelV (o.getD d) (u.getD d'):=by
 cases o with
 | none=>cases u with
  | none=>exact rd
  | some _=>exact (show False from r).elim
 | some _=>cases u with
  | none=>exact (show False from r).elim
  | some _=>exact r

theorem KV.val {kvs:List (κ × V)} {vs:List (κ × Value)} (r:KV kvs vs) (k:κ) : RelO (valV kvs k) (valueAt vs k):=by
 unfold KV at r
 induction r with
 | nil=>exact True.intro
 | @cons p q ps qs h t ih =>
  obtain ⟨h1,h2⟩:=h
  by_cases e:p.1=k
  ·have e':q.1=k:=h1.symm.trans e
   have b:valueAt (q :: qs) k=some q.2:=by simp [valueAt,List.find?_cons,e']
   rw [valV_pos e,b]; exact h2
  ·have e':¬ q.1=k:=fun z=>e (h1.trans z)
   have b:valueAt (q :: qs) k=valueAt qs k:=by simp [valueAt,List.find?_cons,e']
   rw [valV_neg e,b]; exact ih
theorem KV.any {kvs:List (κ × V)} {vs:List (κ × Value)} (r:KV kvs vs) (k:κ) : (kvs.any fun kv=>decide (kv.1=k))=vs.any fun kv=>decide (kv.1=k):=by
 unfold KV at r
 induction r with
 | nil=>rfl
 | cons h t ih=>rw [List.any_cons,List.any_cons,ih,h.1]
theorem KV.repl {kvs:List (κ × V)} {vs:List (κ × Value)} (r:KV kvs vs) (k:κ) {y:V} {u:Value} (ry:RelV y u) :
  KV (kvs.map fun kv=>if kv.1=k then (kv.1,y) else kv) (vs.map fun kv=>if kv.1=k then (kv.1,u) else kv):=by
 unfold KV at r ⊢
 induction r with
 | nil=>exact .nil
 | @cons p q ps qs h t ih =>
  rw [List.map_cons,List.map_cons]
  refine .cons ?_ ih
  obtain ⟨h1,h2⟩:=h
  by_cases e:p.1=k
  ·rw [if_pos e,if_pos (h1.symm.trans e)]; exact ⟨h1,ry⟩
  ·rw [if_neg e,if_neg (fun z=>e (h1.trans z))]; exact ⟨h1,h2⟩
theorem KV.put {kvs:List (κ × V)} {vs:List (κ × Value)} (r:KV kvs vs) (k:κ) {y:V} {u:Value} (ry:RelV y u) : KV (putK kvs k y) (stored vs k u):=by
 unfold putK stored
 rw [r.any k]
 by_cases e:(vs.any fun kv=>decide (kv.1=k))=true
 ·rw [if_pos e,if_pos e]; exact r.repl k ry
 ·rw [if_neg e,if_neg e]; exact Paired.snoc r ⟨rfl,ry⟩
theorem KV.drop {kvs:List (κ × V)} {vs:List (κ × Value)} (r:KV kvs vs) (k:κ) : KV (dropK kvs k) (without vs k):=by
 unfold KV at r ⊢
 unfold dropK without
 induction r with
 | nil=>exact .nil
 | @cons p q ps qs h t ih =>
  obtain ⟨h1,h2⟩:=h
  rw [List.filter_cons,List.filter_cons]
  by_cases e:p.1=k
  ·have a:¬ decide (p.1≠k)=true:=by simp [e]
   have b:¬ decide (q.1≠k)=true:=by simp [h1.symm.trans e]
   rw [if_neg a,if_neg b]; exact ih
  ·have e':¬ q.1=k:=fun z=>e (h1.trans z)
   have a:decide (p.1≠k)=true:=by simp [e]
   have b:decide (q.1≠k)=true:=by simp [e']
   rw [if_pos a,if_pos b]; exact .cons ⟨h1,h2⟩ ih
theorem KV.length {kvs:List (κ × V)} {vs:List (κ × Value)} (r:KV kvs vs) : kvs.length=vs.length:=Paired.length r
end


abbrev KT (H:Hp) : List (List Key × V)→List (List Key × Addr × Value)→Prop:=Paired fun p q=>p.1=q.1∧H q.2.1=some (.tup (p.1.map kV))∧RelV p.2 q.2.2
theorem KT.val {H:Hp} {kvs:List (List Key × V)} {xs:List (List Key × Addr × Value)} (r:KT H kvs xs) (k:List Key) : RelO (valV kvs k) ((atKey xs k).map (·.2)):=by
 induction r with
 | nil=>exact True.intro
 | @cons p q ps qs h t ih =>
  obtain ⟨h1,_,h2⟩:=h
  by_cases e:p.1=k
  ·have e':q.1=k:=h1.symm.trans e
   have b:atKey (q :: qs) k=some q.2:=by simp [atKey,List.find?_cons,e']
   rw [valV_pos e,b]; exact h2
  ·have e':¬ q.1=k:=fun z=>e (h1.trans z)
   have b:atKey (q :: qs) k=atKey qs k:=by simp [atKey,List.find?_cons,e']
   rw [valV_neg e,b]; exact ih
theorem KT.repl {H:Hp} {kvs:List (List Key × V)} {xs:List (List Key × Addr × Value)} (r:KT H kvs xs) (k:List Key) {y:V} {u:Value} (ry:RelV y u) :
  KT H (kvs.map fun kv=>if kv.1=k then (kv.1,y) else kv) (xs.map (putAt k u)):=by
 induction r with
 | nil=>exact .nil
 | @cons p q ps qs h t ih =>
  rw [List.map_cons,List.map_cons]
  refine .cons ?_ ih
  obtain ⟨h1,h2,h3⟩:=h
  unfold putAt
  by_cases e:p.1=k
  ·rw [if_pos e,if_pos (h1.symm.trans e)]; exact ⟨h1,h2,ry⟩
  ·rw [if_neg e,if_neg (fun z=>e (h1.trans z))]; exact ⟨h1,h2,h3⟩
theorem KT.put {H:Hp} {kvs:List (List Key × V)} {xs:List (List Key × Addr × Value)} (r:KT H kvs xs) (k:List Key) {b:Addr} {y:V} {u:Value} (hb:H b=some (.tup (k.map kV))) (ry:RelV y u) :
  KT H (putK kvs k y) (storedH xs k b u):=by
 have e:(kvs.any fun kv=>decide (kv.1=k))=(atKey xs k).isSome:=by
  rw [valV_any,(r.val k).isSome_eq,Option.isSome_map]
 unfold putK storedH
 rw [e]
 by_cases q:(atKey xs k).isSome=true
 ·rw [if_pos q,if_pos q]; exact r.repl k ry
 ·rw [if_neg q,if_neg q]; exact Paired.snoc r ⟨rfl,hb,ry⟩
theorem KT.keeps {H H':Hp} {kvs:List (List Key × V)} {xs:List (List Key × Addr × Value)} (r:KT H kvs xs) (ht:∀ b ys,H b=some (.tup ys)→H' b=some (.tup ys)) : KT H' kvs xs:=
 Paired.mapP r fun _ _ z=>⟨z.1,ht _ _ z.2.1,z.2.2⟩

section
variable {P:Program} {w:World} {H:Hp} {h:Heap} {a:Addr}
end

def DGet (H:Hp) (a:Addr) (y:V) (r:Option V) : Prop:=
 (∃ kvs k,Rd H a (.dK kvs)∧y=kV k∧r=valV kvs k)∨∃ kvs k b,Rd H a (.dT kvs)∧y = .ref b∧H b=some (.tup (k.map kV))∧r=valV kvs k
def DPut (H:Hp) (a:Addr) (y v:V) (H':Hp) : Prop:=
 (∃ kvs k,H a=some (.dK kvs)∧y=kV k∧kvs.length < sizeLine∧H' = upd H a (.dK (putK kvs k v))) ∨
 ∃ kvs k b,H a=some (.dT kvs)∧y = .ref b∧H b=some (.tup (k.map kV))∧kvs.length < sizeLine∧H' = upd H a (.dT (putK kvs k v))
theorem DGet.k {H:Hp} {a:Addr} {kvs:List (Key × V)} {k:Key} (e:H a=some (.dK kvs)) : DGet H a (kV k) (valV kvs k):=.inl ⟨kvs,k,.inl e,rfl,rfl⟩
theorem DGet.t {H:Hp} {a b:Addr} {kvs:List (List Key × V)} {k:List Key} (e:H a=some (.dT kvs)) (eb:H b=some (.tup (k.map kV))) : DGet H a (.ref b) (valV kvs k):=.inr ⟨kvs,k,b,.inl e,rfl,eb,rfl⟩
theorem DPut.k {H:Hp} {a:Addr} {kvs:List (Key × V)} {k:Key} {v:V} (e:H a=some (.dK kvs)) (hl:kvs.length < sizeLine) : DPut H a (kV k) v (upd H a (.dK (putK kvs k v))):=.inl ⟨kvs,k,e,rfl,hl,rfl⟩
theorem DPut.t {H:Hp} {a b:Addr} {kvs:List (List Key × V)} {k:List Key} {v:V} (e:H a=some (.dT kvs)) (eb:H b=some (.tup (k.map kV))) (hl:kvs.length < sizeLine) :
  DPut H a (.ref b) v (upd H a (.dT (putK kvs k v))):=.inr ⟨kvs,k,b,e,rfl,eb,hl,rfl⟩


section
variable {X:Cx} {pins:List (Addr × Obj)} {σ:St} {H:Hp} {s:Shared} {a:Addr} {y v:V} {u r:Value} {o:Option V} {A:Around} {E:Value→Shared→Prop}

end

section
variable {X:Cx} {pins:List (Addr × Obj)} {σ:St} {H:Hp} {s:Shared} {a:Addr} {kvs:List (Key × V)} {k:Key} {u:Value} {A:Around} {E:Value→Shared→Prop}
end


section
variable {X:Cx} {o i e value:Expr} {pos pos' tpos:Pos} {td ty tv:TE}
end


section
variable {X:Cx} {pos:Pos}
end

section
variable {X:Cx} {pins:List (Addr × Obj)} {σ:St} {H:Hp} {s:Shared} {a:Addr} {y d:V} {u r:Value} {o:Option V} {A:Around} {E:Value→Shared→Prop}
end

section
variable {X:Cx} {o e f:Expr} {apos cpos:Pos} {td ty tx:TE}
end

section
variable {X:Cx} {pins:List (Addr × Obj)} {σ:St} {H:Hp} {s:Shared} {a:Addr} {kvs:List (Key × V)} {A:Around} {E:Value→Shared→Prop}
end


section
variable {X:Cx} {pins:List (Addr × Obj)} {σ:St} {H:Hp} {s:Shared} {a:Addr} {y:V} {u:Value} {A:Around} {E:Value→Shared→Prop}
end
end L2

namespace Att
open PySem PySem.W PySem.Calls PyProof.Rows

theorem ints_of_wellAll {P:Params} {h:Heap} : ∀ (ns:List Int) (vs:List Value),WellAll P h vs (ns.map WData.int)→IntsAre vs ns:=by
 intro ns
 induction ns with
 | nil =>
  intro vs w
  rw [List.map_nil] at w
  cases w
  exact .nil
 | cons n ns ih =>
  intro vs w
  rw [List.map_cons] at w
  cases w with
  | cons a b =>
   cases a
   exact .cons _ _ (ih _ b)

theorem script_of {l:OpenLaw} {n:Nat} (hn:l.most=some n) {P:Params} {h:Heap} {args:List WData} {vals:List Value}
  (hpre:l.row.toRowW.claim.pre args=true) (hwl:WellAll P h vals args) :
  ∃ a vs ns,vals=[Value.ref a]∧args=[WData.list (ns.map WData.int)]∧h.get? a=some { cls:=.type "list",data:=.seq vs.toArray }∧IntsAre vs ns∧ns.length≤n:=by
 have hsh:WShape.hasAll [] args [.list .int]=true:=(pre_splitW hpre).1
 have hc:l.pre.holds [] { args:=args }=true:=(pre_splitW hpre).2
 obtain ⟨d,r,rfl,h1,h2⟩:=hasAllW_cons hsh
 obtain rfl:=hasAllW_nil h2
 obtain ⟨xs,rfl,h3⟩:=hasW_list h1
 obtain ⟨ns,rfl⟩:=items_int h3
 have hlen:ns.length≤n:=by
  unfold OpenLaw.pre at hc
  have h4:(WTm.not (.lt (.lit (.int (n:Int))) (.len (.arg 0)))).holds [] { args:=[.list (ns.map .int)] }=true:=by
   have h4:=(holds_andW hc).1
   rw [hn] at h4
   exact h4
  have h5:=condW_of h4 (w_not (w_lt w_lit (w_len_list (w_arg rfl))))
  rw [List.length_map] at h5
  refine Nat.le_of_not_lt fun q=>?_
  have q':(n:Int) < ((ns.length:Nat) : Int):=by omega
  first
   | (rw [decide_eq_true q'] at h5; exact absurd h5 (by decide))
   | (simp at h5; omega)
 cases hwl with
 | cons w1 w2 =>
  cases w2
  cases w1 with
  | list ho hall=>exact ⟨_,_,ns,rfl,rfl,ho,ints_of_wellAll ns _ hall,hlen⟩

theorem post_true (l:OpenLaw) (args:List WData) : l.row.toRowW.claim.post args (.bool true) args=true:=
 postW_of (r:=l.row.toRowW) (X:=(true == true))
  (show WShape.has [] (.bool true) .bool=true by first | rfl | decide | simp [WShape.has,WShape.arms,WShape.armsAll])
  (show (WTm.eq .res (.lit (.bool true))).value [] { args:=args,res:=some (.bool true),after:=args }=some (.bool (true == true)) from w_eq_bool (w_res rfl) w_lit) rfl

theorem attach_call {l:OpenLaw} {n:Nat} {q:Program} {loose:List Str} {XP:(Str→Option Value)→Heap→Prop} {YP:World→Heap→Prop} {d:DefRec}
  (hn:l.most=some n) (hdf:d.params.defaults=[])
  (call:∀ (w:World) (s₀ s₁:Shared) (mg mb:Str→Option Value) (fa:Addr) (o:Obj) (pm cd doc:Value) (a:Addr) (vs:List Value) (ns:List Int),
   Ground q loose [] XP w s₀ mg mb s₁.heap→YP w s₁.heap →
   s₁.heap.get? fa=some o→o.data = .func (docDef d.name d.params d.body d.scope pm cd doc)→s₁.heap.CodeRec cd d.name→mg d.name=some (.ref fa) →
   s₁.heap.get? a=some { cls:=.type "list",data:=.seq vs.toArray }→IntsAre vs ns→ns.length≤n→s₁.gens = #[] →
   codeAny (model l.prog w) callerA (.call (.ref fa) ⟨[.ref a],[]⟩) (fun r s'=>r = .ok (.ret (.bool true))∧OldK s₁.heap s'.heap∧s'.os=s₁.os∧AllBare s'.gens) s₁) :
  WalkO q loose XP YP l.row.toRowW d [] (fun f vs=>PySem.call f vs):=by
 intro w s₀ s₁ mg mb G Y fa o pm cd doc dV kV ho hd hcd hD hmg hg args vals as hpre hlay hrd hwl hlo
 obtain rfl:dV = .none:=Dflts.none hD hdf
 obtain rfl:kV = .none:=Dflts.noKw hD
 obtain ⟨a,vs,ns,rfl,rfl,hobj,hints,hlen⟩:=script_of hn hpre hwl
 refine enter_call (codeAny_mono (call w s₀ s₁ mg mb fa o pm cd doc a vs ns G Y ho (fd_plain hd) hcd hmg hobj hints hlen hg) fun r s' hq=>?_)
 obtain ⟨rfl,h2,h3,h4⟩:=hq
 exact ⟨.inl ⟨.bool true,.bool true,[],rfl,fun _=>rfl,.bool true,post_true l _,fun _=>⟨List.Pairwise.nil,fun _ hm=>(nomatch hm)⟩⟩,h2,h3,h4⟩

section
variable {prog:Program} {w:World} {A:Around} {E:Value→Shared→Prop} {s:Shared} {K:Frag}

end
end Att

namespace L2
open PySem PySem.Spec PyProof.Rows

theorem vals_ints:∀ {vs:List Value} {ns:List Int},IntsAre vs ns→Vals (ns.map V.int) vs
 | _,_,.nil=>.nil
 | _,_,.cons n t h=>.cons ⟨t,rfl⟩ (vals_ints h)

def Only (H:Hp) : Prop:=∀ b,H b=none∨∃ o xs,H b=some (.frz o (.lst xs))

theorem law_call {P:Program} {w:World} {K:PySem.W.Frag} {mg mb:Str→Option Value} {CX:CXT} {k:Nat} {fa a:Addr} {fd:FuncData} {x:Str} {sp:Sp} {s₁:Shared} {vs:List Value} {ns:List Int}
  (KX:K.In s₁.heap) (hns:s₁.heap.Ns mainGlobals mg) (hb:s₁.heap.Ns builtinsNs mb) (hbb:∀ x:Str,x≠"__name__"→mb x=bootBuiltins x) (hlim:s₁.heap.NoLimit) (hg:s₁.gens = #[])
  (ha:s₁.heap.get? a=some { cls:=.type "list",data:=.seq vs.toArray }) (hi:IntsAre vs ns) (hl:ns.length≤sizeLine) (hr:Room k callerA)
  (F:∀ base:Heap,K.In base→base.Ns mainGlobals mg→FnOk P w K mg base CX k fa fd [x] sp) (hbind:∀ (s:Shared) (u:Value),BindsTo s fd ⟨[u],[]⟩ [(x,u)])
  (hsp:∀ H:Hp,Only H→SqL K H a (ns.map V.int)→sp [.ref a] H (fun v _=>v = .bl true) fun _ _ _=>False)
  (hCX:∀ H e s',CX [] H s₁ (fun _ _ _=>False) e s'→False) :
  codeAny (model P w) callerA (.call (.ref fa) ⟨[.ref a],[]⟩) (fun r s'=>r = .ok (.ret (.bool true))∧OldK s₁.heap s'.heap∧s'.os=s₁.os∧AllBare s'.gens) s₁:=by
 have rv:=vals_ints hi
 have lenV:=hi.length
 -- from an abstract heap in which nothing but the script may be tracked
 have core:∀ H:Hp,Only H→SqL K H a (ns.map V.int)→HOk P w H s₁.heap→(∀ b,H b≠none→b=a)→(H a≠none→K.lookup a=none) →
   codeAny (model P w) callerA (.call (.ref fa) ⟨[.ref a],[]⟩) (fun r s'=>r = .ok (.ret (.bool true))∧OldK s₁.heap s'.heap∧s'.os=s₁.os∧AllBare s'.gens) s₁:=by
  intro H hO hS hok hA hK
  have base_of:∀ {b:Addr} {o:Obj},s₁.heap.get? b=some o→H b=none→(hidT s₁.heap H).get? b=some o:=fun e n=>hidT_get e n
  have noA:∀ {b:Addr} {o:Obj} {es:Array DictEntry} {ep:Nat},s₁.heap.get? b=some o→o.data = .dict es ep→H b=none:=fun {b o es ep} e d=>by
   cases q:H b with
   | none=>rfl
   | some u =>
    have e':b=a:=hA b (by rw [q]; simp)
    subst e'
    rw [ha] at e; cases e
    have d':Data.seq vs.toArray _=Data.dict es ep:=d
    cases d'
  have nsK:∀ {b:Addr} {m:Str→Option Value},s₁.heap.Ns b m→(hidT s₁.heap H).Ns b m:=fun {b m} ⟨o,es,ep,e,d,r⟩=>⟨o,es,ep,base_of e (noA e d),d,r⟩
  have hKb:K.In (hidT s₁.heap H):=fun b o e=>base_of (KX b o e) (by
   cases q:H b with
   | none=>rfl
   | some u =>
    have e':b=a:=hA b (by rw [q]; simp)
    subst e'
    rw [hK (by rw [q]; simp)] at e; cases e)
  have hM:Mod K mg (hidT s₁.heap H):=⟨hKb,nsK hns,⟨mb,nsK hb,hbb⟩,let ⟨mc,h1,h2⟩:=hlim; ⟨mc,nsK h1,h2⟩⟩
  have e0:Env0 P w K mg (hidT s₁.heap H) callerA [] s₁ H:=⟨rfl,hM,fun b o e=>of_hidT e,Nat.le_of_eq (hidT_size _ _),trivial,fun b hb=>absurd (show b ∈ ([] : List Addr) from hb) (by simp),hok,.of_eq hg⟩
  refine codeAny_mono ((F _ hKb (nsK hns)).run callerA [] s₁ H ⟨[.ref a],[]⟩ [.ref a] [.ref a] _ _ hr e0 (hbind s₁ (.ref a)) (.cons rfl .nil) (hsp H hO hS)) fun r s' h=>?_
  cases r with
  | error e=>exact (hCX H e s' h).elim
  | ok fl =>
   cases fl with
   | next=>exact False.elim h
   | brk=>exact False.elim h
   | cont=>exact False.elim h
   | ret u =>
    obtain ⟨v,H',os,bare,un,hok',r',q⟩:=h
    have q':v = .bl true:=q
    subst q'
    obtain rfl:u=Value.bool true:=r'
    refine ⟨rfl,OldK.of_keep fun b o e=>?_,os,bare⟩
    cases q:H b with
    | none=>exact un.keep b o e q (by intro z; exact absurd (show b ∈ ([] : List Addr) from z) (by simp)) (by simp)
    | some u =>
     rcases hO b with z | ⟨ob,xs,z⟩
     ·rw [q] at z; cases z
     ·have z2:=un.frzs b ob _ z
      obtain ⟨e1,_⟩:=hok b _ z
      obtain ⟨e2,_⟩:=hok' b _ z2
      rw [e] at e1; cases e1
      exact e2
 cases hk:K.lookup a with
 | some o =>
  -- the script is one of the module's own objects
  have e:=KX a o hk
  rw [ha] at e
  cases e
  refine core (fun _=>none) (fun _=>.inl rfl) (.inr ⟨_,vs.toArray,_,hk,rfl,rfl,rfl,by rw [List.size_toArray,lenV]; exact hl,by simpa using rv⟩) (fun b u z=>by have z':(none:Option HO)=some u:=z; cases z') (fun b z=>absurd rfl z) fun z=>absurd rfl z
 | none =>
  refine core (fun b=>if b=a then some (.frz { cls:=.type "list",data:=.seq vs.toArray } (.lst (ns.map V.int))) else none) (fun b=>?_) (.inl (.inr ⟨{ cls:=.type "list",data:=.seq vs.toArray },if_pos rfl⟩)) (fun b u z=>?_) (fun b z=>?_) fun _=>hk
  ·by_cases hb:b=a
   ·exact .inr ⟨_,_,if_pos hb⟩
   ·exact .inl (if_neg hb)
  ·by_cases hb:b=a
   ·have z':=(if_pos hb).symm.trans z
    cases z'
    subst hb
    exact ⟨ha,by rw [List.length_map]; exact hl,vs,_,rv,ha⟩
   ·have z':=(if_neg hb).symm.trans z
    cases z'
  ·by_cases hb:b=a
   ·exact hb
   ·exact absurd (if_neg hb) z

theorem walk_of {l:PySem.W.OpenLaw} {n k:Nat} {q:Program} {loose:List Str} {XP:(Str→Option Value)→Heap→Prop} {YP:World→Heap→Prop} {d:DefRec} {K:Params→PySem.W.Frag} {CX:World→CXT} {sp:World→Sp} {x:Str}
  (hn:l.most=some n) (hn2:n≤sizeLine) (hdf:d.params.defaults=[]) (hr:Room k callerA)
  (hY:∀ (w:World) (h:Heap),YP w h→(K w.params).In h)
  (F:∀ (w:World) (mg:Str→Option Value) (fa:Addr) (h:Heap),(K w.params).In h→h.Ns mainGlobals mg→mg d.name=some (.ref fa) →
   ∃ fd:FuncData,(∀ (s:Shared) (u:Value),BindsTo s fd ⟨[u],[]⟩ [(x,u)]) ∧
    ∀ base:Heap,(K w.params).In base→base.Ns mainGlobals mg→FnOk l.prog w (K w.params) mg base (CX w) k fa fd [x] (sp w))
  (hsp:∀ (w:World) (H:Hp) (a:Addr) (ns:List Int),ns.length≤n→Only H→SqL (K w.params) H a (ns.map V.int)→sp w [.ref a] H (fun v _=>v = .bl true) fun _ _ _=>False)
  (hCX:∀ (w:World) (H:Hp) (s:Shared) (e:Value) (s':Shared),CX w [] H s (fun _ _ _=>False) e s'→False) :
  PySem.W.WalkO q loose XP YP l.row.toRowW d [] (fun f vs=>PySem.call f vs):=by
 refine Att.attach_call hn hdf fun w s₀ s₁ mg mb fa o pm cd doc a vs ns G Y ho hd hcd hmg hobj hints hlen hg=>?_
 have KX:=hY w _ Y
 obtain ⟨fd,hb,hF⟩:=F w mg fa _ KX G.T.g hmg
 exact law_call KX G.T.g G.T.b G.T.builtins G.T.nolimit hg hobj hints (Nat.le_trans hlen hn2) hr hF hb (fun H hO hS=>hsp w H a ns hlen hO hS) fun H e s'=>hCX w H s₁ e s'

abbrev CX0:CXT:=fun _ _ _ _ _ _=>False
abbrev E0:XK:=fun _ _ _=>False
theorem pass0 {X:Cx} : Passes CX0 X E0:=fun _ _ _ _ _ _ _ h=>h.elim

structure Fun (K:PySem.W.Frag) (x qual:Str) (st:Stmt) (f:Addr) (fd:FuncData) : Prop where
 ex:∃ (oc:Value) (od:Option Addr) (kV doc pm:Value) (an:Option Addr) (cdv ct:Value) (osl:Array (Option Value)),
  fd=PySem.W.fnOf x qual (defArgs st) (defBody st) (defScope st) .none kV doc pm an cdv ct∧K.lookup f=some ⟨oc,od,.func fd,osl⟩∧PySem.W.codeIn K cdv qual=true
 kp:PySem.W.keepIn K (.ref f)=true
section
variable {P:Program} {w:World} {K:PySem.W.Frag} {mg:Str→Option Value} {base:Heap}
theorem Fun.ok {x qual:Str} {st:Stmt} {f:Addr} {fd:FuncData} {N ps:List Str} {k:Nat} {sp:Sp} (F:Fun K x qual st f fd) (S:FnScope N ps (defScope st)) (len:∀ vs H Q E,sp vs H Q E→vs.length=ps.length)
  (hbody:∀ (cdv:Value) (A:Around) (outer:List Env) (s:Shared) (H:Hp) (vs:List V) (Q:VK) (E:XK),Room k (A.deeper (envOfC qual (defScope st) s.heap.objs.size f cdv))→sp vs H Q E →
   ∃ t,PSs (cxOf CX0 P w K mg base N qual (defScope st) f cdv A outer s H E).nox (defBody st) t∧t { nx:=fun _ H'=>Q .non H',rt:=Q } (start N vs) H) : FnOk P w K mg base CX0 (k+1) f fd ps sp:=by
 obtain ⟨oc,od,kV,doc,pm,an,cdv,ct,osl,rfl,lk,hcd⟩:=F.ex
 refine fn_of lk hcd S len fun A outer s H vs Q E hr hsp=>?_
 obtain ⟨t,h,q⟩:=hbody cdv A outer s H vs Q E hr hsp
 exact ⟨t,h.nox,q⟩
theorem Fun.binds {x qual:Str} {st:Stmt} {f:Addr} {fd:FuncData} {ps:List Str} (F:Fun K x qual st f fd)
  (h:∀ (kV doc pm:Value) (an:Option Addr) (cdv ct:Value) (us:List Value),us.length=ps.length→bindArgs (PySem.W.fnOf x qual (defArgs st) (defBody st) (defScope st) .none kV doc pm an cdv ct) ⟨us,[]⟩=pure (ps.zip us)) : Binds K fd ps []:=by
 obtain ⟨oc,od,kV,doc,pm,an,cdv,ct,osl,rfl,lk,hcd⟩:=F.ex
 exact .all (h kV doc pm an cdv ct)
theorem fun_mk {x qual:Str} {st:Stmt} {f:Addr} {oc:Value} {od an:Option Addr} {osl:Array (Option Value)} {kV doc pm cdv ct:Value} (l:K.lookup f=some ⟨oc,od,.func (PySem.W.fnOf x qual (defArgs st) (defBody st) (defScope st) .none kV doc pm an cdv ct),osl⟩)
  (c:PySem.W.codeIn K cdv qual=true) (k:PySem.W.keepIn K (.ref f)=true) : Fun K x qual st f (PySem.W.fnOf x qual (defArgs st) (defBody st) (defScope st) .none kV doc pm an cdv ct):=⟨⟨oc,od,kV,doc,pm,an,cdv,ct,osl,rfl,l,c⟩,k⟩
end
theorem hu_of {A:Around} {k:Nat} (hr:Room k A) : A.units+1 < cLine:=Nat.lt_of_le_of_lt (Nat.add_le_add_left (by decide:1≤64) _) hr.units
theorem small1000 {n:Nat} (h:n≤1000) : n < sizeLine:=Nat.lt_of_le_of_lt h (by decide)

section
variable {X:Cx}
theorem pv (i:Nat) {x:Str} {pos:Pos} (hN:X.N[i]? = some x:=by rfl) (hv:Vis X.env.scope x:=by first | exact Or.inl rfl | exact Or.inr (Or.inl rfl) | exact Or.inr (Or.inr rfl)) (hd:(x == ("__debug__" : Str))=false:=by decide)
  (hcd:(x == ("__classdict__" : Str))=false:=by decide) : PE X (.Name x pos) (tVar i):=pe_var hN hv hd hcd
end

theorem iteF {A B:Prop} (h:B) : if false=true then A else B:=by
 rw [if_neg Bool.false_ne_true]
 exact h
theorem iteT {A B:Prop} (h:A) : if true=true then A else B:=by
 rw [if_pos rfl]
 exact h
theorem ite2 {c A B:Prop} [Decidable c] (h1:c→A) (h2:¬ c→B) : if c then A else B:=by
 by_cases h:c
 ·rw [if_pos h]
  exact h1 h
 ·rw [if_neg h]
  exact h2 h
def Same (H H':Hp) : Prop:=∀ b o,H b=some o→H' b=some o
theorem Same.refl (H:Hp) : Same H H:=fun _ _ h=>h
theorem Same.trans {H H1 H2:Hp} (a:Same H H1) (b:Same H1 H2) : Same H H2:=fun c o h=>b c o (a c o h)
theorem Same.free {H H':Hp} (e:Same H H') {l:Addr} (h:H' l=Option.none) : H l=Option.none:=by
 cases q:H l with
 | none=>rfl
 | some o =>
  rw [e l o q] at h
  cases h
theorem Same.seq {K:PySem.W.Frag} {H H':Hp} {a:Addr} {xs:List V} (e:Same H H') (h:SqL K H a xs) : SqL K H' a xs:=by
 rcases h with (h | ⟨o,h⟩) | h
 ·exact .inl (.inl (e _ _ h))
 ·exact .inl (.inr ⟨o,e _ _ h⟩)
 ·exact .inr h

section
variable {κ:Type} [DecidableEq κ]
end

section
variable {prog:Program} {w:World} {A:Around} {R:Result→Shared→Prop} {s:Shared}
theorem compLoop_any {elt target iter:Expr} {ifs:List Expr} {scope:Scope} {pos:Pos} {it acc:Value} {env:Env} (I:Nat→Shared→Prop)
  (turn:∀ n s,I n s→wpAny (model prog w) A (pyNext it) (fun r s₁=>match r with
   | none=>R (.ok .next) s₁
   | some v=>wpAny (model prog w) A (letOwnedTupleGo target it v) (fun _ s₀=>wpAny (model prog w) A (assign target env v) (fun _ s₂ =>
     wpAny (model prog w) A (forIn ifs true fun c r=>if r=true then do let ok ← isTrue c env (eval c env); pure (ForInStep.yield ok) else pure (ForInStep.yield r)) (fun ok s₃ =>
      if ok=true then wpAny (model prog w) A (eval elt env) (fun x s₄ =>
       wpAny (model prog w) A (call (.builtin "list.append") [acc,x]) (fun _ s₅=>∃ m,m < n∧I m s₅) (fun _ _=>False) s₄) (fun _ _=>False) s₃
      else ∃ m,m < n∧I m s₃) (fun _ _=>False) s₂) (fun _ _=>False) s₀) (fun _ _=>False) s₁) (fun _ _=>False) s)
  (n:Nat) (h:I n s) : codeAny (model prog w) A (.compLoop (.ListComp elt [⟨target,iter,ifs,0⟩] scope pos) 0 it acc env) R s:=by
 refine codeAny_loop rfl I (fun n s hI=>?_) n h
 show wpAny _ A ((compTurn (.ListComp elt [⟨target,iter,ifs,0⟩] scope pos) 0 it acc env).onRaise (fun x=>do noteFrame x env; theTreesLotGoes x)) _ _ s
 refine wpAny_noted ?_
 rw [compTurn_list]
 refine wpAny_bind (wpAny_standAt (wpAny_bind (wpAny_mono (turn n s hI) (fun r s₁ h₁=>?_) fun _ _ h'=>h'.elim)))
 cases r with
 | none=>exact wpAny_pure h₁
 | some v =>
  refine wpAny_bind (wpAny_mono h₁ (fun _ s₀ h₀=>?_) fun _ _ h'=>h'.elim)
  refine wpAny_bind (wpAny_mono h₀ (fun _ s₂ h₂=>wpAny_bind (wpAny_mono h₂ (fun ok s₃ h₃=>?_) fun _ _ h'=>h'.elim)) fun _ _ h'=>h'.elim)
  cases ok with
  | false=>exact wpAny_pure ⟨rfl,h₃⟩
  | true =>
   exact wpAny_bind (wpAny_bind (wpAny_mono h₃ (fun x s₄ h₄=>wpAny_bind (wpAny_mono h₄ (fun _ s₅ h₅=>wpAny_pure (wpAny_pure ⟨rfl,h₅⟩)) fun _ _ h'=>h'.elim)) fun _ _ h'=>h'.elim))
end

def PTs (X:Cx) (ifs:List Expr) (t:TT) : Prop:=
 ∀ (pins:List (Addr × Obj)) (s:Shared) (σ:St) (H:Hp) (Q:Bool→Hp→Prop),Inv X pins σ H s→t σ H Q →
  wpAny (model X.prog X.w) X.A (forIn ifs true fun c r=>if r=true then do let ok ← isTrue c X.env (eval c X.env); pure (ForInStep.yield ok) else pure (ForInStep.yield r)) (TP X pins σ Q) X.xe s
def tYes:TT:=fun _ H Q=>Q true H
theorem pts_nil {X:Cx} : PTs X [] tYes:=fun _ _ _ H _ I h=>wpAny_tests_nil ⟨H,I,h⟩
abbrev Cx.blk (X:Cx) (N:List Str) (s:Shared) (H:Hp) (scope:Scope) (cl:List (Str × Addr)) (C:Addr) (ex:List Addr) : Cx:=
 { X with N:=N,s₀:=s,H₀:=H,env:=compEnvC scope cl C X.env,outer:=X.stack,stack:=X.stack,ex:=ex,fn:=fun _=>false,pn:=[],xe:=fun _ _=>False }

def AllC (env:Env) : List (Str × Addr)→Prop
 | []=>True
 | p :: r=>env.cells.lookup p.1=some p.2∧AllC env r
theorem lookup_mem {α:Type} : ∀ {l:List (Str × α)} {x:Str} {k:α},l.lookup x=some k→(x,k) ∈ l
 | [],_,_,h=>by simp at h
 | (n,k') :: r,x,k,h=>by
  rw [List.lookup_cons] at h
  cases hx:x == n with
  | true =>
   rw [hx] at h
   have e:x=n:=eq_of_beq hx
   have e2:k' = k:=Option.some.inj h
   rw [e,e2]; exact List.mem_cons_self
  | false =>
   rw [hx] at h
   exact List.mem_cons_of_mem _ (lookup_mem h)
theorem AllC.get {env:Env} : ∀ {cl:List (Str × Addr)} {x:Str} {c:Addr},AllC env cl→cl.lookup x=some c→env.cells.lookup x=some c:=fun {cl x c} h e=>by
 have go:∀ (l:List (Str × Addr)),AllC env l→∀ p ∈ l,env.cells.lookup p.1=some p.2:=by
  intro l
  induction l with
  | nil=>intro _ p hp; cases hp
  | cons q r ih =>
   intro ha p hp
   rcases List.mem_cons.mp hp with rfl | hp
   ·exact ha.1
   ·exact ih ha.2 p hp
 exact go cl h (x,c) (lookup_mem e)
def CapOk (X:Cx) (scope:Scope) (cl:List (Str × Addr)) : List Str→List Nat→Prop
 | [],[]=>True
 | y :: ys,j :: js=>(X.N[j]? = some y∧(X.env.kindOf y=some .cell∨X.env.kindOf y=some .free)∧(cl.lookup y).isSome=true∧((relabel scope X.env).names.lookup y=some .cell∨(relabel scope X.env).names.lookup y=some .free))∧CapOk X scope cl ys js
 | _,_=>False
theorem CapOk.get {X:Cx} {scope:Scope} {cl:List (Str × Addr)} : ∀ {ys:List Str} {js:List Nat} {i:Nat} {y:Str},CapOk X scope cl ys js→ys[i]? = some y →
  ∃ j,js[i]? = some j∧X.N[j]? = some y∧(X.env.kindOf y=some .cell∨X.env.kindOf y=some .free)∧(cl.lookup y).isSome=true∧((relabel scope X.env).names.lookup y=some .cell∨(relabel scope X.env).names.lookup y=some .free)
 | [],_,_,_,_,e=>by simp at e
 | _ :: _,[],_,_,h,_=>h.elim
 | y :: ys,j :: js,0,z,h,e=>by
  have e':y=z:=by simpa using e
  subst e'
  exact ⟨j,rfl,h.1⟩
 | y :: ys,j :: js,i+1,z,h,e=>by
  obtain ⟨k,e1,e2⟩:=CapOk.get (i:=i) h.2 (by simpa using e)
  exact ⟨k,by simpa using e1,e2⟩
theorem CapOk.len {X:Cx} {scope:Scope} {cl:List (Str × Addr)} : ∀ {ys:List Str} {js:List Nat},CapOk X scope cl ys js→ys.length=js.length
 | [],[],_=>rfl
 | [],_ :: _,h=>h.elim
 | _ :: _,[],h=>h.elim
 | _ :: _,_ :: _,h=>by rw [List.length_cons,List.length_cons,CapOk.len h.2]
def capv (σ:St) (js:List Nat) : St:=js.map fun j=>(σ[j]?).join
theorem relabel_free {scope:Scope} {env:Env} {x:Str} (hcell:∀ y ∈ scope.names,y.2≠.cell) (h:(relabel scope env).names.lookup x=some .cell∨(relabel scope env).names.lookup x=some .free) : (x,NameKind.free) ∈ scope.names:=by
 have hm:∃ k,(k=NameKind.cell∨k=NameKind.free)∧(x,k) ∈ (relabel scope env).names:=by
  rcases h with h | h
  ·exact ⟨_,.inl rfl,lookup_mem h⟩
  ·exact ⟨_,.inr rfl,lookup_mem h⟩
 obtain ⟨k,hk,hm⟩:=hm
 obtain ⟨⟨n,k'⟩,hin,e⟩:=List.mem_map.mp hm
 dsimp only at e
 by_cases hc:(k' == NameKind.free && env.scope.kind == .function && env.kindOf n == some .cell)=true
 ·rw [if_pos hc] at e
  cases e
  have:k' = NameKind.free:=by
   rw [Bool.and_eq_true,Bool.and_eq_true] at hc
   exact eq_of_beq hc.1.1
  rw [← this]; exact hin
 ·rw [if_neg hc] at e
  cases e
  rcases hk with hk | hk
  ·exact absurd hk (hcell _ hin)
  ·rw [← hk]; exact hin
section
variable {X:Cx} {pins:List (Addr × Obj)} {σ:St} {H:Hp} {s:Shared}
theorem Inv.adopt {D:Addr} {ys:List V} {its:List Value} {n:Nat} (I:Inv X pins σ H s) (hn:H D=none) (hnew:X.s₀.heap.objs.size≤D) (hL:D≠X.env.locals) (hc:∀ x c,X.env.cells.lookup x=some c→c≠D) (hp:∀ p ∈ X.pn++pins,p.1≠D)
  (e:s.heap.get? D=some { cls:=.type "list",data:=.seq its.toArray n }) (hv:Vals ys its) (hz:ys.length≤sizeLine) : Inv X pins σ (upd H D (.lst ys)) s:=by
 have ne:∀ b u,H b=some u→b≠D:=fun b u q=>ne_of_none q hn
 refine ⟨I.ok,I.os,I.bare,⟨I.base.keep,I.base.slot,fun b o q nn hx=>?_,I.base.there,fun b xs q=>?_,fun b o u q=>?_,fun b ps q=>?_⟩,I.loc,I.cell,?_,fun x c q=>?_,fun p hq=>?_,fun b u q=>?_,I.len⟩
 ·rw [upd_ne (Nat.ne_of_lt (Nat.lt_of_lt_of_le (Heap.lt_size q) hnew))]; exact I.base.free b o q nn hx
 ·have z:=I.base.tups b xs q
  rw [upd_ne (ne b _ z)]; exact z
 ·have z:=I.base.frzs b o u q
  rw [upd_ne (ne b _ z)]; exact z
 ·obtain ⟨more,z⟩:=I.base.tbls b ps q
  exact ⟨more,by rw [upd_ne (ne b _ z)]; exact z⟩
 ·rw [upd_ne (Ne.symm hL)]; exact I.free
 ·rw [upd_ne (hc x c q)]; exact I.freeC x c q
 ·obtain ⟨a1,a2,a3⟩:=I.pin p hq
  exact ⟨a1,by rw [upd_ne (hp p hq)]; exact a2,a3⟩
 ·by_cases hb:b=D
  ·subst hb
   rw [upd_same] at q; cases q
   exact ⟨hz,its,n,hv,e⟩
  ·rw [upd_ne hb] at q
   exact (I.hok b u q).stay (fun c v _ r=>r) (fun c r=>by rw [upd_ne (ne c _ r)]; exact r) fun c xs r=>by rw [upd_ne (ne c _ r)]; exact r
structure Outed (X:Cx) (pins:List (Addr × Obj)) (σ:St) (C D:Addr) (H:Hp) (s:Shared) : Prop where
 inv:Inv X pins σ H s
 ns:∃ m,s.heap.Ns C m
 nL:C≠X.env.locals
 new:X.s₀.heap.objs.size≤C
 nc:∀ x c,X.env.cells.lookup x=some c→c≠C
 np:∀ p ∈ X.pn++pins,p.1≠C
 free:H C=none
theorem Outed.gone {C D:Addr} {h':Heap} (O:Outed X pins σ C D H s) (sb:Heap.SameBut C s.heap h') : Inv X pins σ H { s with heap:=h' }:=
 O.inv.turned (t':=s.toks) (it:=C) (fun b o hb e=>(sb.2 b hb).trans e) O.free O.nL (.inr O.new) O.nc O.np
end

def gLC (J:It) (g:TG) (tc:TT) (te:TE) (n:Nat) (cv:St) (Fin:List V→Hp→Prop) (H1:Hp) : Prop:=
 ∃ W:Nat→Nat→List V→Hp→Prop,(∃ m,W 0 m [] H1)∧∀ i m ys H,W i m ys H →
  (J.stop i H∧Fin ys H) ∨
  (J.go i H∧ys.length < sizeLine∧∃ N:List V→Hp→Prop,(∀ ys' H',N ys' H'→∃ m',m' < m∧W (i+1) m' ys' H')∧∀ x H',J.yld i H x H'→∀ own:St,own.length=n→g x (own++cv) H' fun σ2 H2=>(∃ own2:St,own2.length=n∧σ2=own2++cv) ∧
   tc σ2 H2 fun b H3=>if b=true then te σ2 H3 fun y H4=>N (ys++[y]) H4 else N ys H3)

def clOf (env:Env) : List (Str × NameKind)→List (Str × Addr)→List (Str × Addr)
 | [],acc=>acc
 | (n,k) :: r,acc=>clOf env r (if k == .free then (match env.cells.lookup n with | some c=>(n,c) :: acc | none=>acc) else acc)
theorem clOf_all (env:Env) : ∀ (names:List (Str × NameKind)) (acc:List (Str × Addr)),AllC env acc→AllC env (clOf env names acc)
 | [],_,h=>h
 | (n,k) :: r,acc,h=>by
  refine clOf_all env r _ ?_
  split
  ·split
   ·exact ⟨by assumption,h⟩
   ·exact h
  ·exact h
structure LcOk (X:Cx) (scope:Scope) (cl:List (Str × Addr)) (own caps:List Str) (js:List Nat) : Prop where
 clos:closureFor scope X.env=pure cl
 cell:∀ y ∈ scope.names,y.2≠.cell
 kind:scope.kind = .function
 names:∀ y ∈ scope.names,y.2 = .local→scope.names.lookup y.1=some .local
 allc:AllC X.env cl
 free:(scope.names.all fun y=>y.2 != .free || (cl.lookup y.1).isSome)=true
 cap:CapOk X scope cl caps js

theorem lcok {X:Cx} {scope:Scope} {own caps:List Str} {js:List Nat} (clos:closureFor scope X.env=pure (clOf X.env scope.names []):=by with_unfolding_all rfl) (cell:∀ y ∈ scope.names,y.2≠.cell:=by decide +kernel) (kind:scope.kind = .function:=by rfl)
  (names:∀ y ∈ scope.names,y.2 = .local→scope.names.lookup y.1=some .local:=by decide +kernel) (free:(scope.names.all fun y=>y.2 != .free || ((clOf X.env scope.names []).lookup y.1).isSome)=true:=by with_unfolding_all rfl)
  (cap:CapOk X scope (clOf X.env scope.names []) caps js) : LcOk X scope (clOf X.env scope.names []) own caps js:=⟨clos,cell,kind,names,clOf_all _ _ _ trivial,free,cap⟩
section
variable {X:Cx} {elt iter target:Expr} {ifs:List Expr} {scope:Scope} {cl:List (Str × Addr)} {pos:Pos} {own caps:List Str} {js:List Nat} {g:TG} {tc:TT} {te:TE}
theorem lc_block {pins:List (Addr × Obj)} {σ:St} {s₂:Shared} {H1:Hp} {it:Addr} {fp:List Addr} {tn:Nat→Heap→Prop} {J:It} {Fin:List V→Hp→Prop} {RR:Value→Addr→Result→Shared→Prop} {E:Value→Shared→Prop}
  (hc:X.calm=true) (L:LcOk X scope cl own caps js)
  (hg:∀ s H C ex,PG (X.blk (own++caps) s H scope cl C ex) target g) (ht:∀ s H C ex,PTs (X.blk (own++caps) s H scope cl C ex) ifs tc) (he:∀ s H C ex,PE (X.blk (own++caps) s H scope cl C ex) elt te)
  (I2:Inv X pins σ H1 s₂) (T:Turn X.prog X.w X.K target J fp it tn) (st2:tn 0 s₂.heap) (f2:∀ b ∈ fp,FpOk X pins H1 b)
  (G:gLC J g tc te own.length (capv σ js) Fin H1)
  (hRR:∀ D C H ys s',H D=none→Outed X pins σ C D (upd H D (.lst ys)) s'→Fin ys H→RR (.ref D) C (.ok .next) s') :
  wpAny (model X.prog X.w) X.A (newList []) (fun acc s₃=>wpAny (model X.prog X.w) X.A (newFunctionEnv scope X.env.globals cl [] X.env.qual none .none (some X.env)) (fun cenv s₄ =>
   codeAny (model X.prog X.w) X.A (.compStart (.ListComp elt [⟨target,iter,ifs,0⟩] scope pos) 0 (.ref it) acc { cenv with scope:=relabel scope X.env }) (RR acc cenv.locals) s₄) E s₃) E s₂:=by
 refine wpAny_newObj_type (wpAny_newFunctionEnv L.cell (by intro y hy; simp at hy) (fun h₁ hns₁ hsb₁=>?_) L.kind)
 dsimp only at hns₁ hsb₁ ⊢
 generalize hH2:s₂.heap.push { cls:=.type "list",dict:=none,data:=.seq ([] : List Value).toArray }=G2 at hns₁ hsb₁ ⊢
 have hC:G2.objs.size=s₂.heap.objs.size+1:=by rw [← hH2,Heap.size_push]
 have up2:∀ b o,s₂.heap.get? b=some o→G2.get? b=some o:=fun b o e=>hH2 ▸ Heap.get?_push_of_some _ e
 have hDC:s₂.heap.objs.size≠G2.objs.size:=by rw [hC]; exact Nat.ne_of_lt (Nat.lt_succ_self _)
 have hD2:G2.get? s₂.heap.objs.size=some { cls:=.type "list",data:=.seq ([] : List Value).toArray ([] : List Value).length }:=hH2 ▸ Heap.get?_push_size _ rfl
 -- the state with the list laid
 have I3:Inv X pins σ H1 { s₂ with heap:=G2 }:=I2.kept (t':=s₂.toks) up2
 have up3:∀ b o,G2.get? b=some o→h₁.get? b=some o:=fun b o e=>hsb₁.extBut b o (Nat.ne_of_lt (Heap.lt_size e)) (Heap.get?_push_of_some _ e)
 have DH:H1 s₂.heap.objs.size=none:=I2.fresh
 have CH:H1 G2.objs.size=none:=I3.fresh
 have fpl:∀ b ∈ fp,b < s₂.heap.objs.size:=fun b hb=>by
  obtain ⟨o,e,_⟩:=T.obj 0 _ st2 b hb
  exact Heap.lt_size e
 have celllt:∀ x c,X.env.cells.lookup x=some c→c < s₂.heap.objs.size:=fun x c e=>by
  obtain ⟨v,q⟩:=I2.cell x c e
  exact q.lt
 have locl:X.env.locals < s₂.heap.objs.size:=I2.lt
 generalize hD:s₂.heap.objs.size=D at *
 generalize hCC:G2.objs.size=C at *
 have hDltC:D < C:=by omega
 have noF:∀ b,b ∈ frs X.stack→b < D:=fun b hb=>by
  rcases List.mem_cons.mp (I2.stkSub b hb) with e | hb
  ·rw [e]; exact locl
  ·obtain ⟨_,o,ho,_⟩:=I2.ok.funs.mem hb
   exact Nat.lt_of_lt_of_le (Heap.lt_size ho) (hD ▸ I2.sz)
 have fpF:∀ b ∈ fp,b ∉ frs X.stack:=fun b hb z=>by
  obtain ⟨_,e1,e2,_⟩:=f2 b hb
  rcases List.mem_cons.mp (I2.stkSub b z) with e | z
  ·exact e1 e
  ·exact e2 z
 have ok':(X.blk (own++caps) { s₂ with heap:=G2 } H1 scope cl C (D :: fp)).Ok:={
  mod:=I2.ok.mod
  kind:=L.kind
  glob:=I2.ok.glob
  blt:=I2.ok.blt
  above:=Nat.le_of_eq hCC
  inj:=fun x y c e1 e2=>I2.ok.inj x y c (L.allc.get e1) (L.allc.get e2)
  has:=fun x hx=>by
   have hm:=relabel_free L.cell hx
   have q:=List.all_eq_true.mp L.free _ hm
   have q':(cl.lookup x).isSome=true:=by simpa using q
   exact Option.isSome_iff_exists.mp q'
  cab:=fun x c e=>nomatch e
  hd:=I2.ok.hd
  frames:=I2.ok.frames
  stk:=.inl rfl
  exf:=fun b hb=>by
   rcases List.mem_cons.mp hb with rfl | hb
   ·exact ⟨Nat.ne_of_lt hDltC,fun x c e=>Nat.ne_of_lt (celllt x c (L.allc.get e))⟩
   ·obtain ⟨_,e1,e2,_,e4,_⟩:=f2 b hb
    exact ⟨Nat.ne_of_lt (Nat.lt_trans (fpl b hb) hDltC),fun x c e=>e4 x c (L.allc.get e)⟩
  bs:=fun b o e=>⟨up2 b o (I2.bs b o e).1,(I2.bs b o e).2⟩
  bsz:=by
   show X.base.objs.size≤G2.objs.size
   have:=I2.ok.bsz
   have:=I2.sz
   omega
  noex:=fun b o e hb=>by
   have hlt:=Heap.lt_size (I2.bs b o e).1
   rcases List.mem_cons.mp hb with z | hb
   ·exact absurd (show b < D from hD ▸ hlt) (by rw [z]; exact Nat.lt_irrefl _)
   ·obtain ⟨_,_,_,e3,_⟩:=f2 b hb
    rcases e3 with e3 | e3
    ·exact I2.ok.noex b o e e3
    ·exact absurd (Nat.lt_of_lt_of_le (Heap.lt_size (I2.ok.bs b o e).1) e3) (Nat.lt_irrefl _)
  exfs:=fun b hb z=>by
   rcases List.mem_cons.mp hb with e | hb
   ·exact absurd (noF b z) (by rw [e]; exact Nat.lt_irrefl _)
   ·exact fpF b hb z
  funs:=I3.stack
  frf:=I3.stkFree }
 have hns:h₁.Ns C (fun x=>([] : List (Str × Value)).reverse.lookup x):=hns₁
 have start:Inv (X.blk (own++caps) { s₂ with heap:=G2 } H1 scope cl C (D :: fp)) [(D,LCg.lst [])] (List.replicate own.length none++capv σ js) H1 { s₂ with heap:=h₁,toks:=s₂.toks+([] : List (Str × Value)).length }:=by
  refine ⟨ok',rfl,I2.bare,Un.kept up3,⟨_,hns,fun i x v e1 e2 e3=>?_⟩,fun x c e=>?_,CH,fun x c e=>I2.freeC x c (L.allc.get e),fun p hp=>?_,I3.hok.kept up3,?_⟩
  ·have hlo:own.length≤i:=by
    refine Nat.le_of_not_lt fun hlt=>?_
    rw [List.getElem?_append_left (by rw [List.length_replicate]; exact hlt),List.getElem?_replicate,if_pos hlt] at e2
    cases e2
   have e1':caps[i - own.length]? = some x:=by rw [← List.getElem?_append_right hlo]; exact e1
   obtain ⟨j,j1,j2,j3,j4,j5⟩:=L.cap.get e1'
   have e2':(capv σ js)[i - own.length]? = some (some v):=by
    rw [← e2,List.getElem?_append_right (by rw [List.length_replicate]; exact hlo),List.length_replicate]
   have e4:σ[j]? = some (some v):=by
    unfold capv at e2'
    rw [List.getElem?_map,j1] at e2'
    have e5:(σ[j]?).join=some v:=Option.some.inj e2'
    cases hq:σ[j]? with
    | none=>rw [hq] at e5; cases e5
    | some q=>rw [hq] at e5; exact congrArg some e5
   obtain ⟨m,hn,hl⟩:=I2.loc
   obtain ⟨u,ru,lk⟩:=hl j x v j2 e4 (.inr j3)
   refine ⟨u,ru,.inr ⟨j5,?_⟩⟩
   rcases lk with ⟨k,_⟩ | ⟨_,c,ec,o,ho,hd⟩
   ·rcases j3 with z | z <;> (rw [k] at z; cases z)
   ·obtain ⟨c',ec'⟩:=Option.isSome_iff_exists.mp j4
    have:=L.allc.get ec'
    rw [ec] at this
    cases this
    exact ⟨c,ec',o,up3 _ _ (up2 _ _ ho),hd⟩
  ·obtain ⟨v,o,ho,hd⟩:=I2.cell x c (L.allc.get e)
   exact ⟨v,o,up3 _ _ (up2 _ _ ho),hd⟩
  ·have e:p=(D,LCg.lst []):=by simpa using hp
   subst e
   exact ⟨up3 _ _ hD2,DH,Nat.ne_of_lt hDltC,fun z=>absurd (noF D z) (Nat.lt_irrefl _),fun v z=>by cases z⟩
  ·rw [List.length_append,List.length_append,List.length_replicate]
   unfold capv
   rw [List.length_map,L.cap.len]
 obtain ⟨W,⟨m0,w0⟩,turn⟩:=G
 have loop:codeAny (model X.prog X.w) X.A (.compLoop (.ListComp elt [⟨target,iter,ifs,0⟩] scope pos) 0 (.ref it) (.ref D) (compEnvC scope cl C X.env)) (RR (.ref D) C) { s₂ with heap:=h₁,toks:=s₂.toks+([] : List (Str × Value)).length }:=by
  refine compLoop_any (fun n s'=>∃ i ys its ow H',Inv (X.blk (own++caps) { s₂ with heap:=G2 } H1 scope cl C (D :: fp)) [(D,LCg.lst its)] (ow++capv σ js) H' s'∧ow.length=own.length∧tn i s'.heap∧(∀ b ∈ fp,H' b=none)∧Vals ys its∧ys.length≤sizeLine∧W i n ys H') ?_ m0
   ⟨0,[],[],List.replicate own.length none,H1,start,List.length_replicate,T.keep _ _ _ st2 fun b _ o e=>up3 _ _ (up2 _ _ e),fun b hb=>(f2 b hb).1,.nil,Nat.zero_le _,w0⟩
  rintro n s' ⟨i,ys,its,ow,H',I',hlo,st,fr,hv,hz,wv⟩
  have fpok:∀ {H'':Hp},(∀ b ∈ fp,H'' b=none)→∀ b ∈ fp,FpOk (X.blk (own++caps) { s₂ with heap:=G2 } H1 scope cl C (D :: fp)) [(D,LCg.lst its)] H'' b:=fun hn b hb=>by
   obtain ⟨_,e1,e2,e3,e4,e5⟩:=f2 b hb
   refine ⟨hn b hb,Nat.ne_of_lt (Nat.lt_trans (fpl b hb) hDltC),fpF b hb,.inl (List.mem_cons_of_mem _ hb),fun x c e=>e4 x c (L.allc.get e),fun p hp=>?_⟩
   have e:p=(D,LCg.lst its):=by simpa using hp
   subst e
   exact Nat.ne_of_gt (fpl b hb)
  rcases turn i n ys H' wv with ⟨stop,fin⟩ | ⟨go,hlt,N,hN,step⟩
  ·refine wpAny_mono (T.done (X.blk (own++caps) { s₂ with heap:=G2 } H1 scope cl C (D :: fp)) rfl rfl rfl hc i _ s' _ H' (fun _ _=>False) I' (fpok fr) st stop) (fun r s4 ⟨hr,I4⟩=>?_) fun _ _ f=>f
   subst hr
   have pD:=I4.pin (D,LCg.lst its) (by simp)
   have hch:∀ b ∈ D :: fp,(b ∈ X.ex∨X.s₀.heap.objs.size≤b)∧b≠X.env.locals∧(∀ x c,X.env.cells.lookup x=some c→c≠b)∧∀ p ∈ X.pn++pins,p.1≠b:=fun b hb=>by
    rcases List.mem_cons.mp hb with rfl | hb
    ·exact ⟨.inr (hD ▸ I2.sz),Nat.ne_of_gt locl,fun x c e=>Nat.ne_of_lt (celllt x c e),fun p hp=>Nat.ne_of_lt (hD ▸ Heap.lt_size (I2.pin p hp).1)⟩
    ·obtain ⟨_,e1,e2,e3,e4,e5⟩:=f2 b hb
     exact ⟨e3,e1,e4,e5⟩
   have IX:Inv X pins σ H' s4:=I2.call' (ch:=D :: fp) I4.os ((Un.kept up2).trans I4.base) I4.hok I4.bare hch
   have cD:=hch D List.mem_cons_self
   have IA:Inv X pins σ (upd H' D (.lst ys)) s4:=IX.adopt pD.2.1 (hD ▸ I2.sz) cD.2.1 cD.2.2.1 cD.2.2.2 pD.1 hv hz
   obtain ⟨mm,hmm,_⟩:=I4.loc
   refine hRR D C H' ys s4 pD.2.1 ⟨IA,⟨mm,hmm⟩,Nat.ne_of_gt (Nat.lt_trans locl hDltC),?_,fun x c e=>Nat.ne_of_lt (Nat.lt_trans (celllt x c e) hDltC),fun p hp=>?_,?_⟩ fin
   ·have:=I2.sz
    omega
   ·exact Nat.ne_of_lt (Nat.lt_trans (show p.1 < D from hD ▸ Heap.lt_size (I2.pin p hp).1) hDltC)
   ·rw [upd_ne (Nat.ne_of_gt hDltC)]; exact I4.free
  ·refine wpAny_mono (T.item (X.blk (own++caps) { s₂ with heap:=G2 } H1 scope cl C (D :: fp)) rfl rfl rfl hc i _ s' _ H' (fun _ _=>False) I' (fpok fr) st go) (fun r s4 ⟨u,hr,h4⟩=>?_) fun _ _ f=>f
   subst hr
   refine wpAny_mono h4 (fun _ s5 ⟨x,H5,I5,r5,y5,st5,fr5⟩=>?_) fun _ _ f=>f
   have I5':=I5.pinned (fpok fr5) (T.obj _ _ st5)
   have keepT:∀ {σ8:St} {H8:Hp} {s8:Shared},Inv (X.blk (own++caps) { s₂ with heap:=G2 } H1 scope cl C (D :: fp)) ([(D,LCg.lst its)]++pinsAt fp s5.heap) σ8 H8 s8→tn (i+1) s8.heap∧∀ b ∈ fp,H8 b=none:=fun {σ8 H8 s8} I8 =>
    ⟨T.keep _ _ _ st5 fun b hb o e=>(I8.pin (b,o) (List.mem_append_right _ (List.mem_append_right _ (mem_pinsAt hb e)))).1,fun b hb=>by
     obtain ⟨o,e,d⟩:=T.obj _ _ st5 b hb
     exact (I8.pin (b,o) (List.mem_append_right _ (List.mem_append_right _ (mem_pinsAt hb e)))).2.1⟩
   refine wpAny_mono (hg _ _ _ _ _ s5 _ H5 x u _ I5' r5 (step x H5 y5 ow hlo)) (fun _ s6 ⟨σ6,H6,I6,⟨own2,hl2,e6⟩,q6⟩=>?_) fun _ _ f=>f
   subst e6
   refine wpAny_mono (ht _ _ _ _ _ s6 _ H6 _ I6 q6) (fun b s7 ⟨H7,I7,q7⟩=>?_) fun _ _ f=>f
   cases b with
   | false =>
    rw [if_neg Bool.false_ne_true]
    rw [if_neg Bool.false_ne_true] at q7
    obtain ⟨m',hm,w7⟩:=hN _ _ q7
    obtain ⟨k1,k2⟩:=keepT I7
    exact ⟨m',hm,i+1,ys,its,own2,H7,I7.unpinned,hl2,k1,k2,hv,hz,w7⟩
   | true =>
    rw [if_pos rfl]
    rw [if_pos rfl] at q7
    refine wpAny_mono (he _ _ _ _ _ s7 _ H7 _ I7 q7) (fun y s8 ⟨vy,H8,I8,r8,n8⟩=>?_) fun _ _ f=>f
    obtain ⟨m',hm,w8⟩:=hN _ _ n8
    obtain ⟨k1,k2⟩:=keepT I8
    have pD:=I8.pin (D,LCg.lst its) (by simp)
    have hyl:=hv.length
    refine append_at (hsz:=by show its.toArray.size≤sizeLine; rw [List.size_toArray]; omega) pD.1 fun h9 hs9 hD9=>?_
    have I9:Inv (X.blk (own++caps) { s₂ with heap:=G2 } H1 scope cl C (D :: fp)) [] (own2++capv σ js) H8 { s8 with heap:=h9 }:=by
     refine (I8.pins_of (pins':=[]) fun p hp=>nomatch hp).turned (t':=s8.toks) (it:=D) (fun b o hb e=>(hs9.2 b hb).trans e) pD.2.1 (Nat.ne_of_lt hDltC) (.inl List.mem_cons_self) (fun x c e=>Nat.ne_of_lt (celllt x c (L.allc.get e))) fun p hp=>?_
     simp at hp
    refine ⟨m',hm,i+1,ys++[vy],its++[y],own2,H8,I9.pins_of fun p hp=>?_,hl2,T.keep _ _ _ k1 fun b hb o e=>(hs9.2 b (Nat.ne_of_lt (fpl b hb))).trans e,k2,hv.append (.cons r8 .nil),?_,w8⟩
    ·have e:p=(D,LCg.lst (its++[y])):=by simpa using hp
     subst e
     exact ⟨hD9.trans (congrArg some (LCg.lst_snoc its y)),pD.2.1,Nat.ne_of_lt hDltC,fun z=>absurd (noF D z) (Nat.lt_irrefl _),fun v z=>by cases z⟩
    ·rw [List.length_append,List.length_singleton]; omega
 exact codeAny_compStart_list loop (T.self _ _ _ _ _ (T.keep _ _ _ st2 fun b _ o e=>up3 _ _ (up2 _ _ e)) loop)

def tLCg (wi:TI) (g:TG) (tc:TT) (te:TE) (n:Nat) (js:List Nat) : TE:=fun σ H Q=>wi σ H fun J H1=>gLC J g tc te n (capv σ js) (fun ys H=>∀ p,H p=none→Q (.ref p) (upd H p (.lst ys))) H1
variable {wi:TI}
theorem pe_lcg (hc:X.calm=true) (L:LcOk X scope cl own caps js) (hi:PI X target iter wi)
  (hg:∀ s H C ex,PG (X.blk (own++caps) s H scope cl C ex) target g) (ht:∀ s H C ex,PTs (X.blk (own++caps) s H scope cl C ex) ifs tc) (he:∀ s H C ex,PE (X.blk (own++caps) s H scope cl C ex) elt te)
  (hs:∀ x,foldedSetIterable iter X.env x=pure x:=by intro _; rfl) : PE X (.ListComp elt [⟨target,iter,ifs,0⟩] scope pos) (tLCg wi g tc te own.length js):=by
 intro pins s σ H Q I h
 rw [eval_ListComp]
 refine wpAny_comprehension_free (use:=none) rfl hs L.clos L.kind L.names (thn (hi pins s σ H _ I h) fun v s1 h1=>thn h1 fun itv s2 h2=>?_)
 obtain ⟨it,fp,tn,J,H2,e,I2,T,st2,f2,G⟩:=h2
 subst e
 refine lc_block hc L hg ht he I2 T st2 f2 G ?_
 intro D C H3 ys s' hD O fin
 obtain ⟨m,hn⟩:=O.ns
 exact ⟨m,hn,fun h' sb=>⟨.ref D,_,O.gone sb,rfl,fin D hD⟩⟩
theorem ps_lcg {k:Nat} {y:Str} {py spos:Pos} (hc:X.calm=true) (L:LcOk X scope cl own caps js) (hi:PI X target iter wi)
  (hg:∀ s H C ex,PG (X.blk (own++caps) s H scope cl C ex) target g) (ht:∀ s H C ex,PTs (X.blk (own++caps) s H scope cl C ex) ifs tc) (he:∀ s H C ex,PE (X.blk (own++caps) s H scope cl C ex) elt te)
  (hN:X.N.Nodup) (hk:X.N[k]? = some y) (hy:X.env.scope.names.lookup y=some .local)
  (hsw:swapsWith (.ListComp elt [⟨target,iter,ifs,0⟩] scope pos) (some (.Name y py)) spos.line X.env=pure true:=by rfl)
  (hs:∀ x,foldedSetIterable iter X.env x=pure x:=by intro _; rfl) : PS X (.Assign [.Name y py] (.ListComp elt [⟨target,iter,ifs,0⟩] scope pos) spos) (tAsg (tLCg wi g tc te own.length js) (gName k)):=by
 intro pins s σ H De I h
 rw [exec_Assign_Name_used _ _ _ _ hsw]
 refine wpAny_bind (wpAny_standAt (wpAny_bind ?_))
 show wpAny _ _ (do let _ ← comprehension (.ListComp elt [⟨target,iter,ifs,0⟩] scope pos) scope X.env _ (newList []) false (eval iter X.env) (some (assign (.Name y py) X.env))) _ _ s
 refine wpAny_bind (wpAny_mono (wpAny_comprehension_free (use:=some (assign (.Name y py) X.env)) (Q:=fun _ s'=>SP X pins De .next s') rfl hs L.clos L.kind L.names
  (thn (hi pins s σ H _ I h) fun v s1 h1=>thn h1 fun itv s2 h2=>?_)) (fun _ s' hq=>wpAny_pure (wpAny_pure hq)) fun _ _ e=>e)
 obtain ⟨it,fp,tn,J,H2,e,I2,T,st2,f2,G⟩:=h2
 subst e
 refine lc_block hc L hg ht he I2 T st2 f2 G ?_
 intro D C H3 ys s' hD O fin
 show wpAny _ _ (assign (.Name y py) X.env (.ref D)) _ _ _
 refine wpAny_assign_Name (store_ok2 O.inv hN hk (.inl hy) (show RelV (.ref D) (.ref D) from rfl) (fun s'' I'' sb=>?_) (.inr hy))
 obtain ⟨a,hsb,ha⟩:=sb
 have hne:C≠a:=by
  rcases ha with rfl | ha
  ·exact O.nL
  ·exact Ne.symm (O.nc _ _ ha)
 obtain ⟨m,hn⟩:=O.ns
 refine ⟨m,hn.sameBut hsb hne,fun h' sb'=>⟨_,_,?_,fin D hD⟩⟩
 exact I''.turned (t':=s''.toks) (it:=C) (fun b o hb e=>(sb'.2 b hb).trans e) O.free O.nL (.inr O.new) O.nc O.np
end

section
variable {X:Cx} {elt iter:Expr} {ifs:List Expr} {scope:Scope} {cl:List (Str × Addr)} {pos:Pos} {caps:List Str} {js:List Nat} {tc:TT} {te:TE} {wi:TI} {x:Str} {px:Pos}
theorem gLC1 {J:It} {cv:St} {Fin:List V→Hp→Prop} {H1:Hp} (h:∃ W:Nat→Nat→List V→Hp→Prop,(∃ m,W 0 m [] H1)∧∀ i m ys H,W i m ys H →
  (J.stop i H∧Fin ys H) ∨
  (J.go i H∧ys.length < sizeLine∧∃ N:List V→Hp→Prop,(∀ ys' H',N ys' H'→∃ m',m' < m∧W (i+1) m' ys' H')∧∀ x H',J.yld i H x H' →
   tc (some x :: cv) H' fun b H3=>if b=true then te (some x :: cv) H3 fun y H4=>N (ys++[y]) H4 else N ys H3)) : gLC J (gName 0) tc te 1 cv Fin H1:=by
 obtain ⟨W,w0,turn⟩:=h
 refine ⟨W,w0,fun i m ys H w=>?_⟩
 rcases turn i m ys H w with ⟨a,b⟩ | ⟨a,b,N,hN,c⟩
 ·exact .inl ⟨a,b⟩
 ·refine .inr ⟨a,b,N,hN,fun v H' y own ho=>?_⟩
  match own,ho with
  | [τ],_=>exact ⟨⟨[some v],rfl,rfl⟩,c v H' y⟩
def tLC (wi:TI) (tc:TT) (te:TE) (js:List Nat) : TE:=tLCg wi (gName 0) tc te 1 js
theorem pe_lc (hc:X.calm=true) (L:LcOk X scope cl [x] caps js) (hi:PI X (.Name x px) iter wi)
  (ht:∀ s H C ex,PTs (X.blk (x :: caps) s H scope cl C ex) ifs tc) (he:∀ s H C ex,PE (X.blk (x :: caps) s H scope cl C ex) elt te)
  (hN:(x :: caps).Nodup:=by decide +kernel) (hx:(relabel scope X.env).names.lookup x=some .local:=by with_unfolding_all rfl)
  (hs:∀ x,foldedSetIterable iter X.env x=pure x:=by intro _; rfl) : PE X (.ListComp elt [⟨.Name x px,iter,ifs,0⟩] scope pos) (tLC wi tc te js):=
 pe_lcg (own:=[x]) (g:=gName 0) hc L hi (fun s H C ex=>pg_name (i:=0) hN rfl (.inl hx) (.inr hx)) ht he hs
theorem ps_lc {k:Nat} {y:Str} {py spos:Pos} (hc:X.calm=true) (L:LcOk X scope cl [x] caps js) (hi:PI X (.Name x px) iter wi)
  (ht:∀ s H C ex,PTs (X.blk (x :: caps) s H scope cl C ex) ifs tc) (he:∀ s H C ex,PE (X.blk (x :: caps) s H scope cl C ex) elt te)
  (hXN:X.N.Nodup) (hk:X.N[k]? = some y) (hy:X.env.scope.names.lookup y=some .local) (hN:(x :: caps).Nodup:=by decide +kernel) (hx:(relabel scope X.env).names.lookup x=some .local:=by with_unfolding_all rfl)
  (hsw:swapsWith (.ListComp elt [⟨.Name x px,iter,ifs,0⟩] scope pos) (some (.Name y py)) spos.line X.env=pure true:=by rfl)
  (hs:∀ x,foldedSetIterable iter X.env x=pure x:=by intro _; rfl) : PS X (.Assign [.Name y py] (.ListComp elt [⟨.Name x px,iter,ifs,0⟩] scope pos) spos) (tAsg (tLC wi tc te js) (gName k)):=
 ps_lcg (own:=[x]) (g:=gName 0) hc L hi (fun s H C ex=>pg_name (i:=0) hN rfl (.inl hx) (.inr hx)) ht he hXN hk hy hsw hs
theorem lc_list {K:PySem.W.Frag} {a:Addr} {xs:List V} {cv:St} {Fin:List V→Hp→Prop} {H1:Hp} (Pv:Nat→List V→Hp→Prop) (h0:Pv 0 [] H1) (hl:∀ i ys H,i≤xs.length→Pv i ys H→SqL K H a xs) (hz:∀ i ys H,i < xs.length→Pv i ys H→ys.length < sizeLine)
  (hs:∀ i x ys H,xs[i]? = some x→Pv i ys H→tc (some x :: cv) H fun b H3=>if b=true then te (some x :: cv) H3 fun y H4=>Pv (i+1) (ys++[y]) H4 else Pv (i+1) ys H3)
  (hd:∀ ys H,Pv xs.length ys H→Fin ys H) : gLC (Itl K a) (gName 0) tc te 1 cv Fin H1:=by
 refine gLC1 ⟨fun i m ys H=>m=xs.length - i∧i≤xs.length∧Pv i ys H,⟨xs.length,by simp,Nat.zero_le _,h0⟩,?_⟩
 rintro i m ys H ⟨rfl,hi,p⟩
 have q:=hl i ys H hi p
 by_cases hlt:i < xs.length
 ·refine .inr ⟨⟨xs,xs[i],q,by simp [hlt]⟩,hz i ys H hlt p,Pv (i+1),fun ys' H' p'=>⟨xs.length - (i+1),by omega,rfl,hlt,p'⟩,fun v H' y=>?_⟩
  obtain ⟨e,y⟩:=y
  subst e
  exact hs i v ys _ (y xs q) p
 ·have e:i=xs.length:=by omega
  subst e
  exact .inl ⟨⟨xs,q,Nat.le_refl _⟩,hd ys H p⟩
theorem lc_range {lo:Int} {n:Nat} {cv:St} {Fin:List V→Hp→Prop} {H1:Hp} (Pv:Nat→List V→Hp→Prop) (h0:Pv 0 [] H1) (hz:∀ i ys H,i < n→Pv i ys H→ys.length < sizeLine)
  (hs:∀ i ys H,i < n→Pv i ys H→tc (some (.int (lo+i)) :: cv) H fun b H3=>if b=true then te (some (.int (lo+i)) :: cv) H3 fun y H4=>Pv (i+1) (ys++[y]) H4 else Pv (i+1) ys H3)
  (hd:∀ ys H,Pv n ys H→Fin ys H) : gLC (Itr lo n) (gName 0) tc te 1 cv Fin H1:=by
 refine gLC1 ⟨fun i m ys H=>m=n - i∧i≤n∧Pv i ys H,⟨n,by simp,Nat.zero_le _,h0⟩,?_⟩
 rintro i m ys H ⟨rfl,hi,p⟩
 by_cases hlt:i < n
 ·refine .inr ⟨hlt,hz i ys H hlt p,Pv (i+1),fun ys' H' p'=>⟨n - (i+1),by omega,rfl,hlt,p'⟩,fun v H' y=>?_⟩
  obtain ⟨e,y⟩:=y
  subst e y
  exact hs i ys _ hlt p
 ·have e:i=n:=by omega
  subst e
  exact .inl ⟨Nat.le_refl _,hd ys H p⟩
end

theorem yes_go {A B:Hp→Prop} {σ:St} {H:Hp} (h:A H) : tYes σ H (fun b H3=>if b=true then A H3 else B H3):=by
 show if true=true then A H else B H
 rw [if_pos rfl]
 exact h
section
variable {X:Cx} {tg:Expr}
end
section
variable {X:Cx}
theorem strsAre_of {ys:List Str} : ∀ {us:List Value},Vals (ys.map V.str) us→StrsAre us ys:=by
 induction ys with
 | nil=>intro us h; cases h; exact .nil
 | cons y ys ih =>
  intro us h
  cases h with
  | cons r t =>
   obtain ⟨tk,rfl⟩:=r
   exact .cons y tk (ih t)
theorem mt_join:MtR X "str.join" (fun x xs H Q=>∃ sep a ys,x = .str sep∧xs=[.ref a]∧SqL X.K H a (ys.map V.str)∧sep.length≤16∧(ys.map (·.length)).sum+ys.length≤1048576∧Q (.str (Txt.join sep ys)) H):=by
 intro pins s σ H x xs v us Q I rx r h
 obtain ⟨sep,a,ys,rfl,rfl,hS,h1,h2,q⟩:=h
 obtain ⟨t,rfl⟩:=rx
 obtain ⟨w',rfl,rfl⟩:=vals1 r
 obtain ⟨its,rv,p,hz⟩:=I.list hS
 exact join_listW p.isList (strsAre_of (by simpa using rv)) h1 h2 fun t' k=>⟨.str _,H,I.tok k,⟨t',rfl⟩,q⟩
end
end L2

namespace Tl
open PySem PySem.Builtin PySem.Builtin.Str L2

abbrev tx (l:List Nat) : Str:=⟨l.toArray⟩
theorem tx_of (s:Str) : s=tx s.cps.toList:=by cases s; rfl
theorem tx_app (a b:List Nat) : tx a++tx b=tx (a++b):=by
 show (⟨a.toArray++b.toArray⟩ : Str)=⟨(a++b).toArray⟩
 rw [List.append_toArray]
theorem tx_len (l:List Nat) : (tx l).length=l.length:=by show l.toArray.size=_; simp
def cutL {α:Type} (l:List α) (lo hi:Option Int) : List α:=(l.drop (HT.sIx l.length 0 lo)).take (HT.sIx l.length l.length hi - HT.sIx l.length 0 lo)
theorem cut_to {α:Type} (l:List α) (j:Nat) : cutL l none (some (j:Int))=l.take j:=by
 unfold cutL
 rw [HT.sIx_none,HT.sIx_nat,List.drop_zero,Nat.sub_zero]
 by_cases h:j≤l.length
 ·rw [Nat.min_eq_left h]
 ·rw [Nat.min_eq_right (by omega),List.take_of_length_le (Nat.le_refl _),List.take_of_length_le (by omega)]
def joinL (sep:List Nat) : List (List Nat)→List Nat
 | []=>[]
 | [x]=>x
 | x :: y :: r=>x++sep++joinL sep (y :: r)
theorem join_tx (sep:List Nat) : ∀ ps:List (List Nat),Txt.join (tx sep) (ps.map tx)=tx (joinL sep ps):=by
 have go:∀ ps:List (List Nat),Str.join (tx sep) (ps.map tx)=tx (joinL sep ps):=by
  intro ps
  induction ps with
  | nil=>rfl
  | cons x r ih =>
   cases r with
   | nil=>rfl
   | cons y r =>
    show tx x++tx sep++Str.join (tx sep) (tx y :: r.map tx)=_
    rw [show Str.join (tx sep) (tx y :: r.map tx)=tx (joinL sep (y :: r)) from ih,tx_app,tx_app]
    rfl
 intro ps
 show glued (tx sep) (ps.map tx)=_
 rw [StrLaws.glued_eq_join]
 exact go ps
end Tl

namespace L2
open PySem PySem.Spec PyProof.Rows

def isiV (K:PySem.W.Frag) (T:String) (x:V) (H:Hp) (b:Bool) : Prop:=match x with
 | .non=>b=false
 | .bl _=>b=(T == "bool" || T == "int")
 | .int _=>b=(T == "int")
 | .str _=>b=(T == "str")
 | .ref p=>((∃ xs,SqL K H p xs)∧b=(T == "list"))∨((∃ xs,SqT K H p xs)∧b=(T == "tuple"))
 | _=>False
section
variable {X:Cx}
theorem call_isi:CallR X (.builtin "isinstance") (fun xs H Q=>∃ x T b,xs=[x,.ty T]∧(T = "bool"∨T = "int"∨T = "str"∨T = "tuple"∨T = "list")∧isiV X.K T x H b∧Q (.bl b) H):=by
 intro pins s σ H xs us Q I r h
 obtain ⟨x,T,b,rfl,hT,hv,q⟩:=h
 obtain ⟨u,w',rfl,r1,r2⟩:=vals2 r
 cases r2
 have no:b=false→EP X pins σ Q (.bool false) { s with toks:=s.toks+1 }:=fun e=>⟨.bl false,H,I.tok _,rfl,e ▸ q⟩
 have yes:b=true→EP X pins σ Q (.bool true) s:=fun e=>⟨.bl true,H,I,rfl,e ▸ q⟩
 cases x with
 | non =>
  cases r1
  have hv':b=false:=hv
  rcases hT with rfl | rfl | rfl | rfl | rfl
  ·exact IsiPair.NoneType_bool (no hv')
  ·exact IsiPair.NoneType_int (no hv')
  ·exact IsiPair.NoneType_str (no hv')
  ·exact IsiPair.NoneType_tuple (no hv')
  ·exact IsiPair.NoneType_list (no hv')
 | bl c =>
  cases r1
  rcases hT with rfl | rfl | rfl | rfl | rfl
  ·exact IsiPair.bool_bool (yes (hv.trans (by decide)))
  ·exact IsiPair.bool_int (yes (hv.trans (by decide)))
  ·exact IsiPair.bool_str (no (hv.trans (by decide)))
  ·exact IsiPair.bool_tuple (no (hv.trans (by decide)))
  ·exact IsiPair.bool_list (no (hv.trans (by decide)))
 | int c =>
  obtain ⟨t,rfl⟩:=r1
  rcases hT with rfl | rfl | rfl | rfl | rfl
  ·exact IsiPair.int_bool (no (hv.trans (by decide)))
  ·exact IsiPair.int_int (yes (hv.trans (by decide)))
  ·exact IsiPair.int_str (no (hv.trans (by decide)))
  ·exact IsiPair.int_tuple (no (hv.trans (by decide)))
  ·exact IsiPair.int_list (no (hv.trans (by decide)))
 | str c =>
  obtain ⟨t,rfl⟩:=r1
  rcases hT with rfl | rfl | rfl | rfl | rfl
  ·exact IsiPair.str_bool (no (hv.trans (by decide)))
  ·exact IsiPair.str_int (no (hv.trans (by decide)))
  ·exact IsiPair.str_str (yes (hv.trans (by decide)))
  ·exact IsiPair.str_tuple (no (hv.trans (by decide)))
  ·exact IsiPair.str_list (no (hv.trans (by decide)))
 | ref p =>
  cases r1
  rcases hv with ⟨⟨xs,hq⟩,hb⟩ | ⟨⟨xs,hq⟩,hb⟩
  ·obtain ⟨its,_,p',_⟩:=I.list hq
   obtain ⟨o,n,e,c,_⟩:=p'
   rcases hT with rfl | rfl | rfl | rfl | rfl
   ·exact IsiPair.list_bool e c (no (hb.trans (by decide)))
   ·exact IsiPair.list_int e c (no (hb.trans (by decide)))
   ·exact IsiPair.list_str e c (no (hb.trans (by decide)))
   ·exact IsiPair.list_tuple e c (no (hb.trans (by decide)))
   ·exact IsiPair.list_list e c (yes (hb.trans (by decide)))
  ·obtain ⟨its,_,p',_⟩:=I.tuple hq
   obtain ⟨o,e,c,_⟩:=p'
   rcases hT with rfl | rfl | rfl | rfl | rfl
   ·exact IsiPair.tuple_bool e c (no (hb.trans (by decide)))
   ·exact IsiPair.tuple_int e c (no (hb.trans (by decide)))
   ·exact IsiPair.tuple_str e c (no (hb.trans (by decide)))
   ·exact IsiPair.tuple_tuple e c (yes (hb.trans (by decide)))
   ·exact IsiPair.tuple_list e c (no (hb.trans (by decide)))
 | byt c=>exact hv.elim
 | flt c=>exact hv.elim
 | ty c=>exact hv.elim
end

section
variable {X:Cx}
end
structure DefOk (K:PySem.W.Frag) (mg:Str→Option Value) (x:Str) (st:Stmt) (ps:List Str) (f:Addr) (fd:FuncData) : Prop where
 fn:Fun K x x st f fd
 bd:Binds K fd ps []
 mg:mg x=some (.ref f)
 ba:∀ us:List Value,us.length=ps.length→bindArgs fd ⟨us,[]⟩=pure (ps.zip us)
section
variable {X:Cx} {x:Str} {st:Stmt} {ps:List Str} {f:Addr} {fd:FuncData} {k:Nat} {sp:Sp} {e:Expr} {es:List Expr} {t:TA} {p pos:Pos}
theorem pe_callD (D:DefOk X.K X.mg x st ps f fd) (G:FnOk X.prog X.w X.K X.mg X.base CX0 k f fd ps sp) (hr:Room k X.A) (hg:Gl X x) (ha:PA X (e :: es) t) (hd:(x == ("__debug__" : Str))=false:=by decide)
  (he:starEach (e :: es) X.env=(false,eval e X.env) :: starEach es X.env:=by rfl) (hpl:(backTo pos (starEach es X.env)).any (·.1)=false:=by rfl) : PE X (.Call (.Name x p) (e :: es) [] pos) (tCall sp [] E0 t):=pe_call G hr hg D.mg D.fn.kp D.bd .nil pass0 ha hd he hpl
theorem defok_mk {K:PySem.W.Frag} {h:Heap} {mg:Str→Option Value} (KX:K.In h) (G:h.Ns mainGlobals mg) {od an:Option Addr} {sl:Array (Option Value)} {oc kV dc pm cd ct:Value} (a:PySem.W.nsIn K mainGlobals x=some (some (.ref f)))
  (l:K.lookup f=some ⟨oc,od,.func (PySem.W.fnOf x x (defArgs st) (defBody st) (defScope st) .none kV dc pm an cd ct),sl⟩) (c:PySem.W.codeIn K cd x=true) (k:PySem.W.keepIn K (.ref f)=true)
  (b:∀ (kV doc pm:Value) (an:Option Addr) (cdv ct:Value) (us:List Value),us.length=ps.length→bindArgs (PySem.W.fnOf x x (defArgs st) (defBody st) (defScope st) .none kV doc pm an cdv ct) ⟨us,[]⟩=pure (ps.zip us)) :
  DefOk K mg x st ps f (PySem.W.fnOf x x (defArgs st) (defBody st) (defScope st) .none kV dc pm an cd ct):=
 ⟨fun_mk l c k,(fun_mk l c k).binds b,PySem.W.mg_of KX G a,fun us hl=>b _ _ _ _ _ _ us hl⟩
end

theorem cut_seq {t u:TS} {D:Ends} {σ:St} {H:Hp} (Mid:St→Hp→Prop) (h2:∀ σ' H',Mid σ' H'→u D σ' H') (h1:(∀ σ' H',Mid σ' H'→u D σ' H')→t { D with nx:=u D } σ H) : tSeq t u D σ H:=h1 h2

def eqVs:List V→List V→Bool
 | [],[]=>true
 | a :: r,b :: s=>eqV a b && eqVs r s
 | _,_=>false
theorem eqVs_len:∀ {xs ys:List V},xs.length≠ys.length→eqVs xs ys=false
 | [],[],h=>absurd rfl h
 | [],_ :: _,_=>rfl
 | _ :: _,[],_=>rfl
 | a :: r,b :: s,h=>by
  show (eqV a b && eqVs r s)=false
  rw [eqVs_len (xs:=r) (ys:=s) (fun e=>h (by rw [List.length_cons,List.length_cons,e])),Bool.and_false]
theorem eqVs_range:∀ {xs ys:List V},xs.length=ys.length→(List.range xs.length).all (fun j=>eqV ((xs[j]?).getD .non) ((ys[j]?).getD .non))=eqVs xs ys
 | [],[],_=>rfl
 | [],_ :: _,h=>by simp at h
 | _ :: _,[],h=>by simp at h
 | a :: r,b :: s,h=>by
  have ih:=eqVs_range (xs:=r) (ys:=s) (by simpa using h)
  rw [List.length_cons,List.range_succ_eq_map,List.all_cons,List.all_map]
  show (eqV a b && _)=(eqV a b && eqVs r s)
  rw [← ih]
  rfl
theorem eqV_refl:∀ {x:V},flatV x=true→eqV x x=true:=by
 intro x f
 cases x with
 | non=>rfl
 | bl b=>show (b == b)=true; simp
 | int i=>show (i == i)=true; simp
 | str s=>show (s == s)=true; simp
 | _=>exact absurd (show false=true from f) Bool.false_ne_true
section
variable {X:Cx}
theorem flat_get {xs:List V} (f:xs.all flatV=true) {j:Nat} {x:V} (h:xs[j]? = some x) : flatV x=true:=List.all_eq_true.mp f x (List.mem_of_getElem? h)
theorem items_eq {A:Around} {s:Shared} {xs ys:List V} {its its2:List Value} (r:Vals xs its) (r2:Vals ys its2) (fx:xs.all flatV=true) (fy:ys.all flatV=true) (j:Nat) (h1:j < its.toArray.size) (h2:j < its2.toArray.size) :
  SeqAt.EqAt A s its.toArray[j] its2.toArray[j] (eqV ((xs[j]?).getD .non) ((ys[j]?).getD .non)):=by
 have l1:=r.length
 have l2:=r2.length
 have h1':j < its.length:=by simpa using h1
 have h2':j < its2.length:=by simpa using h2
 have e1:xs[j]? = some xs[j]:=List.getElem?_eq_getElem (by omega)
 have e2:ys[j]? = some ys[j]:=List.getElem?_eq_getElem (by omega)
 obtain ⟨u,hu,ru⟩:=r.get e1
 obtain ⟨v,hv,rv⟩:=r2.get e2
 have eu:its.toArray[j]=u:=by
  have:its[j]? = some its[j]:=List.getElem?_eq_getElem h1'
  rw [hu] at this
  simpa using this.symm
 have ev:its2.toArray[j]=v:=by
  have:its2[j]? = some its2[j]:=List.getElem?_eq_getElem h2'
  rw [hv] at this
  simpa using this.symm
 rw [eu,ev,e1,e2]
 exact eqAt_V ru rv (flat_get fx e1) (flat_get fy e2)
def rEqL (K:PySem.W.Frag) (neg:Bool) : R2:=fun x y H Q=>∃ a b xs ys,x = .ref a∧y = .ref b∧SqL K H a xs∧SqL K H b ys∧xs.all flatV=true∧ys.all flatV=true∧Q (.bl (if neg then !eqVs xs ys else eqVs xs ys)) H
theorem op_neL (hu:X.A.units < cLine) : OpR X (compareOp .NotEq) (rEqL X.K true):=by
 intro pins s σ H x y v u Q I rx ry h
 obtain ⟨a,b,xs,ys,rfl,rfl,ha,hb,fx,fy,q⟩:=h
 cases rx
 cases ry
 obtain ⟨its,r,p,z⟩:=I.list ha
 obtain ⟨its2,r2,p2,z2⟩:=I.list hb
 have l1:=r.length
 have l2:=r2.length
 by_cases hl:xs.length=ys.length
 ·refine SeqAt.RcNeAt.lists (e:=fun j=>eqV ((xs[j]?).getD .non) ((ys[j]?).getD .non)) p.isList p2.isList (by simp; omega) hu (fun j h1 h2=>items_eq r r2 fx fy j h1 h2) _ _ _ _ ⟨.bl _,H,I,rfl,?_⟩
  have e:its.toArray.size=xs.length:=by simp; omega
  rw [e,eqVs_range hl]
  exact q
 ·refine SeqAt.RcNeAt.lists_lengths p.isList p2.isList (by simp; omega) hu _ _ _ _ ⟨.bl true,H,I,rfl,?_⟩
  have q':Q (.bl (!eqVs xs ys)) H:=q
  rw [eqVs_len hl] at q'
  exact q'

end

inductive DD where
 | bl (b:Bool)
 | int (i:Int)
 | str (s:Str)
 | tup (l:List DD)
 | lst (l:List DD)
mutual
def Rep (K:PySem.W.Frag) (H:Hp) : DD→V→Prop
 | .bl b,v=>v = .bl b
 | .int i,v=>v = .int i
 | .str s,v=>v = .str s
 | .tup l,v=>∃ a xs,v = .ref a∧SqT K H a xs∧l.length≤1000∧Reps K H l xs
 | .lst l,v=>∃ a xs,v = .ref a∧SqL K H a xs∧l.length≤1000∧Reps K H l xs
def Reps (K:PySem.W.Frag) (H:Hp) : List DD→List V→Prop
 | [],xs=>xs=[]
 | d :: l,xs=>∃ x r,xs=x :: r∧Rep K H d x∧Reps K H l r
end
theorem Reps.len {K:PySem.W.Frag} {H:Hp} : ∀ {l:List DD} {xs:List V},Reps K H l xs→xs.length=l.length
 | [],xs,h=>by
  unfold Reps at h
  rw [h]; rfl
 | d :: l,xs,h=>by
  unfold Reps at h
  obtain ⟨x,r,rfl,_,h⟩:=h
  rw [List.length_cons,List.length_cons,h.len]
theorem Reps.get {K:PySem.W.Frag} {H:Hp} : ∀ {l:List DD} {xs:List V} {i:Nat} {d:DD},Reps K H l xs→l[i]? = some d→∃ x,xs[i]? = some x∧Rep K H d x
 | [],_,_,_,_,e=>by simp at e
 | d :: l,xs,0,d',h,e=>by
  unfold Reps at h
  obtain ⟨x,r,rfl,hx,h⟩:=h
  have:d=d':=by simpa using e
  subst this
  exact ⟨x,rfl,hx⟩
 | d :: l,xs,i+1,d',h,e=>by
  unfold Reps at h
  obtain ⟨x,r,rfl,hx,h⟩:=h
  obtain ⟨y,ey,hy⟩:=h.get (i:=i) (by simpa using e)
  exact ⟨y,by simpa using ey,hy⟩
theorem Reps.strs {K:PySem.W.Frag} {H:Hp} : ∀ (l:List Str),Reps K H (l.map DD.str) (l.map V.str)
 | []=>by unfold Reps; rfl
 | s :: r=>by
  show Reps K H (DD.str s :: r.map DD.str) (V.str s :: r.map V.str)
  unfold Reps
  exact ⟨_,_,rfl,by unfold Rep; rfl,Reps.strs r⟩

section
variable {X:Cx} {o i:Expr} {pos:Pos} {td ty:TE}
end

def CXe (P:Program) (w:World) : CXT:=fun outer H s E e s' =>
 ∃ (x C:Addr) (H':Hp) (B:Heap) (a0:Value),e = .ref x∧s'.os=s.os∧AllBare s'.gens∧Un (frs outer) [] H H' s.heap s'.heap∧HOk P w H' B ∧
  (∀ b o,s.heap.get? b=some o→H b=none→b ∉ frs outer→B.get? b=some o)∧(∀ b o,s.heap.get? b=some o→b ∉ frs outer→∃ o',B.get? b=some o') ∧
  Heap.FlyingW B outer x (.ref C) a0 s'.heap∧E (.ref C) none H'
def Wish (X:Cx) (E:XK) : Prop:=∀ (pins:List (Addr × Obj)) (σ:St) (H:Hp) (s:Shared) (x C:Addr) (vs:List Value) (h':Heap),Inv X pins σ H s→Heap.MadeExcOf s.heap h' x (.ref C) vs→E (.ref C) none H→X.xe (.ref x) { s with heap:=h' }
theorem mem_frs {env:Env} {l:List Env} {b L:Addr} (hf:env.frame=some L) (h:b ∈ frs (env :: l)) : b=L∨b ∈ frs l:=by
 unfold frs at h
 rw [List.filterMap_cons,hf] at h
 exact List.mem_cons.mp h
theorem frs_all (l:List Env) : ∀ env ∈ l,∀ a,env.frame=some a→a ∈ frs l:=fun env he a hf=>List.mem_filterMap.mpr ⟨env,he,hf⟩
section
variable {P:Program} {w:World} {K:PySem.W.Frag} {mg:Str→Option Value} {base:Heap} {N:List Str} {qual:Str} {scope:Scope} {f:Addr} {cd:Value} {A:Around} {outer:List Env} {s:Shared} {H:Hp} {E:XK}
theorem wish_cx:Wish (cxOf (CXe P w) P w K mg base N qual scope f cd A outer s H E) E:=by
 intro pins σ H1 s1 x C vs h' I hx ee
 have hfr:(envOfC qual scope s.heap.objs.size f cd).frame=some (envOfC qual scope s.heap.objs.size f cd).locals:=rfl
 have hst:=I.stack
 have hfree:=I.stkFree
 have hsub:=I.stkSub
 show wpAny (model P w) (A.deeper (envOfC qual scope s.heap.objs.size f cd)) (leaving (envOfC qual scope s.heap.objs.size f cd) (.ref x)) (fun _ s''=>CXe P w outer H s E (.ref x) s'') _ _
 have hin:=frs_all (envOfC qual scope s.heap.objs.size f cd :: outer)
 have hff:s1.heap.FunFrames (PySem.W.hideAll s1.heap (frs (envOfC qual scope s.heap.objs.size f cd :: outer))) (envOfC qual scope s.heap.objs.size f cd :: outer):=PySem.W.funFrames_hide hst hin
 have notfr:∀ b,b < s.heap.objs.size→b ∉ frs outer→b ∉ frs (envOfC qual scope s.heap.objs.size f cd :: outer):=fun b hlt hb hm=>by
  rcases mem_frs hfr hm with e | hm
  ·exact absurd (Nat.lt_of_lt_of_le hlt I.ok.above) (by rw [e]; exact Nat.lt_irrefl _)
  ·exact hb hm
 refine wpAny_leaves_madeW (base:=PySem.W.hideAll s1.heap (frs (envOfC qual scope s.heap.objs.size f cd :: outer))) (h:=s1.heap) I.ok.frames hfr (fun b o q=>PySem.W.of_hideAll _ q) hff hx fun h'' t x1 x2 x3 x4=>?_
 have cov1:∀ b o,s.heap.get? b=some o→H b=none→b ∉ frs outer→(PySem.W.hideAll s1.heap (frs (envOfC qual scope s.heap.objs.size f cd :: outer))).get? b=some o:=fun b o q n hb =>
  PySem.W.hideAll_get _ (I.base.keep b o q n hb (show b ∉ ([] : List Addr) by simp)) (notfr b (Heap.lt_size q) hb)
 have cov2:∀ b o,s.heap.get? b=some o→b ∉ frs outer→∃ o',(PySem.W.hideAll s1.heap (frs (envOfC qual scope s.heap.objs.size f cd :: outer))).get? b=some o':=fun b o q hb=>by
  obtain ⟨o',e⟩:=I.base.there b o q (show b ∉ ([] : List Addr) by simp)
  exact ⟨o',PySem.W.hideAll_get _ e (notfr b (Heap.lt_size q) hb)⟩
 have slot:∀ b,b ∈ frs outer→∀ o,s1.heap.get? b=some o→∃ sl,h''.get? b=some { o with slots:=sl }:=fun b hb o q=>by
  have hm:b ∈ frs (envOfC qual scope s.heap.objs.size f cd :: outer):=by
   unfold frs
   rw [List.filterMap_cons,hfr]
   exact List.mem_cons_of_mem _ hb
  obtain ⟨_,o2,e2,nd⟩:=hff.mem hm
  rw [q] at e2
  cases e2
  exact x4 b o (hx.keeps b o q) nd
 refine ⟨x,C,H1,_,_,rfl,I.os,I.bare,⟨fun b o q n hb _=>x1.1 b o (cov1 b o q n hb),fun b o q n hb hx'=>?_,I.base.free,fun b o q _=>?_,I.base.tups,I.base.frzs,I.base.tbls⟩,fun b ob e=>?_,cov1,cov2,x1,ee⟩
 ·obtain ⟨sl,e1⟩:=I.base.slot b o q n hb hx'
  obtain ⟨sl2,e2⟩:=slot b hb _ e1
  exact ⟨sl2,e2⟩
 ·by_cases hb:b ∈ frs outer
  ·obtain ⟨o',e⟩:=I.base.there b o q (show b ∉ ([] : List Addr) by simp)
   obtain ⟨sl2,e2⟩:=slot b hb _ e
   exact ⟨_,e2⟩
  ·obtain ⟨o',e⟩:=cov2 b o q hb
   exact ⟨o',x1.1 b o' e⟩
 ·refine (I.hok b ob e).stay (fun c v hc q=>PySem.W.hideAll_get _ q fun hm=>?_) (fun _ q=>q) fun _ _ q=>q
  have z:=hfree c hm
  rcases hc with rfl | hc
  ·rw [e] at z; cases z
  ·rw [hc] at z; cases z
end

abbrev veTail:List Value:=[.type "ValueError",.type "Exception",.type "BaseException",.type "object"]
structure ExcOk (K:PySem.W.Frag) (mg:Str→Option Value) (c:Str) (C:Addr) : Prop where
 mg:mg c=some (.ref C)
 ex:PySem.W.excIn K C veTail "ValueError.__new__" = true
theorem exc_obj {K:PySem.W.Frag} {h:Heap} {C:Addr} {bmB:List Value} {newId:String} (X:K.In h) (q:PySem.W.excIn K C bmB newId=true) :
  ∃ bm N nm q bs hdct sn sub ab col dd k0 k1 k2 k3 k5 mN,h.get? C=some (excClassObj nm q C N bs bm hdct sn sub ab col dd k0 k1 k2 k3 k5 newId)∧h.Ns N mN∧mN "__init__" = none∧OwnTail h bmB bm:=by
 unfold PySem.W.excIn at q
 split at q
 ·rename_i dd cd sl ho
  split at q
  ·rename_i C' bm k0 k1 k2 k3 n k5 hm hs
   simp only [Bool.and_eq_true,beq_iff_eq,Bool.not_eq_true'] at q
   obtain ⟨⟨⟨⟨⟨rfl,rfl⟩,hdel⟩,ht⟩,hok⟩,hni⟩:=q
   obtain ⟨nm,bs,mro,ns,qn,hd,sn,sub,ab,col,del⟩:=cd
   dsimp only at hm hdel hok hni
   subst hm hdel
   have hsl:sl = #[k0,k1,k2,k3,some (.builtin n),k5]:=by
    obtain ⟨l⟩:=sl
    simp only at hs
    rw [hs]
   subst hsl
   exact ⟨bm,ns,nm,qn,bs,hd,sn,sub,ab,col,dd,k0,k1,k2,k3,k5,_,X _ _ ho,.of_isNs (PySem.W.isNs_of_in X hok),PySem.W.nsMap_none_of_in X hok hni,PySem.W.tail_of_in X ht⟩
  ·cases q
 ·cases q
def tRaise (E:XK) (C:Addr) (t:TA) : TS:=fun _ σ H=>t σ H fun vs H1=>vs.length≤sizeLine∧E (.ref C) none H1
section
variable {X:Cx} {E:XK} {c:Str} {C:Addr} {e:Expr} {es:List Expr} {t:TA} {np cpos pos:Pos}
theorem ps_raise (hc:X.calm=true) (hw:Wish X E) (O:ExcOk X.K X.mg c C) (hg:Gl X c) (ha:PA X (e :: es) t) (hd:(c == ("__debug__" : Str))=false:=by decide)
  (he:starEach (e :: es) X.env=(false,eval e X.env) :: starEach es X.env:=by rfl) (hpl:(backTo cpos (starEach es X.env)).any (·.1)=false:=by rfl) :
  PS X (.Raise (some (.Call (.Name c np) (e :: es) [] cpos)) none pos) (tRaise E C t):=by
 intro pins s σ H D I h
 obtain ⟨bm,N,nm,q,bs,hdct,sn,sub,ab,col,dd,k0,k1,k2,k3,k5,mN,hC,hN,hni,T⟩:=exc_obj I.ok.mod.kin O.ex
 refine wpAny_Raise_call_subU (C:=C) (nm:=nm) (q:=q) (N:=N) (bs:=bs) (bm:=bm) (hdct:=hdct) (sn:=sn) (sub:=sub) (ab:=ab) (col:=col) (dd:=dd) (k0:=k0) (k1:=k1) (k2:=k2) (k3:=k3) (k5:=k5)
  PySem.F.excBase_ValueError (by decide +kernel) PySem.F.excBase_ValueError (mN:=mN) (T.hasType PySem.F.excBase_ValueError.hasBase) (I.ok.hd hc) (by rw [he]; show (false || (backTo cpos (starEach es X.env)).any (·.1))=false; rw [hpl]; rfl) hni
  (ld_glob I hg O.mg ⟨rfl,?_⟩ hd)
 have ha':=ha cpos pins s σ H _ I h
 rw [he] at ha' ⊢
 refine Calls.evalArgs_plain (wpAny_mono ha' (fun vs s₂ h₂=>?_) fun _ _ y=>y)
 obtain ⟨xs,H1,I1,r,hz,ee⟩:=h₂
 exact ⟨rfl,by rw [← r.length]; exact hz,I1.bk _ _ hC,hN.keeps I1.bk,T.keeps I1.bk,fun h' x hm=>hw pins σ H1 s₂ x C _ h' I1 hm ee⟩
end
theorem Fun.okE {P:Program} {w:World} {K:PySem.W.Frag} {mg:Str→Option Value} {base:Heap} {x qual:Str} {st:Stmt} {f:Addr} {fd:FuncData} {N ps:List Str} {k:Nat} {sp:Sp} (F:Fun K x qual st f fd) (S:FnScope N ps (defScope st)) (len:∀ vs H Q E,sp vs H Q E→vs.length=ps.length)
  (hbody:∀ (cdv:Value) (A:Around) (outer:List Env) (s:Shared) (H:Hp) (vs:List V) (Q:VK) (E:XK),Room k (A.deeper (envOfC qual (defScope st) s.heap.objs.size f cdv))→sp vs H Q E →
   ∃ t,PSs (cxOf (CXe P w) P w K mg base N qual (defScope st) f cdv A outer s H E) (defBody st) t∧t { nx:=fun _ H'=>Q .non H',rt:=Q } (start N vs) H) : FnOk P w K mg base (CXe P w) (k+1) f fd ps sp:=by
 obtain ⟨oc,od,kV,doc,pm,an,cdv,ct,osl,rfl,lk,hcd⟩:=F.ex
 exact fn_of lk hcd S len fun A outer s H vs Q E hr hsp=>hbody cdv A outer s H vs Q E hr hsp
theorem FnOk.calm {P:Program} {w:World} {K:PySem.W.Frag} {mg:Str→Option Value} {base:Heap} {k:Nat} {f:Addr} {fd:FuncData} {ps:List Str} {sp:Sp} (F:FnOk P w K mg base CX0 k f fd ps sp) (CX:CXT) : FnOk P w K mg base CX k f fd ps sp:=
 ⟨F.len,fun A outer s H args us vs Q E hr e0 hb r hs=>codeAny_mono (F.run A outer s H args us vs Q E hr e0 hb r hs) fun r s' h=>by
  cases r with
  | error e=>exact False.elim h
  | ok fl=>cases fl <;> exact h⟩
theorem pe_callX {X:Cx} {x:Str} {st:Stmt} {ps:List Str} {f:Addr} {fd:FuncData} {k:Nat} {sp:Sp} {e:Expr} {es:List Expr} {t:TA} {p pos:Pos} {CX:CXT} {E:XK} (hx:Passes CX X E) (D:DefOk X.K X.mg x st ps f fd) (G:FnOk X.prog X.w X.K X.mg X.base CX k f fd ps sp) (hr:Room k X.A) (hg:Gl X x) (ha:PA X (e :: es) t) (hd:(x == ("__debug__" : Str))=false:=by decide)
  (he:starEach (e :: es) X.env=(false,eval e X.env) :: starEach es X.env:=by rfl) (hpl:(backTo pos (starEach es X.env)).any (·.1)=false:=by rfl) : PE X (.Call (.Name x p) (e :: es) [] pos) (tCall sp [] E t):=pe_call G hr hg D.mg D.fn.kp D.bd .nil hx ha hd he hpl

abbrev Cx.marked (X:Cx) (v:Value) : Cx:={ X with A:=X.A.mark (some v),calm:=false,xe:=fun _ _=>False }
theorem Inv.marked {X:Cx} {pins:List (Addr × Obj)} {σ:St} {H:Hp} {s:Shared} (I:Inv X pins σ H s) (v:Value) : Inv (X.marked v) pins σ H s:=
 ⟨⟨I.ok.mod,I.ok.kind,I.ok.glob,I.ok.blt,I.ok.above,I.ok.inj,I.ok.has,I.ok.cab,(fun h=>nomatch h),I.ok.frames,I.ok.stk,I.ok.exf,I.ok.bs,I.ok.bsz,I.ok.noex,I.ok.exfs,I.ok.funs,I.ok.frf⟩,I.os,I.bare,I.base,I.loc,I.cell,I.free,I.freeC,I.pin,I.hok,I.len⟩
theorem Inv.unmarked {X:Cx} {pins:List (Addr × Obj)} {σ:St} {H:Hp} {s:Shared} {v:Value} (I:Inv (X.marked v) pins σ H s) (hd:X.calm=true→X.A.handled=none) : Inv X pins σ H s:=
 ⟨⟨I.ok.mod,I.ok.kind,I.ok.glob,I.ok.blt,I.ok.above,I.ok.inj,I.ok.has,I.ok.cab,hd,I.ok.frames,I.ok.stk,I.ok.exf,I.ok.bs,I.ok.bsz,I.ok.noex,I.ok.exfs,I.ok.funs,I.ok.frf⟩,I.os,I.bare,I.base,I.loc,I.cell,I.free,I.freeC,I.pin,I.hok,I.len⟩
theorem SP.unmarked {X:Cx} {pins:List (Addr × Obj)} {D:Ends} {f:Flow} {s':Shared} {v:Value} (hd:X.calm=true→X.A.handled=none) (h:SP (X.marked v) pins D f s') : SP X pins D f s':=by
 cases f with
 | next=>obtain ⟨σ',H',I,q⟩:=h; exact ⟨σ',H',I.unmarked hd,q⟩
 | brk=>obtain ⟨σ',H',I,q⟩:=h; exact ⟨σ',H',I.unmarked hd,q⟩
 | cont=>obtain ⟨σ',H',I,q⟩:=h; exact ⟨σ',H',I.unmarked hd,q⟩
 | ret u=>obtain ⟨v,σ',H',I,r,q⟩:=h; exact ⟨v,σ',H',I.unmarked hd,r,q⟩
def Takes (K:PySem.W.Frag) (C T:Addr) : Prop:=PySem.W.exmOne K (.ref C) (.ref T)=some true
section
variable {X:Cx} {k:Nat} {f T:Addr} {fd:FuncData} {ps:List Str} {sp:Sp} {fx c:Str} {st:Stmt} {e:Expr} {es:List Expr} {t:TA} {b₀:Stmt} {suite:List Stmt} {th:TS} {np pf cpos apos hpos pos:Pos}
theorem call_try {W:Value→Shared→Prop} {pins:List (Addr × Obj)} {σ:St} {H:Hp} {s:Shared} {Q:VK} {E:XK} (I:Inv X pins σ H s) (D:DefOk X.K X.mg fx st ps f fd) (G:FnOk X.prog X.w X.K X.mg X.base (CXe X.prog X.w) k f fd ps sp) (hr:Room k X.A) (hg:Gl X fx)
  (ha:PA (X.wish W) (e :: es) t) (h:t σ H fun vs H1=>sp (vs++[]) H1 Q E) (hW:∀ H1 s1 e s2,Inv X pins σ H1 s1→CXe X.prog X.w X.stack H1 s1 E e s2→W e s2)
  (hd:(fx == ("__debug__" : Str))=false:=by decide) (he:starEach (e :: es) X.env=(false,eval e X.env) :: starEach es X.env:=by rfl) (hpl:(backTo cpos (starEach es X.env)).any (·.1)=false:=by rfl) :
  wpAny (model X.prog X.w) X.A (eval (.Call (.Name fx pf) (e :: es) [] cpos) X.env) (EP X pins σ Q) W s:=by
 have I':=I.wish W
 refine wpAny_Call_Name_kw (ld_glob I hg D.mg ?_ hd)
 refine PySem.W.callWith_K (h₀:=X.base) I.ok.mod.kin D.fn.kp (thn (ha cpos pins s σ H _ I' h) fun us s1 ⟨vs,H1,I1,r,q⟩=>⟨I1.kIn,?_⟩) he hpl
 have r2:Vals (vs++[]) (us++[]):=r.append .nil
 have hl:(us++[]).length=ps.length:=by rw [← r2.length]; exact G.len _ _ _ _ q
 refine wpAny_call (codeAny_mono (G.run X.A X.stack s1 H1 ⟨us,[]⟩ (us++[]) (vs++[]) Q E hr I1.env0 (D.bd s1 us I1.kIn hl) r2 q) fun r s' hq=>?_)
 cases r with
 | error ex=>exact hW H1 s1 ex s' I1.unwish hq
 | ok fl =>
  cases fl with
  | ret u=>exact I1.unwish.after hq
  | next=>exact False.elim hq
  | brk=>exact False.elim hq
  | cont=>exact False.elim hq
end
end L2

set_option maxHeartbeats 4000000
namespace L2
open PySem PySem.Spec PyProof.Rows Tl

section
variable {X:Cx}
end

theorem Inv.track {X:Cx} {pins:List (Addr × Obj)} {σ:St} {H:Hp} {s:Shared} {D:Addr} {o:HO} (I:Inv X pins σ H s) (hn:H D=none) (hnew:X.s₀.heap.objs.size≤D) (hL:D≠X.env.locals) (hc:∀ x c,X.env.cells.lookup x=some c→c≠D) (hp:∀ p ∈ X.pn++pins,p.1≠D)
  (ok:ObjOk X.prog X.w (upd H D o) s.heap D o) : Inv X pins σ (upd H D o) s:=by
 have ne:∀ b u,H b=some u→b≠D:=fun b u q=>ne_of_none q hn
 refine ⟨I.ok,I.os,I.bare,⟨I.base.keep,I.base.slot,fun b o q nn hx=>?_,I.base.there,fun b xs q=>?_,fun b o u q=>?_,fun b ps q=>?_⟩,I.loc,I.cell,?_,fun x c q=>?_,fun p hq=>?_,fun b u q=>?_,I.len⟩
 ·rw [upd_ne (Nat.ne_of_lt (Nat.lt_of_lt_of_le (Heap.lt_size q) hnew))]; exact I.base.free b o q nn hx
 ·have z:=I.base.tups b xs q
  rw [upd_ne (ne b _ z)]; exact z
 ·have z:=I.base.frzs b o u q
  rw [upd_ne (ne b _ z)]; exact z
 ·obtain ⟨more,z⟩:=I.base.tbls b ps q
  exact ⟨more,by rw [upd_ne (ne b _ z)]; exact z⟩
 ·rw [upd_ne (Ne.symm hL)]; exact I.free
 ·rw [upd_ne (hc x c q)]; exact I.freeC x c q
 ·obtain ⟨a1,a2,a3⟩:=I.pin p hq
  exact ⟨a1,by rw [upd_ne (hp p hq)]; exact a2,a3⟩
 ·by_cases hb:b=D
  ·subst hb
   rw [upd_same] at q; cases q
   exact ok
  ·rw [upd_ne hb] at q
   exact (I.hok b u q).stay (fun c v _ r=>r) (fun c r=>by rw [upd_ne (ne c _ r)]; exact r) fun c xs r=>by rw [upd_ne (ne c _ r)]; exact r
section
variable {X:Cx} {elts:List Expr} {k1:Nat} {tp:Pos}
end

section
variable {X:Cx} {tg:Expr}
end
theorem op_eqNil {X:Cx} (hu:X.A.units < cLine) : OpR X (compareOp .Eq) (fun x y H Q=>∃ a b xs,x = .ref a∧y = .ref b∧SqL X.K H a xs∧SqL X.K H b []∧Q (.bl xs.isEmpty) H):=by
 intro pins s σ H x y v u Q I rx ry h
 obtain ⟨a,b,xs,rfl,rfl,ha,hb,q⟩:=h
 cases rx
 cases ry
 obtain ⟨its,r,p,z⟩:=I.list ha
 obtain ⟨its2,r2,p2,z2⟩:=I.list hb
 have l1:=r.length
 have l2:=r2.length
 cases xs with
 | nil =>
  refine SeqAt.eq_listAt (e:=fun _=>true) p.isList p2.isList (by simp at l1 l2 ⊢; omega) hu (fun j h1 h2=>absurd h1 (by simp at l1 ⊢; omega)) ⟨.bl _,H,I,rfl,?_⟩
  have e:its.toArray.size=0:=by rw [List.size_toArray]; exact l1.symm
  rw [e]
  exact q
 | cons x r=>exact SeqAt.eq_list_lengthsAt p.isList p2.isList (by simp at l1 l2 ⊢; omega) hu ⟨.bl false,H,I,rfl,q⟩
end L2

namespace L2
open PySem PySem.Spec PyProof.Rows

section
variable {X:Cx}
theorem eqVs_min {xs ys:List V} : ((List.range (min xs.length ys.length)).all (fun j=>eqV ((xs[j]?).getD .non) ((ys[j]?).getD .non)) && (xs.length == ys.length))=eqVs xs ys:=by
 by_cases hl:xs.length=ys.length
 ·rw [← hl,Nat.min_self,eqVs_range hl]
  simp
 ·rw [eqVs_len hl]
  simp [hl]
def rEqT (K:PySem.W.Frag) (neg:Bool) : R2:=fun x y H Q=>∃ a b xs ys,x = .ref a∧y = .ref b∧SqT K H a xs∧SqT K H b ys∧xs.all flatV=true∧ys.all flatV=true∧Q (.bl (if neg then !eqVs xs ys else eqVs xs ys)) H
theorem op_eqT (hu:X.A.units < cLine) : OpR X (compareOp .Eq) (rEqT X.K false):=by
 intro pins s σ H x y v u Q I rx ry h
 obtain ⟨a,b,xs,ys,rfl,rfl,ha,hb,fx,fy,q⟩:=h
 cases rx
 cases ry
 obtain ⟨its,r,p,z⟩:=I.tuple ha
 obtain ⟨its2,r2,p2,z2⟩:=I.tuple hb
 have l1:=r.length
 have l2:=r2.length
 refine SeqAt.eq_tupleAt (e:=fun j=>eqV ((xs[j]?).getD .non) ((ys[j]?).getD .non)) p p2 hu (fun j h1 h2=>items_eq r r2 fx fy j h1 h2) ⟨.bl _,H,I,rfl,?_⟩
 have e1:its.toArray.size=xs.length:=by simp; omega
 have e2:its2.toArray.size=ys.length:=by simp; omega
 rw [e1,e2,eqVs_min]
 exact q
theorem op_neT (hu:X.A.units < cLine) : OpR X (compareOp .NotEq) (rEqT X.K true):=by
 intro pins s σ H x y v u Q I rx ry h
 obtain ⟨a,b,xs,ys,rfl,rfl,ha,hb,fx,fy,q⟩:=h
 cases rx
 cases ry
 obtain ⟨its,r,p,z⟩:=I.tuple ha
 obtain ⟨its2,r2,p2,z2⟩:=I.tuple hb
 have l1:=r.length
 have l2:=r2.length
 refine SeqAt.RcNeAt.tuples (e:=fun j=>eqV ((xs[j]?).getD .non) ((ys[j]?).getD .non)) p p2 hu (fun j h1 h2=>items_eq r r2 fx fy j h1 h2) _ _ _ _ ⟨.bl _,H,I,rfl,?_⟩
 have e1:its.toArray.size=xs.length:=by simp; omega
 have e2:its2.toArray.size=ys.length:=by simp; omega
 rw [e1,e2,eqVs_min]
 exact q
def sameV (x:V) : Prop:=flatV x=true∨∃ a,x = .ref a
theorem items_same {A:Around} {s:Shared} {xs:List V} {its its2:List Value} (r:Vals xs its) (r2:Vals xs its2) (f:∀ x ∈ xs,sameV x) (j:Nat) (h1:j < its.toArray.size) (h2:j < its2.toArray.size) :
  SeqAt.EqAt A s its.toArray[j] its2.toArray[j] true:=by
 have l1:=r.length
 have h1':j < its.length:=by simpa using h1
 have h2':j < its2.length:=by simpa using h2
 have hx:j < xs.length:=by omega
 have e1:xs[j]? = some xs[j]:=List.getElem?_eq_getElem hx
 obtain ⟨u,hu,ru⟩:=r.get e1
 obtain ⟨v,hv,rv⟩:=r2.get e1
 have eu:its.toArray[j]=u:=by
  have:its[j]? = some its[j]:=List.getElem?_eq_getElem h1'
  rw [hu] at this
  simpa using this.symm
 have ev:its2.toArray[j]=v:=by
  have:its2[j]? = some its2[j]:=List.getElem?_eq_getElem h2'
  rw [hv] at this
  simpa using this.symm
 rw [eu,ev]
 rcases f xs[j] (List.getElem_mem hx) with hf | ⟨a,ha⟩
 ·have:=eqAt_V (A:=A) (s:=s) ru rv hf hf
  rw [eqV_refl hf] at this
  exact this
 ·rw [ha] at ru rv
  cases ru
  cases rv
  exact SeqAt.EqAt.same _
def rEqS (K:PySem.W.Frag) (neg:Bool) : R2:=fun x y H Q=>∃ a b xs,x = .ref a∧y = .ref b∧SqL K H a xs∧SqL K H b xs∧(∀ x ∈ xs,sameV x)∧Q (.bl (!neg)) H
theorem all_true {n:Nat} : (List.range n).all (fun _=>true)=true:=List.all_eq_true.mpr fun _ _=>rfl
theorem op_eqS (hu:X.A.units < cLine) : OpR X (compareOp .Eq) (rEqS X.K false):=by
 intro pins s σ H x y v u Q I rx ry h
 obtain ⟨a,b,xs,rfl,rfl,ha,hb,f,q⟩:=h
 cases rx
 cases ry
 obtain ⟨its,r,p,z⟩:=I.list ha
 obtain ⟨its2,r2,p2,z2⟩:=I.list hb
 have l1:=r.length
 have l2:=r2.length
 refine SeqAt.eq_listAt (e:=fun _=>true) p.isList p2.isList (by simp; omega) hu (fun j h1 h2=>items_same r r2 f j h1 h2) ⟨.bl _,H,I,rfl,?_⟩
 rw [all_true]
 exact q
theorem same_new {H:Hp} {p:Addr} (h:H p=none) (o:HO) : Same H (upd H p o):=fun b u q=>by rw [upd_ne (ne_of_none q h)]; exact q
theorem Same.tup {K:PySem.W.Frag} {H H':Hp} {a:Addr} {xs:List V} (e:Same H H') (h:SqT K H a xs) : SqT K H' a xs:=by
 rcases h with (h | ⟨o,h⟩) | h
 ·exact .inl (.inl (e _ _ h))
 ·exact .inl (.inr ⟨o,e _ _ h⟩)
 ·exact .inr h
theorem SqT.lst {K:PySem.W.Frag} {H:Hp} {a l:Addr} {xs ys zs:List V} (e:H l=some (.lst ys)) (h:SqT K H a xs) : SqT K (upd H l (.lst zs)) a xs:=by
 rcases h with (h | ⟨o,h⟩) | h
 ·exact .inl (.inl (by rw [upd_ne (ne_of h e (fun z=>nomatch z))]; exact h))
 ·exact .inl (.inr ⟨o,by rw [upd_ne (ne_of h e (fun z=>nomatch z))]; exact h⟩)
 ·exact .inr h
def SameX (l:Addr) (H H':Hp) : Prop:=∀ b o,b≠l→H b=some o→H' b=some o
theorem SameX.refl (l:Addr) (H:Hp) : SameX l H H:=fun _ _ _ h=>h
theorem SameX.trans {l:Addr} {H H1 H2:Hp} (a:SameX l H H1) (b:SameX l H1 H2) : SameX l H H2:=fun c o n h=>b c o n (a c o n h)
theorem SameX.put {l:Addr} {H H1:Hp} {o:HO} (a:SameX l H H1) : SameX l H (upd H1 l o):=fun c u n h=>by rw [upd_ne n]; exact a c u n h
theorem Same.x {l:Addr} {H H':Hp} (e:Same H H') : SameX l H H':=fun b o _ h=>e b o h
theorem SameX.seq {K:PySem.W.Frag} {H H':Hp} {a l:Addr} {xs:List V} (e:SameX l H H') (n:a≠l) (h:SqL K H a xs) : SqL K H' a xs:=by
 rcases h with (h | ⟨o,h⟩) | h
 ·exact .inl (.inl (e _ _ n h))
 ·exact .inl (.inr ⟨o,e _ _ n h⟩)
 ·exact .inr h
theorem SameX.tup {K:PySem.W.Frag} {H H':Hp} {a l:Addr} {xs:List V} (e:SameX l H H') (n:a≠l) (h:SqT K H a xs) : SqT K H' a xs:=by
 rcases h with (h | ⟨o,h⟩) | h
 ·exact .inl (.inl (e _ _ n h))
 ·exact .inl (.inr ⟨o,e _ _ n h⟩)
 ·exact .inr h
def sp_law (K:PySem.W.Frag) : Sp:=fun vs H Q _=>∃ (a:Addr) (ns:List Int),vs=[.ref a]∧SqL K H a (ns.map V.int)∧ns.length≤63∧∀ H',Q (.bl true) H'
theorem small {n:Nat} (h:n≤1000) : n≤sizeLine:=Nat.le_of_lt (small1000 h)
theorem small2 {n:Nat} (h:n≤1000000) : n≤sizeLine:=Nat.le_trans h (by decide)
theorem le1:1≤sizeLine:=by decide
theorem le2:2≤sizeLine:=by decide
theorem le3:3≤sizeLine:=by decide
theorem le4:4≤sizeLine:=by decide
theorem int_eq {i j:Int} : (decide (V.int i=V.int j)=true)↔i=j:=by simp
theorem int_ne {i j:Int} : (¬ decide (V.int i=V.int j)=true)↔i≠j:=by simp
theorem andG {a:Prop} {_inst:Decidable a} {X A B:Prop} (hb:¬ a→B) (hx:a→X) : if a then X else (if false=true then A else B):=by
 by_cases h:a
 ·rw [if_pos h]; exact hx h
 ·rw [if_neg h]; exact hb h
theorem andN {a:Prop} {_inst:Decidable a} {X A B:Prop} (hb:B) (hx:a→B→X) : if a then X else (if false=true then A else B):=by
 by_cases h:a
 ·rw [if_pos h]; exact hx h hb
 ·rw [if_neg h]; exact hb
theorem orG {a:Prop} {_inst:Decidable a} {X A B:Prop} (ha:a→A) (hx:¬ a→X) : if a then (if true=true then A else B) else X:=by
 by_cases h:a
 ·rw [if_pos h]; exact ha h
 ·rw [if_neg h]; exact hx h
theorem get_int {ns:List Int} {i:Nat} {y:V} (h:(ns.map V.int)[i]? = some y) : ∃ z,y=V.int z∧ns[i]? = some z:=by
 rw [List.getElem?_map] at h
 cases e:ns[i]? with
 | none=>rw [e] at h; cases h
 | some z=>rw [e] at h; exact ⟨z,(Option.some.inj h).symm,rfl⟩
theorem map_snoc (n:Int) (ns:List Int) : (ns.map V.int)++[V.int n]=(ns++[n]).map V.int:=by simp
end
end L2

namespace HT
open PySem PyProof.Rows
section
open PySem.SeqAt
open PySem.AutoSeq1 (wpAny_loadPart')
open PySem.MeetsSeq PySem.MeetsSeq2 PySem.MeetsSeq3

def lexLtE:List Int→List Int→Bool
 | [],[]=>true
 | [],_ :: _=>true
 | _ :: _,[]=>false
 | x :: xs,y :: ys=>if x=y then lexLtE xs ys else decide (x≤y)
theorem rcLtE_int (A:Around) (s:Shared) (a:Int) (t:Tok) (c:Int) (u:Tok) (prog:Program) (w:World) (E:Value→Shared→Prop) (Q:Value→Shared→Prop) (h:Q (.bool (decide (a≤c))) s) :
  wpAny (model prog w) A (richCompare .LtE (.int a t) (.int c u)) Q E s:=
 (PyProof.Rows.le_int h:wpAny (model prog w) A (compareOp .LtE (.int a t) (.int c u)) Q E s)
theorem tuple_le_ints (l b:Addr) (items items2:Array Value) (n n2:Nat) (dd dd2:Option Addr) (sl sl2:Array (Option Value)) (ns ms:List Int) (hi:IntsAre items.toList ns) (hj:IntsAre items2.toList ms) :
  Meets (Builtin.«tuple.__le__» ⟨[.ref l,.ref b],[]⟩)
   (fun _ R s=>s.heap.get? l=some { cls:=.type "tuple",dict:=dd,data:=.seq items n,slots:=sl }∧s.heap.get? b=some { cls:=.type "tuple",dict:=dd2,data:=.seq items2 n2,slots:=sl2 } ∧
    R (.ok (.ret (.bool (lexLtE ns ms)))) s):=
 .of_wp fun prog w A R s h=>by
  obtain ⟨hp,g,d,tk,os⟩:=s; obtain ⟨hl,hb,h⟩:=h
  have f2:=AutoSeq1.sub_tuple_tuple
  have z1:items.size=ns.length:=by rw [← hi.length]; simp
  have z2:items2.size=ms.length:=by rw [← hj.length]; simp
  wp_walk using wpAny_loadPart' hl,wpAny_loadPart' hb,wpAny_forIn_list _ (fun rest b s'=>b.1=none∧s' = ⟨hp,g,d,tk,os⟩∧∃ (vs ws:List Value) (ns' ms':List Int),rest=vs.zip ws ∧
   IntsAre vs ns'∧IntsAre ws ms'∧ns'.length+items2.size=ms'.length+items.size∧R (.ok (.ret (.bool (lexLtE ns' ms')))) ⟨hp,g,d,tk,os⟩) _
  case turn =>
   rintro ⟨y,x⟩ rest b s' ⟨hb',rfl,vs,ws,ns',ms',hz,hvi,hwi,hlen,hR⟩
   cases hvi with
   | nil=>rw [List.zip_nil_left] at hz; cases hz
   | cons a t hvi' =>
    cases hwi with
    | nil=>rw [List.zip_nil_right] at hz; cases hz
    | cons c u hwi' =>
     rw [List.zip_cons_cons] at hz
     injection hz with hyx hrest
     injection hyx with hy hx
     subst hy hx
     rw [lexLtE] at hR
     simp only [List.length_cons] at hlen
     obtain ⟨e,he,hiff⟩:=eqAt_int A.in1 ⟨hp,g,d,tk,os⟩ a t c u
     refine wpAny_bind (he prog w _ _ ?_)
     cases e with
     | true =>
      rw [if_pos (hiff.mp rfl)] at hR
      wp_walk
      exact ⟨rfl,rfl,_,_,_,_,hrest,hvi',hwi',by omega,hR⟩
     | false =>
      rw [if_neg (fun q=>absurd (hiff.mpr q) Bool.false_ne_true)] at hR
      have hri:=rcLtE_int A.in1 ⟨hp,g,d,tk,os⟩ a t c u prog w
      wp_walk using hri
      exact ⟨_,rfl,by simpa using hR⟩
  case fin =>
   rintro ⟨b1,b2⟩ s' ⟨hb',rfl,vs,ws,ns',ms',hz,hvi,hwi,hlen,hR⟩
   simp only at hb'
   subst hb'
   have hv:lexLtE ns' ms' = decide (items.size≤items2.size):=by
    cases hvi with
    | nil =>
     cases hwi with
     | nil =>
      simp only [List.length_nil] at hlen
      show true=_
      exact (decide_eq_true (by omega)).symm
     | cons c u hw =>
      simp only [List.length_nil,List.length_cons] at hlen
      show true=_
      exact (decide_eq_true (by omega)).symm
    | cons a t hv =>
     cases hwi with
     | nil =>
      simp only [List.length_nil,List.length_cons] at hlen
      show false=_
      exact (decide_eq_false (by omega)).symm
     | cons c u hw =>
      rw [List.zip_cons_cons] at hz
      cases hz
   rw [hv] at hR
   wp_walk
   exact ⟨_,rfl,by simpa [Builtin.Tuple.tupleCompareSizes] using hR⟩
  case h =>
   exact ⟨rfl,rfl,items.toList,items2.toList,ns,ms,rfl,hi,hj,by omega,h⟩
theorem le_tupInts {prog:Program} {w:World} {A:Around} {E:Value→Shared→Prop} {s:Shared} {l b:Addr} {items items2:Array Value} {ns ms:List Int} {Q:Value→Shared→Prop} (hl:IsTup s.heap l items) (hb:IsTup s.heap b items2) (hi:IntsAre items.toList ns) (hj:IntsAre items2.toList ms)
  (hu:A.units < cLine) (h:Q (.bool (lexLtE ns ms)) s) : wpAny (model prog w) A (compareOp .LtE (.ref l) (.ref b)) Q E s:=by
 obtain ⟨⟨cls,dd,data,sl⟩,ho,hc,n,hd⟩:=id hl
 obtain ⟨⟨cls2,dd2,data2,sl2⟩,ho2,hc2,n2,hd2⟩:=id hb
 simp only at hc hd hc2 hd2
 subst hc hd hc2 hd2
 exact richCompare_meets_room (op:=.LtE) ⟨_,ho,rfl⟩ ⟨_,ho2,rfl⟩ PySem.F.slot_tuple_le PySem.F.entry_tuple_le (PySem.F.args_tuple_le_2 _ _) (tuple_le_ints l b items items2 n n2 dd dd2 sl sl2 ns ms hi hj)
  ⟨ho,ho2,show Value.bool (lexLtE ns ms)≠Value.notImplemented∧Q (.bool (lexLtE ns ms)) s from ⟨(fun x=>nomatch x),h⟩⟩ hu

def lexGt:List Int→List Int→Bool
 | [],[]=>false
 | [],_ :: _=>false
 | _ :: _,[]=>true
 | x :: xs,y :: ys=>if x=y then lexGt xs ys else decide (y < x)
theorem rcGt_int (A:Around) (s:Shared) (a:Int) (t:Tok) (c:Int) (u:Tok) (prog:Program) (w:World) (E:Value→Shared→Prop) (Q:Value→Shared→Prop) (h:Q (.bool (decide (c < a))) s) :
  wpAny (model prog w) A (richCompare .Gt (.int a t) (.int c u)) Q E s:=
 (PyProof.Rows.gt_int h:wpAny (model prog w) A (compareOp .Gt (.int a t) (.int c u)) Q E s)
theorem tuple_gt_ints (l b:Addr) (items items2:Array Value) (n n2:Nat) (dd dd2:Option Addr) (sl sl2:Array (Option Value)) (ns ms:List Int) (hi:IntsAre items.toList ns) (hj:IntsAre items2.toList ms) :
  Meets (Builtin.«tuple.__gt__» ⟨[.ref l,.ref b],[]⟩)
   (fun _ R s=>s.heap.get? l=some { cls:=.type "tuple",dict:=dd,data:=.seq items n,slots:=sl }∧s.heap.get? b=some { cls:=.type "tuple",dict:=dd2,data:=.seq items2 n2,slots:=sl2 } ∧
    R (.ok (.ret (.bool (lexGt ns ms)))) s):=
 .of_wp fun prog w A R s h=>by
  obtain ⟨hp,g,d,tk,os⟩:=s; obtain ⟨hl,hb,h⟩:=h
  have f2:=AutoSeq1.sub_tuple_tuple
  have z1:items.size=ns.length:=by rw [← hi.length]; simp
  have z2:items2.size=ms.length:=by rw [← hj.length]; simp
  wp_walk using wpAny_loadPart' hl,wpAny_loadPart' hb,wpAny_forIn_list _ (fun rest b s'=>b.1=none∧s' = ⟨hp,g,d,tk,os⟩∧∃ (vs ws:List Value) (ns' ms':List Int),rest=vs.zip ws ∧
   IntsAre vs ns'∧IntsAre ws ms'∧ns'.length+items2.size=ms'.length+items.size∧R (.ok (.ret (.bool (lexGt ns' ms')))) ⟨hp,g,d,tk,os⟩) _
  case turn =>
   rintro ⟨y,x⟩ rest b s' ⟨hb',rfl,vs,ws,ns',ms',hz,hvi,hwi,hlen,hR⟩
   cases hvi with
   | nil=>rw [List.zip_nil_left] at hz; cases hz
   | cons a t hvi' =>
    cases hwi with
    | nil=>rw [List.zip_nil_right] at hz; cases hz
    | cons c u hwi' =>
     rw [List.zip_cons_cons] at hz
     injection hz with hyx hrest
     injection hyx with hy hx
     subst hy hx
     rw [lexGt] at hR
     simp only [List.length_cons] at hlen
     obtain ⟨e,he,hiff⟩:=eqAt_int A.in1 ⟨hp,g,d,tk,os⟩ a t c u
     refine wpAny_bind (he prog w _ _ ?_)
     cases e with
     | true =>
      rw [if_pos (hiff.mp rfl)] at hR
      wp_walk
      exact ⟨rfl,rfl,_,_,_,_,hrest,hvi',hwi',by omega,hR⟩
     | false =>
      rw [if_neg (fun q=>absurd (hiff.mpr q) Bool.false_ne_true)] at hR
      have hri:=rcGt_int A.in1 ⟨hp,g,d,tk,os⟩ a t c u prog w
      wp_walk using hri
      exact ⟨_,rfl,by simpa using hR⟩
  case fin =>
   rintro ⟨b1,b2⟩ s' ⟨hb',rfl,vs,ws,ns',ms',hz,hvi,hwi,hlen,hR⟩
   simp only at hb'
   subst hb'
   have hv:lexGt ns' ms' = decide (items2.size < items.size):=by
    cases hvi with
    | nil =>
     cases hwi with
     | nil =>
      simp only [List.length_nil] at hlen
      show false=_
      exact (decide_eq_false (by omega)).symm
     | cons c u hw =>
      simp only [List.length_nil,List.length_cons] at hlen
      show false=_
      exact (decide_eq_false (by omega)).symm
    | cons a t hv =>
     cases hwi with
     | nil =>
      simp only [List.length_nil,List.length_cons] at hlen
      show true=_
      exact (decide_eq_true (by omega)).symm
     | cons c u hw =>
      rw [List.zip_cons_cons] at hz
      cases hz
   rw [hv] at hR
   wp_walk
   exact ⟨_,rfl,by simpa [Builtin.Tuple.tupleCompareSizes] using hR⟩
  case h =>
   exact ⟨rfl,rfl,items.toList,items2.toList,ns,ms,rfl,hi,hj,by omega,h⟩
theorem gt_tupInts {prog:Program} {w:World} {A:Around} {E:Value→Shared→Prop} {s:Shared} {l b:Addr} {items items2:Array Value} {ns ms:List Int} {Q:Value→Shared→Prop} (hl:IsTup s.heap l items) (hb:IsTup s.heap b items2) (hi:IntsAre items.toList ns) (hj:IntsAre items2.toList ms)
  (hu:A.units < cLine) (h:Q (.bool (lexGt ns ms)) s) : wpAny (model prog w) A (compareOp .Gt (.ref l) (.ref b)) Q E s:=by
 obtain ⟨⟨cls,dd,data,sl⟩,ho,hc,n,hd⟩:=id hl
 obtain ⟨⟨cls2,dd2,data2,sl2⟩,ho2,hc2,n2,hd2⟩:=id hb
 simp only at hc hd hc2 hd2
 subst hc hd hc2 hd2
 exact richCompare_meets_room (op:=.Gt) ⟨_,ho,rfl⟩ ⟨_,ho2,rfl⟩ PySem.F.slot_tuple_gt PySem.F.entry_tuple_gt (PySem.F.args_tuple_gt_2 _ _) (tuple_gt_ints l b items items2 n n2 dd dd2 sl sl2 ns ms hi hj)
  ⟨ho,ho2,show Value.bool (lexGt ns ms)≠Value.notImplemented∧Q (.bool (lexGt ns ms)) s from ⟨(fun x=>nomatch x),h⟩⟩ hu

end
end HT

namespace L2
open PySem PySem.Spec PyProof.Rows
section
variable {X:Cx}

def rLtET (K:PySem.W.Frag) : R2:=fun x y H Q=>∃ a b ns ms,x = .ref a∧y = .ref b∧SqT K H a (ns.map V.int)∧SqT K H b (ms.map V.int)∧Q (.bl (HT.lexLtE ns ms)) H
theorem op_leT (hu:X.A.units < cLine) : OpR X (compareOp .LtE) (rLtET X.K):=by
 intro pins s σ H x y v u Q I rx ry h
 obtain ⟨a,b,ns,ms,rfl,rfl,ha,hb,q⟩:=h
 cases rx
 cases ry
 obtain ⟨its,r1,p1,_⟩:=I.tuple ha
 obtain ⟨its2,r2,p2,_⟩:=I.tuple hb
 have i1:IntsAre its.toArray.toList ns:=intsAre_of r1
 have i2:IntsAre its2.toArray.toList ms:=intsAre_of r2
 exact HT.le_tupInts p1 p2 i1 i2 hu ⟨.bl (HT.lexLtE ns ms),H,I,rfl,q⟩

end
end L2

set_option maxHeartbeats 4000000
namespace L2
open PySem PySem.Spec PyProof.Rows Tl
def figs (n:Nat) : List Nat:=(Nat.toDigits 10 n).map Char.toNat
theorem str_figs (n:Nat) : (PySem.Str.ofString (toString ((n:Nat) : Int)))=tx (figs n):=by
 have e:=PySem.W.KIN.signs_num n
 rw [tx_of (PySem.Str.ofString _),e]
 rfl
theorem digit_char:∀ d:Nat,d < 10→(Nat.digitChar d).toNat=d+48:=by decide
theorem figs_small {n:Nat} (h:n < 10) : figs n=[n+48]:=by
 unfold figs
 rw [Nat.toDigits_of_lt_base h,List.map_singleton,digit_char n h]
theorem figs_step {n:Nat} (h:10≤n) : figs n=figs (n / 10)++[n % 10+48]:=by
 have hm:n % 10 < 10:=Nat.mod_lt n (by decide)
 have t:Nat.toDigits 10 (n / 10)++Nat.toDigits 10 (n % 10)=Nat.toDigits 10 (10 * (n / 10)+n % 10):=Nat.toDigits_append_toDigits (by decide) (by omega) hm
 rw [Nat.div_add_mod] at t
 unfold figs
 rw [← t,List.map_append,Nat.toDigits_of_lt_base hm,List.map_singleton,digit_char _ hm]
theorem figs_len:∀ (k n:Nat),n < 10 ^ (k+1)→(figs n).length≤k+1
 | 0,n,h=>by
  rw [figs_small (by simpa using h)]
  simp
 | k+1,n,h=>by
  by_cases hn:n < 10
  ·rw [figs_small hn]; simp
  ·rw [figs_step (by omega),List.length_append,List.length_singleton]
   have:=figs_len k (n / 10) (by
    rw [Nat.pow_succ] at h
    omega)
   omega
theorem figs_in:∀ (n c:Nat),c ∈ figs n→48≤c∧c≤57:=by
 intro n
 induction n using Nat.strongRecOn with
 | _ n ih =>
  intro c hc
  by_cases h:n < 10
  ·rw [figs_small h] at hc
   have:c=n+48:=by simpa using hc
   omega
  ·rw [figs_step (by omega)] at hc
   rcases List.mem_append.mp hc with hc | hc
   ·exact ih (n / 10) (by omega) c hc
   ·have:c=n % 10+48:=by simpa using hc
    omega
theorem figs_pos (n:Nat) : 1≤(figs n).length:=by
 by_cases h:n < 10
 ·rw [figs_small h]; simp
 ·rw [figs_step (by omega),List.length_append,List.length_singleton]
  omega
theorem figs_mono:∀ (m n:Nat),n≤m→(figs n).length≤(figs m).length:=by
 intro m
 induction m using Nat.strongRecOn with
 | _ m ih =>
  intro n h
  by_cases hn:n < 10
  ·rw [figs_small hn]
   exact figs_pos m
  ·rw [figs_step (n:=n) (by omega),figs_step (n:=m) (by omega),List.length_append,List.length_append,List.length_singleton,List.length_singleton]
   have:=ih (m / 10) (by omega) (n / 10) (by omega)
   omega
theorem log_small {n:Nat} (h:n < 10 ^ 100) : n.log2 < 1920:=by
 by_cases e:n=0
 ·subst e; decide
 ·refine (Nat.log2_lt e).mpr (Nat.lt_trans h ?_)
  decide +kernel
abbrev pl (x:Int × Int) : List V:=[.int x.1,.int x.2]
abbrev fm (w h f m:Int) : List V:=[.int w,.int h,.int f,.int m]
structure FormOk (w h f m:Int) : Prop where
 w1:1≤w
 w2:w≤4000
 h1:1≤h
 h2:h≤60
 f1:0≤f
 f2:f≤10 ^ 60
 m1:1≤m
 m2:m≤60
def nextTop (x:Int × Int) : Int × Int:=(x.1+1,0)
def rowsOn (h:Int) (x:Int × Int) (k:Int) : Int × Int:=if h≤x.2+k then nextTop x else (x.1,x.2+k)
def firstFrom (f:Int) (x:Int × Int) (l:Int) : Int × Int:=if l=4∧(f+x.1) % 2=0 then nextTop x else x
def behindI (h f:Int) (x:Int × Int) (l:Int) : Int × Int:=if l=0 then x else if l=1 then rowsOn h x 1 else if l=2 then rowsOn h x 2 else firstFrom f (nextTop x) l
def sooner (x y:Int × Int) : Bool:=decide (x.1 < y.1) || (decide (x.1=y.1) && decide (x.2 < y.2))
theorem sooner_iff {x y:Int × Int} : sooner x y=true↔x.1 < y.1∨(x.1=y.1∧x.2 < y.2):=by simp [sooner]
theorem not_sooner {x y:Int × Int} : sooner x y=false↔¬ (x.1 < y.1∨(x.1=y.1∧x.2 < y.2)):=by rw [← sooner_iff]; simp
structure RowIn (h:Int) (x:Int × Int) : Prop where
 p1:0≤x.1
 r1:0≤x.2
 r2:x.2 < h
theorem behind_desc (h f l p r:Int) (h0:0≤l) (h1:l≤4) : ∃ q s,behindI h f (p,r) l=(q,s)∧(l=0∧q=p∧s=r∨l=1∧(h≤r+1∧q=p+1∧s=0∨r+1 < h∧q=p∧s=r+1) ∨
  l=2∧(h≤r+2∧q=p+1∧s=0∨r+2 < h∧q=p∧s=r+2)∨l=3∧q=p+1∧s=0∨l=4∧s=0∧((f+p) % 2=1∧q=p+2∨(f+p) % 2=0∧q=p+1)):=by
 have hc:l=0∨l=1∨l=2∨l=3∨l=4:=by omega
 rcases hc with rfl | rfl | rfl | rfl | rfl
 ·exact ⟨p,r,rfl,.inl ⟨rfl,rfl,rfl⟩⟩
 ·by_cases c:h≤r+1
  ·exact ⟨p+1,0,by show (if h≤r+1 then (p+1,(0:Int)) else (p,r+1))=_; rw [if_pos c],.inr (.inl ⟨rfl,.inl ⟨c,rfl,rfl⟩⟩)⟩
  ·exact ⟨p,r+1,by show (if h≤r+1 then (p+1,(0:Int)) else (p,r+1))=_; rw [if_neg c],.inr (.inl ⟨rfl,.inr ⟨Int.not_le.mp c,rfl,rfl⟩⟩)⟩
 ·by_cases c:h≤r+2
  ·exact ⟨p+1,0,by show (if h≤r+2 then (p+1,(0:Int)) else (p,r+2))=_; rw [if_pos c],.inr (.inr (.inl ⟨rfl,.inl ⟨c,rfl,rfl⟩⟩))⟩
  ·exact ⟨p,r+2,by show (if h≤r+2 then (p+1,(0:Int)) else (p,r+2))=_; rw [if_neg c],.inr (.inr (.inl ⟨rfl,.inr ⟨Int.not_le.mp c,rfl,rfl⟩⟩))⟩
 ·exact ⟨p+1,0,by show (if (3:Int)=4∧(f+(p+1)) % 2=0 then (p+1+1,(0:Int)) else (p+1,0))=_; rw [if_neg (fun z=>absurd z.1 (by decide))],.inr (.inr (.inr (.inl ⟨rfl,rfl,rfl⟩)))⟩
 ·by_cases c:(f+(p+1)) % 2=0
  ·exact ⟨p+1+1,0,by show (if (4:Int)=4∧(f+(p+1)) % 2=0 then (p+1+1,(0:Int)) else (p+1,0))=_; rw [if_pos ⟨rfl,c⟩],.inr (.inr (.inr (.inr ⟨rfl,rfl,.inl ⟨by omega,by omega⟩⟩)))⟩
  ·exact ⟨p+1,0,by show (if (4:Int)=4∧(f+(p+1)) % 2=0 then (p+1+1,(0:Int)) else (p+1,0))=_; rw [if_neg (fun z=>c z.2)],.inr (.inr (.inr (.inr ⟨rfl,rfl,.inr ⟨by omega,rfl⟩⟩)))⟩
theorem first_desc (f l p r:Int) : ∃ q s,firstFrom f (p,r) l=(q,s)∧(l=4∧(f+p) % 2=0∧q=p+1∧s=0∨(l≠4∨(f+p) % 2=1)∧q=p∧s=r):=by
 unfold firstFrom nextTop
 dsimp only
 split
 all_goals exact ⟨_,_,rfl,by omega⟩
theorem behind_in {h f l:Int} {x:Int × Int} (i:RowIn h x) (h0:0≤l) (h1:l≤4) : RowIn h (behindI h f x l):=by
 obtain ⟨p,r⟩:=x
 obtain ⟨a,b,c⟩:=i
 simp only at a b c
 obtain ⟨q,s,e,d⟩:=behind_desc h f l p r h0 h1
 rw [e]
 constructor <;> simp only <;> omega
theorem first_in {h f l:Int} {x:Int × Int} (i:RowIn h x) : RowIn h (firstFrom f x l):=by
 obtain ⟨p,r⟩:=x
 obtain ⟨a,b,c⟩:=i
 simp only at a b c
 obtain ⟨q,s,e,d⟩:=first_desc f l p r
 rw [e]
 constructor <;> simp only <;> omega
theorem behind_self {h f l:Int} {x:Int × Int} (i:RowIn h x) (h0:0≤l) (h1:l≤4) : sooner (behindI h f x l) x=false:=by
 obtain ⟨p,r⟩:=x
 obtain ⟨a,b,c⟩:=i
 simp only at a b c
 obtain ⟨q,s,e,d⟩:=behind_desc h f l p r h0 h1
 rw [e,not_sooner]
 simp only
 omega
theorem behind_grows {h f l k:Int} {x y:Int × Int} (i:RowIn h x) (j:RowIn h y) (le:sooner y x=false) (h0:0≤l) (h1:l≤k) (h2:k≤4) : sooner (behindI h f y k) (behindI h f x l)=false:=by
 obtain ⟨p,r⟩:=x
 obtain ⟨p',r'⟩:=y
 obtain ⟨a,b,c⟩:=i
 obtain ⟨a',b',c'⟩:=j
 rw [not_sooner] at le ⊢
 simp only at a b c a' b' c' le
 obtain ⟨q,s,e,d⟩:=behind_desc h f l p r h0 (by omega)
 obtain ⟨q',s',e',d'⟩:=behind_desc h f k p' r' (by omega) h2
 rw [e,e']
 simp only
 rcases d with d | d | d | d | d <;> rcases d' with d' | d' | d' | d' | d' <;> omega
theorem first_grows {h f l k:Int} {x y:Int × Int} (i:RowIn h x) (j:RowIn h y) (le:sooner y x=false) (h1:l≤k) (h2:k≤4) : sooner (firstFrom f y k) (firstFrom f x l)=false:=by
 obtain ⟨p,r⟩:=x
 obtain ⟨p',r'⟩:=y
 obtain ⟨a,b,c⟩:=i
 obtain ⟨a',b',c'⟩:=j
 rw [not_sooner] at le ⊢
 simp only at a b c a' b' c' le
 obtain ⟨q,s,e,d⟩:=first_desc f l p r
 obtain ⟨q',s',e',d'⟩:=first_desc f k p' r'
 rw [e,e']
 simp only
 rcases d with d | d <;> rcases d' with d' | d' <;> omega
theorem sooner_refl (x:Int × Int) : sooner x x=false:=by rw [not_sooner]; omega
inductive Say where
 | text (l:List Nat)
 | page (k:Nat)
 | row (k:Nat)
def sayV:Say→List V
 | .text l=>[.str (PySem.Str.ofString "text"),.str (tx l)]
 | .page k=>[.str (PySem.Str.ofString "page"),.int (k:Int)]
 | .row k=>[.str (PySem.Str.ofString "row"),.int (k:Int)]
def saidL (h f:Int) (xs:List (Int × Int)) : Say→List Nat
 | .text l=>l
 | .page k=>figs (f+(xs.getD k (0,0)).1).toNat
 | .row k=>figs ((xs.getD k (0,0)).1 * h+(xs.getD k (0,0)).2+1).toNat
def SayOk (n:Nat) : Say→Prop
 | .text l=>1≤l.length∧l.length≤60∧∀ c ∈ l,33≤c∧c < 127
 | .page k=>k < n
 | .row k=>k < n
def PlsOk (h:Int) (xs:List (Int × Int)) : Prop:=∀ x ∈ xs,RowIn h x∧x.1 < 10 ^ 60
def PlsA (K:PySem.W.Frag) (H:Hp) (as:List Addr) (xs:List (Int × Int)) : Prop:=as.length=xs.length∧∀ (i:Nat) a x,as[i]? = some a→xs[i]? = some x→SqT K H a (pl x)
theorem PlsA.same {K:PySem.W.Frag} {H H':Hp} {as:List Addr} {xs:List (Int × Int)} (s:Same H H') (h:PlsA K H as xs) : PlsA K H' as xs:=⟨h.1,fun i a x e e'=>s.tup (h.2 i a x e e')⟩
theorem PlsA.lst {K:PySem.W.Frag} {H:Hp} {l:Addr} {ys zs:List V} {as:List Addr} {xs:List (Int × Int)} (e:H l=some (.lst ys)) (h:PlsA K H as xs) : PlsA K (upd H l (.lst zs)) as xs:=⟨h.1,fun i a x e1 e'=>SqT.lst e (h.2 i a x e1 e')⟩
theorem PlsA.nil {K:PySem.W.Frag} {H:Hp} : PlsA K H [] []:=⟨rfl,fun i a x e _=>by simp at e⟩
theorem PlsA.snoc {K:PySem.W.Frag} {H:Hp} {as:List Addr} {xs:List (Int × Int)} {a:Addr} {x:Int × Int} (h:PlsA K H as xs) (hx:SqT K H a (pl x)) : PlsA K H (as++[a]) (xs++[x]):=by
 refine ⟨by simp [h.1],fun i b y e e'=>?_⟩
 by_cases hi:i < as.length
 ·rw [List.getElem?_append_left hi] at e
  rw [List.getElem?_append_left (by rw [← h.1]; exact hi)] at e'
  exact h.2 i b y e e'
 ·rw [List.getElem?_append_right (by omega)] at e
  rw [List.getElem?_append_right (by rw [← h.1]; omega)] at e'
  have:i - as.length=0:=by
   rcases Nat.eq_zero_or_pos (i - as.length) with z | z
   ·exact z
   ·rw [List.getElem?_eq_none (by simp; omega)] at e; cases e
  rw [this] at e
  rw [← h.1,this] at e'
  cases e
  cases e'
  exact hx
theorem PlsA.get {K:PySem.W.Frag} {H:Hp} {as:List Addr} {xs:List (Int × Int)} (h:PlsA K H as xs) {k:Nat} (hk:k < xs.length) : ∃ a,atI (as.map V.ref) (k:Int)=some (V.ref a)∧SqT K H a (pl (xs.getD k (0,0))):=by
 have hk2:k < as.length:=by rw [h.1]; exact hk
 refine ⟨as[k],atI_nat (by rw [List.getElem?_map,List.getElem?_eq_getElem hk2]; rfl),?_⟩
 rw [List.getD_eq_getElem?_getD,List.getElem?_eq_getElem hk]
 exact h.2 k _ _ (List.getElem?_eq_getElem hk2) (List.getElem?_eq_getElem hk)
theorem PlsOk.get {h:Int} {xs:List (Int × Int)} (o:PlsOk h xs) {k:Nat} (hk:k < xs.length) : RowIn h (xs.getD k (0,0))∧(xs.getD k (0,0)).1 < 10 ^ 60:=by
 rw [List.getD_eq_getElem?_getD,List.getElem?_eq_getElem hk]
 exact o _ (List.getElem_mem hk)
theorem PlsOk.snoc {h:Int} {xs:List (Int × Int)} {x:Int × Int} (o:PlsOk h xs) (i:RowIn h x) (b:x.1 < 10 ^ 60) : PlsOk h (xs++[x]):=by
 intro y hy
 rcases List.mem_append.mp hy with hy | hy
 ·exact o y hy
 ·rw [List.mem_singleton.mp hy]
  exact ⟨i,b⟩
theorem page_num {f p:Int} (f1:0≤f) (f2:f≤10 ^ 60) (p1:0≤p) (p2:p < 10 ^ 60) : ∃ n:Nat,f+p=(n:Int)∧n < 10 ^ 62:=by
 obtain ⟨n,hn⟩:=Int.eq_ofNat_of_zero_le (show 0≤f+p by omega)
 exact ⟨n,hn,by omega⟩
theorem row_num {h p r:Int} (h1:1≤h) (h2:h≤60) (p1:0≤p) (p2:p < 10 ^ 60) (r1:0≤r) (r2:r < h) : ∃ n:Nat,p * h+r+1=(n:Int)∧n < 10 ^ 62:=by
 have a:0≤p * h:=Int.mul_nonneg p1 (by omega)
 have b:p * h≤p * 60:=Int.mul_le_mul_of_nonneg_left h2 p1
 obtain ⟨n,hn⟩:=Int.eq_ofNat_of_zero_le (show 0≤p * h+r+1 by omega)
 exact ⟨n,hn,by omega⟩
theorem lt_100 {n:Nat} (h:n < 10 ^ 62) : n < 10 ^ 100:=Nat.lt_trans h (Nat.pow_lt_pow_right (by decide) (by decide))
theorem said_len {w h f m:Int} {xs:List (Int × Int)} {s:Say} (fo:FormOk w h f m) (po:PlsOk h xs) (so:SayOk xs.length s) : 1≤(saidL h f xs s).length∧(saidL h f xs s).length≤62∧∀ c ∈ saidL h f xs s,33≤c∧c < 127:=by
 cases s with
 | text l=>exact ⟨so.1,by have:=so.2.1; show l.length≤62; omega,so.2.2⟩
 | page k =>
  obtain ⟨i,b⟩:=po.get so
  obtain ⟨n,e,hn⟩:=page_num fo.f1 fo.f2 i.p1 b
  simp only [saidL]
  rw [e]
  exact ⟨figs_pos _,figs_len 61 n hn,fun c hc=>by have:=figs_in n c hc; omega⟩
 | row k =>
  obtain ⟨i,b⟩:=po.get so
  obtain ⟨n,e,hn⟩:=row_num fo.h1 fo.h2 i.p1 b i.r1 i.r2
  simp only [saidL]
  rw [e]
  exact ⟨figs_pos _,figs_len 61 n hn,fun c hc=>by have:=figs_in n c hc; omega⟩
theorem ref_same (as:List Addr) : ∀ x ∈ as.map V.ref,sameV x:=fun x hx=>by
 obtain ⟨a,_,rfl⟩:=List.mem_map.mp hx
 exact .inr ⟨a,rfl⟩
theorem ne_page:decide (V.str (PySem.Str.ofString "page")=V.str (PySem.Str.ofString "text"))=false:=by decide +kernel
theorem ne_row:decide (V.str (PySem.Str.ofString "row")=V.str (PySem.Str.ofString "text"))=false:=by decide +kernel
theorem ne_row_page:decide (V.str (PySem.Str.ofString "row")=V.str (PySem.Str.ofString "page"))=false:=by decide +kernel
theorem refs_snoc (as:List Addr) (a:Addr) : as.map V.ref++[V.ref a]=(as++[a]).map V.ref:=by simp
theorem join_one:∀ cs:List Nat,joinL [] (cs.map fun c=>[c])=cs
 | []=>rfl
 | [c]=>rfl
 | c :: d :: r=>by
  show [c]++[]++joinL [] ((d :: r).map fun c=>[c])=_
  rw [join_one (d :: r)]
  rfl
theorem sum_one:∀ cs:List Nat,((cs.map fun c=>tx [c]).map (·.length)).sum=cs.length
 | []=>rfl
 | c :: r=>by
  rw [List.map_cons,List.map_cons,List.sum_cons,sum_one r,tx_len]
  simp only [List.length_cons,List.length_nil]
  omega
theorem at_last {α:Type} (xs:List α) (x:α) : atI (xs++[x]) (-1)=some x:=by
 unfold atI ixN
 rw [if_neg (by decide),if_pos (by simp; omega)]
 have e:(-1+((xs++[x]).length:Int)).toNat=xs.length:=by simp; omega
 show (xs++[x])[(-1+((xs++[x]).length:Int)).toNat]? = some x
 rw [e]
 simp
theorem hput {H:Hp} {a l:Addr} {o u:HO} (h:H a=some u) (n:a≠l) : upd H l o a=some u:=by rw [upd_ne n]; exact h
def PlsLe (xs ys:List (Int × Int)) : Prop:=xs.length=ys.length∧∀ k,k < xs.length→sooner (ys.getD k (0,0)) (xs.getD k (0,0))=false
theorem getD_app {α:Type} (xs ys:List α) (d:α) (k:Nat) : (xs++ys).getD k d=if k < xs.length then xs.getD k d else ys.getD (k - xs.length) d:=by
 rw [List.getD_eq_getElem?_getD]
 by_cases e:k < xs.length
 ·rw [if_pos e,List.getElem?_append_left e,List.getD_eq_getElem?_getD]
 ·rw [if_neg e,List.getElem?_append_right (by omega),List.getD_eq_getElem?_getD]
theorem PlsLe.snoc {xs ys:List (Int × Int)} {x y:Int × Int} (h:PlsLe xs ys) (l:sooner y x=false) : PlsLe (xs++[x]) (ys++[y]):=by
 refine ⟨by simp [h.1],fun k hk=>?_⟩
 rw [getD_app,getD_app]
 by_cases e:k < xs.length
 ·rw [if_pos e,if_pos (by rw [← h.1]; exact e)]
  exact h.2 k e
 ·have hk2:k=xs.length:=by simp at hk; omega
  rw [if_neg e,if_neg (by rw [← h.1]; exact e),← h.1,hk2,Nat.sub_self]
  exact l
theorem row_le {h:Int} {x y:Int × Int} (i:RowIn h x) (j:RowIn h y) (le:sooner y x=false) : x.1 * h+x.2≤y.1 * h+y.2:=by
 rw [not_sooner] at le
 obtain ⟨p,r⟩:=x
 obtain ⟨p',r'⟩:=y
 obtain ⟨a,b,c⟩:=i
 obtain ⟨a',b',c'⟩:=j
 simp only at *
 by_cases e:p=p'
 ·subst e
  omega
 ·have h1:(p+1) * h≤p' * h:=Int.mul_le_mul_of_nonneg_right (by omega) (by omega)
  rw [Int.add_mul] at h1
  omega
theorem said_grows {w h f m:Int} {xs ys:List (Int × Int)} {s:Say} (fo:FormOk w h f m) (po:PlsOk h xs) (qo:PlsOk h ys) (le:PlsLe xs ys) (so:SayOk xs.length s) : (saidL h f xs s).length≤(saidL h f ys s).length:=by
 cases s with
 | text l=>exact Nat.le_refl _
 | page k =>
  have lk:=le.2 k so
  rw [not_sooner] at lk
  exact figs_mono _ _ (Int.toNat_le_toNat (by omega))
 | row k =>
  have:=row_le (po.get so).1 (qo.get (le.1 ▸ so)).1 (le.2 k so)
  exact figs_mono _ _ (Int.toNat_le_toNat (by omega))
def Dq (K:PySem.W.Frag) (H:Hp) : Nat→V→V→Prop
 | 0,x,y=>(flatV x=true∧flatV y=true∧eqV x y=true)∨∃ a,x = .ref a∧y = .ref a
 | n+1,x,y=>((flatV x=true∧flatV y=true∧eqV x y=true)∨∃ a,x = .ref a∧y = .ref a) ∨
   ∃ a b xs ys,x = .ref a∧y = .ref b∧((SqL K H a xs∧SqL K H b ys)∨(SqT K H a xs∧SqT K H b ys))∧xs.length=ys.length∧∀ (i:Nat) x y,xs[i]? = some x→ys[i]? = some y→Dq K H n x y
theorem items_deep {X:Cx} {pins:List (Addr × Obj)} {σ:St} {H:Hp} {s:Shared} {xs ys:List V} {its its2:List Value} {n:Nat} {A:Around} (r:Vals xs its) (r2:Vals ys its2)
  (d:∀ (i:Nat) x y,xs[i]? = some x→ys[i]? = some y→∀ u v,RelV x u→RelV y v→SeqAt.EqAt A s u v true) (j:Nat) (h1:j < its.toArray.size) (h2:j < its2.toArray.size) : SeqAt.EqAt A s its.toArray[j] its2.toArray[j] true:=by
 have l1:=r.length
 have l2:=r2.length
 have h1':j < its.length:=by simpa using h1
 have h2':j < its2.length:=by simpa using h2
 have hx:j < xs.length:=by omega
 have hy:j < ys.length:=by omega
 have e1:xs[j]? = some xs[j]:=List.getElem?_eq_getElem hx
 have e2:ys[j]? = some ys[j]:=List.getElem?_eq_getElem hy
 obtain ⟨u,hu,ru⟩:=r.get e1
 obtain ⟨v,hv,rv⟩:=r2.get e2
 have eu:its.toArray[j]=u:=by
  have:its[j]? = some its[j]:=List.getElem?_eq_getElem h1'
  rw [hu] at this
  simpa using this.symm
 have ev:its2.toArray[j]=v:=by
  have:its2[j]? = some its2[j]:=List.getElem?_eq_getElem h2'
  rw [hv] at this
  simpa using this.symm
 rw [eu,ev]
 exact d j _ _ e1 e2 u v ru rv
theorem min_true {n m:Nat} (h:n=m) : ((List.range (min n m)).all (fun _=>true) && (n == m))=true:=by
 rw [all_true,h]
 simp
theorem deep_eq {X:Cx} {pins:List (Addr × Obj)} {σ:St} {H:Hp} {s:Shared} (I:Inv X pins σ H s) : ∀ (n:Nat) (A:Around) (x y:V) (u v:Value),Dq X.K H n x y→RelV x u→RelV y v→A.units+n < cLine→SeqAt.EqAt A s u v true
 | 0,A,x,y,u,v,d,ru,rv,hu=>by
  rcases d with ⟨f,g,e⟩ | ⟨a,rfl,rfl⟩
  ·have:=eqAt_V (A:=A) (s:=s) ru rv f g
   rw [e] at this
   exact this
  ·cases ru
   cases rv
   exact SeqAt.EqAt.same _
 | n+1,A,x,y,u,v,d,ru,rv,hu=>by
  rcases d with (⟨f,g,e⟩ | ⟨a,rfl,rfl⟩) | ⟨a,b,xs,ys,rfl,rfl,hab,hl,hd⟩
  ·have:=eqAt_V (A:=A) (s:=s) ru rv f g
   rw [e] at this
   exact this
  ·cases ru
   cases rv
   exact SeqAt.EqAt.same _
  ·cases ru
   cases rv
   by_cases e:a=b
   ·subst e
    exact SeqAt.EqAt.same _
   have hrec:=fun i x y (e1:xs[i]? = some x) (e2:ys[i]? = some y) u v (ru:RelV x u) (rv:RelV y v)=>deep_eq I n A.in1 x y u v (hd i x y e1 e2) ru rv (by show A.units+1+n < cLine; omega)
   rcases hab with ⟨ha,hb⟩ | ⟨ha,hb⟩
   ·obtain ⟨its,r,p,z⟩:=I.list ha
    obtain ⟨its2,r2,p2,z2⟩:=I.list hb
    have l1:=r.length
    have l2:=r2.length
    have:=SeqAt.RcAt.lists (A:=A) (e:=fun _=>true) p.isList p2.isList (by simp; omega) (by omega) (fun j h1 h2=>items_deep (X:=X) (pins:=pins) (σ:=σ) (H:=H) (n:=n) r r2 hrec j h1 h2)
    rw [all_true] at this
    exact SeqAt.EqAt.of_refs e this
   ·obtain ⟨its,r,p,z⟩:=I.tuple ha
    obtain ⟨its2,r2,p2,z2⟩:=I.tuple hb
    have l1:=r.length
    have l2:=r2.length
    have:=SeqAt.RcAt.tuples (A:=A) (e:=fun _=>true) p p2 (by omega) (fun j h1 h2=>items_deep (X:=X) (pins:=pins) (σ:=σ) (H:=H) (n:=n) r r2 hrec j h1 h2)
    rw [min_true (by simp; omega)] at this
    exact SeqAt.EqAt.of_refs e this
section
variable {X:Cx}
def rEqQ (K:PySem.W.Frag) (neg:Bool) : R2:=fun x y H Q=>∃ n a b xs ys,n≤90∧x = .ref a∧y = .ref b∧((SqL K H a xs∧SqL K H b ys)∨(SqT K H a xs∧SqT K H b ys))∧xs.length=ys.length∧(∀ (i:Nat) x y,xs[i]? = some x→ys[i]? = some y→Dq K H n x y)∧Q (.bl (!neg)) H
theorem op_eqQ (hu:X.A.units+100 < cLine) : OpR X (compareOp .Eq) (rEqQ X.K false):=by
 intro pins s σ H x y v u Q I rx ry h
 obtain ⟨n,a,b,xs,ys,hn,rfl,rfl,hab,hl,hd,q⟩:=h
 cases rx
 cases ry
 have hrec:=fun i x y (e1:xs[i]? = some x) (e2:ys[i]? = some y) u v (ru:RelV x u) (rv:RelV y v)=>deep_eq I n X.A.in1 x y u v (hd i x y e1 e2) ru rv (by show X.A.units+1+n < cLine; omega)
 rcases hab with ⟨ha,hb⟩ | ⟨ha,hb⟩
 ·obtain ⟨its,r,p,z⟩:=I.list ha
  obtain ⟨its2,r2,p2,z2⟩:=I.list hb
  have l1:=r.length
  have l2:=r2.length
  refine SeqAt.eq_listAt (e:=fun _=>true) p.isList p2.isList (by simp; omega) (by omega) (fun j h1 h2=>items_deep (X:=X) (pins:=pins) (σ:=σ) (H:=H) (n:=n) r r2 hrec j h1 h2) ⟨.bl _,H,I,rfl,?_⟩
  rw [all_true]
  exact q
 ·obtain ⟨its,r,p,z⟩:=I.tuple ha
  obtain ⟨its2,r2,p2,z2⟩:=I.tuple hb
  have l1:=r.length
  have l2:=r2.length
  refine SeqAt.eq_tupleAt (e:=fun _=>true) p p2 (by omega) (fun j h1 h2=>items_deep (X:=X) (pins:=pins) (σ:=σ) (H:=H) (n:=n) r r2 hrec j h1 h2) ⟨.bl _,H,I,rfl,?_⟩
  rw [min_true (by simp; omega)]
  exact q
theorem op_neQ (hu:X.A.units+100 < cLine) : OpR X (compareOp .NotEq) (rEqQ X.K true):=by
 intro pins s σ H x y v u Q I rx ry h
 obtain ⟨n,a,b,xs,ys,hn,rfl,rfl,hab,hl,hd,q⟩:=h
 cases rx
 cases ry
 have hrec:=fun i x y (e1:xs[i]? = some x) (e2:ys[i]? = some y) u v (ru:RelV x u) (rv:RelV y v)=>deep_eq I n X.A.in1 x y u v (hd i x y e1 e2) ru rv (by show X.A.units+1+n < cLine; omega)
 rcases hab with ⟨ha,hb⟩ | ⟨ha,hb⟩
 ·obtain ⟨its,r,p,z⟩:=I.list ha
  obtain ⟨its2,r2,p2,z2⟩:=I.list hb
  have l1:=r.length
  have l2:=r2.length
  refine SeqAt.RcNeAt.lists (e:=fun _=>true) p.isList p2.isList (by simp; omega) (by omega) (fun j h1 h2=>items_deep (X:=X) (pins:=pins) (σ:=σ) (H:=H) (n:=n) r r2 hrec j h1 h2) _ _ _ _ ⟨.bl _,H,I,rfl,?_⟩
  rw [all_true]
  exact q
 ·obtain ⟨its,r,p,z⟩:=I.tuple ha
  obtain ⟨its2,r2,p2,z2⟩:=I.tuple hb
  have l1:=r.length
  have l2:=r2.length
  refine SeqAt.RcNeAt.tuples (e:=fun _=>true) p p2 (by omega) (fun j h1 h2=>items_deep (X:=X) (pins:=pins) (σ:=σ) (H:=H) (n:=n) r r2 hrec j h1 h2) _ _ _ _ ⟨.bl _,H,I,rfl,?_⟩
  rw [min_true (by simp; omega)]
  exact q
theorem call_any (hc:X.calm=true) : CallR X (.builtin "any") (fun xs H Q=>∃ (l:Addr) (bs:List Bool),xs=[.ref l]∧SqL X.K H l (bs.map V.bl)∧Q (.bl (bs.any id)) H):=by
 intro pins s σ H xs us Q I r h
 obtain ⟨l,bs,rfl,hl,q⟩:=h
 obtain ⟨u,rfl,ru⟩:=vals1 r
 cases ru
 obtain ⟨its,rv,p,z⟩:=I.list hl
 have hlt:l < s.heap.objs.size:=by obtain ⟨_,_,e,_⟩:=p; exact Heap.lt_size e
 have len:=rv.length
 refine call_any_walk (wpAny_pyIter_list p.isList ?_)
 refine ⟨s.heap.objs.size,[s.heap.objs.size,l],[s.heap.objs.size],its.toArray.size,_,_,fun i=>(bs[i]?).getD false,rfl,Walks.list (A:=X.A.in1) (I.ok.hd hc) _ l (Nat.ne_of_lt hlt) its.toArray,
  ⟨⟨_,Heap.get?_push_size _ rfl,rfl,rfl⟩,p.isList.push _⟩,fun i v s' Q' E' hP hQ=>?_,fun h' tk hk=>?_⟩
 ·have hi:its[i]? = some v:=by simpa using hP
  have hlt2:i < bs.length:=by
   have:=(List.getElem?_eq_some_iff.mp hi).1
   rw [List.length_map] at len
   omega
  have eb:(bs.map V.bl)[i]? = some (V.bl bs[i]):=by rw [List.getElem?_map,List.getElem?_eq_getElem hlt2]; rfl
  obtain ⟨w',hw,rw'⟩:=rv.get eb
  rw [hi] at hw
  cases hw
  cases rw'
  have e2:(bs[i]?).getD false=bs[i]:=by rw [List.getElem?_eq_getElem hlt2]; rfl
  have hQ2:Q' ((bs[i]?).getD false) s':=hQ
  rw [e2] at hQ2
  exact wpAny_truthy_bool hQ2
 ·have e:((List.range its.toArray.size).any fun i=>(bs[i]?).getD false)=bs.any id:=by
   have:its.toArray.size=bs.length:=by rw [List.length_map] at len; simp; omega
   rw [this]
   exact LSm.range_any bs
  rw [e]
  exact ⟨.bl _,H,I.kept fun b x e=>hk b x (fun hm=>by rw [List.mem_singleton.mp hm] at e; exact Nat.lt_irrefl _ (Heap.lt_size e)) (Heap.get?_push_of_some _ e),rfl,q⟩
theorem pre_sum (ns:List Int) : ∀ k,k≤ns.length→preSum (fun i=>(ns[i]?).getD 0) k=(ns.take k).sum
 | 0,_=>by simp [preSum]
 | k+1,h=>by
  rw [preSum,pre_sum ns k (by omega),List.take_add_one,List.getElem?_eq_getElem (by omega),List.sum_append]
  show _+ns[k]=_+(ns[k]+0)
  rw [Int.add_zero]
theorem call_sum (hc:X.calm=true) : CallR X (.builtin "sum") (fun xs H Q=>∃ (l:Addr) (ns:List Int),xs=[.ref l]∧SqL X.K H l (ns.map V.int)∧Q (.int ns.sum) H):=by
 intro pins s σ H xs us Q I r h
 obtain ⟨l,ns,rfl,hl,q⟩:=h
 obtain ⟨u,rfl,ru⟩:=vals1 r
 cases ru
 obtain ⟨its,rv,p,z⟩:=I.list hl
 have hlt:l < s.heap.objs.size:=by obtain ⟨_,_,e,_⟩:=p; exact Heap.lt_size e
 have len:=rv.length
 rw [List.length_map] at len
 refine call_sum_walkG (wpAny_pyIter_list p.isList ?_)
 refine ⟨s.heap.objs.size,[s.heap.objs.size,l],[s.heap.objs.size],its.toArray.size,_,_,fun i=>(ns[i]?).getD 0,rfl,Walks.list (A:=X.A.in1) (I.ok.hd hc) _ l (Nat.ne_of_lt hlt) its.toArray,
  ⟨⟨_,Heap.get?_push_size _ rfl,rfl,rfl⟩,p.isList.push _⟩,fun b hb=>?_,fun i v hP=>?_,fun h' tk t' hk=>?_⟩
 ·show b < (s.heap.push _).objs.size
  rw [Heap.size_push]
  rcases List.mem_cons.mp hb with rfl | hb
  ·exact Nat.lt_succ_self _
  ·rw [List.mem_singleton.mp hb]
   exact Nat.lt_succ_of_lt hlt
 ·have hi:its[i]? = some v:=by simpa using hP
  have hlt2:i < ns.length:=by
   have:=(List.getElem?_eq_some_iff.mp hi).1
   omega
  have eb:(ns.map V.int)[i]? = some (V.int ns[i]):=by rw [List.getElem?_map,List.getElem?_eq_getElem hlt2]; rfl
  obtain ⟨w',hw,t,ht⟩:=rv.get eb
  rw [hi] at hw
  cases hw
  refine ⟨t,?_⟩
  have e2:(ns[i]?).getD 0=ns[i]:=by rw [List.getElem?_eq_getElem hlt2]; rfl
  show v=Value.int ((ns[i]?).getD 0) t
  rw [e2]
  exact ht
 ·have e1:its.toArray.size=ns.length:=by simp; omega
  have e:preSum (fun i=>(ns[i]?).getD 0) its.toArray.size=ns.sum:=by
   rw [e1,pre_sum ns _ (Nat.le_refl _),List.take_length]
  rw [e]
  exact ⟨.int _,H,I.kept fun b x e=>hk b x (fun hm=>by rw [List.mem_singleton.mp hm] at e; exact Nat.lt_irrefl _ (Heap.lt_size e)) (Heap.get?_push_of_some _ e),⟨_,rfl⟩,q⟩
end
def fillStep (w:Int) (rows:List (List Nat)) (t:List Nat) : List (List Nat):=
 match rows.getLast? with
 | none=>[t]
 | some l=>if (l.length:Int)+1+t.length≤w then rows.dropLast++[l++32 :: t] else rows++[t]
theorem fillStep_nil (w:Int) (t:List Nat) : fillStep w [] t=[t]:=rfl
theorem fillStep_snoc (w:Int) (rs:List (List Nat)) (l t:List Nat) : fillStep w (rs++[l]) t=if (l.length:Int)+1+t.length≤w then rs++[l++32 :: t] else rs++[l]++[t]:=by simp [fillStep]
def fillW (w:Int) (ts:List (List Nat)) : List (List Nat):=ts.foldl (fillStep w) []
theorem fillW_snoc (w:Int) (ts:List (List Nat)) (t:List Nat) : fillW w (ts++[t])=fillStep w (fillW w ts) t:=by simp [fillW,List.foldl_append]
theorem list_snoc {α:Type} (l:List α) : l=[]∨∃ r c,l=r++[c]:=by
 by_cases h:l=[]
 ·exact .inl h
 ·exact .inr ⟨l.dropLast,l.getLast h,(List.dropLast_concat_getLast h).symm⟩
theorem snoc_ind {α:Type} {P:List α→Prop} (h0:P []) (h1:∀ l a,P l→P (l++[a])) : ∀ l,P l:=by
 intro l
 have:∀ n (l:List α),l.length=n→P l:=by
  intro n
  induction n with
  | zero=>intro l hl; rw [List.eq_nil_of_length_eq_zero hl]; exact h0
  | succ n ih =>
   intro l hl
   rcases list_snoc l with rfl | ⟨r,c,rfl⟩
   ·exact h0
   ·exact h1 r c (ih r (by simp at hl; exact hl))
 exact this _ l rfl
def numStep (w:Int) (x:Int × Int) (t:Int) : Int × Int:=if 0 < x.1∧x.2+1+t≤w then (x.1,x.2+1+t) else (x.1+1,t)
def numW (w:Int) (ts:List Int) : Int × Int:=ts.foldl (numStep w) (0,0)
theorem numW_snoc (w:Int) (ts:List Int) (t:Int) : numW w (ts++[t])=numStep w (numW w ts) t:=by simp [numW,List.foldl_append]
theorem fill_num (w:Int) (ts:List (List Nat)) : (numW w (ts.map fun t=>(t.length:Int))).1=(fillW w ts).length∧((fillW w ts=[]∧ts=[])∨∃ rs l,fillW w ts=rs++[l]∧(numW w (ts.map fun t=>(t.length:Int))).2=l.length):=by
 refine snoc_ind (P:=fun ts=>(numW w (ts.map fun t=>(t.length:Int))).1=(fillW w ts).length∧((fillW w ts=[]∧ts=[])∨∃ rs l,fillW w ts=rs++[l]∧(numW w (ts.map fun t=>(t.length:Int))).2=l.length)) ⟨rfl,.inl ⟨rfl,rfl⟩⟩ ?_ ts
 intro ts t ih
 rw [List.map_append,List.map_singleton,numW_snoc,fillW_snoc]
 obtain ⟨h1,h2⟩:=ih
 rcases h2 with ⟨h2,h3⟩ | ⟨rs,l,h2,h3⟩
 ·rw [h2] at h1 ⊢
  rw [fillStep_nil,numStep,if_neg (by simp at h1; omega)]
  exact ⟨by simp at h1 ⊢; omega,.inr ⟨[],t,rfl,rfl⟩⟩
 ·rw [h2] at h1 ⊢
  rw [fillStep_snoc,numStep]
  by_cases e:(l.length:Int)+1+t.length≤w
  ·rw [if_pos e,if_pos ⟨by simp at h1; omega,by rw [h3]; exact e⟩]
   refine ⟨by simp at h1 ⊢; omega,.inr ⟨rs,_,rfl,?_⟩⟩
   simp
   omega
  ·rw [if_neg e,if_neg (by rw [h3]; omega)]
   exact ⟨by simp at h1 ⊢; omega,.inr ⟨rs++[l],t,rfl,rfl⟩⟩
theorem fill_small {w:Int} (hw:w≤4000) (ts:List (List Nat)) (h:∀ t ∈ ts,t.length≤62) : (∀ r ∈ fillW w ts,r.length≤4000)∧(fillW w ts).length≤ts.length:=by
 revert h
 refine snoc_ind (P:=fun ts=>(∀ t ∈ ts,t.length≤62)→(∀ r ∈ fillW w ts,r.length≤4000)∧(fillW w ts).length≤ts.length) (fun _=>⟨fun r hr=>(by cases hr),Nat.le_refl _⟩) ?_ ts
 intro ts t ih h
 obtain ⟨i1,i2⟩:=ih fun u hu=>h u (List.mem_append_left _ hu)
 have ht:=h t (by simp)
 rw [fillW_snoc]
 rcases list_snoc (fillW w ts) with e | ⟨rs,l,e⟩
 ·rw [e,fillStep_nil]
  exact ⟨fun r hr=>by rw [List.mem_singleton.mp hr]; omega,by simp⟩
 ·rw [e] at i1 i2 ⊢
  rw [fillStep_snoc]
  by_cases c:(l.length:Int)+1+t.length≤w
  ·rw [if_pos c]
   refine ⟨fun r hr=>?_,by simp at i2 ⊢; omega⟩
   rcases List.mem_append.mp hr with hr | hr
   ·exact i1 r (List.mem_append_left _ hr)
   ·rw [List.mem_singleton.mp hr]
    simp
    omega
  ·rw [if_neg c]
   refine ⟨fun r hr=>?_,by simp at i2 ⊢; omega⟩
   rcases List.mem_append.mp hr with hr | hr
   ·exact i1 r hr
   ·rw [List.mem_singleton.mp hr]; omega
theorem fill_wide (w:Int) (ts:List (List Nat)) : (fillW w ts).any (fun r=>decide (w < r.length))=ts.any (fun t=>decide (w < t.length)):=by
 refine snoc_ind (P:=fun ts=>(fillW w ts).any (fun r=>decide (w < r.length))=ts.any (fun t=>decide (w < t.length))) rfl ?_ ts
 intro ts t ih
 rw [fillW_snoc,List.any_append,← ih]
 rcases list_snoc (fillW w ts) with e | ⟨rs,l,e⟩
 ·rw [e,fillStep_nil]
  rfl
 ·rw [e,fillStep_snoc]
  by_cases c:(l.length:Int)+1+t.length≤w
  ·rw [if_pos c,List.any_append,List.any_append]
   have c1:¬ w < ((l++32 :: t).length:Int):=by simp; omega
   have c2:¬ w < (l.length:Int):=by omega
   have c3:¬ w < (t.length:Int):=by omega
   simp [c2,c3]
   all_goals omega
  ·rw [if_neg c,List.any_append]
def highF (w h:Int) (ts:List (List Nat)) : Int:=if (fillW w ts).any (fun r=>decide (w < r.length)) then h else if h < (fillW w ts).length then h else (fillW w ts).length
def highN (w h:Int) (ts:List Int) : Int:=if ts.any (fun t=>decide (w < t)) then h else if h < (numW w ts).1 then h else (numW w ts).1
theorem high_eq (w h:Int) (ts:List (List Nat)) : highF w h ts=highN w h (ts.map fun t=>(t.length:Int)):=by
 unfold highF highN
 rw [fill_wide,(fill_num w ts).1,List.any_map]
 rfl
def lexLe (x y:Int × Int) : Prop:=x.1 < y.1∨(x.1=y.1∧x.2≤y.2)
theorem step_grows {w t u:Int} {x y:Int × Int} (h:lexLe x y) (hx:0≤x.1) (hx2:0≤x.2) (hy2:0≤y.2) (ht:t≤u) (t0:0≤t) : lexLe (numStep w x t) (numStep w y u):=by
 obtain ⟨a,b⟩:=x
 obtain ⟨c,d⟩:=y
 unfold lexLe numStep at *
 simp only at *
 repeat' split
 all_goals (simp only; omega)
theorem lexLe.refl (x:Int × Int) : lexLe x x:=.inr ⟨rfl,Int.le_refl _⟩
theorem lexLe.trans {x y z:Int × Int} (a:lexLe x y) (b:lexLe y z) : lexLe x z:=by
 unfold lexLe at *
 omega
theorem fold_grows {w:Int} : ∀ {ts us:List Int} {x y:Int × Int},ts.length=us.length→(∀ k,k < ts.length→ts.getD k 0≤us.getD k 0)→(∀ t ∈ ts,0≤t)→lexLe x y→0≤x.1→0≤x.2→0≤y.2→lexLe (ts.foldl (numStep w) x) (us.foldl (numStep w) y)
 | [],[],x,y,_,_,_,h,_,_,_=>h
 | [],_ :: _,_,_,e,_,_,_,_,_,_=>by simp at e
 | _ :: _,[],_,_,e,_,_,_,_,_,_=>by simp at e
 | t :: ts,u :: us,x,y,e,hk,h0,h,a,b,c=>by
  have t0:=h0 t (by simp)
  have tu:t≤u:=hk 0 (by simp)
  rw [List.foldl_cons,List.foldl_cons]
  refine fold_grows (by simpa using e) (fun k hk2=>?_) (fun v hv=>h0 v (List.mem_cons_of_mem _ hv)) (step_grows h a b c tu t0) ?_ ?_ ?_
  ·have:=hk (k+1) (by simp; omega)
   simpa using this
  ·unfold numStep; split <;> simp only <;> omega
  ·unfold numStep; split <;> simp only <;> omega
  ·unfold numStep; split <;> simp only <;> omega
theorem any_grows {w:Int} : ∀ {ts us:List Int},ts.length=us.length→(∀ k,k < ts.length→ts.getD k 0≤us.getD k 0)→ts.any (fun t=>decide (w < t))=true→us.any (fun t=>decide (w < t))=true
 | [],[],_,_,h=>h
 | [],_ :: _,e,_,_=>by simp at e
 | _ :: _,[],e,_,_=>by simp at e
 | t :: ts,u :: us,e,hk,h=>by
  have tu:t≤u:=hk 0 (by simp)
  rw [List.any_cons,Bool.or_eq_true] at h ⊢
  rcases h with h | h
  ·exact .inl (decide_eq_true (by have:=of_decide_eq_true h; omega))
  ·exact .inr (any_grows (by simpa using e) (fun k hk2=>by have:=hk (k+1) (by simp; omega); simpa using this) h)
theorem high_grows {w h:Int} {ts us:List Int} (e:ts.length=us.length) (hk:∀ k,k < ts.length→ts.getD k 0≤us.getD k 0) (h0:∀ t ∈ ts,0≤t) : highN w h ts≤highN w h us:=by
 have a:=fold_grows (w:=w) e hk h0 (lexLe.refl (0,0)) (by decide) (by decide) (by decide)
 have b:=any_grows (w:=w) e hk
 have c:lexLe (numW w ts) (numW w us):=a
 unfold highN
 by_cases x:ts.any (fun t=>decide (w < t))=true
 ·rw [if_pos x,if_pos (b x)]
  exact Int.le_refl _
 ·rw [if_neg x]
  unfold lexLe at c
  repeat' split
  all_goals omega
def rowsV (rows:List (List Nat)) : List V:=rows.map fun t=>V.str (tx t)
def SaysA (K:PySem.W.Frag) (H:Hp) (bs:List Addr) (ss:List Say) : Prop:=bs.length=ss.length∧∀ (i:Nat) b s,bs[i]? = some b→ss[i]? = some s→SqT K H b (sayV s)
theorem SaysA.same {K:PySem.W.Frag} {H H':Hp} {bs:List Addr} {ss:List Say} (s:Same H H') (h:SaysA K H bs ss) : SaysA K H' bs ss:=⟨h.1,fun i a x e e'=>s.tup (h.2 i a x e e')⟩
theorem SaysA.lst {K:PySem.W.Frag} {H:Hp} {l:Addr} {ys zs:List V} {bs:List Addr} {ss:List Say} (e:H l=some (.lst ys)) (h:SaysA K H bs ss) : SaysA K (upd H l (.lst zs)) bs ss:=⟨h.1,fun i a x e1 e'=>SqT.lst e (h.2 i a x e1 e')⟩
theorem SaysA.nil {K:PySem.W.Frag} {H:Hp} : SaysA K H [] []:=⟨rfl,fun i a x e _=>by simp at e⟩
theorem SaysA.app {K:PySem.W.Frag} {H:Hp} {bs cs:List Addr} {ss ts:List Say} (h:SaysA K H bs ss) (g:SaysA K H cs ts) : SaysA K H (bs++cs) (ss++ts):=by
 refine ⟨by simp [h.1,g.1],fun i b y e e'=>?_⟩
 by_cases hi:i < bs.length
 ·rw [List.getElem?_append_left hi] at e
  rw [List.getElem?_append_left (by rw [← h.1]; exact hi)] at e'
  exact h.2 i b y e e'
 ·rw [List.getElem?_append_right (by omega)] at e
  rw [List.getElem?_append_right (by rw [← h.1]; omega),← h.1] at e'
  exact g.2 _ b y e e'
theorem SaysA.one {K:PySem.W.Frag} {H:Hp} {b:Addr} {s:Say} (h:SqT K H b (sayV s)) : SaysA K H [b] [s]:=by
 refine ⟨rfl,fun i a x e e'=>?_⟩
 match i,e,e' with
 | 0,e,e' =>
  cases e
  cases e'
  exact h
theorem SaysA.take {K:PySem.W.Frag} {H:Hp} {bs:List Addr} {ss:List Say} (h:SaysA K H bs ss) (n:Nat) : SaysA K H (bs.take n) (ss.take n):=by
 refine ⟨by simp [h.1],fun i b y e e'=>?_⟩
 rw [List.getElem?_take] at e e'
 split at e
 ·rename_i c
  rw [if_pos c] at e'
  exact h.2 i b y e e'
 ·cases e
theorem SaysA.drop {K:PySem.W.Frag} {H:Hp} {bs:List Addr} {ss:List Say} (h:SaysA K H bs ss) (n:Nat) : SaysA K H (bs.drop n) (ss.drop n):=by
 refine ⟨by simp [h.1],fun i b y e e'=>?_⟩
 rw [List.getElem?_drop] at e e'
 exact h.2 _ b y e e'
theorem Same.put {H H2:Hp} {r:Addr} {o:HO} (s:Same H H2) (hr:H r=none) : Same H (upd H2 r o):=fun b u q=>by rw [upd_ne (ne_of_none q hr)]; exact s b u q
theorem ix_last (n:Nat) (h:0 < n) : ixN n (-1)=some (n - 1):=by
 unfold ixN
 rw [if_neg (by decide),if_pos (by omega)]
 congr 1
 omega
theorem set_last (rs:List V) (l x:V) : (rs++[l]).set ((rs++[l]).length - 1) x=rs++[x]:=by
 rw [List.length_append,List.length_singleton,Nat.add_sub_cancel,List.set_append_right _ _ (Nat.le_refl _),Nat.sub_self]
 rfl
theorem rowsV_snoc (rs:List (List Nat)) (t:List Nat) : rowsV (rs++[t])=rowsV rs++[V.str (tx t)]:=by simp [rowsV]
theorem flat_rows (rs:List (List Nat)) : (rowsV rs).all flatV=true:=by
 unfold rowsV
 rw [List.all_map]
 exact List.all_eq_true.mpr fun _ _=>rfl
theorem cbl:(PySem.Str.ofString " ")=tx [32]:=by decide +kernel
theorem rows_nil (rs:List (List Nat)) : eqVs (rowsV rs) []=rs.isEmpty:=by
 cases rs with
 | nil=>rfl
 | cons a r=>rfl
theorem foot_at {bs:List Addr} {ss:List Say} (e:bs.length=ss.length) {i:Nat} {y:V} (h:(bs.map V.ref)[i]? = some y) : ∃ b s,y=V.ref b∧bs[i]? = some b∧ss[i]? = some s:=by
 rw [List.getElem?_map] at h
 cases eb:bs[i]? with
 | none=>rw [eb] at h; cases h
 | some b =>
  rw [eb] at h
  have hi:i < ss.length:=by rw [← e]; exact (List.getElem?_eq_some_iff.mp eb).1
  exact ⟨b,ss[i],(Option.some.inj h).symm,rfl,List.getElem?_eq_getElem hi⟩
theorem take_snoc {α:Type} {l:List α} {i:Nat} {a:α} (h:l[i]? = some a) : l.take (i+1)=l.take i++[a]:=by rw [List.take_add_one,h]; rfl
theorem rows_at {rs:List (List Nat)} {i:Nat} {y:V} (h:(rowsV rs)[i]? = some y) : ∃ t,y=V.str (tx t)∧rs[i]? = some t:=by
 unfold rowsV at h
 rw [List.getElem?_map] at h
 cases e:rs[i]? with
 | none=>rw [e] at h; cases h
 | some t=>rw [e] at h; exact ⟨t,(Option.some.inj h).symm,rfl⟩
theorem cutV_map {α:Type} (f:α→V) (ns:List α) (lo hi:Option Int) : cutV (ns.map f) lo hi=(cutL ns lo hi).map f:=by
 unfold cutV cutL
 rw [List.length_map,List.map_take,List.map_drop]
theorem pick {α:Type} (xs:List α) (m k:Int) (h:m=(xs.length:Int)) (h0:0 < m) : ∃ z,z ∈ xs∧atI xs (k % m)=some z:=by
 have b1:=Int.emod_nonneg k (show m≠0 by omega)
 have b2:=Int.emod_lt_of_pos k h0
 obtain ⟨d,hd⟩:=Int.eq_ofNat_of_zero_le b1
 have hl:d < xs.length:=by omega
 refine ⟨xs[d],List.getElem_mem hl,?_⟩
 rw [hd]
 exact atI_nat (List.getElem?_eq_getElem hl)
theorem at_int {xs:List Int} (k:Nat) (h:k < xs.length) : atI (xs.map V.int) (k:Int)=some (V.int (xs.getD k 0)):=by
 refine atI_nat ?_
 rw [List.getElem?_map,List.getD_eq_getElem?_getD,List.getElem?_eq_getElem h]
 rfl
def StrOk (n:Nat) (xs:List Int) : Prop:=xs.length=n∧∀ x ∈ xs,0≤x∧x < 2147483647
theorem StrOk.get {n k:Nat} {xs:List Int} (h:StrOk n xs) (hk:k < n) : 0≤xs.getD k 0∧xs.getD k 0 < 2147483647:=by
 have hk2:k < xs.length:=by rw [h.1]; exact hk
 rw [List.getD_eq_getElem?_getD,List.getElem?_eq_getElem hk2]
 exact h.2 _ (List.getElem_mem hk2)
theorem StrOk.at {n k:Nat} {xs:List Int} (h:StrOk n xs) (hk:k < n) : atI (xs.map V.int) (k:Int)=some (V.int (xs.getD k 0)):=at_int k (by rw [h.1]; exact hk)
def sgnB:List Nat:=[33,34,35,36,38,39,40,41,42,43,44,45,46,47,48,49,50,51,52,53,54,55,56,57,58,59,60,61,62,63,64,65,66,67,68,69,70,71,72,73,74,75,76,77,78,79,80,81,82,83,84,85,86,87,88,89,90,91,92,93,94,95,97,98,99,100,101,102,103,104,105,106,107,108,109,110,111,112,113,114,115,116,117,118,119,120,121,122,123,124,125,126,96]
theorem sgnB_in:∀ c ∈ sgnB,33≤c∧c < 127:=by decide +kernel
structure Wd where
 lead:Int
 kept:Bool
 say:Say
 foot:List Say
structure WdOk (n:Nat) (d:Wd) : Prop where
 l0:0≤d.lead
 l1:d.lead≤4
 s:SayOk n d.say
 f:∀ s ∈ d.foot,SayOk n s
 n:d.foot.length≤40
def WdAt (K:PySem.W.Frag) (H:Hp) (a:Addr) (d:Wd) : Prop:=∃ (sa fo:Addr) (bs:List Addr),SqT K H a [.int d.lead,.bl d.kept,.ref sa,.ref fo]∧SqT K H sa (sayV d.say)∧SqL K H fo (bs.map V.ref)∧SaysA K H bs d.foot
theorem WdAt.same {K:PySem.W.Frag} {H H':Hp} {a:Addr} {d:Wd} (s:Same H H') (h:WdAt K H a d) : WdAt K H' a d:=by
 obtain ⟨sa,fo,bs,h1,h2,h3,h4⟩:=h
 exact ⟨sa,fo,bs,s.tup h1,s.tup h2,s.seq h3,h4.same s⟩
def WdsA (K:PySem.W.Frag) (H:Hp) (as:List Addr) (ds:List Wd) : Prop:=as.length=ds.length∧∀ (i:Nat) a d,as[i]? = some a→ds[i]? = some d→WdAt K H a d
theorem WdsA.same {K:PySem.W.Frag} {H H':Hp} {as:List Addr} {ds:List Wd} (s:Same H H') (h:WdsA K H as ds) : WdsA K H' as ds:=⟨h.1,fun i a d e e'=>(h.2 i a d e e').same s⟩
theorem WdsA.nil {K:PySem.W.Frag} {H:Hp} : WdsA K H [] []:=⟨rfl,fun i a x e _=>by simp at e⟩
theorem WdsA.snoc {K:PySem.W.Frag} {H:Hp} {as:List Addr} {ds:List Wd} {a:Addr} {d:Wd} (h:WdsA K H as ds) (hx:WdAt K H a d) : WdsA K H (as++[a]) (ds++[d]):=by
 refine ⟨by simp [h.1],fun i b y e e'=>?_⟩
 by_cases hi:i < as.length
 ·rw [List.getElem?_append_left hi] at e
  rw [List.getElem?_append_left (by rw [← h.1]; exact hi)] at e'
  exact h.2 i b y e e'
 ·rw [List.getElem?_append_right (by omega)] at e
  rw [List.getElem?_append_right (by rw [← h.1]; omega)] at e'
  have:i - as.length=0:=by
   rcases Nat.eq_zero_or_pos (i - as.length) with z | z
   ·exact z
   ·rw [List.getElem?_eq_none (by simp; omega)] at e; cases e
  rw [this] at e
  rw [← h.1,this] at e'
  cases e
  cases e'
  exact hx
def BkAt (K:PySem.W.Frag) (H:Hp) (b:Addr) (w h f m:Int) (ds:List Wd) : Prop:=∃ (fa wa:Addr) (as:List Addr),SqT K H b [.ref fa,.ref wa]∧SqT K H fa (fm w h f m)∧SqL K H wa (as.map V.ref)∧WdsA K H as ds
theorem BkAt.same {K:PySem.W.Frag} {H H':Hp} {b:Addr} {w h f m:Int} {ds:List Wd} (s:Same H H') (g:BkAt K H b w h f m ds) : BkAt K H' b w h f m ds:=by
 obtain ⟨fa,wa,as,h1,h2,h3,h4⟩:=g
 exact ⟨fa,wa,as,s.tup h1,s.tup h2,s.seq h3,h4.same s⟩
def LwAt (K:PySem.W.Frag) (H:Hp) (a:Addr) (xs:List (Int × Int)) : Prop:=∃ as:List Addr,SqL K H a (as.map V.ref)∧PlsA K H as xs
theorem LwAt.same {K:PySem.W.Frag} {H H':Hp} {a:Addr} {xs:List (Int × Int)} (s:Same H H') (h:LwAt K H a xs) : LwAt K H' a xs:=by
 obtain ⟨as,h1,h2⟩:=h
 exact ⟨as,s.seq h1,h2.same s⟩
theorem cut_nat {α:Type} (xs:List α) (a b:Nat) : cutL xs (some (a:Int)) (some (b:Int))=(xs.drop a).take (b - a):=by
 unfold cutL HT.sIx
 have h1:¬ ((a:Int) < 0):=by omega
 have h2:¬ ((b:Int) < 0):=by omega
 simp only [if_neg h1,if_neg h2,Int.toNat_natCast]
 by_cases h:a≤xs.length
 ·rw [Nat.min_eq_left h]
  by_cases g:b≤xs.length
  ·rw [Nat.min_eq_left g]
  ·rw [Nat.min_eq_right (by omega),List.take_of_length_le (by simp),List.take_of_length_le (by simp; omega)]
 ·rw [List.drop_of_length_le (by omega),List.drop_of_length_le (by omega)]
  simp
theorem StrOk.cut {n a:Nat} {xs:List Int} (h:StrOk n xs) (b:Nat) (hb:a+b≤n) : StrOk b ((xs.drop a).take b):=by
 refine ⟨by simp [h.1]; omega,fun x hx=>h.2 x (List.mem_of_mem_drop (List.mem_of_mem_take hx))⟩

section
variable {prog:Program} {w:World} {A:Around} {R:Result→Shared→Prop} {I:Addr} {fp wr:List Addr} {P:Nat→Value→Prop} {St:Nat→Heap→Prop}
theorem max_out (W:Walks prog w A.in1 I fp wr 2 P St) (S:Addr) (hSf:S ∉ fp) (s:Shared) (v:Value) (c:Nat) (hst:St 2 s.heap) (hS:s.heap.get? S=some { cls:=.type "list",dict:=none,data:=.seq #[v,v] c,slots:=#[] })
  (hR:∀ h' tk,(∀ b o,b ∉ wr→b≠S→s.heap.get? b=some o→h'.get? b=some o)→R (.ok (.ret v)) { s with heap:=h',toks:=tk }) : codeAny (model prog w) A (.builtin "max.loop" ⟨[.ref I,.none,.ref S],[]⟩) R s:=by
 have n1:S ∉ wr:=fun z=>hSf (W.sub _ z)
 refine codeAny_builtin F.entry_max_loop (by
  rw [Around.under_plainId F.plain_max_loop _]; exact wpAny_bind (m:=seqItems? (.ref S)) (wpAny_seqItems hS rfl (wpAny_bind (m:=tryCatch (pyNext (.ref I)) _) (wpAny_tryCatch (W.done s _ _ hst fun h' tk k =>
   wpAny_bind (m:=updateSeq S (fun _=>#[])) (wpAny_updateSeq (k S _ n1 hS) rfl (wpAny_bind (wpAny_letGo (wpAny_pure (hR _ tk fun b o b1 b2 e=>(Heap.get?_update_other _ _ (Ne.symm b2)).trans (k b o b1 e)))))))))))
theorem max_one (W:Walks prog w A.in1 I fp wr 2 P St) (S:Addr) (hSf:S ∉ fp) (s:Shared) (v:Value) (c:Nat) (hst:St 1 s.heap) (hS:s.heap.get? S=some { cls:=.type "list",dict:=none,data:=.seq #[v,v] c,slots:=#[] }) (k:Bool)
  (hc:∀ u h' tk (Q:Value→Shared→Prop) (E:Value→Shared→Prop),P 1 u→(∀ b o,b ∉ wr→b≠S→s.heap.get? b=some o→h'.get? b=some o)→Q (.bool k) { s with heap:=h',toks:=tk }→wpAny (model prog w) A.in1 (richCompare .Gt u v) Q E { s with heap:=h',toks:=tk })
  (hR:∀ u h' tk,P 1 u→(∀ b o,b ∉ wr→b≠S→s.heap.get? b=some o→h'.get? b=some o)→R (.ok (.ret (if k then u else v))) { s with heap:=h',toks:=tk }) : codeAny (model prog w) A (.builtin "max.loop" ⟨[.ref I,.none,.ref S],[]⟩) R s:=by
 have n1:S ∉ wr:=fun z=>hSf (W.sub _ z)
 have nmd:(toString "max"++toString ".loop" : String) = "max.loop":=(by decide)
 refine codeAny_builtin F.entry_max_loop (by
  rw [Around.under_plainId F.plain_max_loop _]; refine wpAny_bind (m:=seqItems? (.ref S)) (wpAny_seqItems hS rfl (wpAny_bind (m:=tryCatch (pyNext (.ref I)) _) (wpAny_tryCatch (W.item 1 s _ _ (by decide) hst fun u h' tk hP hst' kp=>?_)))); skip
  have hS':=kp S _ n1 hS; refine wpAny_bind (m:=tryCatch (holding [u,u] (richCompare .Gt u v >>= _)) _) (wpAny_tryCatch (wpAny_holding (wpAny_bind (hc u h' tk _ _ hP (fun b o b1 _ e=>kp b o b1 e) ?_)))); skip
  refine wpAny_bind (wpAny_holding (wpAny_truthy_bool (wpAny_bind (wpAny_letGo (wpAny_pure ?_))))); skip
  cases k with
  | true =>
   simp only [if_true]; refine wpAny_bind (wpAny_updateSeq hS' rfl (wpAny_bind (wpAny_letGo ?_))); skip
   rw [nmd]; refine wpAny_pure ⟨plainId_quiet F.plain_max_loop _,max_out W S hSf _ u _ (W.frame _ _ _ hst' fun b bf o e=>(Heap.get?_update_other _ _ (fun z:S=b=>hSf (z ▸ bf))).trans e) (Heap.get?_update_self _ hS' rfl) fun h2 tk2 k2=>?_⟩
   exact hR u h2 tk2 hP fun b o b1 b2 e=>k2 b o b1 b2 ((Heap.get?_update_other _ _ (Ne.symm b2)).trans (kp b o b1 e))
  | false =>
   simp only [Bool.false_eq_true,if_false]; refine wpAny_bind (wpAny_letGo ?_); skip
   rw [nmd]; refine wpAny_pure ⟨plainId_quiet F.plain_max_loop _,max_out W S hSf _ v c hst' hS' fun h2 tk2 k2=>?_⟩
   exact hR u h2 tk2 hP fun b o b1 b2 e=>k2 b o b1 b2 (kp b o b1 e))
theorem max_none (W:Walks prog w A.in1 I fp wr 2 P St) (S:Addr) (hSf:S ∉ fp) (s:Shared) (c:Nat) (hst:St 0 s.heap) (hS:s.heap.get? S=some { cls:=.type "list",dict:=none,data:=.seq #[] c,slots:=#[] }) (k:Bool)
  (hc:∀ v u h' tk (Q:Value→Shared→Prop) (E:Value→Shared→Prop),P 0 v→P 1 u→(∀ b o,b ∉ wr→b≠S→s.heap.get? b=some o→h'.get? b=some o)→Q (.bool k) { s with heap:=h',toks:=tk }→wpAny (model prog w) A.in1 (richCompare .Gt u v) Q E { s with heap:=h',toks:=tk })
  (hR:∀ v u h' tk,P 0 v→P 1 u→(∀ b o,b ∉ wr→b≠S→s.heap.get? b=some o→h'.get? b=some o)→R (.ok (.ret (if k then u else v))) { s with heap:=h',toks:=tk }) : codeAny (model prog w) A (.builtin "max.loop" ⟨[.ref I,.none,.ref S],[]⟩) R s:=by
 have n1:S ∉ wr:=fun z=>hSf (W.sub _ z)
 have nmd:(toString "max"++toString ".loop" : String) = "max.loop":=(by decide)
 refine codeAny_builtin F.entry_max_loop (by
  rw [Around.under_plainId F.plain_max_loop _]; refine wpAny_bind (m:=seqItems? (.ref S)) (wpAny_seqItems hS rfl (wpAny_bind (m:=tryCatch (pyNext (.ref I)) _) (wpAny_tryCatch (W.item 0 s _ _ (by decide) hst fun v h' tk hP hst' kp=>?_)))); skip
  have hS':=kp S _ n1 hS; refine wpAny_bind (m:=updateSeq S (fun _=>#[v,v])) (wpAny_updateSeq hS' rfl ?_); rw [nmd]
  refine wpAny_pure ⟨plainId_quiet F.plain_max_loop _,max_one W S hSf _ v _ (W.frame _ _ _ hst' fun b bf o e=>(Heap.get?_update_other _ _ (fun z:S=b=>hSf (z ▸ bf))).trans e) (Heap.get?_update_self _ hS' rfl) k (fun u h2 tk2 Q E hu k2 hq=>?_) fun u h2 tk2 hu k2=>?_⟩
  ·exact hc v u h2 tk2 Q E hP hu (fun b o b1 b2 e=>k2 b o b1 b2 ((Heap.get?_update_other _ _ (Ne.symm b2)).trans (kp b o b1 e))) hq
  ·exact hR v u h2 tk2 hP hu fun b o b1 b2 e=>k2 b o b1 b2 ((Heap.get?_update_other _ _ (Ne.symm b2)).trans (kp b o b1 e)))
end
theorem max_two_by {prog:Program} {w:World} {A:Around} {E:Value→Shared→Prop} {s:Shared} {x y:Value} {Q:Value→Shared→Prop} (hh:A.handled=none) (k:Bool)
  (hc:∀ h' tk (Q:Value→Shared→Prop) (E:Value→Shared→Prop),(∀ b o,s.heap.get? b=some o→h'.get? b=some o)→Q (.bool k) { s with heap:=h',toks:=tk }→wpAny (model prog w) A.in1 (richCompare .Gt y x) Q E { s with heap:=h',toks:=tk })
  (h:∀ h' tk,(∀ b o,s.heap.get? b=some o→h'.get? b=some o)→Q (if k then y else x) { s with heap:=h',toks:=tk }) : wpAny (model prog w) A (call (.builtin "max") [x,y]) Q E s:=by
 have nmd:(toString "max"++toString ".loop" : String) = "max.loop":=(by decide)
 have tup:(s.heap.push { cls:=.type "tuple",data:=.seq #[x,y] }).IsTuple s.heap.objs.size #[x,y]:=⟨_,Heap.get?_push_size _ rfl,rfl,0,rfl⟩
 have hsz:(s.heap.push { cls:=.type "tuple",data:=.seq #[x,y] }).objs.size=s.heap.objs.size+1:=Heap.size_push ..
 have hsz2:∀ o,((s.heap.push { cls:=.type "tuple",data:=.seq #[x,y] }).push o).objs.size=s.heap.objs.size+2:=fun o=>by rw [Heap.size_push,hsz]
 refine call_function_tree F.kind_max F.plain_max F.entry_max (F.args_max2 x y) (by
  refine wpAny_bind (m:=Builtin.Builtins.bindParams "max" ["key","default"] 0 ⟨[],[]⟩) (wpAny_of_eq (show Builtin.Builtins.bindParams "max" ["key","default"] 0 ⟨[],[]⟩=pure [none,none] from rfl) ?_); skip
  refine wpAny_bind (m:=newTuple [x,y]) (wpAny_newObj_type (wpAny_bind (wpAny_pyIter_tuple tup (wpAny_bind (wpAny_newObj_type ?_))))); rw [nmd]
  refine wpAny_pure ⟨plainId_quiet F.plain_max_loop _,max_none (Walks.tuple (A:=A.in1) hh (s.heap.push { cls:=.type "tuple",data:=.seq #[x,y] }).objs.size s.heap.objs.size (by rw [hsz]; exact Nat.ne_of_lt (Nat.lt_succ_self _)) #[x,y]) _ ?nf _ _ ⟨⟨_,Heap.get?_push_of_some _ (Heap.get?_push_size _ rfl),rfl,rfl⟩,(tup.push _).push _⟩ (Heap.get?_push_size _ rfl) k (fun v u h' tk Q E p0 p1 kp hq=>?hc) fun v u h' tk p0 p1 kp=>?hr⟩
  case nf =>
   intro hm
   have z:((s.heap.push { cls:=.type "tuple",data:=.seq #[x,y] }).push _).objs.size ∈ _:=hm
   rw [hsz2,hsz] at z
   rcases List.mem_cons.mp z with e | z
   ·exact absurd e (by show s.heap.objs.size+2≠s.heap.objs.size+1; simp)
   ·rcases List.mem_cons.mp z with e | z
    ·exact absurd e (by show s.heap.objs.size+2≠s.heap.objs.size; simp)
    ·cases z
  case hc =>
   have ev:v=x:=by simpa using p0.symm
   have eu:u=y:=by simpa using p1.symm
   rw [ev,eu]
   refine hc h' tk Q E (fun b o e=>?_) hq
   have lt:=Heap.lt_size e
   refine kp b o (fun hm=>?_) (fun hm=>?_) (Heap.get?_push_of_some _ (Heap.get?_push_of_some _ (Heap.get?_push_of_some _ e)))
   ·have z:b=(s.heap.push { cls:=.type "tuple",data:=.seq #[x,y] }).objs.size:=List.mem_singleton.mp hm
    rw [hsz] at z
    rw [z] at lt
    exact absurd lt (Nat.not_lt.mpr (Nat.le_add_right _ 1))
   ·have z:b=((s.heap.push { cls:=.type "tuple",data:=.seq #[x,y] }).push _).objs.size:=hm
    rw [hsz2] at z
    rw [z] at lt
    exact absurd lt (Nat.not_lt.mpr (Nat.le_add_right _ 2))
  case hr =>
   have ev:v=x:=by simpa using p0.symm
   have eu:u=y:=by simpa using p1.symm
   rw [ev,eu]
   refine h h' tk fun b o e=>?_
   have lt:=Heap.lt_size e
   refine kp b o (fun hm=>?_) (fun hm=>?_) (Heap.get?_push_of_some _ (Heap.get?_push_of_some _ (Heap.get?_push_of_some _ e)))
   ·have z:b=(s.heap.push { cls:=.type "tuple",data:=.seq #[x,y] }).objs.size:=List.mem_singleton.mp hm
    rw [hsz] at z
    rw [z] at lt
    exact absurd lt (Nat.not_lt.mpr (Nat.le_add_right _ 1))
   ·have z:b=((s.heap.push { cls:=.type "tuple",data:=.seq #[x,y] }).push _).objs.size:=hm
    rw [hsz2] at z
    rw [z] at lt
    exact absurd lt (Nat.not_lt.mpr (Nat.le_add_right _ 2)))
theorem call_maxT {X:Cx} (hc:X.calm=true) (hu:X.A.units+1 < cLine) : CallR X (.builtin "max") (fun xs H Q=>∃ a b ns ms,xs=[.ref a,.ref b]∧SqT X.K H a (ns.map V.int)∧SqT X.K H b (ms.map V.int)∧Q (.ref (if HT.lexGt ms ns then b else a)) H):=by
 intro pins s σ H xs us Q I r h
 obtain ⟨a,b,ns,ms,rfl,ha,hb,q⟩:=h
 obtain ⟨u,w',rfl,ru,rw'⟩:=vals2 r
 cases ru
 cases rw'
 obtain ⟨its,r1,p1,_⟩:=I.tuple ha
 obtain ⟨its2,r2,p2,_⟩:=I.tuple hb
 have i1:IntsAre its.toArray.toList ns:=intsAre_of r1
 have i2:IntsAre its2.toArray.toList ms:=intsAre_of r2
 refine max_two_by (I.ok.hd hc) (HT.lexGt ms ns) (fun h' tk Q E kp hq=>?_) fun h' tk kp=>⟨_,H,I.kept kp,?_,q⟩
 ·obtain ⟨o1,e1,f1⟩:=p1
  obtain ⟨o2,e2,f2⟩:=p2
  exact HT.gt_tupInts ⟨o2,kp _ _ e2,f2⟩ ⟨o1,kp _ _ e1,f1⟩ i2 i1 hu hq
 ·cases HT.lexGt ms ns <;> rfl

section
variable {prog:Program} {w:World} {A:Around} {R:Result→Shared→Prop} {I:Addr} {fp wr:List Addr} {P:Nat→Value→Prop} {St:Nat→Heap→Prop}
end
def laterI (x y:Int × Int) : Int × Int:=if sooner x y then y else x
theorem lex_gt (x y:Int × Int) : HT.lexGt [y.1,y.2] [x.1,x.2]=sooner x y:=by
 unfold HT.lexGt HT.lexGt HT.lexGt
 by_cases e:y.1=x.1
 ·rw [if_pos e]
  by_cases e2:y.2=x.2
  ·rw [if_pos e2]
   exact (not_sooner.mpr (by omega)).symm
  ·rw [if_neg e2]
   by_cases e3:x.2 < y.2
   ·rw [decide_eq_true e3,sooner_iff.mpr (by omega)]
   ·rw [decide_eq_false e3,not_sooner.mpr (by omega)]
 ·rw [if_neg e]
  by_cases e3:x.1 < y.1
  ·rw [decide_eq_true e3,sooner_iff.mpr (by omega)]
  ·rw [decide_eq_false e3,not_sooner.mpr (by omega)]
theorem lex_le (x y:Int × Int) : HT.lexLtE [x.1,x.2] [y.1,y.2] = !sooner y x:=by
 unfold HT.lexLtE HT.lexLtE HT.lexLtE
 by_cases e:x.1=y.1
 ·rw [if_pos e]
  by_cases e2:x.2=y.2
  ·rw [if_pos e2,not_sooner.mpr (by omega)]
   rfl
  ·rw [if_neg e2]
   by_cases e3:x.2≤y.2
   ·rw [decide_eq_true e3,not_sooner.mpr (by omega)]
    rfl
   ·rw [decide_eq_false e3,sooner_iff.mpr (by omega)]
    rfl
 ·rw [if_neg e]
  by_cases e3:x.1≤y.1
  ·rw [decide_eq_true e3,not_sooner.mpr (by omega)]
   rfl
  ·rw [decide_eq_false e3,sooner_iff.mpr (by omega)]
   rfl
structure Frm where
 w:Int
 h:Int
 f:Int
 m:Int
structure BkOk (F:Frm) (ds:List Wd) (xs:List (Int × Int)) : Prop where
 fo:FormOk F.w F.h F.f F.m
 len:ds.length=xs.length
 wd:∀ d ∈ ds,WdOk ds.length d
 po:PlsOk F.h xs
 n:ds.length≤400
def wd0:Wd:=⟨0,false,.text [],[]⟩
abbrev dAt (ds:List Wd) (i:Nat) : Wd:=ds.getD i wd0
abbrev xAt (xs:List (Int × Int)) (i:Nat) : Int × Int:=xs.getD i (0,0)
def wideW (F:Frm) (xs:List (Int × Int)) (d:Wd) : Int:=((saidL F.h F.f xs d.say).length:Int)
def highW (F:Frm) (xs:List (Int × Int)) (d:Wd) : Int:=highF F.w F.h (d.foot.map (saidL F.h F.f xs))
def toldBehind (F:Frm) (ds:List Wd) (xs:List (Int × Int)) (i:Nat) : Int × Int:=
 firstFrom F.f (if 0 < i then laterI (xAt xs i) (behindI F.h F.f (xAt xs (i - 1)) (dAt ds i).lead) else xAt xs i) (dAt ds i).lead
def toldWide (F:Frm) (xs:List (Int × Int)) (j:Nat) (wide:Int) : Option (Int × Int):=if wide≤F.w then none else some (behindI F.h F.f (xAt xs j) 1)
def toldHigh (F:Frm) (xs:List (Int × Int)) (i j:Nat) (high:Int) : Option (Int × Int):=if (xAt xs j).1 < (xAt xs i).1∨(xAt xs i).2+1+high≤F.h then none else some ((xAt xs i).1+1,0)
def toldKept (ds:List Wd) (xs:List (Int × Int)) (i:Nat) : Option (Int × Int):=if i+1=ds.length∨(dAt ds (i+1)).kept=false then none else some ((xAt xs (i+1)).1,0)
def toldNever (F:Frm) (ds:List Wd) (xs:List (Int × Int)) (i:Nat) : Option (Int × Int):=if wideW F xs (dAt ds i)≤F.w∧highW F xs (dAt ds i)+1≤F.h then none else some (F.m,0)
def segD (ds:List Wd) (j i:Nat) : List Wd:=(ds.drop j).take (i+1 - j)
def wides (F:Frm) (ds:List Wd) (xs:List (Int × Int)) (j i:Nat) : List Int:=(segD ds j i).map (wideW F xs)
def highs (F:Frm) (ds:List Wd) (xs:List (Int × Int)) (j i:Nat) : List Int:=(segD ds j i).map (highW F xs)
def together (l:List Int) : Int:=l.sum+l.length - 1
def PlO (K:PySem.W.Frag) (H:Hp) (v:V) : Option (Int × Int)→Prop
 | none=>v = .non
 | some x=>∃ q,v = .ref q∧SqT K H q (pl x)
theorem PlO.same {K:PySem.W.Frag} {H H':Hp} {v:V} {o:Option (Int × Int)} (s:Same H H') (h:PlO K H v o) : PlO K H' v o:=by
 cases o with
 | none=>exact h
 | some x=>obtain ⟨q,e,hq⟩:=h; exact ⟨q,e,s.tup hq⟩
theorem BkOk.d {F:Frm} {ds:List Wd} {xs:List (Int × Int)} (B:BkOk F ds xs) {i:Nat} (h:i < ds.length) : ds[i]? = some (dAt ds i)∧WdOk xs.length (dAt ds i):=by
 have e:ds[i]? = some ds[i]:=List.getElem?_eq_getElem h
 have e2:dAt ds i=ds[i]:=by show ds.getD i wd0=_; rw [List.getD_eq_getElem?_getD,e]; rfl
 rw [e2]
 exact ⟨e,B.len ▸ B.wd _ (List.getElem_mem h)⟩
theorem BkOk.x {F:Frm} {ds:List Wd} {xs:List (Int × Int)} (B:BkOk F ds xs) {i:Nat} (h:i < ds.length) : RowIn F.h (xAt xs i)∧(xAt xs i).1 < 10 ^ 60:=B.po.get (B.len ▸ h)
theorem WdsA.get {K:PySem.W.Frag} {H:Hp} {as:List Addr} {ds:List Wd} (h:WdsA K H as ds) {k:Nat} (hk:k < ds.length) : ∃ a,atI (as.map V.ref) (k:Int)=some (V.ref a)∧WdAt K H a (dAt ds k):=by
 have hk2:k < as.length:=by rw [h.1]; exact hk
 refine ⟨as[k],atI_nat (by rw [List.getElem?_map,List.getElem?_eq_getElem hk2]; rfl),?_⟩
 have e:ds[k]? = some (dAt ds k):=by
  show _=some (ds.getD k wd0)
  rw [List.getD_eq_getElem?_getD,List.getElem?_eq_getElem hk]
  rfl
 exact h.2 k _ _ (List.getElem?_eq_getElem hk2) e
theorem WdsA.drop {K:PySem.W.Frag} {H:Hp} {as:List Addr} {ds:List Wd} (h:WdsA K H as ds) (n:Nat) : WdsA K H (as.drop n) (ds.drop n):=by
 refine ⟨by simp [h.1],fun i b y e e'=>?_⟩
 rw [List.getElem?_drop] at e e'
 exact h.2 _ b y e e'
theorem WdsA.take {K:PySem.W.Frag} {H:Hp} {as:List Addr} {ds:List Wd} (h:WdsA K H as ds) (n:Nat) : WdsA K H (as.take n) (ds.take n):=by
 refine ⟨by simp [h.1],fun i b y e e'=>?_⟩
 rw [List.getElem?_take] at e e'
 split at e
 ·rename_i c
  rw [if_pos c] at e'
  exact h.2 i b y e e'
 ·cases e
theorem wd_at {as:List Addr} {ds:List Wd} (e:as.length=ds.length) {i:Nat} {y:V} (h:(as.map V.ref)[i]? = some y) : ∃ b d,y=V.ref b∧as[i]? = some b∧ds[i]? = some d:=by
 rw [List.getElem?_map] at h
 cases eb:as[i]? with
 | none=>rw [eb] at h; cases h
 | some b =>
  rw [eb] at h
  have hi:i < ds.length:=by rw [← e]; exact (List.getElem?_eq_some_iff.mp eb).1
  exact ⟨b,ds[i],(Option.some.inj h).symm,rfl,List.getElem?_eq_getElem hi⟩
theorem LwAt.get {K:PySem.W.Frag} {H:Hp} {a:Addr} {xs:List (Int × Int)} {as:List Addr} (h:PlsA K H as xs) {k:Nat} (hk:k < xs.length) : ∃ b,atI (as.map V.ref) (k:Int)=some (V.ref b)∧SqT K H b (pl (xAt xs k)):=h.get hk
def PlOs (K:PySem.W.Frag) (H:Hp) (vs:List V) (os:List (Option (Int × Int))) : Prop:=vs.length=os.length∧∀ (k:Nat) v o,vs[k]? = some v→os[k]? = some o→PlO K H v o
theorem PlOs.same {K:PySem.W.Frag} {H H':Hp} {vs:List V} {os:List (Option (Int × Int))} (s:Same H H') (h:PlOs K H vs os) : PlOs K H' vs os:=⟨h.1,fun k v o e e'=>(h.2 k v o e e').same s⟩
theorem PlO.lst {K:PySem.W.Frag} {H:Hp} {l:Addr} {ys zs:List V} {v:V} {o:Option (Int × Int)} (e:H l=some (.lst ys)) (h:PlO K H v o) : PlO K (upd H l (.lst zs)) v o:=by
 cases o with
 | none=>exact h
 | some x=>obtain ⟨q,e1,hq⟩:=h; exact ⟨q,e1,SqT.lst e hq⟩
theorem PlOs.lst {K:PySem.W.Frag} {H:Hp} {l:Addr} {ys zs:List V} {vs:List V} {os:List (Option (Int × Int))} (e:H l=some (.lst ys)) (h:PlOs K H vs os) : PlOs K (upd H l (.lst zs)) vs os:=⟨h.1,fun k v o e1 e'=>(h.2 k v o e1 e').lst e⟩
theorem PlOs.nil {K:PySem.W.Frag} {H:Hp} : PlOs K H [] []:=⟨rfl,fun k v o e _=>by simp at e⟩
theorem PlOs.snoc {K:PySem.W.Frag} {H:Hp} {vs:List V} {os:List (Option (Int × Int))} {v:V} {o:Option (Int × Int)} (h:PlOs K H vs os) (hx:PlO K H v o) : PlOs K H (vs++[v]) (os++[o]):=by
 refine ⟨by simp [h.1],fun i b y e e'=>?_⟩
 by_cases hi:i < vs.length
 ·rw [List.getElem?_append_left hi] at e
  rw [List.getElem?_append_left (by rw [← h.1]; exact hi)] at e'
  exact h.2 i b y e e'
 ·rw [List.getElem?_append_right (by omega)] at e
  rw [List.getElem?_append_right (by rw [← h.1]; omega)] at e'
  have:i - vs.length=0:=by
   rcases Nat.eq_zero_or_pos (i - vs.length) with z | z
   ·exact z
   ·rw [List.getElem?_eq_none (by simp; omega)] at e; cases e
  rw [this] at e
  rw [← h.1,this] at e'
  cases e
  cases e'
  exact hx
def allTold (F:Frm) (ds:List Wd) (xs:List (Int × Int)) (i:Nat) : List (Option (Int × Int)):=
 [some (toldBehind F ds xs i),toldKept ds xs i,toldNever F ds xs i]++(List.range i).map (fun j=>toldWide F xs j (together (wides F ds xs j i)))++(List.range (i+1)).map (fun j=>toldHigh F xs i j (highs F ds xs j i).sum)
def bestOf (b:Int × Int) (os:List (Option (Int × Int))) : Int × Int:=os.foldl (fun b o=>match o with | none=>b | some x=>laterI b x) b
def raisedI (F:Frm) (ds:List Wd) (xs:List (Int × Int)) (i:Nat) : Int × Int:=bestOf (xAt xs i) (allTold F ds xs i)
theorem cut_fr {α:Type} (xs:List α) (a:Nat) : cutL xs (some (a:Int)) none=xs.drop a:=by
 unfold cutL HT.sIx
 have h2:¬ ((a:Int) < 0):=by omega
 simp only [if_neg h2,Int.toNat_natCast]
 rw [List.take_of_length_le (by simp)]
 by_cases g:a≤xs.length
 ·rw [Nat.min_eq_left g]
 ·rw [Nat.min_eq_right (by omega),List.drop_of_length_le (by omega),List.drop_of_length_le (by omega)]
theorem op_neNil {X:Cx} (hu:X.A.units < cLine) : OpR X (compareOp .NotEq) (fun x y H Q=>∃ a b xs,x = .ref a∧y = .ref b∧SqL X.K H a xs∧SqL X.K H b []∧Q (.bl (!xs.isEmpty)) H):=by
 intro pins s σ H x y v u Q I rx ry h
 obtain ⟨a,b,xs,rfl,rfl,ha,hb,q⟩:=h
 cases rx
 cases ry
 obtain ⟨its,r,p,z⟩:=I.list ha
 obtain ⟨its2,r2,p2,z2⟩:=I.list hb
 have l1:=r.length
 have l2:=r2.length
 cases xs with
 | nil =>
  refine SeqAt.RcNeAt.lists (e:=fun _=>true) p.isList p2.isList (by simp at l1 l2 ⊢; omega) hu (fun j h1 h2=>absurd h1 (by simp at l1 ⊢; omega)) _ _ _ _ ⟨.bl _,H,I,rfl,?_⟩
  have e:its.toArray.size=0:=by rw [List.size_toArray]; exact l1.symm
  rw [e]
  exact q
 | cons x r=>exact SeqAt.RcNeAt.lists_lengths p.isList p2.isList (by simp at l1 l2 ⊢; omega) hu _ _ _ _ ⟨.bl true,H,I,rfl,q⟩
theorem PlsA.set {K:PySem.W.Frag} {H:Hp} {as:List Addr} {xs:List (Int × Int)} {a:Addr} {x:Int × Int} (h:PlsA K H as xs) (k:Nat) (hx:SqT K H a (pl x)) : PlsA K H (as.set k a) (xs.set k x):=by
 refine ⟨by simp [h.1],fun i b y e e'=>?_⟩
 rw [List.getElem?_set] at e e'
 by_cases c:k=i
 ·rw [if_pos c] at e e'
  split at e
  ·split at e'
   ·cases e; cases e'; exact hx
   ·cases e'
  ·cases e
 ·rw [if_neg c] at e e'
  exact h.2 i b y e e'
theorem PlsOk.set {h:Int} {xs:List (Int × Int)} {x:Int × Int} (o:PlsOk h xs) (k:Nat) (i:RowIn h x) (b:x.1 < 10 ^ 60) : PlsOk h (xs.set k x):=by
 intro y hy
 rcases List.mem_or_eq_of_mem_set hy with hy | rfl
 ·exact o y hy
 ·exact ⟨i,b⟩
def toldBy (F:Frm) (ds:List Wd) (xs:List (Int × Int)) (k:Str) (i:Nat) (j:Int) : Option (Int × Int):=
 if k=PySem.Str.ofString "behind"∧j=(i:Int) - 1 then some (toldBehind F ds xs i)
 else if k=PySem.Str.ofString "wide"∧(0≤j∧j < (i:Int)) then toldWide F xs j.toNat (together (wides F ds xs j.toNat i))
 else if k=PySem.Str.ofString "high"∧(0≤j∧j≤(i:Int)) then toldHigh F xs i j.toNat (highs F ds xs j.toNat i).sum
 else if k=PySem.Str.ofString "kept"∧j=(i:Int)+1 then toldKept ds xs i
 else if k=PySem.Str.ofString "never"∧j=(i:Int) then toldNever F ds xs i
 else none
def reachI (F:Frm) (ds:List Wd) (xs:List (Int × Int)) (k:Str) (i:Nat) (j:Int) : Option (Int × Int):=match toldBy F ds xs k i j with
 | none=>none
 | some x=>if sooner (xAt xs i) x then some x else none
theorem str_eq {a b:Str} : (decide (V.str a=V.str b)=true)↔a=b:=by simp
def Cp (K:PySem.W.Frag) (H:Hp) (a b:Addr) : Prop:=∃ (l:Int) (k:Bool) (sa fo fo':Addr) (bs:List Addr),SqT K H a [.int l,.bl k,.ref sa,.ref fo]∧SqT K H b [.int l,.bl k,.ref sa,.ref fo']∧SqL K H fo (bs.map V.ref)∧SqL K H fo' (bs.map V.ref)
theorem Cp.same {K:PySem.W.Frag} {H H':Hp} {a b:Addr} (s:Same H H') (h:Cp K H a b) : Cp K H' a b:=by
 obtain ⟨l,k,sa,fo,fo',bs,h1,h2,h3,h4⟩:=h
 exact ⟨l,k,sa,fo,fo',bs,s.tup h1,s.tup h2,s.seq h3,s.seq h4⟩
def CpA (K:PySem.W.Frag) (H:Hp) (as bs:List Addr) : Prop:=as.length=bs.length∧∀ (i:Nat) a b,as[i]? = some a→bs[i]? = some b→Cp K H a b
theorem CpA.same {K:PySem.W.Frag} {H H':Hp} {as bs:List Addr} (s:Same H H') (h:CpA K H as bs) : CpA K H' as bs:=⟨h.1,fun i a b e e'=>(h.2 i a b e e').same s⟩
theorem CpA.snoc {K:PySem.W.Frag} {H:Hp} {as bs:List Addr} {a b:Addr} (h:CpA K H as bs) (hx:Cp K H a b) : CpA K H (as++[a]) (bs++[b]):=by
 refine ⟨by simp [h.1],fun i c y e e'=>?_⟩
 by_cases hi:i < as.length
 ·rw [List.getElem?_append_left hi] at e
  rw [List.getElem?_append_left (by rw [← h.1]; exact hi)] at e'
  exact h.2 i c y e e'
 ·rw [List.getElem?_append_right (by omega)] at e
  rw [List.getElem?_append_right (by rw [← h.1]; omega)] at e'
  have:i - as.length=0:=by
   rcases Nat.eq_zero_or_pos (i - as.length) with z | z
   ·exact z
   ·rw [List.getElem?_eq_none (by simp; omega)] at e; cases e
  rw [this] at e
  rw [← h.1,this] at e'
  cases e
  cases e'
  exact hx
theorem Dq.refs {K:PySem.W.Frag} {H:Hp} {n:Nat} {xs:List V} (h:∀ x ∈ xs,sameV x) : ∀ (i:Nat) x y,xs[i]? = some x→xs[i]? = some y→Dq K H n x y:=by
 intro i x y e e'
 rw [e] at e'
 cases e'
 have b:(flatV x=true∧flatV x=true∧eqV x x=true)∨∃ a,x = .ref a∧x = .ref a:=by
  rcases h x (List.mem_of_getElem? e) with f | ⟨a,rfl⟩
  ·exact .inl ⟨f,f,eqV_refl f⟩
  ·exact .inr ⟨a,rfl,rfl⟩
 cases n with
 | zero=>exact b
 | succ n=>exact .inl b
theorem Cp.dq {K:PySem.W.Frag} {H:Hp} {a b:Addr} (h:Cp K H a b) : Dq K H 2 (V.ref b) (V.ref a):=by
 obtain ⟨l,k,sa,fo,fo',bs,h1,h2,h3,h4⟩:=h
 refine .inr ⟨b,a,_,_,rfl,rfl,.inr ⟨h2,h1⟩,rfl,fun i x y e e'=>?_⟩
 match i,e,e' with
 | 0,e,e'=>cases e; cases e'; exact .inl (.inl ⟨rfl,rfl,eqV_refl rfl⟩)
 | 1,e,e'=>cases e; cases e'; exact .inl (.inl ⟨rfl,rfl,eqV_refl rfl⟩)
 | 2,e,e'=>cases e; cases e'; exact .inl (.inr ⟨_,rfl,rfl⟩)
 | 3,e,e'=>cases e; cases e'; exact .inr ⟨_,_,_,_,rfl,rfl,.inl ⟨h4,h3⟩,rfl,Dq.refs (ref_same bs)⟩
theorem CpA.dq {K:PySem.W.Frag} {H:Hp} {as bs:List Addr} (h:CpA K H as bs) {wa wb:Addr} (h1:SqL K H wa (as.map V.ref)) (h2:SqL K H wb (bs.map V.ref)) : Dq K H 3 (V.ref wb) (V.ref wa):=by
 refine .inr ⟨wb,wa,_,_,rfl,rfl,.inl ⟨h2,h1⟩,by simp [h.1],fun i x y e e'=>?_⟩
 rw [List.getElem?_map] at e e'
 cases eb:bs[i]? with
 | none=>rw [eb] at e; cases e
 | some b =>
  cases ea:as[i]? with
  | none=>rw [ea] at e'; cases e'
  | some a =>
   rw [eb] at e
   rw [ea] at e'
   cases e
   cases e'
   exact (h.2 i a b ea eb).dq
inductive CL:List Expr→List V→Prop where
 | nil:CL [] []
 | int {i:Int} {j:Nat} {pos:Pos} {es:List Expr} {vs:List V} (h:CL es vs) : CL (.Constant (.int i) j pos :: es) (.int i :: vs)
 | str {x:Str} {j:Nat} {pos:Pos} {es:List Expr} {vs:List V} (h:CL es vs) : CL (.Constant (.str x) j pos :: es) (.str x :: vs)
def tVs (vs:List V) : TA:=fun _ H Q=>Q vs H
theorem pa_cl {X:Cx} : ∀ {es:List Expr} {vs:List V},CL es vs→PA X es (tVs vs)
 | _,_,.nil=>pa_nil
 | _,_,.int h=>pa_cons pe_int (pa_cl h)
 | _,_,.str h=>pa_cons pe_str (pa_cl h)
theorem ps_pick {X:Cx} {i:Nat} {x:Str} {es:List Expr} {vs:List V} {b:Expr} {tb:TE} {p1 p2 p3 p4:Pos} (hN:X.N.Nodup) (hi:X.N[i]? = some x) (hx:Loc X.env.scope x) (hc:CL es vs) (hb:PE X b tb) (hs:PlainIx b)
  (hf:X.fn x=true∨X.env.scope.names.lookup x=some .local) : PS X (.Assign [.Name x p1] (.Subscript (.List es p2) b p3) p4) (tAsg (tOp (rIxL X.K) (tLst (tVs vs)) tb) (gName i)):=
 ps_set (i:=i) hN hi hx (pe_ix ix_list (pe_lst (pa_cl hc)) hb hs)
def rLen (K:PySem.W.Frag) : List V→Hp→VK→Prop:=fun xs H Q=>∃ p ys,xs=[.ref p]∧(SqL K H p ys∨SqT K H p ys)∧Q (.int (ys.length:Nat)) H
def kB:Str:=PySem.Str.ofString "behind"
def kW:Str:=PySem.Str.ofString "wide"
def kH:Str:=PySem.Str.ofString "high"
def kK:Str:=PySem.Str.ofString "kept"
def kN:Str:=PySem.Str.ofString "never"
section
variable (F:Frm) (ds:List Wd) (xs:List (Int × Int)) (k:Str) (i:Nat) (j:Int)
def lr1:Int × Int:=if k=kB∧j=(i:Int) - 1 then toldBehind F ds xs i else xAt xs i
def lr2:Int × Int:=if k=kW∧(0≤j∧j < (i:Int))∧F.w < together (wides F ds xs j.toNat i) then behindI F.h F.f (xAt xs j.toNat) 1 else lr1 F ds xs k i j
def lr3:Int × Int:=if k=kH∧(0≤j∧j≤(i:Int))∧(xAt xs i).1≤(xAt xs j.toNat).1∧F.h < (lr2 F ds xs k i j).2+1+(highs F ds xs j.toNat i).sum then ((lr2 F ds xs k i j).1+1,0) else lr2 F ds xs k i j
def lr4:Int × Int:=if k=kK∧j=(i:Int)+1∧j < (ds.length:Int)∧(dAt ds j.toNat).kept=true then ((xAt xs j.toNat).1,0) else lr3 F ds xs k i j
def lr5:Int × Int:=if k=kN∧j=(i:Int)∧(F.w < wideW F xs (dAt ds i)∨F.h≤highW F xs (dAt ds i)) then (F.m,0) else lr4 F ds xs k i j
end
theorem kne:kB≠kW∧kB≠kH∧kB≠kK∧kB≠kN∧kW≠kH∧kW≠kK∧kW≠kN∧kH≠kK∧kH≠kN∧kK≠kN:=by decide +kernel
theorem toldBy_k (F:Frm) (ds:List Wd) (xs:List (Int × Int)) (k:Str) (i:Nat) (j:Int) : toldBy F ds xs k i j=if k=kB∧j=(i:Int) - 1 then some (toldBehind F ds xs i)
 else if k=kW∧(0≤j∧j < (i:Int)) then toldWide F xs j.toNat (together (wides F ds xs j.toNat i))
 else if k=kH∧(0≤j∧j≤(i:Int)) then toldHigh F xs i j.toNat (highs F ds xs j.toNat i).sum
 else if k=kK∧j=(i:Int)+1 then toldKept ds xs i
 else if k=kN∧j=(i:Int) then toldNever F ds xs i
 else none:=rfl
theorem sum_succ (F:Frm) (xs:List (Int × Int)) : ∀ (l:List Wd),(l.map fun d=>wideW F xs d+1).sum - 1=together (l.map (wideW F xs)):=by
 intro l
 have:∀ l:List Wd,(l.map fun d=>wideW F xs d+1).sum=(l.map (wideW F xs)).sum+l.length:=by
  intro l
  induction l with
  | nil=>rfl
  | cons a t ih =>
   rw [List.map_cons,List.sum_cons,ih,List.map_cons,List.sum_cons,List.length_cons]
   omega
 rw [this,together,List.length_map]
theorem lr_or {F:Frm} {ds:List Wd} {xs:List (Int × Int)} {k:Str} {i:Nat} {j:Int} (hi:i < ds.length) : toldBy F ds xs k i j=some (lr5 F ds xs k i j)∨(toldBy F ds xs k i j=none∧lr5 F ds xs k i j=xAt xs i):=by
 obtain ⟨n1,n2,n3,n4,n5,n6,n7,n8,n9,n10⟩:=kne
 rw [toldBy_k]
 by_cases c1:k=kB
 ·subst c1
  have e5:lr5 F ds xs kB i j=lr1 F ds xs kB i j:=by
   unfold lr5 lr4 lr3 lr2
   rw [if_neg (fun z=>n4 z.1),if_neg (fun z=>n3 z.1),if_neg (fun z=>n2 z.1),if_neg (fun z=>n1 z.1)]
  rw [e5,lr1]
  by_cases d:j=(i:Int) - 1
  ·exact .inl (by rw [if_pos ⟨rfl,d⟩,if_pos ⟨rfl,d⟩])
  ·exact .inr ⟨by rw [if_neg (fun z=>d z.2),if_neg (fun z=>n1 z.1),if_neg (fun z=>n2 z.1),if_neg (fun z=>n3 z.1),if_neg (fun z=>n4 z.1)],by rw [if_neg (fun z=>d z.2)]⟩
 have e1:lr1 F ds xs k i j=xAt xs i:=by rw [lr1,if_neg (fun z=>c1 z.1)]
 rw [if_neg (fun z=>c1 z.1)]
 by_cases c2:k=kW
 ·subst c2
  have e5:lr5 F ds xs kW i j=lr2 F ds xs kW i j:=by
   unfold lr5 lr4 lr3
   rw [if_neg (fun z=>n7 z.1),if_neg (fun z=>n6 z.1),if_neg (fun z=>n5 z.1)]
  rw [e5,lr2,e1]
  by_cases d:0≤j∧j < (i:Int)
  ·rw [if_pos ⟨rfl,d⟩,toldWide]
   by_cases t:together (wides F ds xs j.toNat i)≤F.w
   ·exact .inr ⟨by rw [if_pos t],by rw [if_neg (fun z=>by have:=z.2.2; omega)]⟩
   ·exact .inl (by rw [if_neg t,if_pos ⟨rfl,d,by omega⟩])
  ·exact .inr ⟨by rw [if_neg (fun z=>d z.2),if_neg (fun z=>n5 z.1),if_neg (fun z=>n6 z.1),if_neg (fun z=>n7 z.1)],by rw [if_neg (fun z=>d z.2.1)]⟩
 have e2:lr2 F ds xs k i j=xAt xs i:=by rw [lr2,if_neg (fun z=>c2 z.1),e1]
 rw [if_neg (fun z=>c2 z.1)]
 by_cases c3:k=kH
 ·subst c3
  have e5:lr5 F ds xs kH i j=lr3 F ds xs kH i j:=by
   unfold lr5 lr4
   rw [if_neg (fun z=>n9 z.1),if_neg (fun z=>n8 z.1)]
  rw [e5,lr3,e2]
  by_cases d:0≤j∧j≤(i:Int)
  ·rw [if_pos ⟨rfl,d⟩,toldHigh]
   by_cases t:(xAt xs j.toNat).1 < (xAt xs i).1∨(xAt xs i).2+1+(highs F ds xs j.toNat i).sum≤F.h
   ·exact .inr ⟨by rw [if_pos t],by rw [if_neg (fun z=>by have a:=z.2.2.1; have b:=z.2.2.2; omega)]⟩
   ·exact .inl (by rw [if_neg t,if_pos ⟨rfl,d,by omega,by omega⟩])
  ·exact .inr ⟨by rw [if_neg (fun z=>d z.2),if_neg (fun z=>n8 z.1),if_neg (fun z=>n9 z.1)],by rw [if_neg (fun z=>d z.2.1)]⟩
 have e3:lr3 F ds xs k i j=xAt xs i:=by rw [lr3,if_neg (fun z=>c3 z.1),e2]
 rw [if_neg (fun z=>c3 z.1)]
 by_cases c4:k=kK
 ·subst c4
  have e5:lr5 F ds xs kK i j=lr4 F ds xs kK i j:=by
   unfold lr5
   rw [if_neg (fun z=>n10 z.1)]
  rw [e5,lr4,e3]
  by_cases d:j=(i:Int)+1
  ·have jn:j.toNat=i+1:=by omega
   rw [if_pos ⟨rfl,d⟩,toldKept,jn]
   by_cases t:i+1=ds.length∨(dAt ds (i+1)).kept=false
   ·refine .inr ⟨by rw [if_pos t],?_⟩
    rw [if_neg (fun z=>by
     rcases t with t | t
     ·have:=z.2.2.1; omega
     ·have:=z.2.2.2; rw [t] at this; cases this)]
   ·have t1:i+1≠ds.length:=fun z=>t (.inl z)
    have t2:(dAt ds (i+1)).kept=true:=by
     cases e:(dAt ds (i+1)).kept with
     | true=>rfl
     | false=>exact absurd (.inr e) t
    exact .inl (by rw [if_neg t,if_pos ⟨rfl,d,by omega,t2⟩])
  ·exact .inr ⟨by rw [if_neg (fun z=>d z.2),if_neg (fun z=>n10 z.1)],by rw [if_neg (fun z=>d z.2.1)]⟩
 have e4:lr4 F ds xs k i j=xAt xs i:=by rw [lr4,if_neg (fun z=>c4 z.1),e3]
 rw [if_neg (fun z=>c4 z.1),lr5,e4]
 by_cases c5:k=kN∧j=(i:Int)
 ·rw [if_pos c5,toldNever]
  by_cases t:wideW F xs (dAt ds i)≤F.w∧highW F xs (dAt ds i)+1≤F.h
  ·exact .inr ⟨by rw [if_pos t],by rw [if_neg (fun z=>by have:=z.2.2; omega)]⟩
  ·exact .inl (by rw [if_neg t,if_pos ⟨c5.1,c5.2,by omega⟩])
 ·exact .inr ⟨by rw [if_neg c5],by rw [if_neg (fun z=>c5 ⟨z.1,z.2.1⟩)]⟩
theorem lr_eq {F:Frm} {ds:List Wd} {xs:List (Int × Int)} {k:Str} {i:Nat} {j:Int} (hi:i < ds.length) : reachI F ds xs k i j=if sooner (xAt xs i) (lr5 F ds xs k i j) then some (lr5 F ds xs k i j) else none:=by
 unfold reachI
 rcases lr_or (F:=F) (xs:=xs) (k:=k) (j:=j) hi with h | ⟨h1,h2⟩
 ·rw [h]
 ·rw [h1,h2,sooner_refl]
  rfl
def rList (K:PySem.W.Frag) : List V→Hp→VK→Prop:=fun xs H Q=>∃ p ys,xs=[.ref p]∧(SqL K H p ys∨SqT K H p ys)∧∀ l,H l=none→Q (.ref l) (upd H l (.lst ys))
theorem hu100 {A:Around} {k:Nat} (hr:Room k A) : A.units+100 < cLine:=by have:=hr.un; omega
theorem le_tr {x y z:Int × Int} (a:sooner y x=false) (b:sooner z y=false) : sooner z x=false:=by
 rw [not_sooner] at a b ⊢
 omega
theorem later_ge1 (x y:Int × Int) : sooner (laterI x y) x=false:=by
 unfold laterI
 cases e:sooner x y with
 | true =>
  rw [if_pos rfl]
  rw [sooner_iff] at e
  rw [not_sooner]
  omega
 | false=>rw [if_neg (by decide)]; exact sooner_refl x
theorem later_ge2 (x y:Int × Int) : sooner (laterI x y) y=false:=by
 unfold laterI
 cases e:sooner x y with
 | true=>rw [if_pos rfl]; exact sooner_refl y
 | false=>rw [if_neg (by decide)]; exact e
theorem later_le {x y z:Int × Int} (a:sooner z x=false) (b:sooner z y=false) : sooner z (laterI x y)=false:=by
 unfold laterI
 cases e:sooner x y with
 | true=>rw [if_pos rfl]; exact b
 | false=>rw [if_neg (by decide)]; exact a
theorem best_ge:∀ (os:List (Option (Int × Int))) (b:Int × Int),sooner (bestOf b os) b=false∧∀ x,some x ∈ os→sooner (bestOf b os) x=false
 | [],b=>⟨sooner_refl b,fun x h=>by cases h⟩
 | none :: r,b=>by
  obtain ⟨h1,h2⟩:=best_ge r b
  refine ⟨h1,fun x h=>h2 x ?_⟩
  rcases List.mem_cons.mp h with h | h
  ·cases h
  ·exact h
 | some y :: r,b=>by
  obtain ⟨h1,h2⟩:=best_ge r (laterI b y)
  refine ⟨le_tr (later_ge1 b y) h1,fun x h=>?_⟩
  rcases List.mem_cons.mp h with h | h
  ·have e:x=y:=by cases h; rfl
   rw [e]
   exact le_tr (later_ge2 b y) h1
  ·exact h2 x h
theorem best_le:∀ (os:List (Option (Int × Int))) (b z:Int × Int),sooner z b=false→(∀ x,some x ∈ os→sooner z x=false)→sooner z (bestOf b os)=false
 | [],b,z,h,_=>h
 | none :: r,b,z,h,h2=>best_le r b z h fun x hx=>h2 x (List.mem_cons_of_mem _ hx)
 | some y :: r,b,z,h,h2=>best_le r (laterI b y) z (later_le h (h2 y List.mem_cons_self)) fun x hx=>h2 x (List.mem_cons_of_mem _ hx)
theorem sum_le {α:Type} {f g:α→Int} : ∀ (l:List α),(∀ d ∈ l,f d≤g d)→(l.map f).sum≤(l.map g).sum
 | [],_=>Int.le_refl _
 | a :: r,h=>by
  have h1:=h a List.mem_cons_self
  have h2:=sum_le r fun d hd=>h d (List.mem_cons_of_mem _ hd)
  rw [List.map_cons,List.map_cons,List.sum_cons,List.sum_cons]
  omega
section
variable {F:Frm} {ds:List Wd} {xs ys:List (Int × Int)}
theorem wide_grows (B:BkOk F ds xs) (C:BkOk F ds ys) (le:PlsLe xs ys) {d:Wd} (hd:d ∈ ds) : wideW F xs d≤wideW F ys d:=by
 have wk:=B.wd d hd
 rw [B.len] at wk
 have:=said_grows B.fo B.po C.po le wk.s
 unfold wideW
 omega
theorem foot_grows (B:BkOk F ds xs) (C:BkOk F ds ys) (le:PlsLe xs ys) {d:Wd} (hd:d ∈ ds) : highW F xs d≤highW F ys d:=by
 have wk:=B.wd d hd
 rw [B.len] at wk
 unfold highW
 rw [high_eq,high_eq]
 refine high_grows (by simp) (fun k hk=>?_) (fun t ht=>?_)
 ·rw [List.length_map,List.length_map] at hk
  have hs:=wk.f (d.foot[k]) (List.getElem_mem hk)
  have:=said_grows B.fo B.po C.po le hs
  simp only [List.getD_eq_getElem?_getD,List.getElem?_map,List.getElem?_eq_getElem hk,Option.map_some,Option.getD_some]
  omega
 ·obtain ⟨u,_,rfl⟩:=List.mem_map.mp ht
  omega
theorem seg_mem {j i:Nat} {d:Wd} (h:d ∈ segD ds j i) : d ∈ ds:=List.mem_of_mem_drop (List.mem_of_mem_take h)
theorem wides_grow (B:BkOk F ds xs) (C:BkOk F ds ys) (le:PlsLe xs ys) (j i:Nat) : together (wides F ds xs j i)≤together (wides F ds ys j i):=by
 have:=sum_le (f:=wideW F xs) (g:=wideW F ys) (segD ds j i) fun d hd=>wide_grows B C le (seg_mem hd)
 unfold together wides
 rw [List.length_map,List.length_map]
 omega
theorem highs_grow (B:BkOk F ds xs) (C:BkOk F ds ys) (le:PlsLe xs ys) (j i:Nat) : (highs F ds xs j i).sum≤(highs F ds ys j i).sum:=
 sum_le (segD ds j i) fun d hd=>foot_grows B C le (seg_mem hd)
theorem all_mem {i:Nat} {x:Int × Int} : some x ∈ allTold F ds xs i↔(x=toldBehind F ds xs i∨toldKept ds xs i=some x∨toldNever F ds xs i=some x∨(∃ j,j < i∧toldWide F xs j (together (wides F ds xs j i))=some x)∨∃ j,j < i+1∧toldHigh F xs i j (highs F ds xs j i).sum=some x):=by
 unfold allTold
 simp only [List.mem_append,List.mem_cons,List.mem_map,List.mem_range,List.not_mem_nil,or_false,Option.some.injEq]
 constructor
 ·rintro (((h | h | h) | ⟨j,h1,h2⟩) | ⟨j,h1,h2⟩)
  ·exact .inl h
  ·exact .inr (.inl h.symm)
  ·exact .inr (.inr (.inl h.symm))
  ·exact .inr (.inr (.inr (.inl ⟨j,h1,h2⟩)))
  ·exact .inr (.inr (.inr (.inr ⟨j,h1,h2⟩)))
 ·rintro (h | h | h | ⟨j,h1,h2⟩ | ⟨j,h1,h2⟩)
  ·exact .inl (.inl (.inl h))
  ·exact .inl (.inl (.inr (.inl h.symm)))
  ·exact .inl (.inl (.inr (.inr h.symm)))
  ·exact .inl (.inr ⟨j,h1,h2⟩)
  ·exact .inr ⟨j,h1,h2⟩
theorem behind_told_grows (B:BkOk F ds xs) (C:BkOk F ds ys) (le:PlsLe xs ys) {i:Nat} (hi:i < ds.length) : sooner (toldBehind F ds ys i) (toldBehind F ds xs i)=false:=by
 have wk:=(B.d hi).2
 have rx:=(B.x hi).1
 have ry:=(C.x hi).1
 have l0:sooner (xAt ys i) (xAt xs i)=false:=le.2 i (by rw [← B.len]; exact hi)
 unfold toldBehind
 by_cases c:0 < i
 ·rw [if_pos c,if_pos c]
  have rx1:=(B.x (show i - 1 < ds.length by omega)).1
  have ry1:=(C.x (show i - 1 < ds.length by omega)).1
  have l1:sooner (xAt ys (i - 1)) (xAt xs (i - 1))=false:=le.2 (i - 1) (by rw [← B.len]; omega)
  have g:=behind_grows (f:=F.f) rx1 ry1 l1 wk.l0 (Int.le_refl _) wk.l1
  have bx:=behind_in (f:=F.f) rx1 wk.l0 wk.l1
  have byy:=behind_in (f:=F.f) ry1 wk.l0 wk.l1
  have li:∀ {a b:Int × Int},RowIn F.h a→RowIn F.h b→RowIn F.h (laterI a b):=fun {a b} ha hb=>by
   unfold laterI
   split
   ·exact hb
   ·exact ha
  refine first_grows (li rx bx) (li ry byy) ?_ (Int.le_refl _) wk.l1
  exact later_le (le_tr l0 (later_ge1 _ _)) (le_tr g (later_ge2 _ _))
 ·rw [if_neg c,if_neg c]
  exact first_grows rx ry l0 (Int.le_refl _) wk.l1
theorem raised_grows (B:BkOk F ds xs) (C:BkOk F ds ys) (le:PlsLe xs ys) {i:Nat} (hi:i < ds.length) : sooner (raisedI F ds ys i) (raisedI F ds xs i)=false:=by
 have l0:sooner (xAt ys i) (xAt xs i)=false:=le.2 i (by rw [← B.len]; exact hi)
 obtain ⟨g1,g2⟩:=best_ge (allTold F ds ys i) (xAt ys i)
 have gi:sooner (raisedI F ds ys i) (xAt ys i)=false:=g1
 have gm:∀ x,some x ∈ allTold F ds ys i→sooner (raisedI F ds ys i) x=false:=g2
 have hmem:dAt ds i ∈ ds:=List.mem_of_getElem? (B.d hi).1
 refine best_le _ _ _ (le_tr l0 gi) fun x hx=>?_
 rcases all_mem.mp hx with h | h | h | ⟨j,hj,h⟩ | ⟨j,hj,h⟩
 ·rw [h]
  exact le_tr (behind_told_grows B C le hi) (gm _ (all_mem.mpr (.inl rfl)))
 ·unfold toldKept at h
  split at h
  ·cases h
  ·rename_i c
   cases h
   have hi1:i+1 < ds.length:=by omega
   refine le_tr (y:=((xAt ys (i+1)).1,0)) ?_ (gm _ (all_mem.mpr (.inr (.inl ?_))))
   ·have l1:sooner (xAt ys (i+1)) (xAt xs (i+1))=false:=le.2 (i+1) (by rw [← B.len]; exact hi1)
    rw [not_sooner] at l1 ⊢
    simp only
    omega
   ·unfold toldKept
    rw [if_neg c]
 ·unfold toldNever at h
  split at h
  ·cases h
  ·rename_i c
   cases h
   refine gm _ (all_mem.mpr (.inr (.inr (.inl ?_))))
   unfold toldNever
   have w1:=wide_grows B C le hmem
   have w2:=foot_grows B C le hmem
   rw [if_neg (by omega)]
 ·unfold toldWide at h
  split at h
  ·cases h
  ·rename_i c
   cases h
   have w1:=wides_grow B C le j i
   have hj2:j < ds.length:=by omega
   have l1:sooner (xAt ys j) (xAt xs j)=false:=le.2 j (by rw [← B.len]; exact hj2)
   refine le_tr (behind_grows (f:=F.f) (B.x hj2).1 (C.x hj2).1 l1 (by decide) (Int.le_refl _) (by decide)) (gm _ (all_mem.mpr (.inr (.inr (.inr (.inl ⟨j,hj,?_⟩))))))
   unfold toldWide
   rw [if_neg (by omega)]
 ·unfold toldHigh at h
  split at h
  ·cases h
  ·rename_i c
   cases h
   have w1:=highs_grow B C le j i
   have hj2:j < ds.length:=by omega
   have l1:sooner (xAt ys j) (xAt xs j)=false:=le.2 j (by rw [← B.len]; exact hj2)
   have rx:=(C.x hi).1.r1
   by_cases c2:(xAt xs i).1 < (xAt ys i).1
   ·refine le_tr ?_ gi
    rw [not_sooner]
    simp only
    omega
   ·rw [not_sooner] at l0 l1
    have e1:(xAt ys i).1=(xAt xs i).1:=by omega
    refine gm _ (all_mem.mpr (.inr (.inr (.inr (.inr ⟨j,hj,?_⟩)))))
    unfold toldHigh
    rw [if_neg (by omega),e1]
end
def PlsB (h:Int) (xs:List (Int × Int)) : Prop:=∀ x ∈ xs,RowIn h x∧x.1 < 10 ^ 60 - 900
theorem PlsB.ok {h:Int} {xs:List (Int × Int)} (o:PlsB h xs) : PlsOk h xs:=fun x hx=>⟨(o x hx).1,by have:=(o x hx).2; omega⟩
theorem PlsB.get {h:Int} {xs:List (Int × Int)} (o:PlsB h xs) {k:Nat} (hk:k < xs.length) : RowIn h (xs.getD k (0,0))∧(xs.getD k (0,0)).1 < 10 ^ 60 - 900:=by
 rw [List.getD_eq_getElem?_getD,List.getElem?_eq_getElem hk]
 exact o _ (List.getElem_mem hk)
theorem PlsB.snoc {h:Int} {xs:List (Int × Int)} {x:Int × Int} (o:PlsB h xs) (i:RowIn h x) (b:x.1 < 10 ^ 60 - 900) : PlsB h (xs++[x]):=by
 intro y hy
 rcases List.mem_append.mp hy with hy | hy
 ·exact o y hy
 ·rw [List.mem_singleton.mp hy]
  exact ⟨i,b⟩
theorem PlsB.set {h:Int} {xs:List (Int × Int)} {x:Int × Int} (o:PlsB h xs) (k:Nat) (i:RowIn h x) (b:x.1 < 10 ^ 60 - 900) : PlsB h (xs.set k x):=by
 intro y hy
 rcases List.mem_or_eq_of_mem_set hy with hy | rfl
 ·exact o y hy
 ·exact ⟨i,b⟩
section
variable {prog:Program} {w:World} {A:Around} {R:Result→Shared→Prop} {I:Addr} {fp wr:List Addr} {n:Nat} {P:Nat→Value→Prop} {St:Nat→Heap→Prop}
end
def Cov (ps:List (Int × Int)) (x:Int × Int) : Prop:=∃ p ∈ ps,sooner p x=false
theorem Cov.app {ps:List (Int × Int)} {x:Int × Int} (h:Cov ps x) (y:Int × Int) : Cov (ps++[y]) x:=by
 obtain ⟨p,hp,e⟩:=h
 exact ⟨p,List.mem_append_left _ hp,e⟩
theorem Cov.last (ps:List (Int × Int)) (y:Int × Int) : Cov (ps++[y]) y:=⟨y,by simp,sooner_refl y⟩
def CovO (ps:List (Int × Int)) (o:Option (Int × Int)) : Prop:=∀ x,o=some x→Cov ps x
theorem CovO.app {ps:List (Int × Int)} {o:Option (Int × Int)} (h:CovO ps o) (y:Int × Int) : CovO (ps++[y]) o:=fun x e=>(h x e).app y
section
variable {F:Frm} {ds:List Wd} {xs:List (Int × Int)} {i:Nat}
def told3 (F:Frm) (ds:List Wd) (xs:List (Int × Int)) (i:Nat) : Nat→Option (Int × Int)
 | 0=>some (toldBehind F ds xs i)
 | 1=>toldKept ds xs i
 | _=>toldNever F ds xs i
structure Lat1 (F:Frm) (ds:List Wd) (xs:List (Int × Int)) (i n:Nat) (ps:List (Int × Int)) : Prop where
 und:∀ p ∈ ps,sooner (raisedI F ds xs i) p=false
 c0:Cov ps (xAt xs i)
 c:∀ k,k < n→CovO ps (told3 F ds xs i k)
structure Lat2 (F:Frm) (ds:List Wd) (xs:List (Int × Int)) (i t:Nat) (ps:List (Int × Int)) : Prop where
 base:Lat1 F ds xs i 3 ps
 cw:∀ j,i+1≤t+j→j < i→CovO ps (toldWide F xs j (together (wides F ds xs j i)))
 ch:∀ j,i+1≤t+j→j≤i→CovO ps (toldHigh F xs i j (highs F ds xs j i).sum)
theorem Lat1.start:Lat1 F ds xs i 0 [xAt xs i]:=by
 refine ⟨fun p hp=>?_,⟨_,List.mem_singleton.mpr rfl,sooner_refl _⟩,fun k hk=>absurd hk (Nat.not_lt_zero _)⟩
 rw [List.mem_singleton.mp hp]
 exact (best_ge _ _).1
theorem in_raised {x:Int × Int} (h:some x ∈ allTold F ds xs i) : sooner (raisedI F ds xs i) x=false:=(best_ge _ _).2 x h
theorem told3_mem {k:Nat} {x:Int × Int} (h:told3 F ds xs i k=some x) : some x ∈ allTold F ds xs i:=by
 rw [all_mem]
 match k,h with
 | 0,h=>exact .inl (Option.some.inj h).symm
 | 1,h=>exact .inr (.inl h)
 | k+2,h=>exact .inr (.inr (.inl h))
theorem Lat1.no {n:Nat} {ps:List (Int × Int)} (h:Lat1 F ds xs i n ps) (e:∀ x,told3 F ds xs i n=some x→sooner (xAt xs i) x=false) : Lat1 F ds xs i (n+1) ps:=by
 refine ⟨h.und,h.c0,fun k hk x ex=>?_⟩
 by_cases c:k=n
 ·subst c
  obtain ⟨p,hp,e0⟩:=h.c0
  exact ⟨p,hp,le_tr (e x ex) e0⟩
 ·exact h.c k (by omega) x ex
theorem Lat1.yes {n:Nat} {ps:List (Int × Int)} {y:Int × Int} (h:Lat1 F ds xs i n ps) (e:told3 F ds xs i n=some y) : Lat1 F ds xs i (n+1) (ps++[y]):=by
 refine ⟨fun p hp=>?_,h.c0.app y,fun k hk x ex=>?_⟩
 ·rcases List.mem_append.mp hp with hp | hp
  ·exact h.und p hp
  ·rw [List.mem_singleton.mp hp]
   exact in_raised (told3_mem e)
 ·by_cases c:k=n
  ·subst c
   rw [e] at ex
   cases ex
   exact Cov.last ps _
  ·exact (h.c k (by omega)).app y x ex
theorem Lat1.snoc {n:Nat} {ps:List (Int × Int)} {y:Int × Int} (h:Lat1 F ds xs i n ps) (hy:some y ∈ allTold F ds xs i) : Lat1 F ds xs i n (ps++[y]):=by
 refine ⟨fun p hp=>?_,h.c0.app y,fun k hk=>(h.c k hk).app y⟩
 rcases List.mem_append.mp hp with hp | hp
 ·exact h.und p hp
 ·rw [List.mem_singleton.mp hp]
  exact in_raised hy
theorem Lat2.start {ps:List (Int × Int)} (h:Lat1 F ds xs i 3 ps) : Lat2 F ds xs i 0 ps:=⟨h,fun j a b=>by omega,fun j a b=>by omega⟩
end
section
variable {F:Frm} {ds:List Wd} {xs ys:List (Int × Int)} {i:Nat}
def Fixd (F:Frm) (ds:List Wd) (xs:List (Int × Int)) : Prop:=∀ i,i < ds.length→raisedI F ds xs i=xAt xs i
def Pages (m:Int) (xs:List (Int × Int)) : Prop:=∀ x ∈ xs,x.1 < m
def LowX (F:Frm) (ds:List Wd) (xs:List (Int × Int)) : Prop:=∀ X,BkOk F ds X→Fixd F ds X→PlsLe xs X
theorem later_in {h:Int} {a b:Int × Int} (ha:RowIn h a) (hb:RowIn h b) : RowIn h (laterI a b):=by
 unfold laterI
 split
 ·exact hb
 ·exact ha
theorem later_pg {n:Int} {a b:Int × Int} (ha:a.1≤n) (hb:b.1≤n) : (laterI a b).1≤n:=by
 unfold laterI
 split
 ·exact hb
 ·exact ha
theorem behind_pg {h f l:Int} {x:Int × Int} (h0:0≤l) (h1:l≤4) : (behindI h f x l).1≤x.1+2:=by
 obtain ⟨q,s,e,d⟩:=behind_desc h f l x.1 x.2 h0 h1
 rw [show x=(x.1,x.2) from rfl,e]
 simp only
 omega
theorem first_pg {f l:Int} {x:Int × Int} : (firstFrom f x l).1≤x.1+1:=by
 obtain ⟨q,s,e,d⟩:=first_desc f l x.1 x.2
 rw [show x=(x.1,x.2) from rfl,e]
 simp only
 omega
theorem told_ok (B:BkOk F ds xs) (hi:i < ds.length) {n:Int} (hn:∀ k,k < ds.length→(xAt xs k).1≤n) (hm:F.m≤n+3) {x:Int × Int} (hx:some x ∈ allTold F ds xs i) : RowIn F.h x∧x.1≤n+3:=by
 have wk:=(B.d hi).2
 have rx:=(B.x hi).1
 have h1:=B.fo.h1
 rcases all_mem.mp hx with e | e | e | ⟨j,hj,e⟩ | ⟨j,hj,e⟩
 ·rw [e]
  unfold toldBehind
  by_cases c:0 < i
  ·rw [if_pos c]
   have rx1:=(B.x (show i - 1 < ds.length by omega)).1
   have bx:=behind_in (f:=F.f) rx1 wk.l0 wk.l1
   have p1:=behind_pg (h:=F.h) (f:=F.f) (x:=xAt xs (i - 1)) wk.l0 wk.l1
   have p2:=hn (i - 1) (by omega)
   have p3:=hn i hi
   have p4:=later_pg (n:=n+2) (a:=xAt xs i) (b:=behindI F.h F.f (xAt xs (i - 1)) (dAt ds i).lead) (by omega) (by omega)
   have p5:=first_pg (f:=F.f) (l:=(dAt ds i).lead) (x:=laterI (xAt xs i) (behindI F.h F.f (xAt xs (i - 1)) (dAt ds i).lead))
   exact ⟨first_in (later_in rx bx),by omega⟩
  ·rw [if_neg c]
   have p3:=hn i hi
   have p5:=first_pg (f:=F.f) (l:=(dAt ds i).lead) (x:=xAt xs i)
   exact ⟨first_in rx,by omega⟩
 ·unfold toldKept at e
  split at e
  ·cases e
  ·rename_i c
   cases e
   have hi1:i+1 < ds.length:=by omega
   have p:=hn (i+1) hi1
   have r:=(B.x hi1).1
   exact ⟨⟨r.p1,Int.le_refl 0,by show (0:Int) < F.h; omega⟩,by show (xAt xs (i+1)).1≤_; omega⟩
 ·unfold toldNever at e
  split at e
  ·cases e
  ·cases e
   have m1:=B.fo.m1
   exact ⟨⟨by show 0≤F.m; omega,Int.le_refl 0,by show (0:Int) < F.h; omega⟩,hm⟩
 ·unfold toldWide at e
  split at e
  ·cases e
  ·cases e
   have hj2:j < ds.length:=by omega
   have p:=hn j hj2
   have p1:=behind_pg (h:=F.h) (f:=F.f) (l:=1) (x:=xAt xs j) (by decide) (by decide)
   exact ⟨behind_in (B.x hj2).1 (by decide) (by decide),by omega⟩
 ·unfold toldHigh at e
  split at e
  ·cases e
  ·cases e
   have p:=hn i hi
   have r:=rx.p1
   exact ⟨⟨by show 0≤(xAt xs i).1+1; omega,Int.le_refl 0,by show (0:Int) < F.h; omega⟩,by show (xAt xs i).1+1≤_; omega⟩
theorem xAt_set {k:Nat} {y:Int × Int} (hi:i < xs.length) : xAt (xs.set i y) k=if k=i then y else xAt xs k:=by
 show (xs.set i y).getD k (0,0)=if k=i then y else xs.getD k (0,0)
 rw [List.getD_eq_getElem?_getD,List.getElem?_set]
 by_cases c:i=k
 ·subst c
  rw [if_pos rfl,if_pos rfl,if_pos hi]
  rfl
 ·rw [if_neg c,if_neg (Ne.symm c),← List.getD_eq_getElem?_getD]
theorem xAt_mem {k:Nat} (hk:k < xs.length) : xAt xs k ∈ xs:=by
 show xs.getD k (0,0) ∈ xs
 rw [List.getD_eq_getElem?_getD,List.getElem?_eq_getElem hk]
 exact List.getElem_mem hk
theorem BkOk.set (B:BkOk F ds xs) {y:Int × Int} (r:RowIn F.h y) (b:y.1 < 10 ^ 60) : BkOk F ds (xs.set i y):=⟨B.fo,by rw [List.length_set]; exact B.len,B.wd,B.po.set i r b,B.n⟩
theorem LowX.set (L:LowX F ds xs) (B:BkOk F ds xs) (hi:i < ds.length) : LowX F ds (xs.set i (raisedI F ds xs i)):=by
 intro X C fx
 have le:=L X C fx
 refine ⟨by rw [List.length_set]; exact le.1,fun k hk=>?_⟩
 rw [List.length_set] at hk
 have e:=xAt_set (k:=k) (y:=raisedI F ds xs i) (show i < xs.length by rw [← B.len]; exact hi)
 show sooner (xAt X k) (xAt (xs.set i (raisedI F ds xs i)) k)=false
 rw [e]
 by_cases c:k=i
 ·rw [if_pos c,c,← fx i hi]
  exact raised_grows B C le hi
 ·rw [if_neg c]
  exact le.2 k hk
theorem LowX.zero (e:xs.length=ds.length) (z:∀ x ∈ xs,x=(0,0)) : LowX F ds xs:=by
 intro X C _
 refine ⟨by rw [e,C.len],fun k hk=>?_⟩
 have h1:=z _ (xAt_mem hk)
 show sooner (xAt X k) (xAt xs k)=false
 rw [h1]
 have r:=(C.x (i:=k) (by omega)).1
 have p:=r.p1
 have q:=r.r1
 rw [not_sooner]
 simp only
 omega
def rank (h:Int) (x:Int × Int) : Int:=x.1 * h+x.2
theorem sum_bound {f:Int × Int→Int} {c:Int} : ∀ (xs:List (Int × Int)),(∀ x ∈ xs,f x≤c)→(xs.map f).sum≤xs.length * c
 | [],_=>by simp
 | x :: r,h=>by
  have h1:=h x List.mem_cons_self
  have h2:=sum_bound r fun y hy=>h y (List.mem_cons_of_mem _ hy)
  rw [List.map_cons,List.sum_cons,List.length_cons,Int.natCast_succ,Int.add_mul]
  omega
theorem rank_small {h m:Int} {x:Int × Int} (r:RowIn h x) (p:x.1 < m) : rank h x≤h * m:=by
 unfold rank
 have h0:0≤h:=by have:=r.r1; have:=r.r2; omega
 have:=Int.mul_le_mul_of_nonneg_right (show x.1+1≤m by omega) h0
 rw [Int.add_mul] at this
 have e:=Int.mul_comm m h
 have a:=r.r2
 omega
def segP (ds:List Wd) (j k:Nat) : List Wd:=(ds.drop j).take (k - j)
end
theorem eq_pl2 (x y:Int × Int) : eqVs (pl x) (pl y)=decide (x=y):=by
 obtain ⟨a,b⟩:=x
 obtain ⟨c,d⟩:=y
 show ((a == c) && ((b == d) && true))=decide ((a,b)=(c,d))
 by_cases h1:a=c
 ·by_cases h2:b=d
  ·simp [h1,h2]
  ·simp [h1,h2]
 ·simp [h1]
theorem PlsA.dq {K:PySem.W.Frag} {H:Hp} {as bs:List Addr} {xs:List (Int × Int)} (h1:PlsA K H as xs) (h2:PlsA K H bs xs) : ∀ (i:Nat) x y,(as.map V.ref)[i]? = some x→(bs.map V.ref)[i]? = some y→Dq K H 1 x y:=by
 intro i x y e e'
 rw [List.getElem?_map] at e e'
 cases ea:as[i]? with
 | none=>rw [ea] at e; cases e
 | some a =>
  cases eb:bs[i]? with
  | none=>rw [eb] at e'; cases e'
  | some b =>
   rw [ea] at e
   rw [eb] at e'
   cases e
   cases e'
   have hi:i < xs.length:=by rw [← h1.1]; exact (List.getElem?_eq_some_iff.mp ea).1
   refine .inr ⟨a,b,_,_,rfl,rfl,.inr ⟨h1.2 i a xs[i] ea (List.getElem?_eq_getElem hi),h2.2 i b xs[i] eb (List.getElem?_eq_getElem hi)⟩,rfl,fun j u v eu ev=>?_⟩
   rw [eu] at ev
   cases ev
   match j,eu with
   | 0,eu=>cases eu; exact .inl ⟨rfl,rfl,eqV_refl rfl⟩
   | 1,eu=>cases eu; exact .inl ⟨rfl,rfl,eqV_refl rfl⟩
section
variable {X:Cx} {elts:List Expr} {k1:Nat} {tp:Pos}
end
end L2

set_option maxHeartbeats 4000000
namespace PySem
abbrev IsZ2 (h:Heap) (z TI TO:Addr) (f0 f1:Value) : Prop:=
 h.get? z=some { cls:=.type "zip",dict:=none,data:=.fields #[f0,f1,.bool false,.ref TI,.ref TO],slots:=#[] }
section
variable {prog:Program} {w:World} {A:Around} {E:Value→Shared→Prop} {s:Shared}
def ZAt (z TI TO:Addr) (i:Nat) (h:Heap) : Prop:=(i=0∧IsZip h z TI TO .none)∨(0 < i∧∃ (T:Addr) (b:Bool) (oT:Obj),IsZ2 h z TI TO (rawInt T) (.bool b)∧h.get? T=some oT∧T ∉ [z,TO]∧oT.cls = .type "tuple")
end
section
variable {prog:Program} {w:World} {A:Around} {R:Result→Shared→Prop}
theorem ZAt.keep {z TI TO S:Addr} {i:Nat} {h h':Heap} {acc:Array Value} {c:Nat} (hz:ZAt z TI TO i h) (nz:S≠z) (hS:h.get? S=some { cls:=.type "list",dict:=none,data:=.seq acc c,slots:=#[] }) (k:∀ b o,b≠S→h.get? b=some o→h'.get? b=some o) : ZAt z TI TO i h':=by
 rcases hz with ⟨i0,hz⟩ | ⟨i0,T,b,oT,hz,hT,nT,cT⟩
 ·exact .inl ⟨i0,k z _ (Ne.symm nz) hz⟩
 ·refine .inr ⟨i0,T,b,oT,k z _ (Ne.symm nz) hz,k T _ (fun e=>?_) hT,nT,cT⟩
  rw [e,hS] at hT
  cases hT
  simp at cT
end
namespace F
end F
section
variable {prog:Program} {w:World} {A:Around} {s:Shared} {R:Result→Shared→Prop}
end
section
variable {prog:Program} {w:World} {A:Around} {E:Value→Shared→Prop} {s:Shared}
end
end PySem

set_option maxHeartbeats 4000000
namespace L2
open PySem PySem.Spec PyProof.Rows Tl
def trkP (H:Hp) (N:Nat) : List (V × V)→Hp
 | []=>H
 | p :: r=>trkP (upd H N (.tup [p.1,p.2])) (N+1) r
theorem Inv.tups {X:Cx} {pins:List (Addr × Obj)} {σ:St} {s:Shared} : ∀ {ps:List (V × V)} {H:Hp} {N:Nat},Inv X pins σ H s→(∀ a,N≤a→H a=none)→X.s₀.heap.objs.size≤N→X.env.locals < N→(∀ x c,X.env.cells.lookup x=some c→c < N)→(∀ p ∈ X.pn++pins,p.1 < N) →
  (∀ (j:Nat) p,ps[j]? = some p→∃ u v,RelV p.1 u∧RelV p.2 v∧IsPair s.heap (N+j) u v)→Inv X pins σ (trkP H N ps) s
 | [],H,N,I,_,_,_,_,_,_=>I
 | p :: r,H,N,I,hf,h0,h1,h2,h3,ok=>by
  obtain ⟨u,v,ru,rv,hp⟩:=ok 0 p rfl
  have I1:Inv X pins σ (upd H N (.tup [p.1,p.2])) s:=I.track (hf N (Nat.le_refl _)) h0 (Nat.ne_of_gt h1) (fun x c q=>Nat.ne_of_lt (h2 x c q)) (fun p hp=>Nat.ne_of_lt (h3 p hp)) ⟨by show 2≤sizeLine; decide,[u,v],.cons ru (.cons rv .nil),⟨_,hp,rfl,_,rfl⟩⟩
  refine Inv.tups (ps:=r) (N:=N+1) I1 (fun a ha=>?_) (Nat.le_succ_of_le h0) (Nat.lt_succ_of_lt h1) (fun x c q=>Nat.lt_succ_of_lt (h2 x c q)) (fun p hp=>Nat.lt_succ_of_lt (h3 p hp)) (fun j q e=>?_)
  ·rw [upd_ne (Nat.ne_of_gt ha)]
   exact hf a (Nat.le_of_succ_le ha)
  ·have:=ok (j+1) q (by simpa using e)
   rw [show N+(j+1)=N+1+j by rw [Nat.add_assoc,Nat.add_comm 1]] at this
   exact this
structure FunV (K:PySem.W.Frag) (x qual:Str) (st:Stmt) (f:Addr) (fd:FuncData) : Prop where
 ex:∃ (oc:Value) (od:Option Addr) (dV kV doc pm:Value) (an:Option Addr) (cdv ct:Value) (osl:Array (Option Value)),fd=PySem.W.fnOf x qual (defArgs st) (defBody st) (defScope st) dV kV doc pm an cdv ct∧K.lookup f=some ⟨oc,od,.func fd,osl⟩∧PySem.W.codeIn K cdv qual=true
 kp:PySem.W.keepIn K (.ref f)=true
theorem FunV.ok {P:Program} {w:World} {K:PySem.W.Frag} {mg:Str→Option Value} {base:Heap} {x qual:Str} {st:Stmt} {f:Addr} {fd:FuncData} {N ps:List Str} {k:Nat} {sp:Sp} (F:FunV K x qual st f fd) (S:FnScope N ps (defScope st)) (len:∀ vs H Q E,sp vs H Q E→vs.length=ps.length) (hbody:∀ (cdv:Value) (A:Around) (outer:List Env) (s:Shared) (H:Hp) (vs:List V) (Q:VK) (E:XK),Room k (A.deeper (envOfC qual (defScope st) s.heap.objs.size f cdv))→sp vs H Q E →
   ∃ t,PSs (cxOf CX0 P w K mg base N qual (defScope st) f cdv A outer s H E).nox (defBody st) t∧t { nx:=fun _ H'=>Q .non H',rt:=Q } (start N vs) H) : FnOk P w K mg base CX0 (k+1) f fd ps sp:=by
 obtain ⟨oc,od,dV,kV,doc,pm,an,cdv,ct,osl,rfl,lk,hcd⟩:=F.ex
 exact fn_of lk hcd S len fun A outer s H vs Q E hr hsp=>let ⟨t,h,q⟩:=hbody cdv A outer s H vs Q E hr hsp; ⟨t,h.nox,q⟩
section
variable {X:Cx} {x:Str} {st:Stmt} {ps:List Str} {f:Addr} {fd:FuncData} {dv:Value} {k:Nat} {sp:Sp} {e:Expr} {es:List Expr} {t:TA} {p pos:Pos}
end
def segZ (zs:List (Int × Int)) (j i:Nat) : List (Int × Int):=(zs.drop j).take (i+1 - j)
def togS (zs:List (Int × Int)) (j i:Nat) : Int:=((segZ zs j i).map (·.1)).sum+(segZ zs j i).length - 1
def sumS (zs:List (Int × Int)) (j i:Nat) : Int:=((segZ zs j i).map (·.2)).sum
theorem segZ_cons {zs:List (Int × Int)} {j i:Nat} (hj:j≤i) (hi:i < zs.length) : segZ zs j i=xAt zs j :: segZ zs (j+1) i:=by
 unfold segZ
 have hj2:j < zs.length:=by omega
 have e:xAt zs j=zs[j]:=by
  show zs.getD j (0,0)=_
  rw [List.getD_eq_getElem?_getD,List.getElem?_eq_getElem hj2]
  rfl
 rw [List.drop_eq_getElem_cons hj2,show i+1 - j=(i+1 - (j+1))+1 by omega,List.take_succ_cons,e]
def sizesL (F:Frm) (ds:List Wd) (xs:List (Int × Int)) : List (Int × Int):=ds.map fun d=>(wideW F xs d,highW F xs d)
def LeZ (zs ys:List (Int × Int)) : Prop:=zs.length=ys.length∧∀ k,k < zs.length→(xAt zs k).1≤(xAt ys k).1∧(xAt zs k).2≤(xAt ys k).2
section
variable {F:Frm} {ds:List Wd} {xs ys zs:List (Int × Int)} {i j:Nat}
structure NoR (F:Frm) (ds:List Wd) (xs zs:List (Int × Int)) (i:Nat) : Prop where
 w:(xAt zs i).1≤F.w
 h:(xAt zs i).2+1≤F.h
 b:sooner (xAt xs i) (toldBehind F ds xs i)=false
 wide:∀ j,j < i→(∀ n,j≤n→n≤i→xAt xs n=xAt xs i)→togS zs j i≤F.w
 high:∀ j,j≤i→(∀ n,j≤n→n≤i→(xAt xs n).1=(xAt xs i).1)→(xAt xs i).2+1+sumS zs j i≤F.h
theorem segZ_congr {zs ys:List (Int × Int)} (e:zs.length=ys.length) (h:∀ k,k≤i→xAt zs k=xAt ys k) (hi:i < zs.length) : ∀ (d j:Nat),i+1 - j=d→segZ zs j i=segZ ys j i
 | 0,j,e=>by unfold segZ; rw [e]; simp
 | d+1,j,e2=>by
  rw [segZ_cons (zs:=zs) (j:=j) (by omega) hi,segZ_cons (zs:=ys) (j:=j) (by omega) (by rw [← e]; exact hi),h j (by omega),segZ_congr e h hi d (j+1) (by omega)]
theorem NoR.congr {xs' zs':List (Int × Int)} (N:NoR F ds xs zs i) (hx:∀ k,k≤i→xAt xs' k=xAt xs k) (hz:∀ k,k≤i→xAt zs' k=xAt zs k) (e:zs'.length=zs.length) (hi:i < zs.length) : NoR F ds xs' zs' i:=by
 have tb:toldBehind F ds xs' i=toldBehind F ds xs i:=by
  unfold toldBehind
  rw [hx i (Nat.le_refl _),hx (i - 1) (Nat.sub_le _ _)]
 have sg:∀ j,segZ zs' j i=segZ zs j i:=fun j=>segZ_congr e hz (by rw [e]; exact hi) _ j rfl
 refine ⟨by rw [hz i (Nat.le_refl _)]; exact N.w,by rw [hz i (Nat.le_refl _)]; exact N.h,by rw [hx i (Nat.le_refl _),tb]; exact N.b,fun j hj hn=>?_,fun j hj hn=>?_⟩
 ·have:=N.wide j hj (fun n a b=>by have:=hn n a b; rw [hx n b,hx i (Nat.le_refl _)] at this; exact this)
  unfold togS at this ⊢
  rw [sg]
  exact this
 ·have:=N.high j hj (fun n a b=>by have:=hn n a b; rw [hx n b,hx i (Nat.le_refl _)] at this; exact this)
  unfold sumS at this ⊢
  rw [sg,hx i (Nat.le_refl _)]
  exact this
theorem chain_le (h:∀ k,0 < k→k≤i→sooner (xAt xs k) (xAt xs (k - 1))=false) : ∀ (d n:Nat),n+d≤i→sooner (xAt xs (n+d)) (xAt xs n)=false
 | 0,n,_=>sooner_refl _
 | d+1,n,e=>le_tr (chain_le h d n (by omega)) (h (n+(d+1)) (by omega) e)
theorem told_in {k:Str} {j:Int} {y:Int × Int} (hi:i < ds.length) (h:toldBy F ds xs k i j=some y) : some y ∈ allTold F ds xs i:=by
 rw [toldBy_k] at h
 rw [all_mem]
 split at h
 ·exact .inl (Option.some.inj h).symm
 ·split at h
  ·rename_i c
   exact .inr (.inr (.inr (.inl ⟨j.toNat,by omega,h⟩)))
  ·split at h
   ·rename_i c
    exact .inr (.inr (.inr (.inr ⟨j.toNat,by omega,h⟩)))
   ·split at h
    ·exact .inr (.inl h)
    ·split at h
     ·exact .inr (.inr (.inl h))
     ·cases h
theorem reach_told {k:Str} {j:Int} {y:Int × Int} (h:reachI F ds xs k i j=some y) : toldBy F ds xs k i j=some y∧sooner (xAt xs i) y=true:=by
 unfold reachI at h
 split at h
 ·cases h
 ·rename_i x e
  split at h
  ·rename_i c
   cases h
   exact ⟨e,c⟩
  ·cases h
def LowF (F:Frm) (ds:List Wd) (x0 xs:List (Int × Int)) : Prop:=∀ X,BkOk F ds X→Fixd F ds X→PlsLe x0 X→PlsLe xs X
theorem LowF.set {x0:List (Int × Int)} {y:Int × Int} (L:LowF F ds x0 xs) (B:BkOk F ds xs) (hi:i < ds.length) (hy:some y ∈ allTold F ds xs i) : LowF F ds x0 (xs.set i y):=by
 intro X C fx l0
 have le:=L X C fx l0
 refine ⟨by rw [List.length_set]; exact le.1,fun k hk=>?_⟩
 rw [List.length_set] at hk
 have e:=xAt_set (k:=k) (y:=y) (show i < xs.length by rw [← B.len]; exact hi)
 show sooner (xAt X k) (xAt (xs.set i y) k)=false
 rw [e]
 by_cases c:k=i
 ·rw [if_pos c,c]
  have g:=raised_grows B C le hi
  rw [fx i hi] at g
  exact le_tr ((best_ge _ _).2 y hy) g
 ·rw [if_neg c]
  exact le.2 k hk
end
theorem LeZ.trans {a b c:List (Int × Int)} (h:LeZ a b) (g:LeZ b c) : LeZ a c:=⟨h.1.trans g.1,fun k hk=>by
 have h1:=h.2 k hk
 have h2:=g.2 k (by rw [← h.1]; exact hk)
 omega⟩
theorem PlsLe.trans {a b c:List (Int × Int)} (h:PlsLe a b) (g:PlsLe b c) : PlsLe a c:=⟨h.1.trans g.1,fun k hk=>le_tr (h.2 k hk) (g.2 k (by rw [← h.1]; exact hk))⟩
theorem PlsLe.refl (a:List (Int × Int)) : PlsLe a a:=⟨rfl,fun k _=>sooner_refl _⟩
structure RunOk (F:Frm) (ds:List Wd) (x0 zs xs:List (Int × Int)) (np:Nat) : Prop where
 B:BkOk F ds xs
 low:LowF F ds x0 xs
 le0:PlsLe x0 xs
 lz:LeZ zs (sizesL F ds xs)
 pg:∀ k,k < ds.length→(xAt xs k).1≤F.m+2
 ps:(np:Int)≤(xs.map (rank F.h)).sum
section
variable {F:Frm} {ds:List Wd} {x0 xs zs:List (Int × Int)} {np i:Nat}
theorem RunOk.sum_le (R:RunOk F ds x0 zs xs np) : (xs.map (rank F.h)).sum≤1512000:=by
 have h1:=R.B.fo.h1
 have h2:=R.B.fo.h2
 have m1:=R.B.fo.m1
 have m2:=R.B.fo.m2
 have n:=R.B.n
 have b:=sum_bound (f:=rank F.h) (c:=3780) xs (fun x hx=>by
  obtain ⟨k,hk,rfl⟩:=List.mem_iff_getElem.mp hx
  have hk2:k < ds.length:=by rw [R.B.len]; exact hk
  have p:=R.pg k hk2
  have r:=(R.B.x hk2).1
  have e:xAt xs k=xs[k]:=by
   show xs.getD k (0,0)=_
   rw [List.getD_eq_getElem?_getD,List.getElem?_eq_getElem hk]
   rfl
  rw [e] at p r
  have s:=rank_small (m:=F.m+3) r (by omega)
  have t:F.h * (F.m+3)≤60 * 63:=Int.mul_le_mul h2 (by omega) (by omega) (by decide)
  omega)
 have l:(xs.length:Int)≤400:=by rw [← R.B.len]; omega
 have t:(xs.length:Int) * 3780≤400 * 3780:=Int.mul_le_mul_of_nonneg_right l (by decide)
 omega
end
theorem op_orE {X:Cx} {f:Value→Value→Sem Value} {r1 r2:R2} (h1:OpR X f r1) (h2:OpR X f r2) : OpR X f (fun x y H Q=>r1 x y H Q∨r2 x y H Q):=by
 intro pins s σ H x y v u Q I rx ry h
 rcases h with h | h
 ·exact h1 pins s σ H x y v u Q I rx ry h
 ·exact h2 pins s σ H x y v u Q I rx ry h
theorem WdsA.set {K:PySem.W.Frag} {H:Hp} {as:List Addr} {ds:List Wd} {a:Addr} {d:Wd} (h:WdsA K H as ds) (k:Nat) (hx:WdAt K H a d) : WdsA K H (as.set k a) (ds.set k d):=by
 refine ⟨by simp [h.1],fun i b y e e'=>?_⟩
 rw [List.getElem?_set] at e e'
 by_cases c:k=i
 ·rw [if_pos c] at e e'
  split at e
  ·split at e'
   ·cases e; cases e'; exact hx
   ·cases e'
  ·cases e
 ·rw [if_neg c] at e e'
  exact h.2 i b y e e'
structure SpotsOk (h f:Int) (xs:List (Int × Int)) (ls:List Int) : Prop where
 len:xs.length=ls.length
 l:∀ i,i < xs.length→0≤ls.getD i 0∧ls.getD i 0≤4
 r:∀ i,i < xs.length→RowIn h (xAt xs i)
 ff:∀ i,i < xs.length→firstFrom f (xAt xs i) (ls.getD i 0)=xAt xs i
 bh:∀ i,0 < i→i < xs.length→sooner (xAt xs i) (behindI h f (xAt xs (i - 1)) (ls.getD i 0))=false
theorem SpotsOk.nil {h f:Int} : SpotsOk h f [] []:=⟨rfl,fun i hi=>absurd hi (Nat.not_lt_zero _),fun i hi=>absurd hi (Nat.not_lt_zero _),fun i hi=>absurd hi (Nat.not_lt_zero _),fun i _ hi=>absurd hi (Nat.not_lt_zero _)⟩
theorem getD_snoc {α:Type} (xs:List α) (x d:α) (k:Nat) : (xs++[x]).getD k d=if k < xs.length then xs.getD k d else if k=xs.length then x else d:=by
 rw [getD_app]
 split
 ·rfl
 ·rename_i c
  split
  ·rename_i e
   rw [e,Nat.sub_self]
   rfl
  ·rename_i e
   obtain ⟨m,hm⟩ : ∃ m,k - xs.length=m+1:=⟨k - xs.length - 1,by omega⟩
   rw [hm]
   rfl
theorem SpotsOk.snoc {h f l:Int} {xs:List (Int × Int)} {ls:List Int} {x:Int × Int} (S:SpotsOk h f xs ls) (l0:0≤l) (l1:l≤4) (r:RowIn h x) (ff:firstFrom f x l=x) (bh:0 < xs.length→sooner x (behindI h f (xAt xs (xs.length - 1)) l)=false) : SpotsOk h f (xs++[x]) (ls++[l]):=by
 have ex:∀ k,xAt (xs++[x]) k=if k < xs.length then xAt xs k else if k=xs.length then x else (0,0):=fun k=>getD_snoc xs x (0,0) k
 have el:∀ k,(ls++[l]).getD k 0=if k < xs.length then ls.getD k 0 else if k=xs.length then l else 0:=fun k=>by rw [getD_snoc,S.len]
 have cs:∀ i,i < (xs++[x]).length→i < xs.length∨i=xs.length:=fun i hi=>by
  rw [List.length_append] at hi
  simp at hi
  omega
 refine ⟨by simp [S.len],fun i hi=>?_,fun i hi=>?_,fun i hi=>?_,fun i i0 hi=>?_⟩
 ·rw [el]
  rcases cs i hi with c | c
  ·rw [if_pos c]; exact S.l i c
  ·rw [if_neg (by omega),if_pos c]; exact ⟨l0,l1⟩
 ·rw [ex]
  rcases cs i hi with c | c
  ·rw [if_pos c]; exact S.r i c
  ·rw [if_neg (by omega),if_pos c]; exact r
 ·rw [ex,el]
  rcases cs i hi with c | c
  ·rw [if_pos c,if_pos c]; exact S.ff i c
  ·rw [if_neg (by omega),if_pos c,if_neg (by omega),if_pos c]; exact ff
 ·rcases cs i hi with c | c
  ·have e1:xAt (xs++[x]) i=xAt xs i:=by rw [ex,if_pos c]
   have e2:(ls++[l]).getD i 0=ls.getD i 0:=by rw [el,if_pos c]
   have e3:xAt (xs++[x]) (i - 1)=xAt xs (i - 1):=by rw [ex,if_pos (by omega)]
   rw [e1,e2,e3]
   exact S.bh i i0 c
  ·have e1:xAt (xs++[x]) i=x:=by rw [ex,if_neg (by omega),if_pos c]
   have e2:(ls++[l]).getD i 0=l:=by rw [el,if_neg (by omega),if_pos c]
   have e3:xAt (xs++[x]) (i - 1)=xAt xs (i - 1):=by rw [ex,if_pos (by omega)]
   rw [e1,e2,e3,c]
   exact bh (by omega)
theorem SpotsOk.mono {h f:Int} {xs:List (Int × Int)} {ls:List Int} (S:SpotsOk h f xs ls) : ∀ k,0 < k→k < xs.length→sooner (xAt xs k) (xAt xs (k - 1))=false:=fun k k0 hk =>
 le_tr (behind_self (f:=f) (S.r (k - 1) (by omega)) (S.l k hk).1 (S.l k hk).2) (S.bh k k0 hk)
theorem SpotsOk.le {h f:Int} {xs:List (Int × Int)} {ls:List Int} (S:SpotsOk h f xs ls) {j i:Nat} (hj:j≤i) (hi:i < xs.length) : sooner (xAt xs i) (xAt xs j)=false:=by
 have:=chain_le (i:=i) (xs:=xs) (fun k k0 k1=>S.mono k k0 (by omega)) (i - j) j (by omega)
 rwa [show j+(i - j)=i by omega] at this
section
variable {F:Frm} {ds:List Wd} {xs:List (Int × Int)} {i j:Nat}
end
def StsA (K:PySem.W.Frag) (H:Hp) (bs:List Addr) : Prop:=∀ b ∈ bs,∃ xs:List Int,SqL K H b (xs.map V.int)∧StrOk 18 xs
theorem StsA.same {K:PySem.W.Frag} {H H':Hp} {bs:List Addr} (s:Same H H') (h:StsA K H bs) : StsA K H' bs:=fun b hb=>by
 obtain ⟨xs,h1,h2⟩:=h b hb
 exact ⟨xs,s.seq h1,h2⟩
theorem xAt_of {xs:List (Int × Int)} {x:Int × Int} {k:Nat} (e:xs[k]? = some x) : xAt xs k=x:=by
 show xs.getD k (0,0)=x
 rw [List.getD_eq_getElem?_getD,e]
 rfl
structure Stp where
 k:Str
 i:Nat
 j:Int
 y:Int × Int
def stepped (x0:List (Int × Int)) (ss:List Stp) : List (Int × Int):=ss.foldl (fun xs s=>xs.set s.i s.y) x0
theorem stepped_snoc (x0:List (Int × Int)) (ss:List Stp) (s:Stp) : stepped x0 (ss++[s])=(stepped x0 ss).set s.i s.y:=by
 unfold stepped
 rw [List.foldl_append]
 rfl
def WalkOk (F:Frm) (ds:List Wd) (x0:List (Int × Int)) (ss:List Stp) : Prop:=∀ (n:Nat) s,ss[n]? = some s→s.i < ds.length∧BkOk F ds (stepped x0 (ss.take n))∧reachI F ds (stepped x0 (ss.take n)) s.k s.i s.j=some s.y
def StpA (K:PySem.W.Frag) (H:Hp) (ps:List V) (ss:List Stp) : Prop:=ps.length=ss.length∧∀ (n:Nat) p s,ps[n]? = some p→ss[n]? = some s→∃ a ya,p = .ref a∧SqT K H a [.str s.k,.int (s.i:Int),.int s.j,.ref ya]∧SqT K H ya (pl s.y)
theorem StpA.same {K:PySem.W.Frag} {H H':Hp} {ps:List V} {ss:List Stp} (s:Same H H') (h:StpA K H ps ss) : StpA K H' ps ss:=⟨h.1,fun n p t e e'=>by
 obtain ⟨a,ya,h1,h2,h3⟩:=h.2 n p t e e'
 exact ⟨a,ya,h1,s.tup h2,s.tup h3⟩⟩
theorem StpA.lst {K:PySem.W.Frag} {H:Hp} {l:Addr} {ys zs ps:List V} {ss:List Stp} (e:H l=some (.lst ys)) (h:StpA K H ps ss) : StpA K (upd H l (.lst zs)) ps ss:=⟨h.1,fun n p t e1 e'=>by
 obtain ⟨a,ya,h1,h2,h3⟩:=h.2 n p t e1 e'
 exact ⟨a,ya,h1,SqT.lst e h2,SqT.lst e h3⟩⟩
theorem snoc_get {α:Type} {l:List α} {a b:α} {n:Nat} (h:(l++[a])[n]? = some b) : l[n]? = some b∨(n=l.length∧b=a):=by
 by_cases c:n < l.length
 ·rw [List.getElem?_append_left c] at h
  exact .inl h
 ·rw [List.getElem?_append_right (by omega)] at h
  have:n - l.length=0:=by
   rcases Nat.eq_zero_or_pos (n - l.length) with z | z
   ·exact z
   ·rw [List.getElem?_eq_none (by simp; omega)] at h; cases h
  rw [this] at h
  cases h
  exact .inr ⟨by omega,rfl⟩
theorem StpA.snoc {K:PySem.W.Frag} {H:Hp} {ps:List V} {ss:List Stp} {s:Stp} {a ya:Addr} (h:StpA K H ps ss) (h2:SqT K H a [.str s.k,.int (s.i:Int),.int s.j,.ref ya]) (h3:SqT K H ya (pl s.y)) : StpA K H (ps++[.ref a]) (ss++[s]):=by
 refine ⟨by simp [h.1],fun n p t e e'=>?_⟩
 rcases snoc_get e with z | ⟨n1,rfl⟩
 ·rcases snoc_get e' with z' | ⟨n2,rfl⟩
  ·exact h.2 n p t z z'
  ·have:=(List.getElem?_eq_some_iff.mp z).1
   have:=h.1
   omega
 ·rcases snoc_get e' with z' | ⟨n2,rfl⟩
  ·have:=(List.getElem?_eq_some_iff.mp z').1
   have:=h.1
   omega
  ·exact ⟨a,ya,rfl,h2,h3⟩
theorem WalkOk.snoc {F:Frm} {ds:List Wd} {x0:List (Int × Int)} {ss:List Stp} {s:Stp} (h:WalkOk F ds x0 ss) (hi:s.i < ds.length) (B:BkOk F ds (stepped x0 ss)) (hy:reachI F ds (stepped x0 ss) s.k s.i s.j=some s.y) : WalkOk F ds x0 (ss++[s]):=fun n t e=>by
 rcases snoc_get e with z | ⟨n1,rfl⟩
 ·have hn:=(List.getElem?_eq_some_iff.mp z).1
  rw [List.take_append_of_le_length (by omega)]
  exact h n t z
 ·rw [n1,List.take_append_of_le_length (Nat.le_refl _),List.take_length]
  exact ⟨hi,B,hy⟩
def PapA (K:PySem.W.Frag) (H:Hp) (pa:Addr) (ps:List V) (F:Frm) (ds:List Wd) (x0 xs:List (Int × Int)) : Prop:=H pa=some (.lst ps)∧∃ ss,StpA K H ps ss∧WalkOk F ds x0 ss∧xs=stepped x0 ss
section
variable {K:PySem.W.Frag} {H H':Hp} {pa la:Addr} {ps:List V} {F:Frm} {ds:List Wd} {x0 xs:List (Int × Int)}
theorem PapA.nil (h:H pa=some (.lst [])) : PapA K H pa [] F ds x0 x0:=⟨h,[],⟨rfl,fun n p s e _=>by simp at e⟩,fun n s e=>by simp at e,rfl⟩
theorem PapA.same (s:Same H H') (h:PapA K H pa ps F ds x0 xs) : PapA K H' pa ps F ds x0 xs:=by
 obtain ⟨h1,ss,h2,h3,h4⟩:=h
 exact ⟨s _ _ h1,ss,h2.same s,h3,h4⟩
theorem PapA.lst {ys zs:List V} (h:PapA K H pa ps F ds x0 xs) (e:H la=some (.lst ys)) (ne:pa≠la) : PapA K (upd H la (.lst zs)) pa ps F ds x0 xs:=by
 obtain ⟨h1,ss,h2,h3,h4⟩:=h
 exact ⟨by rw [upd_ne ne]; exact h1,ss,h2.lst e,h3,h4⟩
theorem PapA.snoc {k:Str} {i:Nat} {j:Int} {y:Int × Int} {a ya:Addr} (h:PapA K H pa ps F ds x0 xs) (B:BkOk F ds xs) (hi:i < ds.length) (hy:reachI F ds xs k i j=some y) (h2:SqT K H a [.str k,.int (i:Int),.int j,.ref ya]) (h3:SqT K H ya (pl y)) : PapA K (upd H pa (.lst (ps++[.ref a]))) pa (ps++[.ref a]) F ds x0 (xs.set i y):=by
 obtain ⟨h1,ss,g2,g3,g4⟩:=h
 subst g4
 exact ⟨upd_same,ss++[⟨k,i,j,y⟩],(g2.snoc (s:=⟨k,i,j,y⟩) h2 h3).lst h1,g3.snoc (s:=⟨k,i,j,y⟩) hi B hy,by rw [stepped_snoc]⟩
end
section
variable {room:Int} {brk:Nat→Bool}
end
section
variable {F:Frm} {ds:List Wd} {L room:Int} {brk:Nat→Bool}
end
def er1 (H:Hp) (wa:Addr) : Hp:=fun b=>if b=wa then none else H b
theorem er1_same (H:Hp) (wa:Addr) : Same (er1 H wa) H:=fun b o h=>by
 unfold er1 at h
 split at h
 ·cases h
 ·exact h
theorem er1_at {H:Hp} {wa b:Addr} (n:b≠wa) : er1 H wa b=H b:=by
 unfold er1
 rw [if_neg n]
theorem er1_mono {H H':Hp} {wa:Addr} (s:Same H H') : Same (er1 H wa) (er1 H' wa):=fun b o h=>by
 unfold er1 at h ⊢
 split at h
 ·cases h
 ·rename_i c
  rw [if_neg c]
  exact s b o h
theorem er1_put {H:Hp} {wa:Addr} {o:HO} : er1 (upd H wa o) wa=er1 H wa:=by
 funext b
 unfold er1
 by_cases c:b=wa
 ·rw [if_pos c,if_pos c]
 ·rw [if_neg c,if_neg c,upd_ne c]
section
variable {F:Frm} {ds:List Wd} {xs:List (Int × Int)} {i j:Nat}
end
theorem PlsA.take {K:PySem.W.Frag} {H:Hp} {as:List Addr} {xs:List (Int × Int)} (h:PlsA K H as xs) (n:Nat) : PlsA K H (as.take n) (xs.take n):=by
 refine ⟨by simp [h.1],fun i a x e e'=>?_⟩
 rw [List.getElem?_take] at e e'
 split at e
 ·rename_i c
  rw [if_pos c] at e'
  exact h.2 i a x e e'
 ·cases e
theorem PlsA.drop {K:PySem.W.Frag} {H:Hp} {as:List Addr} {xs:List (Int × Int)} (h:PlsA K H as xs) (n:Nat) : PlsA K H (as.drop n) (xs.drop n):=by
 refine ⟨by simp [h.1],fun i a x e e'=>?_⟩
 rw [List.getElem?_drop] at e e'
 exact h.2 _ a x e e'
theorem PlsA.app {K:PySem.W.Frag} {H:Hp} {as bs:List Addr} {xs ys:List (Int × Int)} (h:PlsA K H as xs) (g:PlsA K H bs ys) : PlsA K H (as++bs) (xs++ys):=by
 refine ⟨by simp [h.1,g.1],fun i a x e e'=>?_⟩
 by_cases c:i < as.length
 ·rw [List.getElem?_append_left c] at e
  rw [List.getElem?_append_left (by rw [← h.1]; exact c)] at e'
  exact h.2 i a x e e'
 ·rw [List.getElem?_append_right (by omega)] at e
  rw [List.getElem?_append_right (by rw [← h.1]; omega),← h.1] at e'
  exact g.2 _ a x e e'
def gI (a r k:Nat) : Nat:=if k < a then k else k+r
section
variable {F:Frm} {ds es:List Wd} {xs ys:List (Int × Int)} {a r:Nat}
end
def mvSay (a r:Nat) : Say→Say
 | .text l=>.text l
 | .page k=>.page (gI a r k)
 | .row k=>.row (gI a r k)
def mvW (a r:Nat) (d:Wd) : Wd:=⟨d.lead,d.kept,mvSay a r d.say,d.foot.map (mvSay a r)⟩
structure Stg (d e:Wd) : Prop where
 lead:d.lead≤e.lead
 kept:d.kept=true→e.kept=true
 say:e.say=d.say∨∃ t u,d.say = .text t∧e.say = .text u∧t.length≤u.length
 foot:e.foot=d.foot∨∃ s,e.foot=d.foot++[s]
theorem Stg.refl (d:Wd) : Stg d d:=⟨Int.le_refl _,fun h=>h,.inl rfl,.inl rfl⟩
section
variable {a:Nat} {ds rs:List Wd}
end
theorem WdsA.app {K:PySem.W.Frag} {H:Hp} {as bs:List Addr} {ds es:List Wd} (h:WdsA K H as ds) (g:WdsA K H bs es) : WdsA K H (as++bs) (ds++es):=by
 refine ⟨by simp [h.1,g.1],fun i a x e e'=>?_⟩
 by_cases c:i < as.length
 ·rw [List.getElem?_append_left c] at e
  rw [List.getElem?_append_left (by rw [← h.1]; exact c)] at e'
  exact h.2 i a x e e'
 ·rw [List.getElem?_append_right (by omega)] at e
  rw [List.getElem?_append_right (by rw [← h.1]; omega),← h.1] at e'
  exact g.2 _ a x e e'
section
variable {F:Frm} {ds:List Wd} {xs:List (Int × Int)} {k:Nat}
end
structure Ris (b:Int) (xs:List (Int × Int)) : Prop where
 row:∀ k,k < xs.length→RowIn b (xAt xs k)
 pg:∀ k,k < xs.length→(xAt xs k).1≤(k:Int)+2
 up:∀ k,0 < k→k < xs.length→sooner (xAt xs k) (xAt xs (k - 1))=false
structure Szd (F:Frm) (ds:List Wd) (xs:List (Int × Int)) (n:Nat) (W T:Int) : Prop where
 w1:1≤W
 w2:W≤62+63 * (n:Int)
 wide:∀ k,k < n→∀ j,j≤k→(∀ n,j≤n→n≤k→xAt xs n=xAt xs k)→together (wides F ds xs j k)≤W
 foot:∀ k,k < n→∀ s ∈ (dAt ds k).foot,((saidL F.h F.f xs s).length:Int)≤W
 high:∀ k,k < n→∀ j,j≤k→(∀ n,j≤n→n≤k→(xAt xs n).1=(xAt xs k).1)→(xAt xs k).2+1+(highs F ds xs j k).sum≤T
 top:T=1∨∃ k j,k < n∧j≤k∧T=(xAt xs k).2+1+(highs F ds xs j k).sum
section
variable {F:Frm} {ds es:List Wd} {xs:List (Int × Int)} {k j:Nat} {h h' f w:Int}
theorem said_high (h1:h≤h') (po:PlsOk h xs) {s:Say} (so:SayOk xs.length s) : (saidL h f xs s).length≤(saidL h' f xs s).length:=by
 cases s with
 | text l=>exact Nat.le_refl _
 | page k=>exact Nat.le_refl _
 | row k =>
  have p:=(po.get (show k < xs.length from so)).1.p1
  refine figs_mono _ _ ?_
  show ((xs.getD k (0,0)).1 * h+(xs.getD k (0,0)).2+1).toNat≤((xs.getD k (0,0)).1 * h'+(xs.getD k (0,0)).2+1).toNat
  have:=Int.mul_le_mul_of_nonneg_left h1 p
  omega
theorem high_low {ts us:List Int} (hh:h≤h') (e:ts.length=us.length) (hk:∀ k,k < ts.length→ts.getD k 0≤us.getD k 0) (h0:∀ t ∈ ts,0≤t) (no:us.any (fun t=>decide (w < t))=false) : highN w h ts≤highN w h' us:=by
 have no2:ts.any (fun t=>decide (w < t))=false:=by
  cases c:ts.any (fun t=>decide (w < t)) with
  | false=>rfl
  | true=>rw [any_grows e hk c] at no; cases no
 have g:=fold_grows (w:=w) e hk h0 (lexLe.refl (0,0)) (Int.le_refl 0) (Int.le_refl 0) (Int.le_refl 0)
 have n1:(numW w ts).1≤(numW w us).1:=by
  rcases g with z | z
  ·exact Int.le_of_lt z
  ·exact Int.le_of_eq z.1
 unfold highN
 rw [no,no2,if_neg (show ¬ (false=true) by decide),if_neg (show ¬ (false=true) by decide)]
 split <;> split <;> omega
theorem num_count (w:Int) (ts:List Int) : (numW w ts).1≤ts.length:=by
 refine snoc_ind (P:=fun ts=>(numW w ts).1≤(ts.length:Int)) (Int.le_refl 0) (fun l t ih=>?_) ts
 rw [numW_snoc,List.length_append]
 unfold numStep
 split
 ·show (numW w l).1≤_
  simp
  omega
 ·show (numW w l).1+1≤_
  simp
  omega
theorem high_count {ts:List Int} (no:ts.any (fun t=>decide (w < t))=false) : highN w h ts≤ts.length:=by
 have:=num_count w ts
 unfold highN
 rw [no,if_neg (show ¬ (false=true) by decide)]
 split <;> omega
theorem any_no {ts:List Int} (h:∀ t ∈ ts,t≤w) : ts.any (fun t=>decide (w < t))=false:=by
 rw [List.any_eq_false]
 intro t ht
 have:=h t ht
 simp
 omega
theorem seg_sum {α:Type} {f:α→Int} : ∀ (l:List α),(∀ d ∈ l,0≤f d)→0≤(l.map f).sum
 | [],_=>Int.le_refl 0
 | a :: l,h=>by
  have:=seg_sum l (fun d hd=>h d (List.mem_cons_of_mem _ hd))
  have:=h a List.mem_cons_self
  show 0≤f a+(l.map f).sum
  omega
theorem sum_take {α:Type} {f:α→Int} : ∀ (l:List α) (n:Nat),(∀ d ∈ l,0≤f d)→((l.take n).map f).sum≤(l.map f).sum
 | [],n,_=>by simp
 | a :: l,0,h=>by
  have:=seg_sum (f:=f) (a :: l) h
  simpa using this
 | a :: l,n+1,h=>by
  have:=sum_take l n (fun d hd=>h d (List.mem_cons_of_mem _ hd))
  show f a+((l.take n).map f).sum≤f a+(l.map f).sum
  omega
theorem sum_drop {α:Type} {f:α→Int} : ∀ (l:List α) (n:Nat),(∀ d ∈ l,0≤f d)→((l.drop n).map f).sum≤(l.map f).sum
 | [],n,_=>by simp
 | a :: l,0,h=>Int.le_refl _
 | a :: l,n+1,h=>by
  have:=sum_drop l n (fun d hd=>h d (List.mem_cons_of_mem _ hd))
  have h0:=h a List.mem_cons_self
  show ((l.drop n).map f).sum≤f a+(l.map f).sum
  omega
def feetN (ds:List Wd) : Int:=(ds.map fun d=>(d.foot.length:Int)).sum
theorem feet_nonneg (ds:List Wd) : 0≤feetN ds:=seg_sum ds fun d _=>by omega
theorem szd_low {W T b:Int} (S:Szd F ds xs ds.length W T) (R:Ris b xs) (l:ds.length=xs.length) (b1:1≤b) (hw:∀ k,k < ds.length→∀ s ∈ (dAt ds k).foot,((saidL F.h F.f xs s).length:Int)≤F.w) : T≤b+feetN ds:=by
 have f0:=feet_nonneg ds
 rcases S.top with z | ⟨k,j,hk,hj,z⟩
 ·omega
 ·have r:=(R.row k (by omega)).r2
  have hm:∀ d ∈ ds,highW F xs d≤(d.foot.length:Int):=fun d hd=>by
   obtain ⟨i,hi,rfl⟩:=List.mem_iff_getElem.mp hd
   have e:dAt ds i=ds[i]:=by
    show ds.getD i wd0=_
    rw [List.getD_eq_getElem?_getD,List.getElem?_eq_getElem hi]
    rfl
   have h1:=hw i hi
   rw [e] at h1
   unfold highW
   rw [high_eq]
   have:=high_count (w:=F.w) (h:=F.h) (ts:=(ds[i].foot.map (saidL F.h F.f xs)).map fun t=>(t.length:Int)) (any_no fun t ht=>by
    obtain ⟨u,hu,rfl⟩:=List.mem_map.mp ht
    obtain ⟨s,hs,rfl⟩:=List.mem_map.mp hu
    exact h1 s hs)
   simpa using this
  have s1:(highs F ds xs j k).sum≤feetN ds:=by
   unfold highs segD feetN
   refine Int.le_trans (sum_le _ fun d hd=>hm d (List.mem_of_mem_drop (List.mem_of_mem_take hd))) ?_
   exact Int.le_trans (sum_take (f:=fun d:Wd=>(d.foot.length:Int)) _ _ fun d _=>by omega) (sum_drop (f:=fun d:Wd=>(d.foot.length:Int)) _ _ fun d _=>by omega)
  omega
theorem ris_pls {b:Int} (R:Ris b xs) (hb:b≤h) (hn:xs.length≤400) : PlsOk h xs:=fun x hx=>by
 obtain ⟨k,hk,rfl⟩:=List.mem_iff_getElem.mp hx
 have e:xAt xs k=xs[k]:=xAt_of (List.getElem?_eq_getElem hk)
 have r:=R.row k hk
 have p:=R.pg k hk
 rw [e] at r p
 exact ⟨⟨r.p1,r.r1,Int.lt_of_lt_of_le r.r2 hb⟩,by omega⟩
theorem fit_wide {F1:Frm} {W T:Int} (S:Szd F1 ds xs ds.length W T) (hf:F.f=F1.f) (hh:F.h≤F1.h) (po:PlsOk F.h xs) (wd:∀ d ∈ ds,WdOk xs.length d) (hw:W≤F.w) (hk:k < ds.length) : ∀ j,j≤k→(∀ n,j≤n→n≤k→xAt xs n=xAt xs k)→together (wides F ds xs j k)≤F.w:=fun j hj hn=>by
 refine Int.le_trans ?_ (Int.le_trans (S.wide k hk j hj hn) hw)
 have s1:((segD ds j k).map (wideW F xs)).sum≤((segD ds j k).map (wideW F1 xs)).sum:=sum_le _ fun d hd=>by
  have:=said_high (f:=F.f) hh po (wd d (List.mem_of_mem_drop (List.mem_of_mem_take hd))).s
  unfold wideW
  rw [← hf]
  omega
 unfold together wides
 rw [List.length_map,List.length_map]
 omega
theorem foot_low {F1:Frm} {d:Wd} (hf:F.f=F1.f) (hh:F.h≤F1.h) (hw:F.w=F1.w) (po:PlsOk F.h xs) (wd:WdOk xs.length d) (no:∀ s ∈ d.foot,((saidL F1.h F1.f xs s).length:Int)≤F1.w) : highW F xs d≤highW F1 xs d:=by
 unfold highW
 rw [high_eq,high_eq,hw]
 refine high_low hh (by simp) (fun k hk=>?_) (fun t ht=>?_) (any_no fun t ht=>?_)
 ·simp only [List.length_map] at hk
  rw [List.getD_eq_getElem?_getD,List.getElem?_map,List.getElem?_map,List.getElem?_eq_getElem hk,List.getD_eq_getElem?_getD,List.getElem?_map,List.getElem?_map,List.getElem?_eq_getElem hk]
  have:=said_high (f:=F.f) hh po (wd.f _ (List.getElem_mem hk))
  show ((saidL F.h F.f xs d.foot[k]).length:Int)≤((saidL F1.h F1.f xs d.foot[k]).length:Int)
  rw [← hf]
  omega
 ·obtain ⟨u,_,rfl⟩:=List.mem_map.mp ht
  omega
 ·obtain ⟨u,hu,rfl⟩:=List.mem_map.mp ht
  obtain ⟨s,hs,rfl⟩:=List.mem_map.mp hu
  exact no s hs
theorem fit_high {F2:Frm} {W T:Int} (S:Szd F2 ds xs ds.length W T) (hf:F.f=F2.f) (hh:F.h≤F2.h) (hw:F.w=F2.w) (po:PlsOk F.h xs) (wd:∀ d ∈ ds,WdOk xs.length d) (no:∀ d ∈ ds,∀ s ∈ d.foot,((saidL F2.h F2.f xs s).length:Int)≤F2.w) (ht:T≤F.h) (hk:k < ds.length) : ∀ j,j≤k→(∀ n,j≤n→n≤k→(xAt xs n).1=(xAt xs k).1)→(xAt xs k).2+1+(highs F ds xs j k).sum≤F.h:=fun j hj hn=>by
 have s:=S.high k hk j hj hn
 have s1:(highs F ds xs j k).sum≤(highs F2 ds xs j k).sum:=by
  unfold highs
  refine sum_le _ fun d hd=>?_
  have hm:=List.mem_of_mem_drop (List.mem_of_mem_take hd)
  exact foot_low hf hh hw po (wd d hm) (no d hm)
 omega
structure Fits (F:Frm) (ds:List Wd) (xs:List (Int × Int)) : Prop where
 len:ds.length=xs.length
 wide:∀ k,k < ds.length→∀ j,j≤k→(∀ n,j≤n→n≤k→xAt xs n=xAt xs k)→together (wides F ds xs j k)≤F.w
 high:∀ k,k < ds.length→∀ j,j≤k→(∀ n,j≤n→n≤k→(xAt xs n).1=(xAt xs k).1)→(xAt xs k).2+1+(highs F ds xs j k).sum≤F.h
 pg:Pages F.m xs
 po:PlsOk F.h xs
theorem Fits.of {F1 F2:Frm} {W1 T1 W2 T2 b:Int} (S1:Szd F1 ds xs ds.length W1 T1) (S2:Szd F2 ds xs ds.length W2 T2) (R:Ris b xs) (l:ds.length=xs.length) (n4:ds.length≤400) (b1:1≤b) (wd:∀ d ∈ ds,WdOk ds.length d)
  (f1:F.f=F1.f) (f2:F.f=F2.f) (h1:F1.h=b+feetN ds) (h2:F2.h=F1.h) (w2:F.w=F2.w) (ww:W1≤F.w) (hb:b≤F.h) (hm:F.h≤F1.h) (ht:(if T2 < F1.h then T2 else F1.h)≤F.h) (pg:Pages F.m xs) : Fits F ds xs:=by
 have po:=ris_pls (h:=F.h) R hb (by omega)
 have wdx:∀ d ∈ ds,WdOk xs.length d:=fun d hd=>by have:=wd d hd; rwa [l] at this
 have no:∀ k,k < ds.length→∀ s ∈ (dAt ds k).foot,((saidL F2.h F2.f xs s).length:Int)≤F2.w:=fun k hk s hs=>by
  have:=S1.foot k hk s hs
  rw [h2,← f2,f1,← w2]
  omega
 have no2:∀ d ∈ ds,∀ s ∈ d.foot,((saidL F2.h F2.f xs s).length:Int)≤F2.w:=fun d hd s hs=>by
  obtain ⟨i,hi,rfl⟩:=List.mem_iff_getElem.mp hd
  have e:dAt ds i=ds[i]:=by
   show ds.getD i wd0=_
   rw [List.getD_eq_getElem?_getD,List.getElem?_eq_getElem hi]
   rfl
  exact no i hi s (by rw [e]; exact hs)
 have tl:=szd_low S2 R l b1 no
 refine ⟨l,fun k hk=>fit_wide S1 f1 hm po wdx ww hk,fun k hk=>fit_high S2 f2 (by omega) w2 po wdx no2 ?_ hk,pg,po⟩
 split at ht <;> omega
end
def PtAt (K:PySem.W.Frag) (H:Hp) (a:Addr) (d:Wd) : Prop:=∃ (sa fo:Addr) (bs:List Addr),SqT K H a [.ref sa,.ref fo]∧SqT K H sa (sayV d.say)∧SqL K H fo (bs.map V.ref)∧SaysA K H bs d.foot
theorem PtAt.same {K:PySem.W.Frag} {H H':Hp} {a:Addr} {d:Wd} (s:Same H H') (h:PtAt K H a d) : PtAt K H' a d:=by
 obtain ⟨sa,fo,bs,h1,h2,h3,h4⟩:=h
 exact ⟨sa,fo,bs,s.tup h1,s.tup h2,s.seq h3,h4.same s⟩
def PtsA (K:PySem.W.Frag) (H:Hp) (as:List Addr) (ds:List Wd) : Prop:=as.length=ds.length∧∀ (i:Nat) a d,as[i]? = some a→ds[i]? = some d→PtAt K H a d
theorem PtsA.same {K:PySem.W.Frag} {H H':Hp} {as:List Addr} {ds:List Wd} (s:Same H H') (h:PtsA K H as ds) : PtsA K H' as ds:=⟨h.1,fun i a d e e'=>(h.2 i a d e e').same s⟩
theorem PtsA.nil {K:PySem.W.Frag} {H:Hp} : PtsA K H [] []:=⟨rfl,fun i a x e _=>by simp at e⟩
theorem PtsA.snoc {K:PySem.W.Frag} {H:Hp} {as:List Addr} {ds:List Wd} {a:Addr} {d:Wd} (h:PtsA K H as ds) (hx:PtAt K H a d) : PtsA K H (as++[a]) (ds++[d]):=by
 refine ⟨by simp [h.1],fun i b y e e'=>?_⟩
 by_cases hi:i < as.length
 ·rw [List.getElem?_append_left hi] at e
  rw [List.getElem?_append_left (by rw [← h.1]; exact hi)] at e'
  exact h.2 i b y e e'
 ·rw [List.getElem?_append_right (by omega)] at e
  rw [List.getElem?_append_right (by rw [← h.1]; omega),← h.1] at e'
  cases c:i - as.length with
  | zero=>rw [c] at e e'; cases e; cases e'; exact hx
  | succ n=>rw [c] at e; simp at e
theorem er1_sub {H H2:Hp} {wa:Addr} (s:Same H H2) (h:H wa=none) : Same H (er1 H2 wa):=fun b o e=>by
 rw [er1_at (ne_of_none e h)]
 exact s b o e
def LysA (K:PySem.W.Frag) (H:Hp) (as:List Addr) (xss:List (List (Int × Int))) : Prop:=as.length=xss.length∧∀ (i:Nat) a xs,as[i]? = some a→xss[i]? = some xs→LwAt K H a xs
theorem LysA.same {K:PySem.W.Frag} {H H':Hp} {as:List Addr} {xss:List (List (Int × Int))} (s:Same H H') (h:LysA K H as xss) : LysA K H' as xss:=⟨h.1,fun i a d e e'=>(h.2 i a d e e').same s⟩
def WdT (K:PySem.W.Frag) (H0 H:Hp) (a:Addr) (d:Wd) : Prop:=∃ (sa fo:Addr) (bs:List Addr),SqT K H a [.int d.lead,.bl d.kept,.ref sa,.ref fo]∧SqT K H sa (sayV d.say)∧SqL K H0 fo (bs.map V.ref)∧SaysA K H0 bs d.foot
def WdsT (K:PySem.W.Frag) (H0 H:Hp) (as:List Addr) (ds:List Wd) : Prop:=as.length=ds.length∧∀ (i:Nat) a d,as[i]? = some a→ds[i]? = some d→WdT K H0 H a d
section
variable {K:PySem.W.Frag} {H0 H H':Hp} {as:List Addr} {ds:List Wd}
theorem WdT.same {a:Addr} {d:Wd} (s:Same H H') (h:WdT K H0 H a d) : WdT K H0 H' a d:=by
 obtain ⟨sa,fo,bs,h1,h2,h3,h4⟩:=h
 exact ⟨sa,fo,bs,s.tup h1,s.tup h2,h3,h4⟩
theorem WdT.lst {a l:Addr} {d:Wd} {ys zs:List V} (e:H l=some (.lst ys)) (h:WdT K H0 H a d) : WdT K H0 (upd H l (.lst zs)) a d:=by
 obtain ⟨sa,fo,bs,h1,h2,h3,h4⟩:=h
 exact ⟨sa,fo,bs,SqT.lst e h1,SqT.lst e h2,h3,h4⟩
theorem WdT.at {a:Addr} {d:Wd} (s:Same H0 H) (h:WdT K H0 H a d) : WdAt K H a d:=by
 obtain ⟨sa,fo,bs,h1,h2,h3,h4⟩:=h
 exact ⟨sa,fo,bs,h1,h2,s.seq h3,h4.same s⟩
theorem WdAt.t {a:Addr} {d:Wd} (s:Same H0 H) (h:WdAt K H0 a d) : WdT K H0 H a d:=by
 obtain ⟨sa,fo,bs,h1,h2,h3,h4⟩:=h
 exact ⟨sa,fo,bs,s.tup h1,s.tup h2,h3,h4⟩
theorem WdsT.same (s:Same H H') (h:WdsT K H0 H as ds) : WdsT K H0 H' as ds:=⟨h.1,fun i a d e e'=>(h.2 i a d e e').same s⟩
theorem WdsT.lst {l:Addr} {ys zs:List V} (e:H l=some (.lst ys)) (h:WdsT K H0 H as ds) : WdsT K H0 (upd H l (.lst zs)) as ds:=⟨h.1,fun i a d e1 e2=>(h.2 i a d e1 e2).lst e⟩
theorem WdsT.at (s:Same H0 H) (h:WdsT K H0 H as ds) : WdsA K H as ds:=⟨h.1,fun i a d e e'=>(h.2 i a d e e').at s⟩
theorem WdsA.t (s:Same H0 H) (h:WdsA K H0 as ds) : WdsT K H0 H as ds:=⟨h.1,fun i a d e e'=>(h.2 i a d e e').t s⟩
theorem WdsT.set {a:Addr} {d:Wd} (h:WdsT K H0 H as ds) (k:Nat) (hx:WdT K H0 H a d) : WdsT K H0 H (as.set k a) (ds.set k d):=by
 refine ⟨by simp [h.1],fun i b y e e'=>?_⟩
 rw [List.getElem?_set] at e e'
 by_cases c:k=i
 ·rw [if_pos c] at e e'
  split at e
  ·cases e
   split at e'
   ·cases e'
    exact hx
   ·cases e'
  ·cases e
 ·rw [if_neg c] at e e'
  exact h.2 i b y e e'
end
section
variable {X:Cx}
end
structure Grown (ds ns:List Wd) (a r:Nat) : Prop where
 len:ns.length=ds.length+r
 at1:a≤ds.length
 w:∀ k,k < ds.length→mvW a r (dAt ds k)=dAt ns (gI a r k)
 kept:a < ds.length→(dAt ds a).kept=true→∀ q,a≤q→q < a+r→(dAt ns q).kept=true
section
variable {prog:Program} {w:World} {A:Around} {E:Value→Shared→Prop} {s:Shared}
end
section
variable {X:Cx} {pos:Pos}
end
section
variable {X:Cx} {elt iter:Expr} {ifs:List Expr} {scope:Scope} {cl:List (Str × Addr)} {pos px py tp:Pos} {k1:Nat} {x y:Str} {caps:List Str} {js:List Nat} {tc:TT} {te:TE} {wi:TI}
def g2 (K:PySem.W.Frag) : TG:=gTup K 2 (gCons (gName 0) (gCons (gName 1) gNil))
end
end L2

set_option maxHeartbeats 4000000
namespace L2
open PySem PySem.W PySem.Calls PySem.Spec PyProof.Rows Builtin Builtin.ObjectAttr Builtin.Getset_descriptor
def ExcAt (h:Heap) (x C:Addr) : Prop:=∃ o,h.get? x=some o∧o.cls = .ref C
section
variable {prog:Program} {w:World} {A:Around} {E:Value→Shared→Prop} {h:Heap} {g:Array GenState} {d:Drawn} {t:Nat} {os:OsState} {K:Frag} {x C:Addr}
theorem ExcAt.type {M:Model} (I:ExcAt h x C) : PySem.W.Looks M h (typeOf (.ref x)) (.ref C):=by
 obtain ⟨ob,hob,hobc⟩:=I
 have z:PySem.W.Looks M h (typeOf (.ref x)) ob.cls:=(PySem.W.Looks.ld hob).andThen .now
 rw [hobc] at z
 exact z
theorem exc_check {M:Model} {nameV:Value} {Q:Unit→Shared→Prop} (X:K.In h) (I:ExcAt h x C) (hb:subIn K (.ref C) (.type "BaseException")=some true) (hq:Q () ⟨h,g,d,t,os⟩) : wpAny M A (checkBuiltinCall "BaseException.__getattribute__" ⟨[.ref x,nameV],[]⟩) Q E ⟨h,g,d,t,os⟩:=by
 have hk:builtinKind "BaseException.__getattribute__" = some .slot:=by decide +kernel
 have hsplit:splitId "BaseException.__getattribute__" = some ("BaseException","__getattribute__"):=by decide +kernel
 have ha:=PySem.F.args_bexc_ga (.ref x) nameV
 have L0:=I.type (M:=M)
 have L1:=looks_subIn (M:=M) X hb
 have LI:PySem.W.Looks M h (isInstance (.ref x) (.type "BaseException")) true:=L0.andThen L1
 simp only [checkBuiltinCall,hk,hsplit]
 refine wpAny_bind (LI.at ?_)
 repeat (first | assumption | wp_step)
theorem exc_get {R:Result→Shared→Prop} {tp:Value} (X:K.In h) (I:ExcAt h x C) (hm:mroIn K C (.type "object")=some true)
  (hq:R (.ok (.ret (.ref C))) ⟨h,g,d,t,os⟩) : codeAny (model prog w) A (.call (.builtin "getset_descriptor.__get__") ⟨[.builtin "object.__class__",.ref x,tp],[]⟩) R ⟨h,g,d,t,os⟩:=by
 have L0:=I.type (M:=model prog w)
 have L1:=looks_mroIn (M:=model prog w) X hm
 refine codeAny_call_builtin KF.slot_gs.plain KF.entry_gs (KF.slot_gs.check _ _ _ _ _ _ _ _ KF.type_class (KF.args_gs _ _ _) ?_)
 unfold Builtin.«getset_descriptor.__get__» descrGet
 rw [dga_obj]
 refine wpAny_bind (wpAny_pure ?_)
 unfold descrGetter descrCheckInstance descrNameAndClass isInstance
 simp only [KF.owner_class]
 repeat lk
 refine ⟨Code.quiet_builtin _ (by decide +kernel),codeAny_builtin KF.entry_class ?_⟩
 unfold Builtin.«object.__class__» shownTypeOf
 repeat lk
 exact hq
theorem exc_entry {tk:Tok} {Q:Fin→Shared→Prop} (X:K.In h) (I:ExcAt h x C) (hcl:findIn K (.ref C) "__class__" = some (some (.builtin "object.__class__"))) (hm:mroIn K C (.type "object")=some true) (hq:Q (.done (.ret (.ref C))) ⟨h,g,d,t,os⟩) :
  wpAny (model prog w) A (Builtin.«object.__getattribute__» ⟨[.ref x,.str "__class__" tk],[]⟩) Q E ⟨h,g,d,t,os⟩:=by
 have hT5:(⟨h,g,d,t,os⟩ : Shared).TypeIs (.builtin "object.__class__") "getset_descriptor":=PySem.F.typeOf_object_class
 have f5:=PySem.F.typeOf_object_class
 have f6:=PySem.F.slot_gs_get.lookup
 have f7:=PySem.F.slot_gs_set.lookup
 have L0:=I.type (M:=model prog w)
 have L1:=looks_findIn (M:=model prog w) X hcl
 obtain ⟨o,hx,hc⟩:=id I
 repeat (any_goals (first | assumption | (with_reducible refine wpAny_loadPart_at hx ?_; rw [hc]) | with_reducible refine Looks.at L0 ?_ | with_reducible refine Looks.at L1 ?_ | wp_step))
 refine exc_get X I hm ?_
 repeat (any_goals (first | assumption | wp_step))
theorem exc_call {tk:Tok} {R:Result→Shared→Prop} (X:K.In h) (I:ExcAt h x C) (hcl:findIn K (.ref C) "__class__" = some (some (.builtin "object.__class__"))) (hm:mroIn K C (.type "object")=some true) (hb:subIn K (.ref C) (.type "BaseException")=some true) (hq:R (.ok (.ret (.ref C))) ⟨h,g,d,t,os⟩) :
  codeAny (model prog w) A (.call (.builtin "BaseException.__getattribute__") ⟨[.ref x,.str "__class__" tk],[]⟩) R ⟨h,g,d,t,os⟩:=
 codeAny_call_builtin (by decide +kernel) PySem.F.entry_bexc_ga (exc_check X I hb (exc_entry X I hcl hm hq))
theorem exc_by {tk:Tok} {Q:Value→Shared→Prop} (X:K.In h) (I:ExcAt h x C) (hga:findIn K (.ref C) "__getattribute__" = some (some (.builtin "BaseException.__getattribute__"))) (hgt:findIn K (.ref C) "__getattr__" = some none) (hcl:findIn K (.ref C) "__class__" = some (some (.builtin "object.__class__"))) (hm:mroIn K C (.type "object")=some true) (hb:subIn K (.ref C) (.type "BaseException")=some true) (hq:Q (.ref C) ⟨h,g,d,t,os⟩) :
  wpAny (model prog w) A (getAttrBy (.ref x) (.str "__class__" tk) false false) Q E ⟨h,g,d,t,os⟩:=by
 have f3:=PySem.F.attr_ValueError.ga.bind (.ref x)
 have hx2:(Value.builtin "BaseException.__getattribute__" == Value.builtin "object.__getattribute__")=false:=by decide +kernel
 have hx1:(onTheHeap (Value.ref C) && Value.builtin "BaseException.__getattribute__" == Value.builtin "object.__getattribute__")=false:=by rw [hx2]; rfl
 have L0:=I.type (M:=model prog w)
 have L1:=looks_findIn (M:=model prog w) X hga
 have L2:=looks_findIn (M:=model prog w) X hgt
 obtain ⟨o,hx,hc⟩:=id I
 repeat (any_goals (first | assumption | (with_reducible refine wpAny_loadPart_at hx ?_; rw [hc]) | with_reducible refine Looks.at L0 ?_ | with_reducible refine Looks.at L1 ?_ | with_reducible refine Looks.at L2 ?_ | wp_step))
 refine exc_call X I hcl hm hb ?_
 repeat (any_goals (first | assumption | wp_step))
theorem exc_attr {Q:Option Value→Shared→Prop} (X:K.In h) (I:ExcAt h x C) (hga:findIn K (.ref C) "__getattribute__" = some (some (.builtin "BaseException.__getattribute__"))) (hgt:findIn K (.ref C) "__getattr__" = some none) (hcl:findIn K (.ref C) "__class__" = some (some (.builtin "object.__class__"))) (hm:mroIn K C (.type "object")=some true) (hb:subIn K (.ref C) (.type "BaseException")=some true) (hq:Q (some (.ref C)) ⟨h,g,d,t+1,os⟩) :
  wpAny (model prog w) A (getAttr? (.ref x) "__class__") Q E ⟨h,g,d,t,os⟩:=by
 unfold getAttr? getAttrBy?
 repeat (any_goals (first | assumption | with_reducible apply exc_by X I hga hgt hcl hm hb | wp_step))
end
def excLk (K:Frag) (C:Addr) : Bool:=(clsIn K C).isSome && findIn K (.ref C) "__getattribute__" == some (some (.builtin "BaseException.__getattribute__")) && findIn K (.ref C) "__getattr__" == some none && findIn K (.ref C) "__class__" == some (some (.builtin "object.__class__")) && mroIn K C (.type "object") == some true && subIn K (.ref C) (.type "BaseException") == some true
theorem kitx_exc {K:Frag} {x C:Addr} (e:excLk K C=true) : KitX K (.ref x) (.ref C) (fun h=>ExcAt h x C):=by
 unfold excLk at e
 simp only [Bool.and_eq_true,beq_iff_eq] at e
 obtain ⟨⟨⟨⟨⟨e0,e1⟩,e2⟩,e3⟩,e4⟩,e5⟩:=e
 refine ⟨fun _ _ _ I=>I.type,fun _ _ X _=>?_,fun h tp dd its n sl X htp=>?_,fun {prog w A E Q s} X I k=>?_⟩
 ·unfold clsIn at e0
  split at e0
  ·rename_i c' d' cd' sl' ho
   intro A' Q' E' s' k q
   unfold isType loadHead
   exact wpAny_bind (wpAny_loadPart (k _ _ (X _ _ ho)) (wpAny_pure q))
  ·cases e0
 ·refine Bool.eq_false_iff.mpr fun q=>?_
  have e:C=tp:=Value.ref.inj (beq_iff_eq.mp q)
  subst e
  unfold clsIn at e0
  split at e0
  ·rename_i c' d' cd' sl' ho
   have z:=(X _ _ ho).symm.trans htp
   cases z
  ·cases e0
 ·obtain ⟨h,g,d,t,os⟩:=s
  exact exc_attr X I e1 e2 e3 e4 e5 k
end L2

namespace L2
open PySem PySem.W PySem.Spec PyProof.Rows
def excO (x C:Addr) : HO:=.ext fun h=>ExcAt h x C
section
variable {X:Cx} {pins:List (Addr × Obj)} {σ:St} {H:Hp} {s:Shared}
theorem ObjOk.there {P:Program} {w:World} {H:Hp} {h:Heap} {a:Addr} {o:HO} (z:ObjOk P w H h a o) : ∃ ob,h.get? a=some ob:=by
 induction o with
 | lst xs=>obtain ⟨_,_,_,_,e⟩:=z; exact ⟨_,e⟩
 | tup xs=>obtain ⟨_,_,_,ob,e,_⟩:=z; exact ⟨_,e⟩
 | dK kvs=>obtain ⟨_,_,_,_,ob,_,_,e,_⟩:=z; exact ⟨_,e⟩
 | dT kvs=>obtain ⟨_,_,_,_,ob,_,_,e,_⟩:=z; exact ⟨_,e⟩
 | set S n=>obtain ⟨ob,_,_,_,e,_⟩:=z; exact ⟨_,e⟩
 | ins C dx fs=>obtain ⟨_,_,_,e,_⟩:=z; exact ⟨_,e⟩
 | own y=>obtain ⟨_,e⟩:=z; exact ⟨_,e⟩
 | xd fs=>obtain ⟨_,⟨_,_,_,e,_⟩,_⟩:=z; exact ⟨_,e⟩
 | rng lo hi=>obtain ⟨_,_,_,e⟩:=z; exact ⟨_,e⟩
 | frz ob u ih=>obtain ⟨e,_⟩:=z; exact ⟨_,e⟩
 | tbl ps=>exact ⟨_,(show h.get? a=some _ from z)⟩
 | met f y=>exact ⟨_,(show h.get? a=some _ from z)⟩
 | ext φ=>obtain ⟨_,⟨_,e⟩,_⟩:=z; exact ⟨_,e⟩
theorem Inv.trackX {x C:Addr} (I:Inv X pins σ H s) (ex:ExcAt s.heap x C) (hn:H x=none) (h0:∀ o,X.s₀.heap.get? x=some o→x ∈ X.ex) (hL:x≠X.env.locals) (hc:∀ y c,X.env.cells.lookup y=some c→c≠x) (hp:∀ p ∈ X.pn++pins,p.1≠x) : Inv X pins σ (upd H x (excO x C)) s:=by
 refine ⟨I.ok,I.os,I.bare,⟨I.base.keep,I.base.slot,fun b o q n hx=>?_,I.base.there,fun b xs q=>?_,fun b o u q=>?_,fun b ps q=>?_⟩,I.loc,I.cell,?_,fun y c e=>?_,fun p h=>?_,fun b ob q=>?_,I.len⟩
 ·have nb:b≠x:=fun e=>by subst e; exact hx (h0 o q)
  rw [upd_ne nb]
  exact I.base.free b o q n hx
 ·have z:=I.base.tups b xs q
  rw [upd_ne (fun e=>by rw [e,hn] at z; cases z)]
  exact z
 ·have z:=I.base.frzs b o u q
  rw [upd_ne (fun e=>by rw [e,hn] at z; cases z)]
  exact z
 ·obtain ⟨more,z⟩:=I.base.tbls b ps q
  exact ⟨more,by rw [upd_ne (fun e=>by rw [e,hn] at z; cases z)]; exact z⟩
 ·rw [upd_ne (Ne.symm hL)]
  exact I.free
 ·rw [upd_ne (hc y c e)]
  exact I.freeC y c e
 ·obtain ⟨z1,z2,z3,z4,z5⟩:=I.pin p h
  exact ⟨z1,by rw [upd_ne (hp p h)]; exact z2,z3,z4,z5⟩
 ·by_cases e:b=x
  ·subst e
   rw [upd_same] at q
   cases q
   obtain ⟨o,e1,e2⟩:=id ex
   exact ⟨ex,⟨o,e1⟩,fun h1 h2 p k=>by obtain ⟨o,f1,f2⟩:=p; exact ⟨o,k o f1,f2⟩⟩
  ·rw [upd_ne e] at q
   refine (I.hok b ob q).stay (fun c v _ z=>z) (fun c z=>?_) (fun c xs z=>?_)
   ·rw [upd_ne (fun e=>by rw [e,hn] at z; cases z)]; exact z
   ·rw [upd_ne (fun e=>by rw [e,hn] at z; cases z)]; exact z
theorem goes_ok {M:Model} {A:Around} {E:Value→Shared→Prop} {i:Nat} {x:Str} {pos:Pos} {Q:Unit→Shared→Prop} (I:Inv X pins σ H s) (hN:X.N.Nodup) (hi:X.N[i]? = some x) (hk:X.env.kindOf x=some .local)
  (h:∀ s',Inv X pins (σ.set i none) H s'→Q () s') : wpAny M A (do bindName X.env x .none; unbindBehindTheSuite X.env x pos) Q E s:=by
 obtain ⟨m,hn,hl⟩:=id I.loc
 have hcls:(X.env.scope.kind == .class || (X.env.scope.kind == .module && X.env.locals != X.env.globals))=false:=by rw [I.ok.kind]; rfl
 have hiσ:i < σ.length:=by rw [I.len]; exact (List.getElem?_eq_some_iff.mp hi).1
 have cne:=I.cne
 have tracked:∀ {a:Addr} {h':Heap},(∃ o,s.heap.get? a=some o∧H a=none)→Heap.SameBut a s.heap h'→HOk X.prog X.w H h':=fun {a h'} ha hs b ob e=>by
  obtain ⟨_,_,hfree⟩:=ha
  refine (I.hok b ob e).stay (fun c w' hc q=>(hs.2 c ?_).trans q) (fun _ q=>q) fun _ _ q=>q
  rintro rfl
  rcases hc with rfl | hc
  ·rw [hfree] at e; cases e
  ·rw [hfree] at hc; cases hc
 refine wpAny_nameGoes_keeps hk hn hcls (fun h' v hn' hs=>?_)
 obtain ⟨oL,_,_,hoL,_⟩:=id hn
 refine h _ ⟨I.ok,I.os,I.bare,⟨fun b o e n hb hx=>?_,fun b o e n hb hx=>?_,I.base.free,fun b o e hx=>?_,I.base.tups,I.base.frzs,I.base.tbls⟩,⟨_,hn',fun j y v' e1 e2 e3=>?_⟩,fun y c e=>?_,I.free,I.freeC,fun p hp=>?_,tracked ⟨oL,hoL,I.free⟩ hs,by simpa using I.len⟩
 ·exact (hs.2 b (Nat.ne_of_lt (Nat.lt_of_lt_of_le (Heap.lt_size e) I.ok.above))).trans (I.base.keep b o e n hb hx)
 ·obtain ⟨sl,e1⟩:=I.base.slot b o e n hb hx
  exact ⟨sl,(hs.2 b (Nat.ne_of_lt (Nat.lt_of_lt_of_le (Heap.lt_size e) I.ok.above))).trans e1⟩
 ·obtain ⟨o',e1⟩:=I.base.there b o e hx
  exact ⟨o',(hs.2 b (Nat.ne_of_lt (Nat.lt_of_lt_of_le (Heap.lt_size e) I.ok.above))).trans e1⟩
 ·by_cases hj:j=i
  ·subst hj
   rw [List.getElem?_set_self hiσ] at e2
   cases e2
  ·rw [List.getElem?_set_ne (Ne.symm hj)] at e2
   obtain ⟨u',r',q⟩:=hl j y v' e1 e2 e3
   refine ⟨u',r',?_⟩
   rcases q with ⟨k,e⟩ | ⟨k,c,e,z⟩
   ·refine .inl ⟨k,?_⟩
    have:y≠x:=fun e=>hj (nodup_ix hN e1 (e ▸ hi))
    simp [this,e]
   ·exact .inr ⟨k,c,e,z.sameBut hs (cne y c e)⟩
 ·obtain ⟨w',z⟩:=I.cell y c e
  exact ⟨w',z.sameBut hs (cne y c e)⟩
 ·obtain ⟨e,n,ne,nf,d⟩:=I.pin p hp
  exact ⟨(hs.2 p.1 ne).trans e,n,ne,nf,d⟩
end
def offD (D:Ends) (i:Nat) : Ends:={ nx:=fun σ H=>D.nx (σ.set i none) H,rt:=D.rt,bk:=fun σ H=>D.bk (σ.set i none) H,ct:=fun σ H=>D.ct (σ.set i none) H }
section
variable {X:Cx} {k:Nat} {f T:Addr} {fd:FuncData} {ps:List Str} {sp:Sp} {fx c n:Str} {i:Nat} {st:Stmt} {e:Expr} {es:List Expr} {t:TA} {b₀:Stmt} {suite:List Stmt} {th:TS} {np pf cpos apos hpos pos:Pos}
theorem caught_as {pins:List (Addr × Obj)} {σ:St} {H1 H':Hp} {s1 s2:Shared} {D:Ends} {x C:Addr} {B:Heap} {a0:Value} {E2:Value→Shared→Prop} (I1:Inv X pins σ H1 s1) (hst:X.stack=X.env :: X.outer∧X.env.frame=some X.env.locals)
  (os:s2.os=s1.os) (bare:AllBare s2.gens) (un:Un (frs X.stack) [] H1 H' s1.heap s2.heap) (hok:HOk X.prog X.w H' B)
  (cov1:∀ b o,s1.heap.get? b=some o→H1 b=none→b ∉ frs X.stack→B.get? b=some o) (cov2:∀ b o,s1.heap.get? b=some o→b ∉ frs X.stack→∃ o',B.get? b=some o') (fl:Heap.FlyingW B X.stack x (.ref C) a0 s2.heap)
  (hN:X.N.Nodup) (hi:X.N[i]? = some n) (hk:X.env.kindOf n=some .local)
  (hg:Gl X c) (hm:X.mg c=some (.ref T)) (tk:Takes X.K C T) (hh:∀ v,PSs (X.marked v) (b₀ :: suite) th) (q:∀ x,H' x=none→th (offD D i) (σ.set i (some (.ref x))) (upd H' x (excO x C))) (hd:(c == ("__debug__" : Str))=false:=by decide) :
  wpAny (model X.prog X.w) X.A (noteFrame (.ref x) X.env) (fun _ s₂=>wpAny (model X.prog X.w) X.A (setFlight (.ref x) none) (fun _ s₃=>wpAny (model X.prog X.w) X.A (handleBy (.ref x) X.env [.ExceptHandler (some (.Name c np)) (some n) (b₀ :: suite) hpos]) (SP X pins D) E2 s₃) E2 s₂) E2 s2:=by
 have hfr:X.A.frames=some (X.env :: X.outer):=hst.1 ▸ I1.ok.frames
 have after:∀ h6:Heap,Heap.FlyingW B X.stack x (.ref C) a0 h6→s2.heap.UpToSlots h6→Inv X pins σ H' { s2 with heap:=h6 }:=fun h6 fl6 up=>by
  refine I1.call' (ch:=[]) os ⟨fun b o q n hb _=>fl6.1 b o (cov1 b o q n hb),fun b o q n hb hx'=>?_,un.free,fun b o q _=>?_,un.tups,un.frzs,un.tbls⟩ (hok.kept fl6.1) bare (fun b z=>absurd z (by simp))
  ·obtain ⟨sl,e1⟩:=un.slot b o q n hb hx'
   obtain ⟨_,o3,e3,nd⟩:=fl.2.2.1.mem hb
   rw [e1] at e3
   cases e3
   obtain ⟨sl3,e4⟩:=up b _ e1 nd
   exact ⟨sl3,e4⟩
  ·by_cases hb:b ∈ frs X.stack
   ·obtain ⟨_,o3,e3,_⟩:=fl6.2.2.1.mem hb
    exact ⟨o3,e3⟩
   ·obtain ⟨o',e⟩:=cov2 b o q hb
    exact ⟨o',fl6.1 b o' e⟩
 have flx:=fl
 rw [hst.1] at fl
 refine wpAny_looks_onW hfr hst.2 fl fun h₄ held up4=>?_
 refine wpAny_landsW held fun h₅ fl5 up5=>?_
 have fl5':Heap.FlyingW B X.stack x (.ref C) a0 h₅:=hst.1 ▸ fl5
 have I5:=after h₅ fl5' (up4.trans up5)
 have I5m:=I5.marked (.ref x)
 refine wpAny_handleBy_cons (codeAny_handlers_test (ld_glob (X:=X.marked (.ref x)) I5m hg hm ?_ hd)) (by intro q; cases q)
 obtain ⟨ob,hob,hobc⟩:=fl5.there
 have LT:PySem.W.Looks (model X.prog X.w) h₅ (typeOf (.ref x)) (.ref C):=by
  have z:PySem.W.Looks (model X.prog X.w) h₅ (typeOf (.ref x)) ob.cls:=(PySem.W.Looks.ld hob).andThen .now
  rw [hobc] at z
  exact z
 refine (PySem.W.exm_one (M:=model X.prog X.w) (I5.kIn) LT tk).here ?_
 refine codeAny_handlers_suite_as ?_
 refine lands_againW fl5 fun h₆ fl6 up6=>?_
 have fl6':Heap.FlyingW B X.stack x (.ref C) a0 h₆:=hst.1 ▸ fl6
 have I6:=after h₆ fl6' ((up4.trans up5).trans up6)
 have hBx:B.get? x=none:=fl6'.2.1
 have hx0:H' x=none:=by
  cases hq:H' x with
  | none=>rfl
  | some o =>
   obtain ⟨ob2,z⟩:=(hok x o hq).there
   rw [hBx] at z
   cases z
 obtain ⟨oe,vs,T',oT,ts,he,hcl,hdat,_⟩:=fl6'.2.2.2
 have nofr:∀ b,b ∈ frs X.stack→b≠x:=fun b hb e=>by
  obtain ⟨_,o3,e3,nd⟩:=fl6'.2.2.1.mem hb
  rw [e,he] at e3
  cases e3
  exact nd _ hdat
 have I7:=(I6.trackX (x:=x) (C:=C) ⟨oe,he,hcl.1⟩ hx0 (fun o z=>by
   by_cases hx':x ∈ X.ex
   ·exact hx'
   ·obtain ⟨o',z'⟩:=I1.base.there x o z hx'
    obtain ⟨o2,z2⟩:=cov2 x o' z' (fun hb=>nofr x hb rfl)
    rw [hBx] at z2
    cases z2) (fun e=>by
   obtain ⟨m,⟨oL,es',ep,hoL,hdL,_⟩,_⟩:=I6.loc
   have hoL':h₆.get? X.env.locals=some oL:=hoL
   rw [← e,he] at hoL'
   cases hoL'
   rw [hdat] at hdL
   cases hdL) (fun y cc ec e=>by
   obtain ⟨v,oc,z1,z2⟩:=I6.cell y cc ec
   have z1':h₆.get? cc=some oc:=z1
   rw [e,he] at z1'
   cases z1'
   rw [hdat] at z2
   cases z2) (fun p hp e=>by
   obtain ⟨z1,z2,z3,z4,z5⟩:=I1.pin p hp
   have nf:p.1 ∉ frs X.stack:=fun hb=>by
    rcases List.mem_cons.mp (I1.stkSub p.1 hb) with z | z
    ·exact z3 z
    ·exact z4 z
   obtain ⟨o2,z6⟩:=cov2 p.1 p.2 z1 nf
   rw [e,hBx] at z6
   cases z6)).marked (.ref x)
 refine store_ok (X:=X.marked (.ref x)) I7 hN hi (.inl hk) (show RelV (.ref x) (.ref x) from rfl) (fun s8 I8=>?_) (.inr hk)
 refine wpAny_mono (hh (.ref x) pins _ _ _ (offD D i) I8 (q x hx0)) (fun fl s' h=>?_) fun _ _ z=>False.elim z
 have h':=h.unmarked I1.ok.hd
 show wpAny (model X.prog X.w) X.A (do bindName X.env n .none; unbindBehindTheSuite X.env n hpos) (fun _ s₃=>SP X pins D fl s₃) E2 s'
 cases fl with
 | next=>obtain ⟨σ',H2,J,z⟩:=h'; exact goes_ok J hN hi hk fun s3 J3=>⟨_,_,J3,z⟩
 | brk=>obtain ⟨σ',H2,J,z⟩:=h'; exact goes_ok J hN hi hk fun s3 J3=>⟨_,_,J3,z⟩
 | cont=>obtain ⟨σ',H2,J,z⟩:=h'; exact goes_ok J hN hi hk fun s3 J3=>⟨_,_,J3,z⟩
 | ret u=>obtain ⟨v,σ',H2,J,r,z⟩:=h'; exact goes_ok J hN hi hk fun s3 J3=>⟨_,_,_,J3,r,z⟩
def tTryAs (K:PySem.W.Frag) (sp:Sp) (t:TA) (T:Addr) (i:Nat) (th:TS) : TS:=fun D σ H=>t σ H fun vs H1=>sp (vs++[]) H1 (fun _ H2=>D.nx σ H2) (fun cls _ H2=>∃ C,cls = .ref C∧Takes K C T∧∀ x,H2 x=none→th (offD D i) (σ.set i (some (.ref x))) (upd H2 x (excO x C)))
theorem ps_try_as (hN:X.N.Nodup) (hi:X.N[i]? = some n) (hk:X.env.kindOf n=some .local) (Df:DefOk X.K X.mg fx st ps f fd) (G:FnOk X.prog X.w X.K X.mg X.base (CXe X.prog X.w) k f fd ps sp) (hr:Room k X.A) (hgf:Gl X fx)
  (ha:∀ W,PA (X.wish W) (e :: es) t) (hgc:Gl X c) (O:ExcOk X.K X.mg c T) (hst:X.stack=X.env :: X.outer∧X.env.frame=some X.env.locals) (hh:∀ v,PSs (X.marked v) (b₀ :: suite) th)
  (hs:swapsWith (.Call (.Name fx pf) (e :: es) [] cpos) none apos.line X.env=pure false:=by rfl)
  (hd:(fx == ("__debug__" : Str))=false:=by decide) (hdc:(c == ("__debug__" : Str))=false:=by decide) (he:starEach (e :: es) X.env=(false,eval e X.env) :: starEach es X.env:=by rfl) (hpl:(backTo cpos (starEach es X.env)).any (·.1)=false:=by rfl) :
  PS X (.Try [.Expr (.Call (.Name fx pf) (e :: es) [] cpos) apos] [.ExceptHandler (some (.Name c np)) (some n) (b₀ :: suite) hpos] [] [] pos) (tTryAs X.K sp t T i th):=by
 intro pins s σ H D I h
 refine wpAny_Try_except (wpAny_execs_cons (wpAny_Expr_any (thn (call_try I Df G hr hgf (ha _) h (fun H1 s1 ex s2 I1 hx=>?_) hd he hpl) fun v s1 ⟨y,H1,I1,r1,q1⟩=>?_) I.quiet hs))
 ·obtain ⟨x,C,H',B,a0,rfl,os,bare,un,hok,cov1,cov2,fl,C',ec,tk,q⟩:=hx
  cases ec
  exact caught_as I1 hst os bare un hok cov1 cov2 fl hN hi hk hgc O.mg tk hh q hdc
 ·exact wpAny_execs_nil (wpAny_execs_nil ⟨σ,H1,I1,q1⟩)
def rIsiX (K:PySem.W.Frag) (xs:List V) (H:Hp) (Q:V→Hp→Prop) : Prop:=∃ x C T b,xs=[.ref x,T]∧H x=some (excO x C)∧excLk K C=true∧((∃ a,T = .ref a∧PySem.W.kitOne K (.ref C) (.ref a)=some b)∨∃ m,T = .ty m∧PySem.W.kitOne K (.ref C) (.type m)=some b)∧Q (.bl b) H
theorem call_isiX {X:Cx} : CallR X (.builtin "isinstance") (rIsiX X.K):=by
 intro pins s σ H xs us Q I r h
 obtain ⟨x,C,T,b,rfl,hx,hl,hT,q⟩:=h
 obtain ⟨ho,_,_⟩:=(show ObjOk X.prog X.w H s.heap x (excO x C) from I.hok x _ hx)
 rcases hT with ⟨a,rfl,hb⟩ | ⟨m,rfl,hb⟩
 ·cases r with
  | cons r1 r2 =>
   cases r2 with
   | cons r3 r4 =>
    cases r4
    cases r1
    cases r3
    exact PySem.W.kia_one (kitx_exc hl) I.kIn ho hb (by intro z; cases z) fun tk=>⟨.bl b,H,I.tok tk,rfl,q⟩
 ·cases r with
  | cons r1 r2 =>
   cases r2 with
   | cons r3 r4 =>
    cases r4
    cases r1
    cases r3
    exact PySem.W.kia_one (kitx_exc hl) I.kIn ho hb (by intro z; cases z) fun tk=>⟨.bl b,H,I.tok tk,rfl,q⟩
end
theorem pass_never {P:Program} {w:World} {X:Cx} : Passes (CXe P w) X (fun _ _ _=>False):=by
 intro pins σ H1 s1 e s' I h
 obtain ⟨x,C,H',B,a0,rfl,os,bare,un,hok,cov1,cov2,fl,ee⟩:=h
 exact ee.elim
end L2

set_option maxHeartbeats 4000000
namespace L2
open PySem PySem.Spec PyProof.Rows Tl
open scoped Classical
theorem boot_ValueError:bootBuiltins "ValueError" = some (.type "ValueError"):=by decide +kernel
def GrT (F G:Frm) (ds ns:List Wd) (t r:Nat) : Prop:=F=G∧Grown ds ns t r∧∀ s,s < t→¬ Grown ds ns s r
theorem GrT.one {F G:Frm} {ds ns:List Wd} {t r t' r':Nat} (h:GrT F G ds ns t r) (g:GrT F G ds ns t' r') : t=t'∧r=r':=by
 have e:r=r':=by have a:=h.2.1.len; have b:=g.2.1.len; omega
 subst e
 refine ⟨?_,rfl⟩
 rcases Nat.lt_trichotomy t t' with c | c | c
 ·exact absurd h.2.1 (g.2.2 t c)
 ·exact c
 ·exact absurd g.2.1 (h.2.2 t' c)
theorem at4i {a b c d:Int} {k:Int} (h0:0≤k) (h1:k < 4) : ∃ v:Int,atI [V.int a,V.int b,V.int c,V.int d] k=some (V.int v)∧(v=a∨v=b∨v=c∨v=d):=by
 have:k=0∨k=1∨k=2∨k=3:=by omega
 rcases this with rfl | rfl | rfl | rfl
 ·exact ⟨a,rfl,.inl rfl⟩
 ·exact ⟨b,rfl,.inr (.inl rfl)⟩
 ·exact ⟨c,rfl,.inr (.inr (.inl rfl))⟩
 ·exact ⟨d,rfl,.inr (.inr (.inr rfl))⟩
theorem em4 (z:Int) : 0≤z % 4∧z % 4 < 4:=by omega
theorem emn {z n:Int} (h:0 < n) : ∃ k:Nat,z % n=(k:Int)∧(k:Int) < n:=⟨(z % n).toNat,by have:=Int.emod_nonneg z (show n≠0 by omega); omega,by have:=Int.emod_lt_of_pos z h; have:=Int.emod_nonneg z (show n≠0 by omega); omega⟩
def OwnW (K:PySem.W.Frag) (H:Hp) (wq:Addr) (wqs:List Addr) (ws:List Wd) : Prop:=H wq=some (.lst (wqs.map V.ref))∧WdsA K (er1 H wq) wqs ws
theorem OwnW.all {K:PySem.W.Frag} {H:Hp} {wq:Addr} {wqs:List Addr} {ws:List Wd} (h:OwnW K H wq wqs ws) : WdsA K H wqs ws:=h.2.same (er1_same _ _)
theorem OwnW.same {K:PySem.W.Frag} {H H':Hp} {wq:Addr} {wqs:List Addr} {ws:List Wd} (h:OwnW K H wq wqs ws) (s:Same H H') : OwnW K H' wq wqs ws:=⟨s _ _ h.1,h.2.same (er1_mono s)⟩
theorem OwnW.new {K:PySem.W.Frag} {H:Hp} {p:Addr} {wqs:List Addr} {ws:List Wd} (hp:H p=none) (h:WdsA K H wqs ws) : OwnW K (upd H p (.lst (wqs.map V.ref))) p wqs ws:=⟨upd_same,h.same (er1_sub (same_new hp _) hp)⟩
theorem OwnW.put {K:PySem.W.Frag} {H:Hp} {wq:Addr} {wqs:List Addr} {ws:List Wd} (h:WdsA K (er1 H wq) wqs ws) : OwnW K (upd H wq (.lst (wqs.map V.ref))) wq wqs ws:=⟨upd_same,by rw [er1_put]; exact h⟩
def Slk (xs:List (Int × Int)) (n:Nat) : Prop:=∀ x ∈ xs,x.1≤10 ^ 60 - 900+3 * (n:Int)
theorem Slk.snoc {xs:List (Int × Int)} {n:Nat} {x:Int × Int} (h:Slk xs n) (b:x.1≤10 ^ 60 - 900+3 * (n:Int)) : Slk (xs++[x]) n:=fun y hy=>by
 rcases List.mem_append.mp hy with hy | hy
 ·exact h y hy
 ·rw [List.mem_singleton.mp hy]; exact b
theorem Slk.set {xs:List (Int × Int)} {n:Nat} {x:Int × Int} (h:Slk xs n) (k:Nat) (b:x.1≤10 ^ 60 - 900+3 * (n:Int)) : Slk (xs.set k x) n:=fun y hy=>by
 rcases List.mem_or_eq_of_mem_set hy with hy | rfl
 ·exact h y hy
 ·exact b
theorem Slk.on {xs:List (Int × Int)} {n:Nat} (h:Slk xs n) : Slk xs (n+1):=fun y hy=>by have:=h y hy; omega
theorem stepped_len (x0:List (Int × Int)) (ss:List Stp) : (stepped x0 ss).length=x0.length:=by
 unfold stepped
 induction ss generalizing x0 with
 | nil=>rfl
 | cons s ss ih =>
  rw [List.foldl_cons,ih,List.length_set]
def BadS (F:Frm) (ds:List Wd) (xs:List (Int × Int)) (k:Str) (i j:Int) (y:Int × Int) : Prop:=i < 0∨(ds.length:Int)≤i∨∃ n:Nat,i=(n:Int)∧n < ds.length∧reachI F ds xs k n j≠some y
structure AhA (K:PySem.W.Frag) (H:Hp) (qs:List Addr) (x0:List (Int × Int)) (ss:List Stp) : Prop where
 len:qs.length=ss.length+1
 at':∀ (m:Nat) q,qs[m]? = some q→∃ as:List Addr,H q=some (.lst (as.map V.ref))∧PlsA K H as (stepped x0 (ss.take m))
section
variable {K:PySem.W.Frag} {H H':Hp} {qs:List Addr} {x0:List (Int × Int)} {ss:List Stp}
theorem AhA.same (h:AhA K H qs x0 ss) (s:Same H H') : AhA K H' qs x0 ss:=⟨h.len,fun m q e=>by
 obtain ⟨as,h1,h2⟩:=h.at' m q e
 exact ⟨as,s _ _ h1,h2.same s⟩⟩
theorem AhA.lst {l:Addr} {ys zs:List V} (h:AhA K H qs x0 ss) (e:H l=some (.lst ys)) (n:l ∉ qs) : AhA K (upd H l (.lst zs)) qs x0 ss:=⟨h.len,fun m q e1=>by
 obtain ⟨as,h1,h2⟩:=h.at' m q e1
 exact ⟨as,by rw [upd_ne (fun z=>n (by rw [← z]; exact List.mem_of_getElem? e1))]; exact h1,h2.lst e⟩⟩
theorem AhA.snoc {q:Addr} {as:List Addr} {s:Stp} (h:AhA K H qs x0 ss) (hq:H q=some (.lst (as.map V.ref))) (pa:PlsA K H as (stepped x0 (ss++[s]))) : AhA K H (qs++[q]) x0 (ss++[s]):=by
 have l:=h.len
 refine ⟨by simp [l],fun m q' e=>?_⟩
 rcases snoc_get e with z | ⟨z,rfl⟩
 ·have hm:=(List.getElem?_eq_some_iff.mp z).1
  rw [List.take_append_of_le_length (by omega)]
  exact h.at' m q' z
 ·refine ⟨as,hq,?_⟩
  rw [z,l,List.take_of_length_le (by simp)]
  exact pa
end
section
variable {F:Frm} {ds:List Wd} {xs:List (Int × Int)} {k:Str} {i:Nat} {j:Int} {y:Int × Int}
theorem reach_kind (h:reachI F ds xs k i j=some y) : k=PySem.Str.ofString "behind"∨k=PySem.Str.ofString "wide"∨k=PySem.Str.ofString "high"∨k=PySem.Str.ofString "kept"∨k=PySem.Str.ofString "never":=by
 have t:=(reach_told h).1
 unfold toldBy at t
 split at t
 ·rename_i c; exact .inl c.1
 ·split at t
  ·rename_i c; exact .inr (.inl c.1)
  ·split at t
   ·rename_i c; exact .inr (.inr (.inl c.1))
   ·split at t
    ·rename_i c; exact .inr (.inr (.inr (.inl c.1)))
    ·split at t
     ·rename_i c; exact .inr (.inr (.inr (.inr c.1)))
     ·cases t
theorem reach_off (h:k≠PySem.Str.ofString "behind"∧k≠PySem.Str.ofString "wide"∧k≠PySem.Str.ofString "high"∧k≠PySem.Str.ofString "kept"∧k≠PySem.Str.ofString "never") : reachI F ds xs k i j≠some y:=fun e=>by
 rcases reach_kind e with z | z | z | z | z
 ·exact h.1 z
 ·exact h.2.1 z
 ·exact h.2.2.1 z
 ·exact h.2.2.2.1 z
 ·exact h.2.2.2.2 z
theorem reach_s (h:reachI F ds xs k i j=some y) {x:Str} (e:x=k++PySem.Str.ofString "s") {ys:List (Int × Int)} {i':Nat} {j':Int} {y':Int × Int} : reachI F ds ys x i' j'≠some y':=by
 subst e
 refine reach_off ?_
 rcases reach_kind h with rfl | rfl | rfl | rfl | rfl <;> decide +kernel
theorem reach_far (hi:i < ds.length) (hj:j=(ds.length:Int)+7) : reachI F ds xs k i j≠some y:=fun e=>by
 have t:=(reach_told e).1
 unfold toldBy at t
 rw [if_neg (by omega),if_neg (by omega),if_neg (by omega),if_neg (by omega),if_neg (by omega)] at t
 cases t
theorem reach_ne (h:reachI F ds xs k i j=some y) : y≠xAt xs i:=fun e=>by
 have:=(reach_told h).2
 rw [e,sooner_refl] at this
 cases this
def lessP (y:Int × Int) (h:Int) : Int × Int:=if 0 < y.2 then (y.1,y.2 - 1) else (y.1 - 1,h - 1)
theorem less_ne {y:Int × Int} {h:Int} : lessP y h≠y:=fun e=>by
 unfold lessP at e
 split at e
 ·have:=congrArg Prod.snd e
  simp only at this
  omega
 ·have:=congrArg Prod.fst e
  simp only at this
  omega
theorem slk_reach {n:Nat} (B:BkOk F ds xs) (S:Slk xs n) (hn:n≤50) (hi:i < ds.length) (h:reachI F ds xs k i j=some y) : BkOk F ds (xs.set i y)∧Slk (xs.set i y) (n+1):=by
 have m2:=B.fo.m2
 have ok:=told_ok (n:=10 ^ 60 - 900+3 * (n:Int)) B hi (fun k hk=>S _ (xAt_mem (by rw [← B.len]; exact hk))) (by omega) (told_in hi (reach_told h).1)
 exact ⟨B.set ok.1 (by omega),S.on.set i (by omega)⟩
end
def RefsV (ps:List V) : Prop:=∀ p ∈ ps,∃ a,p=V.ref a
theorem RefsV.same {ps:List V} (h:RefsV ps) : ∀ x ∈ ps,sameV x:=fun x hx=>by
 obtain ⟨a,rfl⟩:=h x hx
 exact .inr ⟨a,rfl⟩
theorem refs_refs (as:List Addr) : RefsV (as.map V.ref):=fun p hp=>by
 obtain ⟨a,_,rfl⟩:=List.mem_map.mp hp
 exact ⟨a,rfl⟩
theorem StpA.refs {K:PySem.W.Frag} {H:Hp} {ps:List V} {ss:List Stp} (h:StpA K H ps ss) : RefsV ps:=fun p hp=>by
 obtain ⟨i,hi,e⟩:=List.mem_iff_getElem.mp hp
 have hs:i < ss.length:=by rw [← h.1]; exact hi
 obtain ⟨a,_,e2,_⟩:=h.2 i p ss[i] (by rw [List.getElem?_eq_getElem hi,e]) (List.getElem?_eq_getElem hs)
 exact ⟨a,e2⟩
theorem StpA.take' {K:PySem.W.Frag} {H:Hp} {ps:List V} {ss:List Stp} (h:StpA K H ps ss) (n:Nat) : StpA K H (ps.take n) (ss.take n):=by
 refine ⟨by rw [List.length_take,List.length_take,h.1],fun i p s e1 e2=>?_⟩
 rw [List.getElem?_take] at e1 e2
 split at e1
 ·rename_i c
  rw [if_pos c] at e2
  exact h.2 i p s e1 e2
 ·cases e1
theorem WalkOk.take' {F:Frm} {ds:List Wd} {x0:List (Int × Int)} {ss:List Stp} (h:WalkOk F ds x0 ss) (n:Nat) : WalkOk F ds x0 (ss.take n):=fun i s e=>by
 rw [List.getElem?_take] at e
 split at e
 ·rename_i c
  rw [List.take_take,Nat.min_eq_left (by omega)]
  exact h i s e
 ·cases e
theorem op_eqN1 {X:Cx} (hu:X.A.units < cLine) : OpR X (compareOp .Eq) (fun x y H Q=>∃ b ys,x = .non∧y = .ref b∧SqT X.K H b ys∧Q (.bl false) H):=by
 intro pins s σ H x y v u Q I rx ry h
 obtain ⟨b,ys,rfl,rfl,hb,q⟩:=h
 cases rx
 cases ry
 obtain ⟨its,r,p,z⟩:=I.tuple hb
 exact SeqAt.RcAt.none_tuple p hu _ _ _ _ ⟨.bl false,H,I,rfl,q⟩
end L2

namespace K41
open PySem PySem.Spec L2 Tl

noncomputable abbrev s_l_cell_at:Stmt:=top 31
noncomputable abbrev s_l_first:Stmt:=top 36
noncomputable abbrev s_l_form:Stmt:=top 37
noncomputable abbrev s_l_text:Stmt:=top 35
noncomputable abbrev s_l_saying:Stmt:=top 38
noncomputable abbrev s_l_stream:Stmt:=top 32
noncomputable abbrev s_l_word:Stmt:=top 39
noncomputable abbrev s_l_book:Stmt:=top 40
noncomputable abbrev s_l_copy:Stmt:=top 47
noncomputable abbrev s_l_behind:Stmt:=top 43
noncomputable abbrev s_l_low:Stmt:=top 46
noncomputable abbrev s_l_from:Stmt:=top 44
noncomputable abbrev s_l_said:Stmt:=top 41
noncomputable abbrev s_l_high:Stmt:=top 42
noncomputable abbrev s_l_reach:Stmt:=top 45
noncomputable abbrev s_l_paper:Stmt:=top 48
noncomputable abbrev s_l_whole:Stmt:=top 33
noncomputable abbrev s_l_place:Stmt:=top 34
noncomputable abbrev s_figures_of:Stmt:=top 12
noncomputable abbrev s_said:Stmt:=top 14
noncomputable abbrev s_foot_rows:Stmt:=top 17
noncomputable abbrev s_foot_high:Stmt:=top 18
noncomputable abbrev s_highs_of:Stmt:=top 24
noncomputable abbrev s_together:Stmt:=top 16
noncomputable abbrev s_next_top:Stmt:=top 10
noncomputable abbrev s_first_from:Stmt:=top 8
noncomputable abbrev s_rows_on:Stmt:=top 9
noncomputable abbrev s_behind:Stmt:=top 7
noncomputable abbrev s_later:Stmt:=top 6
noncomputable abbrev s_told_behind:Stmt:=top 25
noncomputable abbrev s_told_high:Stmt:=top 27
noncomputable abbrev s_told_kept:Stmt:=top 28
noncomputable abbrev s_wide_of:Stmt:=top 15
noncomputable abbrev s_told_never:Stmt:=top 29
noncomputable abbrev s_told_wide:Stmt:=top 26
noncomputable abbrev s_wides_of:Stmt:=top 23
noncomputable abbrev s_told_by_kind:Stmt:=top 22
noncomputable abbrev s_reach:Stmt:=top 20
noncomputable abbrev s_walked:Stmt:=top 21
noncomputable abbrev s_l_refused:Stmt:=top 51
noncomputable abbrev s_l_refused_by_base:Stmt:=top 52
noncomputable abbrev s_l_less:Stmt:=top 50
noncomputable abbrev s_l_spoiled:Stmt:=top 49
noncomputable abbrev s_law:Stmt:=top 53
set_option genInjectivity false in
structure Adr where
 f_l_cell_at:Addr
 fd_l_cell_at:FuncData
 f_l_first:Addr
 fd_l_first:FuncData
 f_l_form:Addr
 fd_l_form:FuncData
 f_l_text:Addr
 fd_l_text:FuncData
 f_l_saying:Addr
 fd_l_saying:FuncData
 f_l_stream:Addr
 fd_l_stream:FuncData
 f_l_word:Addr
 fd_l_word:FuncData
 f_l_book:Addr
 fd_l_book:FuncData
 f_l_copy:Addr
 fd_l_copy:FuncData
 f_l_behind:Addr
 fd_l_behind:FuncData
 f_l_low:Addr
 fd_l_low:FuncData
 f_l_from:Addr
 fd_l_from:FuncData
 f_l_said:Addr
 fd_l_said:FuncData
 f_l_high:Addr
 fd_l_high:FuncData
 f_l_reach:Addr
 fd_l_reach:FuncData
 f_l_paper:Addr
 fd_l_paper:FuncData
 f_l_whole:Addr
 fd_l_whole:FuncData
 f_l_place:Addr
 fd_l_place:FuncData
 f_figures_of:Addr
 fd_figures_of:FuncData
 f_said:Addr
 fd_said:FuncData
 f_foot_rows:Addr
 fd_foot_rows:FuncData
 f_foot_high:Addr
 fd_foot_high:FuncData
 f_highs_of:Addr
 fd_highs_of:FuncData
 f_together:Addr
 fd_together:FuncData
 f_next_top:Addr
 fd_next_top:FuncData
 f_first_from:Addr
 fd_first_from:FuncData
 f_rows_on:Addr
 fd_rows_on:FuncData
 f_behind:Addr
 fd_behind:FuncData
 f_later:Addr
 fd_later:FuncData
 f_told_behind:Addr
 fd_told_behind:FuncData
 f_told_high:Addr
 fd_told_high:FuncData
 f_told_kept:Addr
 fd_told_kept:FuncData
 f_wide_of:Addr
 fd_wide_of:FuncData
 f_told_never:Addr
 fd_told_never:FuncData
 f_told_wide:Addr
 fd_told_wide:FuncData
 f_wides_of:Addr
 fd_wides_of:FuncData
 f_told_by_kind:Addr
 fd_told_by_kind:FuncData
 f_reach:Addr
 fd_reach:FuncData
 f_walked:Addr
 fd_walked:FuncData
 f_l_refused:Addr
 fd_l_refused:FuncData
 f_l_refused_by_base:Addr
 fd_l_refused_by_base:FuncData
 f_l_less:Addr
 fd_l_less:FuncData
 f_l_spoiled:Addr
 fd_l_spoiled:FuncData
 f_law:Addr
 fd_law:FuncData
 c_BadPaper:Addr
 c_BadWord:Addr
 c_NoLaying:Addr
 c_TrueleafError:Addr
structure Txt (P:Program) (w:World) (K:PySem.W.Frag) (mg:Str→Option Value) (a:Adr) : Prop where
 d_l_cell_at:DefOk K mg "_law_cell_at" s_l_cell_at ["script","k"] a.f_l_cell_at a.fd_l_cell_at
 d_l_first:DefOk K mg "_law_first" s_l_first ["cell"] a.f_l_first a.fd_l_first
 d_l_form:DefOk K mg "_law_form" s_l_form ["script"] a.f_l_form a.fd_l_form
 d_l_text:DefOk K mg "_law_text" s_l_text ["x","y","many"] a.f_l_text a.fd_l_text
 d_l_saying:DefOk K mg "_law_saying" s_l_saying ["xs","count"] a.f_l_saying a.fd_l_saying
 d_l_stream:DefOk K mg "_law_stream" s_l_stream ["cell","many"] a.f_l_stream a.fd_l_stream
 d_l_word:DefOk K mg "_law_word" s_l_word ["cell","count"] a.f_l_word a.fd_l_word
 d_l_book:DefOk K mg "_law_book" s_l_book ["script","most"] a.f_l_book a.fd_l_book
 d_l_copy:DefOk K mg "_law_copy" s_l_copy ["book"] a.f_l_copy a.fd_l_copy
 d_l_behind:DefOk K mg "_law_behind" s_l_behind ["form","spot","lead"] a.f_l_behind a.fd_l_behind
 d_l_low:DefOk K mg "_law_low" s_l_low ["script","book"] a.f_l_low a.fd_l_low
 d_l_from:DefOk K mg "_law_from" s_l_from ["form","spot","lead"] a.f_l_from a.fd_l_from
 d_l_said:DefOk K mg "_law_said" s_l_said ["book","saying","spots"] a.f_l_said a.fd_l_said
 d_l_high:DefOk K mg "_law_high" s_l_high ["book","foot","spots"] a.f_l_high a.fd_l_high
 d_l_reach:DefOk K mg "_law_reach" s_l_reach ["book","low","kind","i","j"] a.f_l_reach a.fd_l_reach
 d_l_paper:DefOk K mg "_law_paper" s_l_paper ["script","book","low"] a.f_l_paper a.fd_l_paper
 d_l_whole:DefOk K mg "_law_whole" s_l_whole ["found"] a.f_l_whole a.fd_l_whole
 d_l_place:DefOk K mg "_law_place" s_l_place ["found"] a.f_l_place a.fd_l_place
 d_figures_of:DefOk K mg "figures_of" s_figures_of ["number"] a.f_figures_of a.fd_figures_of
 d_said:DefOk K mg "said" s_said ["form","saying","places"] a.f_said a.fd_said
 d_foot_rows:DefOk K mg "foot_rows" s_foot_rows ["form","foot","places"] a.f_foot_rows a.fd_foot_rows
 d_foot_high:DefOk K mg "foot_high" s_foot_high ["form","foot","places"] a.f_foot_high a.fd_foot_high
 d_highs_of:DefOk K mg "highs_of" s_highs_of ["book","low","j","i"] a.f_highs_of a.fd_highs_of
 d_together:DefOk K mg "together" s_together ["wides"] a.f_together a.fd_together
 d_next_top:DefOk K mg "next_top" s_next_top ["place"] a.f_next_top a.fd_next_top
 d_first_from:DefOk K mg "first_from" s_first_from ["form","place","lead"] a.f_first_from a.fd_first_from
 d_rows_on:DefOk K mg "rows_on" s_rows_on ["form","place","rows"] a.f_rows_on a.fd_rows_on
 d_behind:DefOk K mg "behind" s_behind ["form","place","lead"] a.f_behind a.fd_behind
 d_later:DefOk K mg "later" s_later ["one","other"] a.f_later a.fd_later
 d_told_behind:DefOk K mg "told_behind" s_told_behind ["book","low","i"] a.f_told_behind a.fd_told_behind
 d_told_high:DefOk K mg "told_high" s_told_high ["book","low","i","j","high"] a.f_told_high a.fd_told_high
 d_told_kept:DefOk K mg "told_kept" s_told_kept ["book","low","i"] a.f_told_kept a.fd_told_kept
 d_wide_of:DefOk K mg "wide_of" s_wide_of ["form","saying","places"] a.f_wide_of a.fd_wide_of
 d_told_never:DefOk K mg "told_never" s_told_never ["book","low","i"] a.f_told_never a.fd_told_never
 d_told_wide:DefOk K mg "told_wide" s_told_wide ["book","low","j","wide"] a.f_told_wide a.fd_told_wide
 d_wides_of:DefOk K mg "wides_of" s_wides_of ["book","low","j","i"] a.f_wides_of a.fd_wides_of
 d_told_by_kind:DefOk K mg "told_by_kind" s_told_by_kind ["book","low","kind","i","j"] a.f_told_by_kind a.fd_told_by_kind
 d_reach:DefOk K mg "reach" s_reach ["book","low","kind","i","j"] a.f_reach a.fd_reach
 d_walked:DefOk K mg "walked" s_walked ["book","low","paper"] a.f_walked a.fd_walked
 d_l_refused:DefOk K mg "_law_refused" s_l_refused ["book","low","paper"] a.f_l_refused a.fd_l_refused
 d_l_refused_by_base:DefOk K mg "_law_refused_by_base" s_l_refused_by_base ["book","low","paper"] a.f_l_refused_by_base a.fd_l_refused_by_base
 d_l_less:DefOk K mg "_law_less" s_l_less ["spot","high"] a.f_l_less a.fd_l_less
 d_l_spoiled:DefOk K mg "_law_spoiled" s_l_spoiled ["script","book","paper","ahead"] a.f_l_spoiled a.fd_l_spoiled
 d_law:DefOk K mg "law" s_law ["script"] a.f_law a.fd_law
 z_ValueError:mg "ValueError" = none
 z_any:mg "any" = none
 z_bool:mg "bool" = none
 z_int:mg "int" = none
 z_isinstance:mg "isinstance" = none
 z_len:mg "len" = none
 z_list:mg "list" = none
 z_max:mg "max" = none
 z_min:mg "min" = none
 z_range:mg "range" = none
 z_str:mg "str" = none
 z_sum:mg "sum" = none
 z_tuple:mg "tuple" = none
 x_BadPaper:ExcOk K mg "BadPaper" a.c_BadPaper
 x_BadWord:ExcOk K mg "BadWord" a.c_BadWord
 x_NoLaying:ExcOk K mg "NoLaying" a.c_NoLaying
 x_TrueleafError:ExcOk K mg "TrueleafError" a.c_TrueleafError
 t_BadPaper_BadPaper:Takes K a.c_BadPaper a.c_BadPaper
 t_BadPaper_TrueleafError:Takes K a.c_BadPaper a.c_TrueleafError
 lk_BadPaper:excLk K a.c_BadPaper=true
 ki_BadPaper_BadWord:PySem.W.kitOne K (.ref a.c_BadPaper) (.ref a.c_BadWord)=some false
 ki_BadPaper_NoLaying:PySem.W.kitOne K (.ref a.c_BadPaper) (.ref a.c_NoLaying)=some false
 ki_BadPaper_ValueError:PySem.W.kitOne K (.ref a.c_BadPaper) (.type "ValueError")=some true
section
variable {P:Program} {w:World} {K:PySem.W.Frag} {mg:Str→Option Value} {base:Heap} {a:Adr}

def sp_l_cell_at (K:PySem.W.Frag) : Sp:=fun vs H Q _=>∃ (b:Addr) (ns:List Int) (k:Nat),vs=[.ref b,.int (k:Int)]∧SqL K H b (ns.map V.int)∧Q (.int (ns.getD k 0)) H
theorem sc_l_cell_at:FnScope ["script","k"] ["script","k"] (defScope s_l_cell_at):=⟨rfl,rfl,rfl,by decide +kernel,rfl,by decide +kernel,by decide +kernel⟩
theorem ok_l_cell_at (T:Txt P w K mg a) : FnOk P w K mg base CX0 1 a.f_l_cell_at a.fd_l_cell_at ["script","k"] (sp_l_cell_at K):=by
 have z_len:=T.z_len
 refine T.d_l_cell_at.fn.ok sc_l_cell_at (fun vs H Q E h=>?_) (fun cdv A outer s H vs Q E hr h=>?_)
 ·obtain ⟨b,ns,k,rfl,_⟩:=h
  rfl
 obtain ⟨b,ns,k,rfl,hS,q⟩:=h
 have hu:=Nat.lt_of_succ_lt (hu_of hr)
 refine ⟨_,(pss_cons (ps_if (pt_cmpR op_lt (pv 1) (pe_callB call_len_seq rfl z_len PySem.boot_len (pa_cons (pv 0) pa_nil)) (nomark _)) (pss_one (ps_ret (pe_ix ix_list (pv 0) (pv 1) (fun _ _=>rfl)))) pss_nil)
   (pss_one (ps_ret pe_int))),?_⟩
 refine ⟨_,rfl,_,rfl,_,_,rfl,.inl hS,_,_,rfl,rfl,_,rfl,?_⟩
 refine ite2 (fun c=>?_) (fun c=>?_)
 ·have hk:k < ns.length:=by
   have:=of_decide_eq_true c
   rw [List.length_map] at this
   omega
  refine ⟨_,rfl,_,rfl,_,_,_,_,rfl,rfl,hS,atI_nat (j:=k) (v:=.int (ns.getD k 0)) ?_,q⟩
  rw [List.getElem?_map,List.getElem?_eq_getElem hk,List.getD_eq_getElem?_getD,List.getElem?_eq_getElem hk]
  rfl
 ·have hk:ns.length≤k:=by
   refine Nat.le_of_not_lt fun hk=>c (decide_eq_true ?_)
   rw [List.length_map]
   omega
  have e:ns.getD k 0=0:=by rw [List.getD_eq_getElem?_getD,List.getElem?_eq_none hk]; rfl
  rw [e] at q
  exact q
theorem p60:(10:Int) ^ (60:Int).toNat=10 ^ 60:=by decide +kernel
theorem pow_le {k:Nat} (h:k≤60) : (10:Int) ^ k≤10 ^ 60:=by
 have:=Nat.pow_le_pow_right (n:=10) (by (first | decide | (show (0:Int) < _; first | decide | omega))) h
 have e1:((10 ^ k:Nat) : Int)=(10:Int) ^ k:=by push_cast; rfl
 have e2:((10 ^ 60:Nat) : Int)=(10:Int) ^ 60:=by decide +kernel
 rw [← e1,← e2]
 exact Int.ofNat_le.mpr this
theorem pow_ge (k:Nat) : (10:Int)≤10 ^ (k+1):=by
 have:=Nat.pow_le_pow_right (n:=10) (by (first | decide | (show (0:Int) < _; first | decide | omega))) (show 1≤k+1 by omega)
 have e1:((10 ^ (k+1) : Nat) : Int)=(10:Int) ^ (k+1):=by push_cast; rfl
 rw [← e1]
 exact Int.ofNat_le.mpr this
def sp_l_first:Sp:=fun vs H Q _=>∃ c:Int,vs=[.int c]∧∀ (n:Int) (H':Hp),Same H H'→0≤n→n≤10 ^ 60→Q (.int n) H'
theorem sc_l_first:FnScope ["cell","way","number","k"] ["cell"] (defScope s_l_first):=⟨rfl,rfl,rfl,by decide +kernel,rfl,by decide +kernel,by decide +kernel⟩
theorem ok_l_first (T:Txt P w K mg a) : FnOk P w K mg base CX0 1 a.f_l_first a.fd_l_first ["cell"] sp_l_first:=by
 have z_range:=T.z_range
 refine T.d_l_first.fn.ok sc_l_first (fun vs H Q E h=>?_) (fun cdv A outer s H vs Q E hr h=>?_)
 ·obtain ⟨c,rfl,_⟩:=h
  rfl
 obtain ⟨c,rfl,q⟩:=h
 have hu:=Nat.lt_of_succ_lt (hu_of hr)
 refine ⟨_,(pss_cons (ps_set (i:=1) sc_l_first.nd rfl (Or.inl rfl) (pe_op op_mod (pv 0) pe_int))
   (pss_cons (ps_if (pt_cmpR op_eq (pv 1) pe_int (nomark _)) (pss_one (ps_ret (pe_op op_mod (pe_op op_fdiv (pv 0) pe_int) (pe_op op_add (pe_op op_pow pe_int pe_int) pe_int)))) pss_nil)
   (pss_cons (ps_if (pt_cmpR op_eq (pv 1) pe_int (nomark _)) (pss_one (ps_ret (pe_op op_mod (pe_op op_fdiv (pv 0) pe_int) pe_int))) pss_nil)
   (pss_cons (ps_set (i:=2) sc_l_first.nd rfl (Or.inl rfl) pe_int)
   (pss_cons (ps_for PassesOwn.never rfl (pi_range1 rfl z_range (pa_cons (pe_op op_mod (pe_op op_fdiv (pv 0) pe_int) (pe_ix ix_list (pe_lst (pa_cons pe_int (pa_cons pe_int pa_nil))) (pe_op op_sub (pv 1) pe_int) (fun _ _=>rfl))) pa_nil)) (pg_name (i:=3) sc_l_first.nd rfl (Or.inl rfl)) (pss_one (ps_set (i:=2) sc_l_first.nd rfl (Or.inl rfl) (pe_op op_mul (pv 2) pe_int))))
   (pss_one (ps_ret (pe_op op_sub (pe_op op_sub (pv 2) pe_int) (pe_op op_mod (pe_op op_fdiv (pv 0) pe_int) pe_int))))))))),?_⟩
 refine ⟨_,rfl,_,_,rfl,rfl,(by (first | decide | (show (0:Int) < _; first | decide | omega))),?_⟩
 have w1:=Int.emod_nonneg c (show (4:Int)≠0 by decide)
 have w2:=Int.emod_lt_of_pos c (show (0:Int) < 4 by decide)
 refine ⟨_,rfl,rfl,_,rfl,?_⟩
 refine ite2 (fun _=>?_) (fun n0=>?_)
 ·refine ⟨_,rfl,_,_,rfl,rfl,⟨by decide,by decide⟩,_,_,rfl,rfl,⟨by decide,by decide,by decide⟩,_,_,rfl,rfl,_,_,rfl,rfl,(by rw [p60]; (first | decide | (show (0:Int) < _; first | decide | omega))),?_⟩
  rw [p60]
  refine q _ _ (Same.refl _) (Int.emod_nonneg _ (by (first | decide | (show (0:Int) < _; first | decide | omega)))) ?_
  have:=Int.emod_lt_of_pos (c / 4) (show (0:Int) < 10 ^ 60+1 by decide)
  omega
 have n0':=int_ne.mp n0
 refine ⟨_,rfl,rfl,_,rfl,?_⟩
 refine ite2 (fun _=>?_) (fun n1=>?_)
 ·refine ⟨_,rfl,_,_,rfl,rfl,⟨by decide,by decide⟩,_,_,rfl,rfl,(by (first | decide | (show (0:Int) < _; first | decide | omega))),q _ _ (Same.refl _) (Int.emod_nonneg _ (by (first | decide | (show (0:Int) < _; first | decide | omega)))) ?_⟩
  have:=Int.emod_lt_of_pos (c / 4) (show (0:Int) < 12 by decide)
  exact Int.le_trans (Int.le_of_lt this) (by (first | decide | (show (0:Int) < _; first | decide | omega)))
 have n1':=int_ne.mp n1
 refine ⟨_,rfl,_,_,rfl,rfl,⟨by decide,by decide⟩,le2,fun p1 hp1=>?_⟩
 have hat:∃ z:Int,0 < z∧z≤59∧atI [V.int 2,V.int 59] (c % 4 - 2)=some (V.int z):=by
  have:c % 4=2∨c % 4=3:=by omega
  rcases this with e | e
  ·exact ⟨2,by decide,by decide,by rw [e]; rfl⟩
  ·exact ⟨59,by decide,by decide,by rw [e]; rfl⟩
 obtain ⟨z,z0,z1,hz⟩:=hat
 have r1:=Int.emod_nonneg (c / 4) (show z≠0 by omega)
 have r2:=Int.emod_lt_of_pos (c / 4) z0
 refine ⟨_,rfl,_,_,rfl,rfl,_,_,_,_,rfl,rfl,SqL.of upd_same,hz,_,_,rfl,rfl,z0,_,rfl,(by omega),(by omega),for_range (fun i σ H2=>H2=upd H p1 (.lst [V.int 2,V.int 59])∧∃ v,σ=[some (.int c),some (.int (c % 4)),some (.int (10 ^ (i+1))),v])
  ⟨rfl,none,rfl⟩ ?_ ?_⟩
 ·rintro i σ H2 hi ⟨rfl,v,rfl⟩
  refine ⟨_,rfl,_,_,rfl,rfl,.inr ⟨by decide,by decide⟩,rfl,some (.int (0+(i:Int))),?_⟩
  rw [Int.pow_succ (10:Int) (i+1)]
  rfl
 ·rintro σ H2 ⟨rfl,v,rfl⟩
  have m1:=Int.emod_nonneg (c / 400) (show (10:Int)≠0 by decide)
  have m2:=Int.emod_lt_of_pos (c / 400) (show (0:Int) < 10 by decide)
  have g1:=pow_ge (c / 4 % z).toNat
  have g2:=pow_le (k:=(c / 4 % z).toNat+1) (by omega)
  refine ⟨_,rfl,_,_,rfl,rfl,_,rfl,_,_,rfl,rfl,⟨by decide,by decide⟩,_,_,rfl,rfl,(by (first | decide | (show (0:Int) < _; first | decide | omega))),_,_,rfl,rfl,?_⟩
  generalize (10:Int) ^ ((c / 4 % z).toNat+1)=y at g1 g2
  exact q (y - 1 - c / 400 % 10) _ (same_new hp1 _) (by omega) (by omega)
def sp_l_form (K:PySem.W.Frag) : Sp:=fun vs H Q _=>∃ (sa:Addr) (ns:List Int),vs=[.ref sa]∧SqL K H sa (ns.map V.int)∧∀ q H' w h f m,Same H H'→SqT K H' q (fm w h f m)→FormOk w h f m→Q (.ref q) H'
theorem sc_l_form:FnScope ["script","a","wide","b","high","d","most"] ["script"] (defScope s_l_form):=⟨rfl,rfl,rfl,by decide +kernel,rfl,by decide +kernel,by decide +kernel⟩
theorem ok_l_form (T:Txt P w K mg a) : FnOk P w K mg base CX0 2 a.f_l_form a.fd_l_form ["script"] (sp_l_form K):=by
 have g_l_cell_at:=ok_l_cell_at (P:=P) (w:=w) (base:=base) T
 have d_l_cell_at:=T.d_l_cell_at
 have g_l_first:=ok_l_first (P:=P) (w:=w) (base:=base) T
 have d_l_first:=T.d_l_first
 refine T.d_l_form.fn.ok sc_l_form (fun vs H Q E h=>?_) (fun cdv A outer s H vs Q E hr h=>?_)
 ·obtain ⟨sa,ns,rfl,_⟩:=h
  rfl
 obtain ⟨sa,ns,rfl,hS,q⟩:=h
 have hu:=Nat.lt_of_succ_lt (hu_of hr)
 refine ⟨_,(pss_cons (ps_set (i:=1) sc_l_form.nd rfl (Or.inl rfl) (pe_callD d_l_cell_at g_l_cell_at (hr.mono (by decide)) rfl (pa_cons (pv 0) (pa_cons pe_int pa_nil))))
   (pss_cons (ps_set (i:=2) sc_l_form.nd rfl (Or.inl rfl) (pe_ix ix_list (pe_lst (pa_cons (pe_op op_add pe_int (pe_op op_mod (pe_op op_fdiv (pv 1) pe_int) pe_int)) (pa_cons (pe_op op_add pe_int (pe_op op_mod (pe_op op_fdiv (pv 1) pe_int) pe_int)) (pa_cons (pe_op op_add pe_int (pe_op op_mod (pe_op op_fdiv (pv 1) pe_int) pe_int)) pa_nil)))) (pe_op op_mod (pv 1) pe_int) (fun _ _=>rfl)))
   (pss_cons (ps_set (i:=3) sc_l_form.nd rfl (Or.inl rfl) (pe_callD d_l_cell_at g_l_cell_at (hr.mono (by decide)) rfl (pa_cons (pv 0) (pa_cons pe_int pa_nil))))
   (pss_cons (ps_set (i:=4) sc_l_form.nd rfl (Or.inl rfl) (pe_ix ix_list (pe_lst (pa_cons (pe_op op_add pe_int (pe_op op_mod (pe_op op_fdiv (pv 3) pe_int) pe_int)) (pa_cons (pe_op op_add pe_int (pe_op op_mod (pe_op op_fdiv (pv 3) pe_int) pe_int)) (pa_cons (pe_op op_add pe_int (pe_op op_mod (pe_op op_fdiv (pv 3) pe_int) pe_int)) (pa_cons (pe_op op_add pe_int (pe_op op_mod (pe_op op_fdiv (pv 3) pe_int) pe_int)) pa_nil))))) (pe_op op_mod (pv 3) pe_int) (fun _ _=>rfl)))
   (pss_cons (ps_set (i:=5) sc_l_form.nd rfl (Or.inl rfl) (pe_callD d_l_cell_at g_l_cell_at (hr.mono (by decide)) rfl (pa_cons (pv 0) (pa_cons pe_int pa_nil))))
   (pss_cons (ps_set (i:=6) sc_l_form.nd rfl (Or.inl rfl) (pe_ix ix_list (pe_lst (pa_cons (pe_op op_add pe_int (pe_op op_mod (pe_op op_fdiv (pv 5) pe_int) pe_int)) (pa_cons (pe_op op_add pe_int (pe_op op_mod (pe_op op_fdiv (pv 5) pe_int) pe_int)) (pa_cons (pe_op op_add pe_int (pe_op op_mod (pe_op op_fdiv (pv 5) pe_int) pe_int)) pa_nil)))) (pe_op op_mod (pv 5) pe_int) (fun _ _=>rfl)))
   (pss_one (ps_ret (pe_tup (pa_cons (pv 2) (pa_cons (pv 4) (pa_cons (pe_callD d_l_first g_l_first (hr.mono (by decide)) rfl (pa_cons (pe_callD d_l_cell_at g_l_cell_at (hr.mono (by decide)) rfl (pa_cons (pv 0) (pa_cons pe_int pa_nil))) pa_nil)) (pa_cons (pv 6) pa_nil))))))))))))),?_⟩
 refine ⟨_,rfl,_,_,(0:Nat),rfl,hS,?_⟩
 generalize ns.getD 0 0=a
 refine ⟨_,rfl,_,_,rfl,rfl,⟨by decide,by decide⟩,_,_,rfl,rfl,(by (first | decide | (show (0:Int) < _; first | decide | omega))),_,_,rfl,rfl,_,rfl,_,_,rfl,rfl,⟨by decide,by decide⟩,_,_,rfl,rfl,(by (first | decide | (show (0:Int) < _; first | decide | omega))),_,_,rfl,rfl,_,rfl,_,_,rfl,rfl,⟨by decide,by decide⟩,_,_,rfl,rfl,(by (first | decide | (show (0:Int) < _; first | decide | omega))),_,_,rfl,rfl,le3,fun p1 hp1=>?_⟩
 obtain ⟨u1,m1,e1⟩:=pick [V.int (1+a / 3 % 12),V.int (1+a / 3 % 30),V.int (1+a / 3 % 200)] 3 a rfl (by (first | decide | (show (0:Int) < _; first | decide | omega)))
 have g1:∃ w,u1=V.int w∧1≤w∧w≤200:=by
  simp only [List.mem_cons,List.not_mem_nil,or_false] at m1
  rcases m1 with rfl | rfl | rfl <;> exact ⟨_,rfl,by omega,by omega⟩
 obtain ⟨wi,rfl,w1,w2⟩:=g1
 refine ⟨_,rfl,_,_,rfl,rfl,(by (first | decide | (show (0:Int) < _; first | decide | omega))),_,_,_,_,rfl,rfl,SqL.of upd_same,e1,?_⟩
 have s1:=same_new hp1 (.lst [V.int (1+a / 3 % 12),V.int (1+a / 3 % 30),V.int (1+a / 3 % 200)])
 generalize upd H p1 (.lst [V.int (1+a / 3 % 12),V.int (1+a / 3 % 30),V.int (1+a / 3 % 200)])=H1 at s1
 refine ⟨_,rfl,_,_,(1:Nat),rfl,s1.seq hS,?_⟩
 generalize ns.getD 1 0=b
 refine ⟨_,rfl,_,_,rfl,rfl,⟨by decide,by decide⟩,_,_,rfl,rfl,(by (first | decide | (show (0:Int) < _; first | decide | omega))),_,_,rfl,rfl,_,rfl,_,_,rfl,rfl,⟨by decide,by decide⟩,_,_,rfl,rfl,(by (first | decide | (show (0:Int) < _; first | decide | omega))),_,_,rfl,rfl,_,rfl,_,_,rfl,rfl,⟨by decide,by decide⟩,_,_,rfl,rfl,(by (first | decide | (show (0:Int) < _; first | decide | omega))),_,_,rfl,rfl,_,rfl,_,_,rfl,rfl,⟨by decide,by decide⟩,_,_,rfl,rfl,(by (first | decide | (show (0:Int) < _; first | decide | omega))),_,_,rfl,rfl,le4,fun p2 hp2=>?_⟩
 obtain ⟨u2,m2,e2⟩:=pick [V.int (1+b / 4 % 4),V.int (1+b / 4 % 4),V.int (1+b / 4 % 8),V.int (1+b / 4 % 60)] 4 b rfl (by (first | decide | (show (0:Int) < _; first | decide | omega)))
 have g2:∃ w,u2=V.int w∧1≤w∧w≤60:=by
  simp only [List.mem_cons,List.not_mem_nil,or_false] at m2
  rcases m2 with rfl | rfl | rfl | rfl <;> exact ⟨_,rfl,by omega,by omega⟩
 obtain ⟨hi,rfl,h1,h2⟩:=g2
 refine ⟨_,rfl,_,_,rfl,rfl,(by (first | decide | (show (0:Int) < _; first | decide | omega))),_,_,_,_,rfl,rfl,SqL.of upd_same,e2,?_⟩
 have s2:=same_new hp2 (.lst [V.int (1+b / 4 % 4),V.int (1+b / 4 % 4),V.int (1+b / 4 % 8),V.int (1+b / 4 % 60)])
 generalize upd H1 p2 (.lst [V.int (1+b / 4 % 4),V.int (1+b / 4 % 4),V.int (1+b / 4 % 8),V.int (1+b / 4 % 60)])=H2 at s2
 refine ⟨_,rfl,_,_,(3:Nat),rfl,s2.seq (s1.seq hS),?_⟩
 generalize ns.getD 3 0=d
 refine ⟨_,rfl,_,_,rfl,rfl,⟨by decide,by decide⟩,_,_,rfl,rfl,(by (first | decide | (show (0:Int) < _; first | decide | omega))),_,_,rfl,rfl,_,rfl,_,_,rfl,rfl,⟨by decide,by decide⟩,_,_,rfl,rfl,(by (first | decide | (show (0:Int) < _; first | decide | omega))),_,_,rfl,rfl,_,rfl,_,_,rfl,rfl,⟨by decide,by decide⟩,_,_,rfl,rfl,(by (first | decide | (show (0:Int) < _; first | decide | omega))),_,_,rfl,rfl,le3,fun p3 hp3=>?_⟩
 obtain ⟨u3,m3,e3⟩:=pick [V.int (1+d / 3 % 4),V.int (1+d / 3 % 12),V.int (1+d / 3 % 60)] 3 d rfl (by (first | decide | (show (0:Int) < _; first | decide | omega)))
 have g3:∃ w,u3=V.int w∧1≤w∧w≤60:=by
  simp only [List.mem_cons,List.not_mem_nil,or_false] at m3
  rcases m3 with rfl | rfl | rfl <;> exact ⟨_,rfl,by omega,by omega⟩
 obtain ⟨mo,rfl,o1,o2⟩:=g3
 refine ⟨_,rfl,_,_,rfl,rfl,(by (first | decide | (show (0:Int) < _; first | decide | omega))),_,_,_,_,rfl,rfl,SqL.of upd_same,e3,?_⟩
 have s3:=same_new hp3 (.lst [V.int (1+d / 3 % 4),V.int (1+d / 3 % 12),V.int (1+d / 3 % 60)])
 generalize upd H2 p3 (.lst [V.int (1+d / 3 % 4),V.int (1+d / 3 % 12),V.int (1+d / 3 % 60)])=H3 at s3
 refine ⟨_,rfl,_,rfl,_,rfl,_,_,(2:Nat),rfl,s3.seq (s2.seq (s1.seq hS)),_,rfl,fun fi H4 s4 f1 f2=>?_⟩
 refine ⟨_,rfl,le4,fun p4 hp4=>?_⟩
 exact q _ _ _ _ _ _ (s1.trans (s2.trans (s3.trans (s4.trans (same_new hp4 _))))) (SqT.of upd_same) ⟨w1,by omega,h1,h2,f1,f2,o1,o2⟩
theorem csomeB:(PySem.Str.ofString "!\"#$&'()*+,-./0123456789:;<=>?@ABCDEFGHIJKLMNOPQRSTUVWXYZ[\\]^_")++(PySem.Str.ofString "abcdefghijklmnopqrstuvwxyz{|}~")++(PySem.Str.ofString "`")=tx sgnB:=by decide +kernel
theorem lsomeB:(PySem.Str.ofString "!\"#$&'()*+,-./0123456789:;<=>?@ABCDEFGHIJKLMNOPQRSTUVWXYZ[\\]^_").length+(PySem.Str.ofString "abcdefghijklmnopqrstuvwxyz{|}~").length≤1000:=by decide +kernel
theorem lsomeC:((PySem.Str.ofString "!\"#$&'()*+,-./0123456789:;<=>?@ABCDEFGHIJKLMNOPQRSTUVWXYZ[\\]^_")++(PySem.Str.ofString "abcdefghijklmnopqrstuvwxyz{|}~")).length+(PySem.Str.ofString "`").length≤1000:=by decide +kernel
theorem ce:(PySem.Str.ofString "")=tx []:=by decide +kernel
def sp_l_text:Sp:=fun vs H Q _=>∃ (x y:Int) (many:Nat),vs=[.int x,.int y,.int (many:Int)]∧0≤y∧y < 2147483647∧1≤many∧many≤60∧∀ (l:List Nat) (H':Hp),Same H H'→1≤l.length→l.length≤60→(∀ c ∈ l,33≤c∧c < 127)→Q (.str (tx l)) H'
theorem sc_l_text:FnScope ["x","y","many","some"] ["x","y","many"] (defScope s_l_text):=⟨rfl,rfl,rfl,by decide +kernel,rfl,by decide +kernel,by decide +kernel⟩
theorem ok_l_text (T:Txt P w K mg a) : FnOk P w K mg base CX0 1 a.f_l_text a.fd_l_text ["x","y","many"] sp_l_text:=by
 have z_len:=T.z_len
 have z_range:=T.z_range
 refine T.d_l_text.fn.ok sc_l_text (fun vs H Q E h=>?_) (fun cdv A outer s H vs Q E hr h=>?_)
 ·obtain ⟨x,y,many,rfl,_⟩:=h
  rfl
 obtain ⟨x,y,many,rfl,y0,y1,z1,z2,q⟩:=h
 have hu:=Nat.lt_of_succ_lt (hu_of hr)
 refine ⟨_,(pss_cons (ps_set (i:=3) sc_l_text.nd rfl (Or.inr rfl) pe_str)
   (pss_cons (ps_set (i:=3) sc_l_text.nd rfl (Or.inr rfl) (pe_op op_add_str (pe_op op_add_str (pv 3) pe_str) pe_str))
   (pss_one (ps_ret (pe_bm PySem.F.plainAttrs_str PySem.F.slot_str_join PySem.F.type_str_join mt_join pe_str (pa_cons (pe_lc rfl (lcok (caps:=["x","y","some"]) (js:=[0,1,3]) (cap:=⟨⟨rfl,.inl rfl,rfl,.inl rfl⟩,⟨⟨rfl,.inl rfl,rfl,.inl rfl⟩,⟨⟨rfl,.inl rfl,rfl,.inl rfl⟩,trivial⟩⟩⟩)) (pi_range1 rfl z_range (pa_cons (pv 2) pa_nil)) (fun _ _ _ _=>pts_nil) (fun _ _ _ _=>(pe_ix ix_str (pv 3) (pe_op op_mod (pe_op op_add (pv 1) (pe_op op_mul (pv 2) (pv 0))) (pe_callB call_len_str rfl z_len PySem.boot_len (pa_cons (pv 3) pa_nil))) (fun _ _=>rfl)))) pa_nil)))))),?_⟩
 refine ⟨_,rfl,_,_,rfl,rfl,small lsomeB,_,_,rfl,rfl,small lsomeC,?_⟩
 rw [csomeB]
 refine ⟨rfl,_,rfl,_,rfl,(by omega),(by omega),lc_range (fun i ys H'=>H' = H∧∃ cs:List Nat,cs.length=i∧(∀ d ∈ cs,33≤d∧d < 127)∧ys=cs.map fun d=>V.str (tx [d])) ⟨rfl,[],rfl,by simp,rfl⟩ ?_ ?_ ?_⟩
 ·rintro i ys H' hi ⟨_,cs,hl,_,rfl⟩
  rw [List.length_map,hl]
  exact Nat.lt_of_lt_of_le (show i < 1000 by simp at hi; omega) (small (Nat.le_refl _))
 ·rintro i ys H' hi ⟨rfl,cs,hl,hd,rfl⟩
  refine yes_go ?_
  have hi':i < 60:=by simp at hi; omega
  have el:(tx sgnB).cps.toList=sgnB:=by simp
  obtain ⟨c,hc,ec⟩:=pick (tx sgnB).cps.toList ((tx sgnB).length:Nat) (x+y * (0+(i:Int))) (by rw [el,tx_len]) (by rw [tx_len]; decide)
  rw [el] at hc
  refine ⟨_,rfl,_,rfl,_,rfl,_,rfl,_,_,rfl,rfl,.inl ⟨by omega,by omega⟩,_,_,rfl,rfl,_,rfl,_,rfl,small (by rw [tx_len]; decide),_,_,rfl,rfl,(by (first | decide | (show (0:Int) < _; first | decide | omega))),_,_,_,rfl,rfl,small (by rw [tx_len]; decide),ec,rfl,cs++[c],by simp [hl],?_,by simp⟩
  intro e he
  rcases List.mem_append.mp he with he | he
  ·exact hd e he
  ·rw [List.mem_singleton.mp he]; exact sgnB_in c hc
 ·rintro ys H' ⟨rfl,cs,hl,hd,rfl⟩ p hp
  have hl':cs.length=many:=by rw [hl]; simp
  have g1:Same H' (upd H' p (.lst (cs.map fun d=>V.str (tx [d])))):=same_new hp _
  refine ⟨_,p,cs.map (fun d=>tx [d]),rfl,rfl,SqL.of (by rw [upd_same,List.map_map]; rfl),by decide,by rw [sum_one,List.length_map]; omega,?_⟩
  have ej:Txt.join (PySem.Str.ofString "") (cs.map fun d=>tx [d])=tx cs:=by
   have:=join_tx [] (cs.map fun d=>[d])
   rw [List.map_map,join_one] at this
   rw [ce]
   exact this
  rw [ej]
  exact q _ _ g1 (by omega) (by omega) hd
def sp_l_saying (K:PySem.W.Frag) : Sp:=fun vs H Q _=>∃ (a:Addr) (xs:List Int) (many:Nat),vs=[.ref a,.int (many:Int)]∧SqL K H a (xs.map V.int)∧StrOk 4 xs∧1≤many∧∀ q H' s,Same H H'→SqT K H' q (sayV s)→SayOk many s→Q (.ref q) H'
theorem sc_l_saying:FnScope ["xs","count","many"] ["xs","count"] (defScope s_l_saying):=⟨rfl,rfl,rfl,by decide +kernel,rfl,by decide +kernel,by decide +kernel⟩
theorem ok_l_saying (T:Txt P w K mg a) : FnOk P w K mg base CX0 2 a.f_l_saying a.fd_l_saying ["xs","count"] (sp_l_saying K):=by
 have g_l_text:=ok_l_text (P:=P) (w:=w) (base:=base) T
 have d_l_text:=T.d_l_text
 refine T.d_l_saying.fn.ok sc_l_saying (fun vs H Q E h=>?_) (fun cdv A outer s H vs Q E hr h=>?_)
 ·obtain ⟨a,xs,many,rfl,_⟩:=h
  rfl
 obtain ⟨a,xs,many,rfl,hx,ok,m1,q⟩:=h
 have hu:=Nat.lt_of_succ_lt (hu_of hr)
 refine ⟨_,(pss_cons (ps_if (pt_cmpR op_eq (pe_op op_mod (pe_ix ix_list (pv 0) pe_int (fun _ _=>rfl)) pe_int) pe_int (nomark _)) (pss_one (ps_ret (pe_tup (pa_cons pe_str (pa_cons (pe_op op_mod (pe_ix ix_list (pv 0) pe_int (fun _ _=>rfl)) (pv 1)) pa_nil))))) pss_nil)
   (pss_cons (ps_if (pt_cmpR op_eq (pe_op op_mod (pe_ix ix_list (pv 0) pe_int (fun _ _=>rfl)) pe_int) pe_int (nomark _)) (pss_one (ps_ret (pe_tup (pa_cons pe_str (pa_cons (pe_op op_mod (pe_ix ix_list (pv 0) pe_int (fun _ _=>rfl)) (pv 1)) pa_nil))))) pss_nil)
   (pss_cons (ps_set (i:=2) sc_l_saying.nd rfl (Or.inl rfl) (pe_op op_add pe_int (pe_op op_mod (pe_ix ix_list (pv 0) pe_int (fun _ _=>rfl)) pe_int)))
   (pss_cons (ps_if (pt_cmpR op_eq (pe_op op_mod (pe_ix ix_list (pv 0) pe_int (fun _ _=>rfl)) pe_int) pe_int (nomark _)) (pss_one (ps_set (i:=2) sc_l_saying.nd rfl (Or.inl rfl) (pe_op op_add pe_int (pe_op op_mod (pe_ix ix_list (pv 0) pe_int (fun _ _=>rfl)) pe_int)))) pss_nil)
   (pss_one (ps_ret (pe_tup (pa_cons pe_str (pa_cons (pe_callD d_l_text g_l_text (hr.mono (by decide)) rfl (pa_cons (pe_ix ix_list (pv 0) pe_int (fun _ _=>rfl)) (pa_cons (pe_ix ix_list (pv 0) pe_int (fun _ _=>rfl)) (pa_cons (pv 2) pa_nil)))) pa_nil))))))))),?_⟩
 have a0:=ok.at (k:=0) (by (first | decide | (show (0:Int) < _; first | decide | omega)))
 have a1:=ok.at (k:=1) (by (first | decide | (show (0:Int) < _; first | decide | omega)))
 have a2:=ok.at (k:=2) (by (first | decide | (show (0:Int) < _; first | decide | omega)))
 have a3:=ok.at (k:=3) (by (first | decide | (show (0:Int) < _; first | decide | omega)))
 have g3:=ok.get (k:=3) (by (first | decide | (show (0:Int) < _; first | decide | omega)))
 generalize xs.getD 0 0=x0 at a0
 generalize xs.getD 1 0=x1 at a1
 generalize xs.getD 2 0=x2 at a2
 generalize xs.getD 3 0=x3 at a3 g3
 have b1:=Int.emod_nonneg x1 (show (many:Int)≠0 by omega)
 have b2:=Int.emod_lt_of_pos x1 (show 0 < (many:Int) by omega)
 obtain ⟨k,hk⟩:=Int.eq_ofNat_of_zero_le b1
 have hk2:k < many:=by omega
 refine ⟨_,rfl,_,_,_,_,rfl,rfl,hx,a0,_,_,rfl,rfl,(by (first | decide | (show (0:Int) < _; first | decide | omega))),rfl,_,rfl,?_⟩
 refine ite2 (fun _=>?_) (fun _=>?_)
 ·refine ⟨_,rfl,_,_,_,_,rfl,rfl,hx,a1,_,rfl,_,_,rfl,rfl,(show 0 < (many:Int) by omega),le2,fun p1 hp1=>?_⟩
  refine q _ _ (.page k) (same_new hp1 _) (SqT.of ?_) hk2
  rw [upd_same]
  show some (HO.tup [V.str (PySem.Str.ofString "page"),V.int (x1 % (many:Int))])=_
  rw [hk]
  rfl
 refine ⟨_,rfl,_,_,_,_,rfl,rfl,hx,a0,_,_,rfl,rfl,(by (first | decide | (show (0:Int) < _; first | decide | omega))),rfl,_,rfl,?_⟩
 refine ite2 (fun _=>?_) (fun _=>?_)
 ·refine ⟨_,rfl,_,_,_,_,rfl,rfl,hx,a1,_,rfl,_,_,rfl,rfl,(show 0 < (many:Int) by omega),le2,fun p1 hp1=>?_⟩
  refine q _ _ (.row k) (same_new hp1 _) (SqT.of ?_) hk2
  rw [upd_same]
  show some (HO.tup [V.str (PySem.Str.ofString "row"),V.int (x1 % (many:Int))])=_
  rw [hk]
  rfl
 refine ⟨_,rfl,_,_,_,_,rfl,rfl,hx,a2,_,_,rfl,rfl,(by (first | decide | (show (0:Int) < _; first | decide | omega))),_,_,rfl,rfl,?_⟩
 dsimp only [gName]
 refine cut_seq (fun σ' H'=>H' = H∧∃ z:Nat,1≤z∧z≤60∧σ' = [some (.ref a),some (.int (many:Int)),some (.int (z:Int))]) ?_ (fun key=>?_)
 ·rintro σ' H' ⟨rfl,z,z1,z2,rfl⟩
  refine ⟨_,rfl,_,_,_,_,rfl,rfl,hx,a1,_,rfl,_,_,_,_,rfl,rfl,hx,a3,_,rfl,_,_,_,rfl,g3.1,g3.2,z1,z2,fun l H2 s2 l1 l2 l3=>?_⟩
  refine ⟨le2,fun p3 hp3=>?_⟩
  exact q _ _ (.text l) (s2.trans (same_new hp3 _)) (SqT.of upd_same) ⟨l1,l2,l3⟩
 ·refine ⟨_,rfl,_,_,_,_,rfl,rfl,hx,a0,_,_,rfl,rfl,(by (first | decide | (show (0:Int) < _; first | decide | omega))),rfl,_,rfl,?_⟩
  refine ite2 (fun c=>?_) (fun c=>?_)
  ·refine ⟨_,rfl,_,_,_,_,rfl,rfl,hx,a2,_,_,rfl,rfl,(by (first | decide | (show (0:Int) < _; first | decide | omega))),_,_,rfl,rfl,?_⟩
   obtain ⟨z,hz⟩:=Int.eq_ofNat_of_zero_le (show 0≤1+x2 % 60 by omega)
   exact key _ _ ⟨rfl,z,by omega,by omega,(by show [some (V.ref a),some (V.int (many:Int)),some (V.int (1+x2 % 60))]=_; rw [hz])⟩
  ·obtain ⟨z,hz⟩:=Int.eq_ofNat_of_zero_le (show 0≤1+x2 % 6 by omega)
   exact key _ _ ⟨rfl,z,by omega,by omega,(by show [some (V.ref a),some (V.int (many:Int)),some (V.int (1+x2 % 6))]=_; rw [hz])⟩
theorem sq_small {x:Int} (h0:0≤x) (h1:x < 2147483647) : 0≤x * x∧x * x≤2147483647 * 2147483647:=⟨Int.mul_nonneg h0 h0,Int.mul_le_mul (by omega) (by omega) h0 (by (first | decide | (show (0:Int) < _; first | decide | omega)))⟩
def sp_l_stream:Sp:=fun vs H Q _=>∃ (c:Int) (n:Nat),vs=[.int c,.int (n:Int)]∧n≤20∧∀ q H' xs,Same H H'→H q=none→H' q=some (.lst (xs.map V.int))→StrOk n xs→Q (.ref q) H'
theorem sc_l_stream:FnScope ["cell","many","found","number","k"] ["cell","many"] (defScope s_l_stream):=⟨rfl,rfl,rfl,by decide +kernel,rfl,by decide +kernel,by decide +kernel⟩
theorem ok_l_stream (T:Txt P w K mg a) : FnOk P w K mg base CX0 1 a.f_l_stream a.fd_l_stream ["cell","many"] sp_l_stream:=by
 have z_range:=T.z_range
 refine T.d_l_stream.fn.ok sc_l_stream (fun vs H Q E h=>?_) (fun cdv A outer s H vs Q E hr h=>?_)
 ·obtain ⟨c,n,rfl,_⟩:=h
  rfl
 obtain ⟨c,n,rfl,n20,q⟩:=h
 have hu:=Nat.lt_of_succ_lt (hu_of hr)
 refine ⟨_,(pss_cons (ps_set (i:=2) sc_l_stream.nd rfl (Or.inl rfl) (pe_lst pa_nil))
   (pss_cons (ps_set (i:=3) sc_l_stream.nd rfl (Or.inl rfl) (pe_op op_mod (pv 0) pe_int))
   (pss_cons (ps_for PassesOwn.never rfl (pi_range1 rfl z_range (pa_cons (pe_op op_add (pv 1) pe_int) pa_nil)) (pg_name (i:=4) sc_l_stream.nd rfl (Or.inl rfl)) (pss_cons (ps_set (i:=3) sc_l_stream.nd rfl (Or.inl rfl) (pe_op op_mod (pe_op op_add (pe_op op_add (pe_op op_add (pe_op op_mul (pv 3) (pv 3)) (pe_op op_mul pe_int (pv 3))) (pe_op op_mul pe_int (pv 4))) pe_int) pe_int))
   (pss_one (ps_expr (pe_bm PySem.F.plainAttrs_list PySem.F.slot_list_append PySem.F.type_list_append mt_append (pv 2) (pa_cons (pv 3) pa_nil))))))
   (pss_one (ps_ret (pe_slice sl_list (pv 2) (po_some pe_int) po_none)))))),?_⟩
 refine ⟨Nat.zero_le _,fun r hr=>?_⟩
 have s0:=same_new hr (.lst [])
 refine ⟨_,rfl,_,_,rfl,rfl,(by (first | decide | (show (0:Int) < _; first | decide | omega))),?_⟩
 refine ⟨_,rfl,_,_,rfl,rfl,_,rfl,(by omega),(by omega),for_range (fun i σ H2=>Same H H2∧∃ (xs:List Int) (z:Int) (v:Option V),0≤z∧z < 2147483647∧σ=[some (.int c),some (.int (n:Int)),some (.ref r),some (.int z),v]∧StrOk i xs∧H2 r=some (.lst (xs.map V.int)))
  ⟨s0,[],_,none,Int.emod_nonneg _ (by (first | decide | (show (0:Int) < _; first | decide | omega))),Int.emod_lt_of_pos _ (by (first | decide | (show (0:Int) < _; first | decide | omega))),rfl,⟨rfl,fun x hx=>by simp at hx⟩,upd_same⟩ ?_ ?_⟩
 ·rintro i σ H2 hi ⟨s2,xs,z,v,z0,z1,rfl,ok,h2⟩
  have hi2:i < 21:=by omega
  have sq:=sq_small z0 z1
  refine ⟨_,rfl,_,rfl,_,_,rfl,rfl,.inl ⟨by omega,by omega⟩,_,rfl,_,_,rfl,rfl,.inl ⟨by decide,by decide⟩,_,_,rfl,rfl,_,rfl,_,_,rfl,rfl,.inl ⟨by decide,by decide⟩,_,_,rfl,rfl,_,_,rfl,rfl,_,_,rfl,rfl,(by (first | decide | (show (0:Int) < _; first | decide | omega))),?_⟩
  dsimp only [gName]
  have m1:=Int.emod_nonneg (z * z+48271 * z+7 * (0+(i:Int))+11) (show (2147483647:Int)≠0 by decide)
  have m2:=Int.emod_lt_of_pos (z * z+48271 * z+7 * (0+(i:Int))+11) (show (0:Int) < 2147483647 by decide)
  generalize (z * z+48271 * z+7 * (0+(i:Int))+11) % 2147483647=y at m1 m2
  refine ⟨_,rfl,.inl ⟨rfl,_,SqL.of h2⟩,_,rfl,_,_,_,rfl,rfl,h2,?_,?_⟩
  ·rw [List.length_map,ok.1]
   exact Nat.lt_of_lt_of_le (show i < 1000 by omega) (small (Nat.le_refl _))
  ·refine ⟨s2.put hr,xs++[y],_,_,m1,m2,rfl,⟨by simp [ok.1],fun x hx=>?_⟩,?_⟩
   ·rcases List.mem_append.mp hx with hx | hx
    ·exact ok.2 x hx
    ·rw [List.mem_singleton.mp hx]; exact ⟨m1,m2⟩
   ·rw [upd_same,map_snoc]
 ·rintro σ H2 ⟨s2,xs,z,v,z0,z1,rfl,ok,h2⟩
  refine ⟨_,rfl,_,rfl,_,_,rfl,SqL.of h2,fun p2 hp2=>?_⟩
  have ok2:xs.length=n+1:=by rw [ok.1]; omega
  have ec:cutV (xs.map V.int) (some 1) none=(xs.drop 1).map V.int:=by
   unfold cutV HT.sIx
   rw [List.length_map,List.map_drop]
   have e1:min (1:Int).toNat xs.length=1:=by omega
   simp only [show ¬ ((1:Int) < 0) by decide,if_false]
   rw [e1,List.take_of_length_le (by simp)]
  refine q _ _ (xs.drop 1) (s2.trans (same_new hp2 _)) (s2.free hp2) (by rw [upd_same]; exact congrArg (fun t=>some (HO.lst t)) ec) ⟨by simp; omega,fun x hx=>ok.2 x (List.mem_of_mem_drop hx)⟩
theorem pick_lead (k:Int) : ∃ z:Int,0≤z∧z≤4∧atI [V.int 0,V.int 0,V.int 1,V.int 0,V.int 0,V.int 2,V.int 0,V.int 3,V.int 0,V.int 0,V.int 4,V.int 1] (k % 12)=some (V.int z):=by
 obtain ⟨u,m,e⟩:=pick [V.int 0,V.int 0,V.int 1,V.int 0,V.int 0,V.int 2,V.int 0,V.int 3,V.int 0,V.int 0,V.int 4,V.int 1] 12 k rfl (by (first | decide | (show (0:Int) < _; first | decide | omega)))
 simp only [List.mem_cons,List.not_mem_nil,or_false] at m
 rcases m with rfl | rfl | rfl | rfl | rfl | rfl | rfl | rfl | rfl | rfl | rfl | rfl <;> exact ⟨_,by decide,by decide,e⟩
def sp_l_word (K:PySem.W.Frag) : Sp:=fun vs H Q _=>∃ (c:Int) (many:Nat),vs=[.int c,.int (many:Int)]∧1≤many∧∀ q H' d,Same H H'→WdAt K H' q d→WdOk many d→Q (.ref q) H'
theorem sc_l_word:FnScope ["cell","count","xs","foot","lead"] ["cell","count"] (defScope s_l_word):=⟨rfl,rfl,rfl,by decide +kernel,rfl,by decide +kernel,by decide +kernel⟩
theorem ok_l_word (T:Txt P w K mg a) : FnOk P w K mg base CX0 3 a.f_l_word a.fd_l_word ["cell","count"] (sp_l_word K):=by
 have g_l_saying:=ok_l_saying (P:=P) (w:=w) (base:=base) T
 have d_l_saying:=T.d_l_saying
 have g_l_stream:=ok_l_stream (P:=P) (w:=w) (base:=base) T
 have d_l_stream:=T.d_l_stream
 have z_range:=T.z_range
 refine T.d_l_word.fn.ok sc_l_word (fun vs H Q E h=>?_) (fun cdv A outer s H vs Q E hr h=>?_)
 ·obtain ⟨c,many,rfl,_⟩:=h
  rfl
 obtain ⟨c,many,rfl,m1,q⟩:=h
 have hu:=Nat.lt_of_succ_lt (hu_of hr)
 refine ⟨_,(@pss_cons _ _ _ _ _ (ps_set (i:=2) sc_l_word.nd rfl (Or.inr rfl) (pe_callD d_l_stream g_l_stream (hr.mono (by decide)) rfl (pa_cons (pv 0) (pa_cons pe_int pa_nil))))
   (@pss_cons _ _ _ _ _ (ps_set (i:=3) sc_l_word.nd rfl (Or.inl rfl) (pe_lst pa_nil))
   (@pss_cons _ _ _ _ _ (ps_if (pt_cmpR op_eq (pe_op op_mod (pe_ix ix_list (pv 2) pe_int (fun _ _=>rfl)) pe_int) pe_int (nomark _)) (pss_one (ps_lc (k:=3) rfl (lcok (caps:=["count","xs"]) (js:=[1,2]) (cap:=⟨⟨rfl,.inl rfl,rfl,.inl rfl⟩,⟨⟨rfl,.inl rfl,rfl,.inl rfl⟩,trivial⟩⟩)) (pi_range1 rfl z_range (pa_cons (pe_op op_add pe_int (pe_op op_mod (pe_ix ix_list (pv 2) pe_int (fun _ _=>rfl)) pe_int)) pa_nil)) (fun _ _ _ _=>pts_nil) (fun _ _ _ _=>(pe_callD d_l_saying g_l_saying (hr.mono (by decide)) rfl (pa_cons (pe_slice (r:=rSlL K) sl_list (pv 2) (po_some (pe_op op_add pe_int (pe_op op_mul pe_int (pv 0)))) (po_some (pe_op op_add pe_int (pe_op op_mul pe_int (pv 0))))) (pa_cons (pv 1) pa_nil)))) sc_l_word.nd rfl rfl)) pss_nil)
   (@pss_cons _ _ _ _ _ (@ps_pick _ 4 _ _ _ _ _ _ _ _ _ sc_l_word.nd rfl (Or.inl rfl) (CL.int (CL.int (CL.int (CL.int (CL.int (CL.int (CL.int (CL.int (CL.int (CL.int (CL.int (CL.int CL.nil)))))))))))) (pe_op op_mod (pe_ix ix_list (pv 2) pe_int (fun _ _=>rfl)) pe_int) (fun _ _=>rfl) (by first | exact .inl rfl | exact .inr rfl))
   (pss_one (ps_ret (pe_tup (pa_cons (pv 4) (pa_cons (pe_cmpR op_eq (pe_op op_mod (pe_ix ix_list (pv 2) pe_int (fun _ _=>rfl)) pe_int) pe_int (nomark _)) (pa_cons (pe_callD d_l_saying g_l_saying (hr.mono (by decide)) rfl (pa_cons (pe_slice sl_list (pv 2) (po_some pe_int) (po_some pe_int)) (pa_cons (pv 1) pa_nil))) (pa_cons (pv 3) pa_nil))))))))))),?_⟩
 refine ⟨_,rfl,_,(16:Nat),rfl,by decide,fun xa H1 xs s1 nx hx ok=>?_⟩
 have a4:=ok.at (k:=4) (by (first | decide | (show (0:Int) < _; first | decide | omega)))
 have a5:=ok.at (k:=5) (by (first | decide | (show (0:Int) < _; first | decide | omega)))
 have a6:=ok.at (k:=6) (by (first | decide | (show (0:Int) < _; first | decide | omega)))
 have a7:=ok.at (k:=7) (by (first | decide | (show (0:Int) < _; first | decide | omega)))
 refine ⟨Nat.zero_le _,fun fo hfo=>?_⟩
 have s2:=same_new hfo (.lst [])
 have hx2:=s2 _ _ hx
 have hfo2:(upd H1 fo (.lst [])) fo=some (.lst []):=upd_same
 generalize upd H1 fo (.lst [])=H2 at s2 hx2 hfo2
 have sq:=SqL.of (K:=K) hx2
 dsimp only [gName]
 refine cut_seq (fun σ' H'=>Same H2 H'∧∃ (fa:Addr) (bs:List Addr) (ss:List Say),σ' = [some (.int c),some (.int (many:Int)),some (.ref xa),some (.ref fa),none]∧SqL K H' fa (bs.map V.ref)∧SaysA K H' bs ss∧(∀ s ∈ ss,SayOk many s)∧ss.length≤40) ?_ (fun key=>?_)
 ·rintro σ' H3 ⟨s3,fa,bs,ss,rfl,hfa,hbs,so,sl⟩
  refine ⟨small (by (first | decide | (show (0:Int) < _; first | decide | omega))),fun p2 hp2=>?_⟩
  obtain ⟨le,le0,le4,ele⟩:=pick_lead (xs.getD 4 0)
  have s4:=same_new hp2 (.lst [V.int 0,V.int 0,V.int 1,V.int 0,V.int 0,V.int 2,V.int 0,V.int 3,V.int 0,V.int 0,V.int 4,V.int 1])
  refine ⟨_,rfl,_,_,_,_,rfl,rfl,s4.seq (s3.seq sq),a4,_,_,rfl,rfl,(by (first | decide | (show (0:Int) < _; first | decide | omega))),_,_,_,_,rfl,rfl,SqL.of upd_same,ele,?_⟩
  generalize upd H3 p2 (.lst [V.int 0,V.int 0,V.int 1,V.int 0,V.int 0,V.int 2,V.int 0,V.int 3,V.int 0,V.int 0,V.int 4,V.int 1])=H4 at s4
  refine ⟨_,rfl,_,rfl,_,_,_,_,rfl,rfl,s4.seq (s3.seq sq),a5,_,_,rfl,rfl,(by (first | decide | (show (0:Int) < _; first | decide | omega))),rfl,_,rfl,_,rfl,_,rfl,_,_,rfl,s4.seq (s3.seq sq),fun p3 hp3=>?_⟩
  have s5:=same_new hp3 (.lst (cutV (xs.map V.int) (some 0) (some 4)))
  have ec:cutV (xs.map V.int) (some 0) (some 4)=((xs.drop 0).take 4).map V.int:=by
   have:=cut_nat xs 0 4
   rw [cutV_map]
   exact congrArg (List.map V.int) this
  refine ⟨_,rfl,_,_,many,rfl,SqL.of (by rw [upd_same,ec]),ok.cut 4 (by (first | decide | (show (0:Int) < _; first | decide | omega))),m1,fun sa H6 s s6 hs hso=>?_⟩
  refine ⟨_,rfl,L2.le4,fun p7 hp7=>?_⟩
  have s7:=same_new hp7 (.tup [V.int le,V.bl (decide (V.int (xs.getD 5 0 % 4)=V.int 0)),V.ref sa,V.ref fa])
  have t:=s5.trans (s6.trans s7)
  refine q _ _ ⟨le,_,s,ss⟩ (s1.trans (s2.trans (s3.trans (s4.trans t)))) ⟨sa,fa,bs,SqT.of upd_same,s7.tup hs,t.seq (s4.seq hfa),(hbs.same s4).same t⟩ ⟨le0,le4,hso,so,sl⟩
 ·refine ⟨_,rfl,_,_,_,_,rfl,rfl,sq,a6,_,_,rfl,rfl,(by (first | decide | (show (0:Int) < _; first | decide | omega))),rfl,_,rfl,?_⟩
  refine ite2 (fun c=>?_) (fun c=>?_)
  ·have e7:xs.getD 7 0 % 2=0∨xs.getD 7 0 % 2=1:=by omega
   refine ⟨_,rfl,_,_,_,_,rfl,rfl,sq,a7,_,_,rfl,rfl,(by (first | decide | (show (0:Int) < _; first | decide | omega))),_,_,rfl,rfl,_,rfl,(by omega),(by omega),lc_range (fun i ys H'=>Same H2 H'∧∃ (bs:List Addr) (ss:List Say),ss.length=i∧ys=bs.map V.ref∧SaysA K H' bs ss∧∀ s ∈ ss,SayOk many s) ⟨Same.refl _,[],[],rfl,rfl,SaysA.nil,fun s hs=>by simp at hs⟩ ?_ ?_ ?_⟩
   ·rintro i ys H' hi ⟨_,bs,ss,hl,rfl,hb,_⟩
    rw [List.length_map,hb.1,hl]
    exact Nat.lt_of_lt_of_le (show i < 1000 by omega) (small (Nat.le_refl _))
   ·rintro i ys H3 hi ⟨s3,bs,ss,hl,rfl,hb,so⟩
    refine yes_go ?_
    have hi2:i < 2:=by omega
    refine ⟨_,rfl,_,rfl,_,_,rfl,rfl,.inl ⟨by decide,by decide⟩,_,_,rfl,rfl,_,rfl,_,rfl,_,_,rfl,rfl,.inl ⟨by decide,by decide⟩,_,_,rfl,rfl,_,rfl,_,_,rfl,s3.seq sq,fun p5 hp5=>?_⟩
    have ec:cutV (xs.map V.int) (some (8+4 * (0+(i:Int)))) (some (12+4 * (0+(i:Int))))=((xs.drop (8+4 * i)).take 4).map V.int:=by
     have:=cut_nat xs (8+4 * i) (12+4 * i)
     have e1:(8+4 * (0+(i:Int)))=((8+4 * i:Nat) : Int):=by omega
     have e2:(12+4 * (0+(i:Int)))=((12+4 * i:Nat) : Int):=by omega
     have e3:12+4 * i - (8+4 * i)=4:=by omega
     rw [e3] at this
     rw [cutV_map,e1,e2]
     exact congrArg (List.map V.int) this
    have s5:=same_new hp5 (.lst (cutV (xs.map V.int) (some (8+4 * (0+(i:Int)))) (some (12+4 * (0+(i:Int))))))
    refine ⟨_,rfl,_,_,many,rfl,SqL.of (by rw [upd_same,ec]),ok.cut 4 (by omega),m1,fun sa H6 s s6 hs hso=>?_⟩
    have t:=s5.trans s6
    refine ⟨s3.trans t,bs++[sa],ss++[s],by simp [hl],refs_snoc _ _,(hb.same t).app (SaysA.one hs),fun u hu=>?_⟩
    rcases List.mem_append.mp hu with hu | hu
    ·exact so u hu
    ·rw [List.mem_singleton.mp hu]; exact hso
   ·rintro ys H3 ⟨s3,bs,ss,hl,rfl,hb,so⟩ p hp
    have s4:=same_new hp (.lst (bs.map V.ref))
    exact key _ _ ⟨s3.trans s4,p,bs,ss,rfl,SqL.of upd_same,hb.same s4,so,by omega⟩
  ·exact key _ _ ⟨Same.refl _,fo,[],[],rfl,SqL.of hfo2,SaysA.nil,fun s hs=>by simp at hs,by simp⟩
def sp_l_book (K:PySem.W.Frag) : Sp:=fun vs H Q _=>∃ (sa:Addr) (ns:List Int) (most:Nat),vs=[.ref sa,.int (most:Int)]∧SqL K H sa (ns.map V.int)∧most≤60∧∀ q H' w h f m ds,Same H H'→BkAt K H' q w h f m ds→FormOk w h f m→ds.length=((ns.drop 4).take most).length→(∀ d ∈ ds,WdOk ds.length d)→Q (.ref q) H'
theorem sc_l_book:FnScope ["script","most","row"] ["script","most"] (defScope s_l_book):=⟨rfl,rfl,rfl,by decide +kernel,rfl,by decide +kernel,by decide +kernel⟩
theorem ok_l_book (T:Txt P w K mg a) : FnOk P w K mg base CX0 4 a.f_l_book a.fd_l_book ["script","most"] (sp_l_book K):=by
 have g_l_form:=ok_l_form (P:=P) (w:=w) (base:=base) T
 have d_l_form:=T.d_l_form
 have g_l_word:=ok_l_word (P:=P) (w:=w) (base:=base) T
 have d_l_word:=T.d_l_word
 have z_len:=T.z_len
 refine T.d_l_book.fn.ok sc_l_book (fun vs H Q E h=>?_) (fun cdv A outer s H vs Q E hr h=>?_)
 ·obtain ⟨sa,ns,most,rfl,_⟩:=h
  rfl
 obtain ⟨sa,ns,most,rfl,hS,m60,q⟩:=h
 have hu:=Nat.lt_of_succ_lt (hu_of hr)
 refine ⟨_,(pss_cons (ps_set (i:=2) sc_l_book.nd rfl (Or.inr rfl) (pe_slice sl_list (pv 0) (po_some pe_int) (po_some (pe_op op_add pe_int (pv 1)))))
   (pss_one (ps_ret (pe_tup (pa_cons (pe_callD d_l_form g_l_form (hr.mono (by decide)) rfl (pa_cons (pv 0) pa_nil)) (pa_cons (pe_lc rfl (lcok (caps:=["row"]) (js:=[2]) (cap:=⟨⟨rfl,.inl rfl,rfl,.inl rfl⟩,trivial⟩)) (pi_list (pv 2)) (fun _ _ _ _=>pts_nil) (fun _ _ _ _=>(pe_callD d_l_word g_l_word (hr.mono (by decide)) rfl (pa_cons (pv 0) (pa_cons (pe_callB (r:=rLen K) call_len_seq rfl z_len PySem.boot_len (pa_cons (pv 1) pa_nil)) pa_nil))))) pa_nil)))))),?_⟩
 refine ⟨_,rfl,_,rfl,_,rfl,_,_,rfl,rfl,_,rfl,_,_,rfl,hS,fun ra hra=>?_⟩
 have ec:cutV (ns.map V.int) (some 4) (some (4+(most:Int)))=((ns.drop 4).take most).map V.int:=by
  have:=cut_nat ns 4 (4+most)
  have e1:(4+(most:Int))=((4+most:Nat) : Int):=by omega
  rw [Nat.add_sub_cancel_left] at this
  rw [cutV_map,e1]
  exact congrArg (List.map V.int) this
 have s1:=same_new hra (.lst (cutV (ns.map V.int) (some 4) (some (4+(most:Int)))))
 have h1:(upd H ra (.lst (cutV (ns.map V.int) (some 4) (some (4+(most:Int)))))) ra=some (.lst (((ns.drop 4).take most).map V.int)):=by rw [upd_same,ec]
 generalize upd H ra (.lst (cutV (ns.map V.int) (some 4) (some (4+(most:Int)))))=H1 at s1 h1
 have cl:((ns.drop 4).take most).length≤60:=by rw [List.length_take]; omega
 generalize (ns.drop 4).take most=cs at h1 q cl
 refine ⟨_,rfl,_,_,rfl,s1.seq hS,fun fa H2 w h f m s2 hf fo=>?_⟩
 have hc2:SqL K H2 ra (cs.map V.int):=s2.seq (SqL.of h1)
 refine ⟨_,rfl,_,rfl,⟨_,hc2⟩,lc_list (K:=K) (a:=ra) (xs:=cs.map V.int) (fun i ys H3=>Same H2 H3∧∃ (as:List Addr) (ds:List Wd),ds.length=i∧ys=as.map V.ref∧WdsA K H3 as ds∧∀ d ∈ ds,WdOk cs.length d) ⟨Same.refl _,[],[],rfl,rfl,WdsA.nil,fun s hs=>by simp at hs⟩ (fun i ys H3 _ h3=>h3.1.seq hc2) ?_ ?_ ?_⟩
 ·rintro i ys H3 hi ⟨_,as,ds,hl,rfl,hb,_⟩
  rw [List.length_map] at hi
  rw [List.length_map,hb.1,hl]
  exact Nat.lt_of_lt_of_le (show i < 1000 by omega) (small (Nat.le_refl _))
 ·rintro i y ys H3 hi ⟨s3,as,ds,hl,rfl,hb,wo⟩
  have ci:i < cs.length:=by
   have:=(List.getElem?_eq_some_iff.mp hi).1
   rw [List.length_map] at this
   exact this
  obtain ⟨z,rfl,_⟩:=get_int hi
  refine yes_go ?_
  refine ⟨_,rfl,_,rfl,_,_,rfl,.inl (s3.seq hc2),_,cs.length,(by rw [List.length_map]; rfl),by omega,fun q4 H4 d s4 hd hok=>?_⟩
  refine ⟨s3.trans s4,as++[q4],ds++[d],by simp [hl],refs_snoc _ _,(hb.same s4).snoc hd,fun u hu=>?_⟩
  rcases List.mem_append.mp hu with hu | hu
  ·exact wo u hu
  ·rw [List.mem_singleton.mp hu]; exact hok
 ·rintro ys H3 ⟨s3,as,ds,hl,rfl,hb,wo⟩ p hp
  rw [List.length_map] at hl
  have s4:=same_new hp (.lst (as.map V.ref))
  refine ⟨le2,fun p5 hp5=>?_⟩
  have s5:=same_new hp5 (.tup [V.ref fa,V.ref p])
  refine q _ _ _ _ _ _ ds (s1.trans (s2.trans (s3.trans (s4.trans s5)))) ⟨fa,p,as,SqT.of upd_same,(s3.trans (s4.trans s5)).tup hf,s5.seq (SqL.of upd_same),hb.same (s4.trans s5)⟩ fo hl (by rw [hl]; exact wo)
def sp_l_copy (K:PySem.W.Frag) : Sp:=fun vs H Q _=>∃ (ba fa wa:Addr) (was:List Addr) (F:Frm) (ds:List Wd),vs=[.ref ba]∧SqT K H ba [.ref fa,.ref wa]∧SqT K H fa (fm F.w F.h F.f F.m)∧SqL K H wa (was.map V.ref)∧WdsA K H was ds∧ds.length≤400∧∀ q wa' was' H',Same H H'→SqT K H' q [.ref fa,.ref wa']→SqL K H' wa' (was'.map V.ref)→WdsA K H' was' ds→CpA K H' was was'→Q (.ref q) H'
theorem sc_l_copy:FnScope ["book"] ["book"] (defScope s_l_copy):=⟨rfl,rfl,rfl,by decide +kernel,rfl,by decide +kernel,by decide +kernel⟩
theorem ok_l_copy (T:Txt P w K mg a) : FnOk P w K mg base CX0 1 a.f_l_copy a.fd_l_copy ["book"] (sp_l_copy K):=by
 have z_list:=T.z_list
 refine T.d_l_copy.fn.ok sc_l_copy (fun vs H Q E h=>?_) (fun cdv A outer s H vs Q E hr h=>?_)
 ·obtain ⟨ba,fa,wa,was,F,ds,rfl,_⟩:=h
  rfl
 obtain ⟨ba,fa,wa,was,F,ds,rfl,hb,hf,hw,hws,d60,q⟩:=h
 have hu:=Nat.lt_of_succ_lt (hu_of hr)
 refine ⟨_,(pss_one (ps_ret (pe_tup (pa_cons (pe_ix ix_tup (pv 0) pe_int (fun _ _=>rfl)) (pa_cons (pe_lc rfl (lcok (caps:=[]) (js:=[]) (cap:=trivial)) (pi_list (pe_ix ix_tup (pv 0) pe_int (fun _ _=>rfl))) (fun _ _ _ _=>pts_nil) (fun _ _ _ _=>(pe_tup (pa_cons (pe_ix (r:=rIxT K) ix_tup (pv 0) pe_int (fun _ _=>rfl)) (pa_cons (pe_ix (r:=rIxT K) ix_tup (pv 0) pe_int (fun _ _=>rfl)) (pa_cons (pe_ix (r:=rIxT K) ix_tup (pv 0) pe_int (fun _ _=>rfl)) (pa_cons (pe_callTy (r:=rList K) call_list_of rfl z_list PyProof.Rows.boot_list (pa_cons (pe_ix (r:=rIxT K) ix_tup (pv 0) pe_int (fun _ _=>rfl)) pa_nil)) pa_nil))))))) pa_nil))))),?_⟩
 refine ⟨_,rfl,_,_,_,_,rfl,rfl,hb,rfl,_,rfl,_,_,_,_,rfl,rfl,hb,rfl,_,rfl,⟨_,hw⟩,lc_list (K:=K) (a:=wa) (xs:=was.map V.ref) (fun i ys H2=>Same H H2∧∃ was':List Addr,was'.length=i∧ys=was'.map V.ref∧WdsA K H2 was' (ds.take i)∧CpA K H2 (was.take i) was') ⟨Same.refl _,[],rfl,rfl,WdsA.nil,⟨rfl,fun i a b e=>by simp at e⟩⟩ (fun i ys H2 _ h2=>h2.1.seq hw) ?_ ?_ ?_⟩
 ·rintro i ys H2 hi ⟨_,was',hl,rfl,_,_⟩
  rw [List.length_map,hws.1] at hi
  rw [List.length_map,hl]
  exact Nat.lt_of_lt_of_le (show i < 1000 by omega) (small (Nat.le_refl _))
 ·rintro i y ys H2 hi ⟨s2,was',hl,rfl,hd,hc⟩
  obtain ⟨b,d,rfl,eb,ed⟩:=wd_at hws.1 hi
  obtain ⟨sa,fo,bs,ht,g2,g3,g4⟩:=hws.2 i b d eb ed
  refine yes_go ?_
  refine ⟨_,rfl,_,_,_,_,rfl,rfl,s2.tup ht,rfl,_,rfl,_,_,_,_,rfl,rfl,s2.tup ht,rfl,_,rfl,_,_,_,_,rfl,rfl,s2.tup ht,rfl,_,rfl,_,_,_,_,rfl,rfl,s2.tup ht,rfl,_,_,rfl,.inl (s2.seq g3),fun p1 hp1=>?_⟩
  have s3:=same_new hp1 (.lst (bs.map V.ref))
  refine ⟨le4,fun p2 hp2=>?_⟩
  have s4:=same_new hp2 (.tup [V.int d.lead,V.bl d.kept,V.ref sa,V.ref p1])
  have t:=s2.trans (s3.trans s4)
  have ht':SqT K (upd (upd H2 p1 (.lst (bs.map V.ref))) p2 (.tup [V.int d.lead,V.bl d.kept,V.ref sa,V.ref p1])) p2 [V.int d.lead,V.bl d.kept,V.ref sa,V.ref p1]:=SqT.of upd_same
  have hp1':SqL K (upd (upd H2 p1 (.lst (bs.map V.ref))) p2 (.tup [V.int d.lead,V.bl d.kept,V.ref sa,V.ref p1])) p1 (bs.map V.ref):=s4.seq (SqL.of upd_same)
  refine ⟨t,was'++[p2],by simp [hl],refs_snoc _ _,?_,?_⟩
  ·rw [take_snoc ed]
   exact (hd.same (s3.trans s4)).snoc ⟨sa,p1,bs,ht',t.tup g2,hp1',g4.same t⟩
  ·rw [take_snoc eb]
   exact (hc.same (s3.trans s4)).snoc ⟨d.lead,d.kept,sa,fo,p1,bs,t.tup ht,ht',t.seq g3,hp1'⟩
 ·rintro ys H2 ⟨s2,was',hl,rfl,hd,hc⟩ p hp
  have e:(was.map V.ref).length=ds.length:=by rw [List.length_map,hws.1]
  rw [e] at hl hd hc
  rw [List.take_length] at hd
  rw [← hws.1,List.take_length] at hc
  have s3:=same_new hp (.lst (was'.map V.ref))
  refine ⟨le2,fun p2 hp2=>?_⟩
  have s4:=same_new hp2 (.tup [V.ref fa,V.ref p])
  exact q _ p was' _ (s2.trans (s3.trans s4)) (SqT.of upd_same) (s4.seq (SqL.of upd_same)) (hd.same (s3.trans s4)) (hc.same (s3.trans s4))
theorem law_behind {h f l:Int} {x:Int × Int} (l0:0≤l) (l4:l≤4) (hx:RowIn h x) : (if l=0 then x else if l < 3∧x.2+l < h then (x.1,x.2+l) else (if l=4∧(f+(x.1+1)) % 2=0 then (x.1+1+1,0) else (x.1+1,0)))=behindI h f x l:=by
 obtain ⟨p,r⟩:=x
 obtain ⟨a,b,c⟩:=hx
 simp only at a b c
 obtain ⟨q,s,e,d⟩:=behind_desc h f l p r l0 l4
 rw [e]
 dsimp only
 repeat' split
 all_goals (refine Prod.ext ?_ ?_ <;> simp only [] <;> omega)
def sp_l_behind (K:PySem.W.Frag) : Sp:=fun vs H Q _=>∃ (fa a:Addr) (w h f m l:Int) (x:Int × Int),vs=[.ref fa,.ref a,.int l]∧SqT K H fa (fm w h f m)∧SqT K H a (pl x)∧0≤l∧l≤4∧RowIn h x∧∀ q H',Same H H'→SqT K H' q (pl (behindI h f x l))→Q (.ref q) H'
theorem sc_l_behind:FnScope ["form","spot","lead","page"] ["form","spot","lead"] (defScope s_l_behind):=⟨rfl,rfl,rfl,by decide +kernel,rfl,by decide +kernel,by decide +kernel⟩
theorem ok_l_behind (T:Txt P w K mg a) : FnOk P w K mg base CX0 1 a.f_l_behind a.fd_l_behind ["form","spot","lead"] (sp_l_behind K):=by
 refine T.d_l_behind.fn.ok sc_l_behind (fun vs H Q E h=>?_) (fun cdv A outer s H vs Q E hr h=>?_)
 ·obtain ⟨fa,a,w,h,f,m,k,x,rfl,_⟩:=h
  rfl
 obtain ⟨fa,a,w,h,f,m,l,x,rfl,hf,hx,l0,l4,hri,q⟩:=h
 have hu:=Nat.lt_of_succ_lt (hu_of hr)
 refine ⟨_,(pss_cons (ps_if (pt_cmpR op_eq (pv 2) pe_int (nomark _)) (pss_one (ps_ret (pv 1))) pss_nil)
   (pss_cons (ps_if (PW.pt (pw_and (pt_cmpR op_lt (pv 2) pe_int (nomark _)) (pw_and1 (pt_cmpR op_lt (pe_op op_add (pe_ix ix_tup (pv 1) pe_int (fun _ _=>rfl)) (pv 2)) (pe_ix ix_tup (pv 0) pe_int (fun _ _=>rfl)) (nomark _))))) (pss_one (ps_ret (pe_tup (pa_cons (pe_ix ix_tup (pv 1) pe_int (fun _ _=>rfl)) (pa_cons (pe_op op_add (pe_ix ix_tup (pv 1) pe_int (fun _ _=>rfl)) (pv 2)) pa_nil))))) pss_nil)
   (pss_cons (ps_set (i:=3) sc_l_behind.nd rfl (Or.inl rfl) (pe_op op_add (pe_ix ix_tup (pv 1) pe_int (fun _ _=>rfl)) pe_int))
   (pss_cons (ps_if (PW.pt (pw_and (pt_cmpR op_eq (pv 2) pe_int (nomark _)) (pw_and1 (pt_cmpR op_eq (pe_op op_mod (pe_op op_add (pe_ix ix_tup (pv 0) pe_int (fun _ _=>rfl)) (pv 3)) pe_int) pe_int (nomark _))))) (pss_one (ps_set (i:=3) sc_l_behind.nd rfl (Or.inl rfl) (pe_op op_add (pv 3) pe_int))) pss_nil)
   (pss_one (ps_ret (pe_tup (pa_cons (pv 3) (pa_cons pe_int pa_nil))))))))),?_⟩
 rw [← law_behind l0 l4 hri] at q
 refine ⟨_,rfl,rfl,_,rfl,?_⟩
 refine ite2 (fun c0=>?_) (fun c0=>?_)
 ·refine ⟨_,rfl,q _ _ (Same.refl _) ?_⟩
  rw [if_pos (int_eq.mp c0)]
  exact hx
 have n0:=int_ne.mp c0
 rw [if_neg n0] at q
 refine ⟨_,rfl,_,_,rfl,rfl,_,rfl,?_⟩
 by_cases k1:l < 3∧x.2+l < h
 ·refine andG (fun c=>absurd (decide_eq_true k1.1) c) (fun _=>?_)
  refine ⟨_,rfl,_,_,_,_,rfl,rfl,hx,rfl,_,rfl,_,_,rfl,rfl,_,rfl,_,_,_,_,rfl,rfl,hf,rfl,_,_,rfl,rfl,_,rfl,?_⟩
  rw [decide_eq_true k1.2]
  refine iteT ?_
  refine ⟨_,rfl,_,_,_,_,rfl,rfl,hx,rfl,_,rfl,_,_,_,_,rfl,rfl,hx,rfl,_,rfl,_,_,rfl,rfl,le2,fun p1 hp1=>q _ _ (same_new hp1 _) ?_⟩
  rw [if_pos k1]
  exact SqT.of upd_same
 refine andN ?_ (fun ca hb=>?_)
 ·rw [if_neg k1] at q
  refine ⟨_,rfl,_,_,_,_,rfl,rfl,hx,rfl,_,_,rfl,rfl,?_⟩
  dsimp only [gName]
  refine cut_seq (fun σ' H'=>H' = H∧∃ p:Int,σ' = [some (.ref fa),some (.ref a),some (.int l),some (.int p)]∧(if l=4∧(f+(x.1+1)) % 2=0 then ((x.1+1+1,0) : Int × Int) else (x.1+1,0))=(p,0)) ?_ (fun key=>?_)
  ·rintro σ' H' ⟨rfl,p,rfl,e⟩
   refine ⟨_,rfl,le2,fun p1 hp1=>q _ _ (same_new hp1 _) ?_⟩
   rw [e]
   exact SqT.of upd_same
  ·refine ⟨_,rfl,rfl,_,rfl,?_⟩
   by_cases k2:l=4∧(f+(x.1+1)) % 2=0
   ·refine andG (fun c=>absurd (int_eq.mpr k2.1) c) (fun _=>?_)
    refine ⟨_,rfl,_,_,_,_,rfl,rfl,hf,rfl,_,rfl,_,_,rfl,rfl,_,_,rfl,rfl,(by (first | decide | (show (0:Int) < _; first | decide | omega))),rfl,_,rfl,?_⟩
    refine ite2 (fun _=>?_) (fun c=>absurd (int_eq.mpr k2.2) c)
    refine ⟨_,rfl,_,_,rfl,rfl,key _ _ ⟨rfl,x.1+1+1,rfl,by rw [if_pos k2]⟩⟩
   ·refine andN (key _ _ ⟨rfl,x.1+1,rfl,by rw [if_neg k2]⟩) (fun c hb=>?_)
    refine ⟨_,rfl,_,_,_,_,rfl,rfl,hf,rfl,_,rfl,_,_,rfl,rfl,_,_,rfl,rfl,(by (first | decide | (show (0:Int) < _; first | decide | omega))),rfl,_,rfl,?_⟩
    exact ite2 (fun c2=>absurd ⟨int_eq.mp c,int_eq.mp c2⟩ k2) (fun _=>hb)
 ·refine ⟨_,rfl,_,_,_,_,rfl,rfl,hx,rfl,_,rfl,_,_,rfl,rfl,_,rfl,_,_,_,_,rfl,rfl,hf,rfl,_,_,rfl,rfl,_,rfl,?_⟩
  exact ite2 (fun c=>absurd ⟨of_decide_eq_true ca,of_decide_eq_true c⟩ k1) (fun _=>hb)
theorem p999:(10:Int) ^ (60:Int).toNat - 999=10 ^ 60 - 999:=by decide +kernel
def sp_l_low (K:PySem.W.Frag) : Sp:=fun vs H Q _=>∃ (sa ba:Addr) (ns:List Int) (F:Frm) (ds:List Wd),vs=[.ref sa,.ref ba]∧SqL K H sa (ns.map V.int)∧BkAt K H ba F.w F.h F.f F.m ds∧FormOk F.w F.h F.f F.m∧ds.length≤(ns.drop 4).length∧ds.length≤60∧∀ q H' xs,Same H H'→H q=none→LwAt K H' q xs→xs.length=ds.length→PlsOk F.h xs→Slk xs 0→Q (.ref q) H'
theorem sc_l_low:FnScope ["script","book","form","ys","way","low","spot","cell","xs","at"] ["script","book"] (defScope s_l_low):=⟨rfl,rfl,rfl,by decide +kernel,rfl,by decide +kernel,by decide +kernel⟩
theorem ok_l_low (T:Txt P w K mg a) : FnOk P w K mg base CX0 2 a.f_l_low a.fd_l_low ["script","book"] (sp_l_low K):=by
 have g_l_behind:=ok_l_behind (P:=P) (w:=w) (base:=base) T
 have d_l_behind:=T.d_l_behind
 have g_l_cell_at:=ok_l_cell_at (P:=P) (w:=w) (base:=base) T
 have d_l_cell_at:=T.d_l_cell_at
 have g_l_stream:=ok_l_stream (P:=P) (w:=w) (base:=base) T
 have d_l_stream:=T.d_l_stream
 have z_len:=T.z_len
 refine T.d_l_low.fn.ok sc_l_low (fun vs H Q E h=>?_) (fun cdv A outer s H vs Q E hr h=>?_)
 ·obtain ⟨sa,ba,ns,F,ds,rfl,_⟩:=h
  rfl
 obtain ⟨sa,ba,ns,F,ds,rfl,hS,hbk,fo,dl,d60,q⟩:=h
 have hu:=Nat.lt_of_succ_lt (hu_of hr)
 refine ⟨_,(pss_cons (ps_set (i:=2) sc_l_low.nd rfl (Or.inl rfl) (pe_ix ix_tup (pv 1) pe_int (fun _ _=>rfl)))
   (pss_cons (ps_set (i:=3) sc_l_low.nd rfl (Or.inl rfl) (pe_callD d_l_stream g_l_stream (hr.mono (by decide)) rfl (pa_cons (pe_callD d_l_cell_at g_l_cell_at (hr.mono (by decide)) rfl (pa_cons (pv 0) (pa_cons pe_int pa_nil))) (pa_cons pe_int pa_nil))))
   (pss_cons (ps_set (i:=4) sc_l_low.nd rfl (Or.inl rfl) (pe_op op_mod (pe_ix ix_list (pv 3) pe_int (fun _ _=>rfl)) pe_int))
   (pss_cons (ps_set (i:=5) sc_l_low.nd rfl (Or.inl rfl) (pe_lst pa_nil))
   (pss_cons (ps_set (i:=6) sc_l_low.nd rfl (Or.inl rfl) (pe_tup (pa_cons pe_int (pa_cons pe_int pa_nil))))
   (pss_cons (ps_for PassesOwn.never rfl (pi_list (pe_slice sl_list (pv 0) (po_some pe_int) (po_some (pe_op op_add pe_int (pe_callB call_len_seq rfl z_len PySem.boot_len (pa_cons (pe_ix ix_tup (pv 1) pe_int (fun _ _=>rfl)) pa_nil)))))) (pg_name (i:=7) sc_l_low.nd rfl (Or.inl rfl)) (pss_cons (ps_set (i:=8) sc_l_low.nd rfl (Or.inl rfl) (pe_callD d_l_stream g_l_stream (hr.mono (by decide)) rfl (pa_cons (pe_op op_fdiv (pv 7) pe_int) (pa_cons pe_int pa_nil))))
   (pss_cons (ps_if (PW.pt (pw_and (pt_cmpR op_eq (pv 4) pe_int (nomark _)) (pw_and1 (pt_cmpR op_eq (pe_op op_mod (pe_ix ix_list (pv 8) pe_int (fun _ _=>rfl)) pe_int) pe_int (nomark _))))) (pss_one (ps_set (i:=6) sc_l_low.nd rfl (Or.inl rfl) (pe_callD d_l_behind g_l_behind (hr.mono (by decide)) rfl (pa_cons (pv 2) (pa_cons (pv 6) (pa_cons (pe_op op_add pe_int (pe_op op_mod (pe_ix ix_list (pv 8) pe_int (fun _ _=>rfl)) pe_int)) pa_nil)))))) pss_nil)
   (pss_cons (ps_if (pt_cmpR op_eq (pv 4) pe_int (nomark _)) (pss_one (ps_set (i:=6) sc_l_low.nd rfl (Or.inl rfl) (pe_tup (pa_cons (pe_op op_mod (pe_ix ix_list (pv 8) pe_int (fun _ _=>rfl)) (pe_op op_add (pe_ix ix_tup (pv 2) pe_int (fun _ _=>rfl)) (pe_ix ix_list (pe_lst (pa_cons pe_int (pa_cons pe_int (pa_cons pe_int pa_nil)))) (pe_op op_mod (pe_ix ix_list (pv 3) pe_int (fun _ _=>rfl)) pe_int) (fun _ _=>rfl)))) (pa_cons (pe_op op_mod (pe_ix ix_list (pv 8) pe_int (fun _ _=>rfl)) (pe_ix ix_tup (pv 2) pe_int (fun _ _=>rfl))) pa_nil))))) pss_nil)
   (pss_one (ps_expr (pe_bm PySem.F.plainAttrs_list PySem.F.slot_list_append PySem.F.type_list_append mt_append (pv 5) (pa_cons (pv 6) pa_nil))))))))
   (pss_cons (ps_if (PW.pt (pw_and (pt_cmpR op_eq (pv 4) pe_int (nomark _)) (pw_and (pt_cmpR op_eq (pe_op op_mod (pe_op op_fdiv (pe_ix ix_list (pv 3) pe_int (fun _ _=>rfl)) pe_int) pe_int) pe_int (nomark _)) (pw_and1 (pt_cmpR (op_neNil hu) (pv 5) (pe_lst pa_nil) (nomark _)))))) (pss_cons (ps_set (i:=9) sc_l_low.nd rfl (Or.inl rfl) (pe_op op_mod (pe_ix ix_list (pv 3) pe_int (fun _ _=>rfl)) (pe_callB call_len_seq rfl z_len PySem.boot_len (pa_cons (pv 5) pa_nil))))
   (pss_one (ps_asg (pe_tup (pa_cons (pe_op op_mod (pe_ix ix_list (pv 0) (pe_op op_add pe_int (pv 9)) (fun _ _=>rfl)) (pe_op op_sub (pe_op op_pow pe_int pe_int) pe_int)) (pa_cons (pe_ix ix_tup (pe_ix ix_list (pv 5) (pv 9) (fun _ _=>rfl)) pe_int (fun _ _=>rfl)) pa_nil))) (pg_sub (pv 5) (pv 9) set_list)))) pss_nil)
   (pss_one (ps_ret (pv 5)))))))))),?_⟩
 obtain ⟨fa,wa,was,hb,hf,hw,hws⟩:=hbk
 have h1':=fo.h1
 have m1':=fo.m1
 have h2':=fo.h2
 have m2':=fo.m2
 refine ⟨_,rfl,_,_,_,_,rfl,rfl,hb,rfl,?_⟩
 refine ⟨_,rfl,_,_,(3:Nat),rfl,hS,_,(3:Nat),rfl,by decide,fun ya H1 ys s1 ny hy1 yok=>?_⟩
 have y0:=yok.at (k:=0) (by decide)
 have y1:=yok.at (k:=1) (by decide)
 have y2:=yok.at (k:=2) (by decide)
 refine ⟨_,rfl,_,_,_,_,rfl,rfl,SqL.of hy1,y0,_,_,rfl,rfl,(by (first | decide | (show (0:Int) < _; first | decide | omega))),?_⟩
 refine ⟨Nat.zero_le _,fun r hr=>?_⟩
 have s2:=same_new hr (.lst [])
 have hr2:(upd H1 r (.lst [])) r=some (.lst []):=upd_same
 have hrn:H r=none:=s1.free hr
 have hy2:=s2 _ _ hy1
 have nyr:ya≠r:=ne_of_none hy1 hr
 have t2:=s1.trans s2
 generalize upd H1 r (.lst [])=H2 at s2 hr2 hy2 t2
 refine ⟨le2,fun sp hsp=>?_⟩
 have s3:=same_new hsp (.tup (pl (0,0)))
 have hs3:SqT K (upd H2 sp (.tup (pl (0,0)))) sp (pl (0,0)):=SqT.of upd_same
 have hr3:=s3 _ _ hr2
 have hy3:=s3 _ _ hy2
 have t3:=t2.trans s3
 have e0:(upd H2 sp (.tup [V.int 0,V.int 0]))=(upd H2 sp (.tup (pl (0,0)))):=rfl
 generalize (upd H2 sp (.tup (pl (0,0))))=H3 at s3 hs3 hr3 hy3 t3 e0
 rw [e0]
 have en:(was.map V.ref).length=ds.length:=by rw [List.length_map,hws.1]
 refine ⟨_,rfl,_,rfl,_,rfl,_,_,_,_,rfl,rfl,t3.tup hb,rfl,_,_,rfl,.inl (t3.seq hw),_,_,rfl,rfl,_,rfl,_,_,rfl,t3.seq hS,fun p3 hp3=>?_⟩
 have ec:cutV (ns.map V.int) (some 4) (some (4+((was.map V.ref).length:Int)))=((ns.drop 4).take ds.length).map V.int:=by
  have:=cut_nat ns 4 (4+ds.length)
  have e1:(4+((was.map V.ref).length:Int))=((4+ds.length:Nat) : Int):=by rw [en]; omega
  rw [Nat.add_sub_cancel_left] at this
  rw [cutV_map,e1]
  exact congrArg (List.map V.int) this
 have s4:=same_new hp3 (.lst (cutV (ns.map V.int) (some 4) (some (4+((was.map V.ref).length:Int)))))
 have h4:(upd H3 p3 (.lst (cutV (ns.map V.int) (some 4) (some (4+((was.map V.ref).length:Int)))))) p3=some (.lst (((ns.drop 4).take ds.length).map V.int)):=by rw [upd_same,ec]
 have hr4:=s4 _ _ hr3
 have hy4:=s4 _ _ hy3
 have hs4:=s4.tup hs3
 have t4:=t3.trans s4
 have npr:p3≠r:=fun z=>by rw [z] at hp3; rw [hp3] at hr3; cases hr3
 generalize upd H3 p3 (.lst (cutV (ns.map V.int) (some 4) (some (4+((was.map V.ref).length:Int)))))=H4 at s4 h4 hr4 hy4 hs4 t4
 have cl:((ns.drop 4).take ds.length).length=ds.length:=by rw [List.length_take]; omega
 generalize (ns.drop 4).take ds.length=cs at h4 cl
 refine ⟨_,rfl,⟨_,SqL.of h4⟩,for_list (K:=K) (a:=p3) (xs:=cs.map V.int) (fun i σ H5=>Same H H5∧H5 p3=some (.lst (cs.map V.int))∧H5 ya=some (.lst (ys.map V.int))∧∃ (sp:Addr) (x:Int × Int) (as:List Addr) (xs:List (Int × Int)) (v1 v2 v3:Option V),σ=[some (.ref sa),some (.ref ba),some (.ref fa),some (.ref ya),some (.int (ys.getD 0 0 % 3)),some (.ref r),some (.ref sp),v1,v2,v3] ∧
   SqT K H5 sp (pl x)∧RowIn F.h x∧x.1≤100+2 * (i:Int)∧xs.length=i∧H5 r=some (.lst (as.map V.ref))∧PlsA K H5 as xs∧PlsOk F.h xs∧Slk xs 0)
  ⟨t4,h4,hy4,sp,(0,0),[],[],none,none,none,rfl,hs4,⟨by decide,by decide,by show (0:Int) < F.h; omega⟩,by show (0:Int)≤_; omega,rfl,hr4,PlsA.nil,(fun x hx=>by simp at hx),fun x hx=>by simp at hx⟩ (fun i σ H5 _ h5=>SqL.of h5.2.1) ?_ ?_⟩
 ·rintro i y σ H5 hi ⟨t5,h5,hy5,sp,x,as,xs,v1,v2,v3,rfl,hx,ri,xb,xl,hr5,pa,po,sk⟩
  obtain ⟨z,rfl,_⟩:=get_int hi
  have ib:i < 60:=by
   have:=(List.getElem?_eq_some_iff.mp hi).1
   rw [List.length_map] at this
   omega
  refine ⟨_,rfl,_,_,rfl,rfl,⟨by decide,by decide⟩,_,(3:Nat),rfl,by decide,fun xa H6 zs s6 nx hx6 zok=>?_⟩
  have z0:=zok.at (k:=0) (by decide)
  have z1:=zok.at (k:=1) (by decide)
  have t6:=t5.trans s6
  have nxr:xa≠r:=fun z=>by rw [z] at nx; rw [nx] at hr5; cases hr5
  dsimp only [gName]
  refine cut_seq (fun σ' H7=>Same H6 H7∧∃ (sp:Addr) (x:Int × Int),σ' = [some (.ref sa),some (.ref ba),some (.ref fa),some (.ref ya),some (.int (ys.getD 0 0 % 3)),some (.ref r),some (.ref sp),some (.int z),some (.ref xa),v3]∧SqT K H7 sp (pl x)∧RowIn F.h x∧x.1≤100+2 * ((i+1:Nat) : Int)) ?_ (fun key=>?_)
  ·rintro σ' H7 ⟨s7,sp7,x7,rfl,hx7,ri7,xb7⟩
   refine cut_seq (fun σ' H8=>Same H6 H8∧∃ (sp:Addr) (x:Int × Int),σ' = [some (.ref sa),some (.ref ba),some (.ref fa),some (.ref ya),some (.int (ys.getD 0 0 % 3)),some (.ref r),some (.ref sp),some (.int z),some (.ref xa),v3]∧SqT K H8 sp (pl x)∧RowIn F.h x∧x.1≤100+2 * ((i+1:Nat) : Int)) ?_ (fun key=>?_)
   ·rintro σ' H8 ⟨s8,sp8,x8,rfl,hx8,ri8,xb8⟩
    have w8:=s6.trans s8
    have hr8:=w8 _ _ hr5
    refine ⟨_,rfl,.inl ⟨rfl,_,SqL.of hr8⟩,_,rfl,_,_,_,rfl,rfl,hr8,?_,?_⟩
    ·rw [List.length_map,pa.1,xl]
     exact small1000 (by omega)
    ·rw [refs_snoc]
     refine ⟨(t5.trans w8).put hrn,hput (w8 _ _ h5) npr,hput (w8 _ _ hy5) nyr,sp8,x8,as++[sp8],xs++[x8],_,_,_,rfl,SqT.lst hr8 hx8,ri8,xb8,by simp [xl],upd_same,((pa.same w8).snoc hx8).lst hr8,po.snoc ri8 (by omega),sk.snoc (by omega)⟩
   ·refine ⟨_,rfl,rfl,_,rfl,?_⟩
    refine ite2 (fun c=>?_) (fun c=>key _ _ ⟨s7,sp7,x7,rfl,hx7,ri7,xb7⟩)
    refine ⟨_,rfl,_,_,_,_,rfl,rfl,s7.seq (SqL.of hx6),z0,_,rfl,_,_,_,_,rfl,rfl,(t6.trans s7).tup hf,rfl,le3,fun p4 hp4=>?_⟩
    have s8:=same_new hp4 (.lst [V.int 0,V.int 0,V.int 2])
    obtain ⟨u,mu,eu⟩:=pick [V.int 0,V.int 0,V.int 2] 3 (ys.getD 1 0) rfl (by decide)
    have gu:∃ t:Int,u=V.int t∧0≤t∧t≤2:=by
     simp only [List.mem_cons,List.not_mem_nil,or_false] at mu
     rcases mu with rfl | rfl | rfl <;> exact ⟨_,rfl,by decide,by decide⟩
    obtain ⟨tt,rfl,tt0,tt2⟩:=gu
    refine ⟨_,rfl,_,_,_,_,rfl,rfl,(s7.trans s8).seq (s6.seq (SqL.of hy5)),y1,_,_,rfl,rfl,(by (first | decide | (show (0:Int) < _; first | decide | omega))),_,_,_,_,rfl,rfl,SqL.of upd_same,eu,_,_,rfl,rfl,_,_,rfl,rfl,(show 0 < F.m+tt by omega),_,rfl,_,_,_,_,rfl,rfl,(s7.trans s8).seq (SqL.of hx6),z1,_,rfl,_,_,_,_,rfl,rfl,((t6.trans s7).trans s8).tup hf,rfl,_,_,rfl,rfl,(show 0 < F.h by omega),le2,fun p5 hp5=>?_⟩
    have b1:=Int.emod_nonneg (zs.getD 0 0) (show F.m+tt≠0 by omega)
    have b2:=Int.emod_lt_of_pos (zs.getD 0 0) (show 0 < F.m+tt by omega)
    have b3:=Int.emod_nonneg (zs.getD 1 0) (show F.h≠0 by omega)
    have b4:=Int.emod_lt_of_pos (zs.getD 1 0) (show 0 < F.h by omega)
    exact key _ _ ⟨s7.trans (s8.trans (same_new hp5 _)),p5,(zs.getD 0 0 % (F.m+tt),zs.getD 1 0 % F.h),rfl,SqT.of upd_same,⟨b1,b3,b4⟩,by simp only; omega⟩
  ·refine ⟨_,rfl,rfl,_,rfl,?_⟩
   refine andN (key _ _ ⟨Same.refl _,sp,x,rfl,s6.tup hx,ri,by omega⟩) (fun _ hb'=>?_)
   refine ⟨_,rfl,_,_,_,_,rfl,rfl,SqL.of hx6,z0,_,_,rfl,rfl,(by (first | decide | (show (0:Int) < _; first | decide | omega))),rfl,_,rfl,?_⟩
   refine ite2 (fun c=>?_) (fun _=>hb')
   have b1:=Int.emod_nonneg (zs.getD 1 0) (show (4:Int)≠0 by decide)
   have b2:=Int.emod_lt_of_pos (zs.getD 1 0) (show (0:Int) < 4 by decide)
   refine ⟨_,rfl,_,rfl,_,rfl,_,_,_,_,rfl,rfl,SqL.of hx6,z1,_,_,rfl,rfl,(by (first | decide | (show (0:Int) < _; first | decide | omega))),_,_,rfl,rfl,_,_,_,_,_,_,_,_,rfl,t6.tup hf,s6.tup hx,(show 0≤1+zs.getD 1 0 % 4 by omega),(show 1+zs.getD 1 0 % 4≤4 by omega),ri,fun q7 H7 s7 h7=>?_⟩
   refine key _ _ ⟨s7,q7,_,rfl,h7,behind_in ri (by omega) (by omega),?_⟩
   obtain ⟨q,s,e,d⟩:=behind_desc F.h F.f (1+zs.getD 1 0 % 4) x.1 x.2 (by omega) (by omega)
   rw [show x=(x.1,x.2) from rfl,e]
   simp only
   omega
 ·rintro σ H5 ⟨t5,h5,hy5,sp,x,as,xs,v1,v2,v3,rfl,hx,ri,xb,xl,hr5,pa,po,sk⟩
  rw [List.length_map,cl] at xl
  try dsimp only
  with_reducible refine cut_seq (fun σ' H6=>Same H H6∧∃ (as:List Addr) (xs:List (Int × Int)) (v0 v1 v2 v3:Option V),σ' = [some (.ref sa),some (.ref ba),some (.ref fa),some (.ref ya),some (.int (ys.getD 0 0 % 3)),some (.ref r),v0,v1,v2,v3]∧xs.length=ds.length∧H6 r=some (.lst (as.map V.ref))∧PlsA K H6 as xs∧PlsOk F.h xs∧Slk xs 0) ?_ (fun key=>?_)
  ·rintro σ' H6 ⟨t6,as,xs,v0,v1,v2,v3,rfl,xl,hr6,pa,po,sk⟩
   exact ⟨_,rfl,q _ _ xs t6 hrn ⟨as,SqL.of hr6,pa⟩ xl po sk⟩
  ·have kend:∀ H6,Same H5 H6→_:=fun H6 s6=>key _ H6 ⟨t5.trans s6,as,xs,some (.ref sp),v1,v2,v3,rfl,xl,s6 _ _ hr5,pa.same s6,po,sk⟩
   refine ⟨_,rfl,rfl,_,rfl,?_⟩
   refine andN (kend _ (Same.refl _)) (fun _ _=>?_)
   refine ⟨_,rfl,_,_,_,_,rfl,rfl,SqL.of hy5,y1,_,_,rfl,rfl,⟨by decide,by decide⟩,_,_,rfl,rfl,(by (first | decide | (show (0:Int) < _; first | decide | omega))),rfl,_,rfl,?_⟩
   refine andN (kend _ (Same.refl _)) (fun _ _=>?_)
   refine ⟨_,rfl,Nat.zero_le _,fun p6 hp6=>?_⟩
   have s6:=same_new hp6 (.lst [])
   refine ⟨_,_,_,rfl,rfl,SqL.of (s6 _ _ hr5),SqL.of upd_same,_,rfl,?_⟩
   cases ee:(as.map V.ref).isEmpty with
   | true=>exact iteF (kend _ s6)
   | false =>
    refine iteT ?_
    have al:0 < as.length:=by
     cases as with
     | nil=>cases ee
     | cons a t=>simp
    have alx:as.length=ds.length:=by rw [pa.1,xl]
    have b1:=Int.emod_nonneg (ys.getD 2 0) (show ((as.map V.ref).length:Int)≠0 by rw [List.length_map]; omega)
    have b2:=Int.emod_lt_of_pos (ys.getD 2 0) (show 0 < ((as.map V.ref).length:Int) by rw [List.length_map]; omega)
    refine ⟨_,rfl,_,_,_,_,rfl,rfl,s6.seq (SqL.of hy5),y2,_,rfl,_,_,rfl,.inl (SqL.of (s6 _ _ hr5)),_,_,rfl,rfl,(show 0 < ((as.map V.ref).length:Int) by rw [List.length_map]; omega),?_⟩
    obtain ⟨k,hk⟩:=Int.eq_ofNat_of_zero_le b1
    dsimp only [gName]
    rw [hk] at b2 ⊢
    rw [List.length_map] at b2
    have hk2:k < as.length:=by omega
    have hk3:k < xs.length:=by rw [← pa.1]; exact hk2
    obtain ⟨oa,eo,ho⟩:=(pa.same s6).get hk3
    have e4:(4:Int)+(k:Int)=((4+k:Nat) : Int):=by omega
    have hn4:4+k < ns.length:=by
     rw [List.length_drop] at dl
     omega
    have m0:=Int.emod_nonneg (ns.getD (4+k) 0) (show (10:Int) ^ 60 - 999≠0 by decide)
    have m1:=Int.emod_lt_of_pos (ns.getD (4+k) 0) (show (0:Int) < 10 ^ 60 - 999 by decide)
    have rk:=(po.get hk3).1
    refine ⟨_,rfl,_,rfl,_,_,rfl,rfl,_,_,_,_,rfl,rfl,(t5.trans s6).seq hS,(by rw [e4]; exact at_int (4+k) hn4),_,_,rfl,rfl,⟨by decide,by decide,by decide⟩,_,_,rfl,rfl,_,_,rfl,rfl,(by rw [p999]; (first | decide | (show (0:Int) < _; first | decide | omega))),_,rfl,_,rfl,_,_,_,_,rfl,rfl,SqL.of (s6 _ _ hr5),eo,_,_,_,_,rfl,rfl,ho,rfl,le2,fun p7 hp7=>?_⟩
    have s7:=same_new hp7 (.tup [V.int (ns.getD (4+k) 0 % (10 ^ (60:Int).toNat - 999)),V.int (xs.getD k (0,0)).2])
    have hr7:=(s6.trans s7) _ _ hr5
    refine ⟨_,rfl,_,rfl,_,_,_,k,rfl,rfl,hr7,?_,?_⟩
    ·unfold ixN
     rw [List.length_map,if_pos (by omega),if_pos (by omega)]
     simp
    ·have es:(as.map V.ref).set k (V.ref p7)=(as.set k p7).map V.ref:=by rw [List.map_set]
     rw [es]
     have hp7':SqT K (upd (upd H5 p6 (.lst [])) p7 (.tup [V.int (ns.getD (4+k) 0 % (10 ^ (60:Int).toNat - 999)),V.int (xs.getD k (0,0)).2])) p7 (pl (ns.getD (4+k) 0 % (10 ^ 60 - 999),(xs.getD k (0,0)).2)):=SqT.of (by rw [upd_same,p999])
     refine key _ _ ⟨(t5.trans (s6.trans s7)).put hrn,as.set k p7,xs.set k (ns.getD (4+k) 0 % (10 ^ 60 - 999),(xs.getD k (0,0)).2),_,_,_,_,rfl,by simp [xl],upd_same,((pa.same (s6.trans s7)).set k hp7').lst hr7,po.set k ⟨m0,rk.r1,rk.r2⟩ (by simp only; omega),sk.set k (by simp only; omega)⟩
def sp_l_from (K:PySem.W.Frag) : Sp:=fun vs H Q _=>∃ (fa a:Addr) (w h f m l:Int) (x:Int × Int),vs=[.ref fa,.ref a,.int l]∧SqT K H fa (fm w h f m)∧SqT K H a (pl x)∧∀ q H',Same H H'→SqT K H' q (pl (firstFrom f x l))→Q (.ref q) H'
theorem sc_l_from:FnScope ["form","spot","lead"] ["form","spot","lead"] (defScope s_l_from):=⟨rfl,rfl,rfl,by decide +kernel,rfl,by decide +kernel,by decide +kernel⟩
theorem ok_l_from (T:Txt P w K mg a) : FnOk P w K mg base CX0 1 a.f_l_from a.fd_l_from ["form","spot","lead"] (sp_l_from K):=by
 refine T.d_l_from.fn.ok sc_l_from (fun vs H Q E h=>?_) (fun cdv A outer s H vs Q E hr h=>?_)
 ·obtain ⟨fa,a,w,h,f,m,k,x,rfl,_⟩:=h
  rfl
 obtain ⟨fa,a,w,h,f,m,l,x,rfl,hf,hx,q⟩:=h
 have hu:=Nat.lt_of_succ_lt (hu_of hr)
 refine ⟨_,(pss_cons (ps_if (PW.pt (pw_and (pt_cmpR op_eq (pv 2) pe_int (nomark _)) (pw_and1 (pt_cmpR op_eq (pe_op op_mod (pe_op op_add (pe_ix ix_tup (pv 0) pe_int (fun _ _=>rfl)) (pe_ix ix_tup (pv 1) pe_int (fun _ _=>rfl))) pe_int) pe_int (nomark _))))) (pss_one (ps_ret (pe_tup (pa_cons (pe_op op_add (pe_ix ix_tup (pv 1) pe_int (fun _ _=>rfl)) pe_int) (pa_cons pe_int pa_nil))))) pss_nil)
   (pss_one (ps_ret (pv 1)))),?_⟩
 refine ⟨_,rfl,rfl,_,rfl,?_⟩
 refine andG (fun c=>?_) (fun c=>?_)
 ·refine ⟨_,rfl,q _ _ (Same.refl _) ?_⟩
  rw [firstFrom,if_neg (fun z=>c (int_eq.mpr z.1))]
  exact hx
 ·refine ⟨_,rfl,_,_,_,_,rfl,rfl,hf,rfl,_,rfl,_,_,_,_,rfl,rfl,hx,rfl,_,_,rfl,rfl,_,_,rfl,rfl,(by (first | decide | (show (0:Int) < _; first | decide | omega))),rfl,_,rfl,?_⟩
  refine ite2 (fun c2=>?_) (fun c2=>?_)
  ·refine ⟨_,rfl,_,_,_,_,rfl,rfl,hx,rfl,_,_,rfl,rfl,le2,fun p1 hp1=>q _ _ (same_new hp1 _) ?_⟩
   rw [firstFrom,if_pos ⟨int_eq.mp c,int_eq.mp c2⟩]
   exact SqT.of upd_same
  ·refine ⟨_,rfl,q _ _ (Same.refl _) ?_⟩
   rw [firstFrom,if_neg (fun z=>c2 (int_eq.mpr z.2))]
   exact hx
def sp_l_said (K:PySem.W.Frag) : Sp:=fun vs H Q _=>∃ (ba sa la:Addr) (F:Frm) (ds:List Wd) (xs:List (Int × Int)) (s:Say),vs=[.ref ba,.ref sa,.ref la]∧BkAt K H ba F.w F.h F.f F.m ds∧SqT K H sa (sayV s)∧LwAt K H la xs∧FormOk F.w F.h F.f F.m∧SayOk xs.length s∧PlsOk F.h xs∧Q (.str (tx (saidL F.h F.f xs s))) H
theorem sc_l_said:FnScope ["book","saying","spots","form","spot"] ["book","saying","spots"] (defScope s_l_said):=⟨rfl,rfl,rfl,by decide +kernel,rfl,by decide +kernel,by decide +kernel⟩
theorem ok_l_said (T:Txt P w K mg a) : FnOk P w K mg base CX0 1 a.f_l_said a.fd_l_said ["book","saying","spots"] (sp_l_said K):=by
 have z_str:=T.z_str
 refine T.d_l_said.fn.ok sc_l_said (fun vs H Q E h=>?_) (fun cdv A outer s H vs Q E hr h=>?_)
 ·obtain ⟨ba,sa,la,F,ds,xs,s,rfl,_⟩:=h
  rfl
 obtain ⟨ba,sa,la,F,ds,xs,s,rfl,hbk,hs,hlw,fo,so,po,q⟩:=h
 have hu:=Nat.lt_of_succ_lt (hu_of hr)
 refine ⟨_,(pss_cons (ps_set (i:=3) sc_l_said.nd rfl (Or.inl rfl) (pe_ix ix_tup (pv 0) pe_int (fun _ _=>rfl)))
   (pss_cons (ps_if (pt_cmpR op_eq (pe_ix ix_tup (pv 1) pe_int (fun _ _=>rfl)) pe_str (nomark _)) (pss_one (ps_ret (pe_ix ix_tup (pv 1) pe_int (fun _ _=>rfl)))) pss_nil)
   (pss_cons (ps_set (i:=4) sc_l_said.nd rfl (Or.inl rfl) (pe_ix ix_list (pv 2) (pe_ix ix_tup (pv 1) pe_int (fun _ _=>rfl)) (fun _ _=>rfl)))
   (pss_cons (ps_if (pt_cmpR op_eq (pe_ix ix_tup (pv 1) pe_int (fun _ _=>rfl)) pe_str (nomark _)) (pss_one (ps_ret (pe_callTy call_str_int rfl z_str PyProof.Rows.boot_str (pa_cons (pe_op op_add (pe_ix ix_tup (pv 3) pe_int (fun _ _=>rfl)) (pe_ix ix_tup (pv 4) pe_int (fun _ _=>rfl))) pa_nil)))) pss_nil)
   (pss_one (ps_ret (pe_callTy call_str_int rfl z_str PyProof.Rows.boot_str (pa_cons (pe_op op_add (pe_op op_add (pe_op op_mul (pe_ix ix_tup (pv 4) pe_int (fun _ _=>rfl)) (pe_ix ix_tup (pv 3) pe_int (fun _ _=>rfl))) (pe_ix ix_tup (pv 4) pe_int (fun _ _=>rfl))) pe_int) pa_nil)))))))),?_⟩
 obtain ⟨fa,wa,was,hb,hf,hw,hws⟩:=hbk
 obtain ⟨las,hla,hls⟩:=hlw
 refine ⟨_,rfl,_,_,_,_,rfl,rfl,hb,rfl,?_⟩
 cases s with
 | text l =>
  refine ⟨_,rfl,_,_,_,_,rfl,rfl,hs,rfl,rfl,_,rfl,?_⟩
  rw [decide_eq_true rfl]
  refine iteT ?_
  exact ⟨_,rfl,_,_,_,_,rfl,rfl,hs,rfl,q⟩
 | page k =>
  obtain ⟨a1,e1,h1⟩:=hls.get so
  obtain ⟨i,b⟩:=po.get so
  obtain ⟨n,en,hn⟩:=page_num fo.f1 fo.f2 i.p1 b
  refine ⟨_,rfl,_,_,_,_,rfl,rfl,hs,rfl,rfl,_,rfl,?_⟩
  rw [ne_page]
  refine iteF ?_
  refine ⟨_,rfl,_,rfl,_,_,_,_,rfl,rfl,hs,rfl,_,_,_,_,rfl,rfl,hla,e1,?_⟩
  refine ⟨_,rfl,_,_,_,_,rfl,rfl,hs,rfl,rfl,_,rfl,?_⟩
  rw [decide_eq_true rfl]
  refine iteT ?_
  refine ⟨_,rfl,_,_,_,_,rfl,rfl,hf,rfl,_,rfl,_,_,_,_,rfl,rfl,h1,rfl,_,_,rfl,rfl,_,rfl,(by rw [en]; exact log_small (lt_100 hn)),?_⟩
  simp only [saidL] at q
  rw [en] at q
  rw [en]
  exact Eq.mpr (congrArg (fun z=>Q (.str z) H) (str_figs n)) q
 | row k =>
  obtain ⟨a1,e1,h1⟩:=hls.get so
  obtain ⟨i,b⟩:=po.get so
  obtain ⟨n,en,hn⟩:=row_num fo.h1 fo.h2 i.p1 b i.r1 i.r2
  refine ⟨_,rfl,_,_,_,_,rfl,rfl,hs,rfl,rfl,_,rfl,?_⟩
  rw [ne_row]
  refine iteF ?_
  refine ⟨_,rfl,_,rfl,_,_,_,_,rfl,rfl,hs,rfl,_,_,_,_,rfl,rfl,hla,e1,?_⟩
  refine ⟨_,rfl,_,_,_,_,rfl,rfl,hs,rfl,rfl,_,rfl,?_⟩
  rw [ne_row_page]
  refine iteF ?_
  have h1':=fo.h1
  have h2':=fo.h2
  refine ⟨_,rfl,_,_,_,_,rfl,rfl,h1,rfl,_,rfl,_,_,_,_,rfl,rfl,hf,rfl,_,_,rfl,rfl,.inr ⟨by omega,by omega⟩,_,rfl,_,_,_,_,rfl,rfl,h1,rfl,_,_,rfl,rfl,_,_,rfl,rfl,_,rfl,(by rw [en]; exact log_small (lt_100 hn)),?_⟩
  simp only [saidL] at q
  rw [en] at q
  rw [en]
  exact Eq.mpr (congrArg (fun z=>Q (.str z) H) (str_figs n)) q
def sp_l_high (K:PySem.W.Frag) : Sp:=fun vs H Q _=>∃ (ba oa la:Addr) (F:Frm) (ds:List Wd) (xs:List (Int × Int)) (bs:List Addr) (ss:List Say),vs=[.ref ba,.ref oa,.ref la]∧BkAt K H ba F.w F.h F.f F.m ds∧SqL K H oa (bs.map V.ref)∧SaysA K H bs ss∧LwAt K H la xs∧FormOk F.w F.h F.f F.m∧(∀ s ∈ ss,SayOk xs.length s)∧PlsOk F.h xs∧Q (.int (highF F.w F.h (ss.map (saidL F.h F.f xs)))) H
theorem sc_l_high:FnScope ["book","foot","spots","wide","many","room","one","width"] ["book","foot","spots"] (defScope s_l_high):=⟨rfl,rfl,rfl,by decide +kernel,rfl,by decide +kernel,by decide +kernel⟩
theorem ok_l_high (T:Txt P w K mg a) : FnOk P w K mg base CX0 2 a.f_l_high a.fd_l_high ["book","foot","spots"] (sp_l_high K):=by
 have g_l_said:=ok_l_said (P:=P) (w:=w) (base:=base) T
 have d_l_said:=T.d_l_said
 have z_len:=T.z_len
 have z_min:=T.z_min
 refine T.d_l_high.fn.ok sc_l_high (fun vs H Q E h=>?_) (fun cdv A outer s H vs Q E hr h=>?_)
 ·obtain ⟨ba,oa,la,F,ds,xs,bs,ss,rfl,_⟩:=h
  rfl
 obtain ⟨ba,oa,la,F,ds,xs,bs,ss,rfl,hbk,ho,hbs,hlw,fo,so,po,q⟩:=h
 have hu:=Nat.lt_of_succ_lt (hu_of hr)
 refine ⟨_,(pss_cons (ps_set (i:=3) sc_l_high.nd rfl (Or.inl rfl) (pe_ix ix_tup (pe_ix ix_tup (pv 0) pe_int (fun _ _=>rfl)) pe_int (fun _ _=>rfl)))
   (pss_cons (ps_set (i:=4) sc_l_high.nd rfl (Or.inl rfl) pe_int)
   (pss_cons (ps_set (i:=5) sc_l_high.nd rfl (Or.inl rfl) pe_int)
   (pss_cons (ps_for PassesOwn.never rfl (pi_list (pv 1)) (pg_name (i:=6) sc_l_high.nd rfl (Or.inl rfl)) (pss_cons (ps_set (i:=7) sc_l_high.nd rfl (Or.inl rfl) (pe_callB call_len_str rfl z_len PySem.boot_len (pa_cons (pe_callD d_l_said g_l_said (hr.mono (by decide)) rfl (pa_cons (pv 0) (pa_cons (pv 6) (pa_cons (pv 2) pa_nil)))) pa_nil)))
   (pss_cons (ps_if (pt_cmpR op_gt (pv 7) (pv 3) (nomark _)) (pss_one (ps_ret (pe_ix ix_tup (pe_ix ix_tup (pv 0) pe_int (fun _ _=>rfl)) pe_int (fun _ _=>rfl)))) pss_nil)
   (pss_one (ps_if (PW.pt (pw_or (pt_cmpR op_eq (pv 4) pe_int (nomark _)) (pw_or1 (pt_cmpR op_gt (pe_op op_add (pv 7) pe_int) (pv 5) (nomark _))))) (pss_cons (ps_set (i:=4) sc_l_high.nd rfl (Or.inl rfl) (pe_op op_add (pv 4) pe_int))
   (pss_one (ps_set (i:=5) sc_l_high.nd rfl (Or.inl rfl) (pe_op op_sub (pv 3) (pv 7))))) (pss_one (ps_set (i:=5) sc_l_high.nd rfl (Or.inl rfl) (pe_op op_sub (pe_op op_sub (pv 5) (pv 7)) pe_int))))))))
   (pss_one (ps_ret (pe_callB (call_min2 rfl) rfl z_min PyProof.Rows.boot_min (pa_cons (pv 4) (pa_cons (pe_ix ix_tup (pe_ix ix_tup (pv 0) pe_int (fun _ _=>rfl)) pe_int (fun _ _=>rfl)) pa_nil))))))))),?_⟩
 rw [high_eq] at q
 have hts:∀ s ∈ ss,(saidL F.h F.f xs s).length≤62:=fun s hs=>(said_len fo po (so s hs)).2.1
 have hbk':=hbk
 obtain ⟨fa,wa,was,hb,hf,hw,hws⟩:=hbk
 refine ⟨_,rfl,_,_,_,_,rfl,rfl,hb,rfl,_,_,_,_,rfl,rfl,hf,rfl,?_⟩
 refine ⟨_,rfl,_,rfl,⟨_,ho⟩,for_list (K:=K) (a:=oa) (xs:=bs.map V.ref) (fun i σ H2=>H2=H∧(((ss.take i).map (saidL F.h F.f xs)).map fun t=>(t.length:Int)).any (fun t=>decide (F.w < t))=false∧∃ (room:Int) (v1 v2:Option V),σ=[some (.ref ba),some (.ref oa),some (.ref la),some (.int F.w),some (.int (numW F.w (((ss.take i).map (saidL F.h F.f xs)).map fun t=>(t.length:Int))).1),some (.int room),v1,v2]∧0≤(numW F.w (((ss.take i).map (saidL F.h F.f xs)).map fun t=>(t.length:Int))).1∧(0 < (numW F.w (((ss.take i).map (saidL F.h F.f xs)).map fun t=>(t.length:Int))).1→room=F.w - (numW F.w (((ss.take i).map (saidL F.h F.f xs)).map fun t=>(t.length:Int))).2))
  ⟨rfl,rfl,0,none,none,rfl,Int.le_refl _,fun z=>absurd z (by show ¬ (0:Int) < 0; decide)⟩ (fun i σ H2 _ h2=>by rw [h2.1]; exact ho) ?_ ?_⟩
 ·rintro i y σ H2 hi ⟨rfl,hwd,room,v1,v2,rfl,zn,zr⟩
  obtain ⟨b,s,rfl,eb,es⟩:=foot_at hbs.1 hi
  have hs:=List.mem_of_getElem? es
  have tl:=hts s hs
  refine ⟨_,rfl,_,rfl,_,rfl,_,_,_,_,_,_,_,rfl,hbk',hbs.2 i b s eb es,hlw,fo,so s hs,po,_,rfl,(by rw [tx_len]; exact small (by omega)),?_⟩
  rw [tx_len]
  refine ⟨_,rfl,_,rfl,_,_,rfl,rfl,_,rfl,?_⟩
  refine ite2 (fun c=>?_) (fun c=>?_)
  ·refine ⟨_,rfl,_,_,_,_,rfl,rfl,hb,rfl,_,_,_,_,rfl,rfl,hf,rfl,?_⟩
   have c1:F.w < ((saidL F.h F.f xs s).length:Int):=of_decide_eq_true c
   have ew:(((ss.map (saidL F.h F.f xs)).map fun t=>(t.length:Int)).any fun t=>decide (F.w < t))=true:=by
    rw [List.map_map]
    exact List.any_eq_true.mpr ⟨_,List.mem_map.mpr ⟨s,hs,rfl⟩,decide_eq_true c1⟩
   unfold highN at q
   rw [if_pos ew] at q
   exact q
  ·have c1:¬ F.w < ((saidL F.h F.f xs s).length:Int):=fun z=>c (decide_eq_true z)
   have e1:((ss.take (i+1)).map (saidL F.h F.f xs)).map (fun t=>(t.length:Int))=((ss.take i).map (saidL F.h F.f xs)).map (fun t=>(t.length:Int))++[((saidL F.h F.f xs s).length:Int)]:=by
    rw [take_snoc es,List.map_append,List.map_append]
    rfl
   rw [e1,numW_snoc,List.any_append,hwd]
   generalize numW F.w (((ss.take i).map (saidL F.h F.f xs)).map fun t=>(t.length:Int))=z at zn zr
   generalize ((saidL F.h F.f xs s).length:Int)=t at c1
   refine ⟨_,rfl,rfl,_,rfl,?_⟩
   by_cases k2:0 < z.1∧z.2+1+t≤F.w
   ·have zr':=zr k2.1
    refine orG (fun c2=>absurd (int_eq.mp c2) (by omega)) (fun _=>?_)
    refine ⟨_,rfl,_,_,rfl,rfl,_,rfl,_,_,rfl,rfl,_,rfl,?_⟩
    refine ite2 (fun c2=>absurd (of_decide_eq_true c2) (by omega)) (fun _=>?_)
    refine ⟨_,rfl,_,rfl,_,_,rfl,rfl,_,_,rfl,rfl,?_⟩
    refine ⟨rfl,by simp [c1],room - t - 1,some (.ref b),some (.int t),?_⟩
    rw [numStep,if_pos k2]
    exact ⟨rfl,zn,fun _=>by simp only; omega⟩
   ·refine ite2 (fun _=>?_) (fun c2=>?_)
    ·refine iteT ?_
     refine ⟨_,rfl,_,_,rfl,rfl,?_⟩
     refine ⟨_,rfl,_,rfl,_,_,rfl,rfl,?_⟩
     refine ⟨rfl,by simp [c1],F.w - t,some (.ref b),some (.int t),?_⟩
     rw [numStep,if_neg k2]
     exact ⟨rfl,by simp only; omega,fun _=>rfl⟩
    ·have n2:z.1≠0:=int_ne.mp c2
     have zr':=zr (by omega)
     refine ⟨_,rfl,_,_,rfl,rfl,_,rfl,_,_,rfl,rfl,_,rfl,?_⟩
     refine ite2 (fun _=>?_) (fun c3=>absurd (decide_eq_true (show room < t+1 by omega)) c3)
     refine ⟨_,rfl,_,_,rfl,rfl,?_⟩
     refine ⟨_,rfl,_,rfl,_,_,rfl,rfl,?_⟩
     refine ⟨rfl,by simp [c1],F.w - t,some (.ref b),some (.int t),?_⟩
     rw [numStep,if_neg k2]
     exact ⟨rfl,by simp only; omega,fun _=>rfl⟩
 ·rintro σ H2 ⟨rfl,hwd,room,v1,v2,rfl,_,_⟩
  rw [List.length_map,hbs.1,List.take_length] at hwd ⊢
  refine ⟨_,rfl,_,rfl,_,_,_,_,rfl,rfl,hb,rfl,_,_,_,_,rfl,rfl,hf,rfl,_,_,rfl,?_⟩
  unfold highN at q
  rw [hwd] at q
  rw [if_neg Bool.false_ne_true] at q
  exact q
def sp_l_reach (K:PySem.W.Frag) : Sp:=fun vs H Q _=>∃ (ba la:Addr) (k:Str) (i:Nat) (j:Int) (F:Frm) (ds:List Wd) (xs:List (Int × Int)),vs=[.ref ba,.ref la,.str k,.int (i:Int),.int j]∧BkAt K H ba F.w F.h F.f F.m ds∧LwAt K H la xs∧BkOk F ds xs∧i < ds.length∧∀ v H',Same H H'→PlO K H' v (reachI F ds xs k i j)→Q v H'
theorem sc_l_reach:FnScope ["book","low","kind","i","j","form","row","spot"] ["book","low","kind","i","j"] (defScope s_l_reach):=⟨rfl,rfl,rfl,by decide +kernel,rfl,by decide +kernel,by decide +kernel⟩
theorem ok_l_reach (T:Txt P w K mg a) : FnOk P w K mg base CX0 3 a.f_l_reach a.fd_l_reach ["book","low","kind","i","j"] (sp_l_reach K):=by
 have g_l_behind:=ok_l_behind (P:=P) (w:=w) (base:=base) T
 have d_l_behind:=T.d_l_behind
 have g_l_from:=ok_l_from (P:=P) (w:=w) (base:=base) T
 have d_l_from:=T.d_l_from
 have g_l_high:=ok_l_high (P:=P) (w:=w) (base:=base) T
 have d_l_high:=T.d_l_high
 have g_l_said:=ok_l_said (P:=P) (w:=w) (base:=base) T
 have d_l_said:=T.d_l_said
 have z_len:=T.z_len
 have z_max:=T.z_max
 have z_sum:=T.z_sum
 refine T.d_l_reach.fn.ok sc_l_reach (fun vs H Q E h=>?_) (fun cdv A outer s H vs Q E hr h=>?_)
 ·obtain ⟨ba,la,k,i,j,F,ds,xs,rfl,_⟩:=h
  rfl
 obtain ⟨ba,la,k,i,j,F,ds,xs,rfl,hbk,hlw,B,hi,q⟩:=h
 have hu:=Nat.lt_of_succ_lt (hu_of hr)
 refine ⟨_,(pss_cons (ps_set (i:=5) sc_l_reach.nd rfl (Or.inl rfl) (pe_ix ix_tup (pv 0) pe_int (fun _ _=>rfl)))
   (pss_cons (ps_set (i:=6) sc_l_reach.nd rfl (Or.inl rfl) (pe_ix ix_tup (pv 0) pe_int (fun _ _=>rfl)))
   (pss_cons (ps_set (i:=7) sc_l_reach.nd rfl (Or.inl rfl) (pe_ix ix_list (pv 1) (pv 3) (fun _ _=>rfl)))
   (pss_cons (ps_if (PW.pt (pw_and (pt_cmpR op_eq (pv 2) pe_str (nomark _)) (pw_and1 (pt_cmpR op_eq (pv 4) (pe_op op_sub (pv 3) pe_int) (nomark _))))) (pss_cons (ps_if (pt_cmpR op_gt (pv 3) pe_int (nomark _)) (pss_one (ps_set (i:=7) sc_l_reach.nd rfl (Or.inl rfl) (pe_callB (call_maxT rfl (hu_of hr)) rfl z_max PyProof.Rows.boot_max (pa_cons (pv 7) (pa_cons (pe_callD d_l_behind g_l_behind (hr.mono (by decide)) rfl (pa_cons (pv 5) (pa_cons (pe_ix ix_list (pv 1) (pv 4) (fun _ _=>rfl)) (pa_cons (pe_ix ix_tup (pe_ix ix_list (pv 6) (pv 3) (fun _ _=>rfl)) pe_int (fun _ _=>rfl)) pa_nil)))) pa_nil))))) pss_nil)
   (pss_one (ps_set (i:=7) sc_l_reach.nd rfl (Or.inl rfl) (pe_callD d_l_from g_l_from (hr.mono (by decide)) rfl (pa_cons (pv 5) (pa_cons (pv 7) (pa_cons (pe_ix ix_tup (pe_ix ix_list (pv 6) (pv 3) (fun _ _=>rfl)) pe_int (fun _ _=>rfl)) pa_nil))))))) pss_nil)
   (pss_cons (ps_if (PW.pt (pw_and (pt_cmpR op_eq (pv 2) pe_str (nomark _)) (pw_and1 (pt_chain op_le op_lt pe_int (pv 4) (pv 3))))) (pss_one (ps_if (pt_cmpR op_gt (pe_op op_sub (pe_callB (call_sum rfl) rfl z_sum PyProof.Rows.boot_sum (pa_cons (pe_lc rfl (lcok (caps:=["book","low"]) (js:=[0,1]) (cap:=⟨⟨rfl,.inl rfl,rfl,.inl rfl⟩,⟨⟨rfl,.inl rfl,rfl,.inl rfl⟩,trivial⟩⟩)) (pi_list (pe_slice sl_list (pv 6) (po_some (pv 4)) (po_some (pe_op op_add (pv 3) pe_int)))) (fun _ _ _ _=>pts_nil) (fun _ _ _ _=>(pe_op op_add (pe_callB call_len_str rfl z_len PySem.boot_len (pa_cons (pe_callD d_l_said g_l_said (hr.mono (by decide)) rfl (pa_cons (pv 1) (pa_cons (pe_ix (r:=rIxT K) ix_tup (pv 0) pe_int (fun _ _=>rfl)) (pa_cons (pv 2) pa_nil)))) pa_nil)) pe_int))) pa_nil)) pe_int) (pe_ix ix_tup (pv 5) pe_int (fun _ _=>rfl)) (nomark _)) (pss_one (ps_set (i:=7) sc_l_reach.nd rfl (Or.inl rfl) (pe_callD d_l_behind g_l_behind (hr.mono (by decide)) rfl (pa_cons (pv 5) (pa_cons (pe_ix ix_list (pv 1) (pv 4) (fun _ _=>rfl)) (pa_cons pe_int pa_nil)))))) pss_nil)) pss_nil)
   (pss_cons (ps_if (PW.pt (pw_and (pt_cmpR op_eq (pv 2) pe_str (nomark _)) (pw_and (pt_chain op_le op_le pe_int (pv 4) (pv 3)) (pw_and1 (pt_cmpR op_ge (pe_ix ix_tup (pe_ix ix_list (pv 1) (pv 4) (fun _ _=>rfl)) pe_int (fun _ _=>rfl)) (pe_ix ix_tup (pe_ix ix_list (pv 1) (pv 3) (fun _ _=>rfl)) pe_int (fun _ _=>rfl)) (nomark _)))))) (pss_one (ps_if (pt_cmpR op_gt (pe_op op_add (pe_op op_add (pe_ix ix_tup (pv 7) pe_int (fun _ _=>rfl)) pe_int) (pe_callB (call_sum rfl) rfl z_sum PyProof.Rows.boot_sum (pa_cons (pe_lc rfl (lcok (caps:=["book","low"]) (js:=[0,1]) (cap:=⟨⟨rfl,.inl rfl,rfl,.inl rfl⟩,⟨⟨rfl,.inl rfl,rfl,.inl rfl⟩,trivial⟩⟩)) (pi_list (pe_slice sl_list (pv 6) (po_some (pv 4)) (po_some (pe_op op_add (pv 3) pe_int)))) (fun _ _ _ _=>pts_nil) (fun _ _ _ _=>(pe_callD d_l_high g_l_high (hr.mono (by decide)) rfl (pa_cons (pv 1) (pa_cons (pe_ix (r:=rIxT K) ix_tup (pv 0) pe_int (fun _ _=>rfl)) (pa_cons (pv 2) pa_nil)))))) pa_nil))) (pe_ix ix_tup (pv 5) pe_int (fun _ _=>rfl)) (nomark _)) (pss_one (ps_set (i:=7) sc_l_reach.nd rfl (Or.inl rfl) (pe_tup (pa_cons (pe_op op_add (pe_ix ix_tup (pv 7) pe_int (fun _ _=>rfl)) pe_int) (pa_cons pe_int pa_nil))))) pss_nil)) pss_nil)
   (pss_cons (ps_if (PW.pt (pw_and (pt_cmpR op_eq (pv 2) pe_str (nomark _)) (pw_and (pt_cmpR op_eq (pv 4) (pe_op op_add (pv 3) pe_int) (nomark _)) (pw_and (pt_cmpR op_lt (pv 4) (pe_callB call_len_seq rfl z_len PySem.boot_len (pa_cons (pv 6) pa_nil)) (nomark _)) (pw_and1 (pt_val (pe_ix ix_tup (pe_ix ix_list (pv 6) (pv 4) (fun _ _=>rfl)) pe_int (fun _ _=>rfl)) (fun _=>rfl))))))) (pss_one (ps_set (i:=7) sc_l_reach.nd rfl (Or.inl rfl) (pe_tup (pa_cons (pe_ix ix_tup (pe_ix ix_list (pv 1) (pv 4) (fun _ _=>rfl)) pe_int (fun _ _=>rfl)) (pa_cons pe_int pa_nil))))) pss_nil)
   (pss_cons (ps_if (PW.pt (pw_and (pt_cmpR op_eq (pv 2) pe_str (nomark _)) (pw_and1 (pt_cmpR op_eq (pv 4) (pv 3) (nomark _))))) (pss_one (ps_if (PW.pt (pw_or (pt_cmpR op_gt (pe_callB call_len_str rfl z_len PySem.boot_len (pa_cons (pe_callD d_l_said g_l_said (hr.mono (by decide)) rfl (pa_cons (pv 0) (pa_cons (pe_ix ix_tup (pe_ix ix_list (pv 6) (pv 3) (fun _ _=>rfl)) pe_int (fun _ _=>rfl)) (pa_cons (pv 1) pa_nil)))) pa_nil)) (pe_ix ix_tup (pv 5) pe_int (fun _ _=>rfl)) (nomark _)) (pw_or1 (pt_cmpR op_ge (pe_callD d_l_high g_l_high (hr.mono (by decide)) rfl (pa_cons (pv 0) (pa_cons (pe_ix ix_tup (pe_ix ix_list (pv 6) (pv 3) (fun _ _=>rfl)) pe_int (fun _ _=>rfl)) (pa_cons (pv 1) pa_nil)))) (pe_ix ix_tup (pv 5) pe_int (fun _ _=>rfl)) (nomark _))))) (pss_one (ps_set (i:=7) sc_l_reach.nd rfl (Or.inl rfl) (pe_tup (pa_cons (pe_ix ix_tup (pv 5) pe_int (fun _ _=>rfl)) (pa_cons pe_int pa_nil))))) pss_nil)) pss_nil)
   (pss_cons (ps_if (pt_cmpR (op_leT hu) (pv 7) (pe_ix ix_list (pv 1) (pv 3) (fun _ _=>rfl)) (nomark _)) (pss_one (ps_ret pe_non)) pss_nil)
   (pss_one (ps_ret (pv 7)))))))))))),?_⟩
 have hbk0:=hbk
 have hlw0:=hlw
 have n60:=B.n
 obtain ⟨fa,wa,was,hb,hf,hw,hws⟩:=hbk
 obtain ⟨las,hla,hls⟩:=hlw
 obtain ⟨wo,eo,sa0,foa0,bs0,ht0,g20,g30,g40⟩:=hws.get hi
 obtain ⟨xo,ex,hx⟩:=LwAt.get (a:=la) hls (B.len ▸ hi)
 have wk0:=(B.d hi).2
 refine ⟨_,rfl,_,_,_,_,rfl,rfl,hb,rfl,?_⟩
 refine ⟨_,rfl,_,_,_,_,rfl,rfl,hb,rfl,?_⟩
 refine ⟨_,rfl,_,rfl,_,_,_,_,rfl,rfl,hla,ex,?_⟩
 dsimp only [gName]
 refine cut_seq (fun σ' H'=>Same H H'∧∃ sp,σ' = [some (.ref ba),some (.ref la),some (.str k),some (.int (i:Int)),some (.int j),some (.ref fa),some (.ref wa),some (.ref sp)]∧SqT K H' sp (pl (lr1 F ds xs k i j))) ?_ (fun key=>?_)
 rotate_left
 ·refine ⟨_,rfl,rfl,_,rfl,?_⟩
  by_cases c:k=kB∧j=(i:Int) - 1
  ·refine andG (fun z=>absurd (str_eq.mpr c.1) z) (fun _=>?_)
   refine ⟨_,rfl,_,rfl,_,_,rfl,rfl,rfl,_,rfl,?_⟩
   refine ite2 (fun _=>?_) (fun z=>absurd (int_eq.mpr c.2) z)
   refine cut_seq (fun σ' H'=>Same H H'∧∃ sp,σ' = [some (.ref ba),some (.ref la),some (.str k),some (.int (i:Int)),some (.int j),some (.ref fa),some (.ref wa),some (.ref sp)]∧SqT K H' sp (pl (if 0 < i then laterI (xAt xs i) (behindI F.h F.f (xAt xs (i - 1)) (dAt ds i).lead) else xAt xs i))) ?_ (fun key2=>?_)
   ·rintro σ' H' ⟨s',sp,rfl,hsp⟩
    refine ⟨_,rfl,_,rfl,_,rfl,_,rfl,_,_,_,_,rfl,rfl,s'.seq hw,eo,_,_,_,_,rfl,rfl,s'.tup ht0,rfl,_,_,_,_,_,_,_,_,rfl,s'.tup hf,hsp,fun q1 H1 s1 h1=>?_⟩
    refine key _ _ ⟨s'.trans s1,q1,rfl,?_⟩
    rw [lr1,if_pos c]
    exact h1
   ·refine ⟨_,rfl,_,_,rfl,rfl,_,rfl,?_⟩
    refine ite2 (fun z=>?_) (fun z=>?_)
    ·have c1:0 < i:=by
      have:(0:Int) < (i:Int):=of_decide_eq_true z
      omega
     obtain ⟨yo,ey,hy⟩:=LwAt.get (a:=la) hls (show i - 1 < xs.length by rw [← B.len]; omega)
     have ej:j=((i - 1:Nat) : Int):=by omega
     have ry:=(B.x (show i - 1 < ds.length by omega)).1
     refine ⟨_,rfl,_,rfl,_,rfl,_,rfl,_,_,_,_,rfl,rfl,hla,(by rw [ej]; exact ey),_,rfl,_,rfl,_,_,_,_,rfl,rfl,hw,eo,_,_,_,_,rfl,rfl,ht0,rfl,_,_,_,_,_,_,_,_,rfl,hf,hy,wk0.l0,wk0.l1,ry,fun q1 H1 s1 h1=>?_⟩
     refine ⟨_,_,[(xAt xs i).1,(xAt xs i).2],[(behindI F.h F.f (xAt xs (i - 1)) (dAt ds i).lead).1,(behindI F.h F.f (xAt xs (i - 1)) (dAt ds i).lead).2],rfl,s1.tup hx,h1,?_⟩
     rw [lex_gt]
     refine key2 _ _ ⟨s1,_,rfl,?_⟩
     rw [if_pos c1,laterI]
     cases sooner (xAt xs i) (behindI F.h F.f (xAt xs (i - 1)) (dAt ds i).lead) with
     | true=>exact h1
     | false=>exact s1.tup hx
    ·have c1:¬ 0 < i:=fun y=>z (decide_eq_true (by omega))
     exact key2 _ _ ⟨Same.refl _,xo,rfl,by rw [if_neg c1]; exact hx⟩
  ·refine andN (key _ _ ⟨Same.refl _,xo,rfl,by rw [lr1,if_neg c]; exact hx⟩) (fun ca hb'=>?_)
   refine ⟨_,rfl,_,rfl,_,_,rfl,rfl,rfl,_,rfl,?_⟩
   exact ite2 (fun z=>absurd ⟨str_eq.mp ca,int_eq.mp z⟩ c) (fun _=>hb')
 rintro σ' H' ⟨s',sp,rfl,hsp⟩
 refine cut_seq (fun σ' H'=>Same H H'∧∃ sp,σ' = [some (.ref ba),some (.ref la),some (.str k),some (.int (i:Int)),some (.int j),some (.ref fa),some (.ref wa),some (.ref sp)]∧SqT K H' sp (pl (lr2 F ds xs k i j))) ?_ (fun key=>?_)
 rotate_left
 ·refine ⟨_,rfl,rfl,_,rfl,?_⟩
  by_cases c:k=kW∧(0≤j∧j < (i:Int))
  ·refine andG (fun z=>absurd (str_eq.mpr c.1) z) (fun _=>?_)
   refine ⟨_,rfl,_,_,rfl,rfl,_,rfl,?_⟩
   rw [decide_eq_true c.2.1]
   refine iteT ?_
   refine ⟨_,rfl,_,_,rfl,rfl,_,rfl,?_⟩
   refine ite2 (fun _=>?_) (fun z=>absurd (decide_eq_true c.2.2) z)
   obtain ⟨n,rfl⟩:=Int.eq_ofNat_of_zero_le c.2.1
   have hn:n < ds.length:=by omega
   refine ⟨_,rfl,_,rfl,_,rfl,_,rfl,_,_,rfl,rfl,_,rfl,_,_,rfl,s'.seq hw,fun p3 hp3=>?_⟩
   have ec:cutV (was.map V.ref) (some ((n:Nat) : Int)) (some ((i:Int)+1))=((was.drop n).take (i+1 - n)).map V.ref:=by
    have:=cut_nat was n (i+1)
    have e1:((i:Int)+1)=((i+1:Nat) : Int):=by omega
    rw [cutV_map,e1]
    exact congrArg (List.map V.ref) this
   have s3:=same_new hp3 (.lst (cutV (was.map V.ref) (some ((n:Nat) : Int)) (some ((i:Int)+1))))
   have h3:(upd H' p3 (.lst (cutV (was.map V.ref) (some ((n:Nat) : Int)) (some ((i:Int)+1))))) p3=some (.lst (((was.drop n).take (i+1 - n)).map V.ref)):=by rw [upd_same,ec]
   have t3:=s'.trans s3
   generalize upd H' p3 (.lst (cutV (was.map V.ref) (some ((n:Nat) : Int)) (some ((i:Int)+1))))=H3 at s3 h3 t3
   have wsg:WdsA K H3 ((was.drop n).take (i+1 - n)) (segD ds n i):=((hws.drop n).take (i+1 - n)).same t3
   have sub:∀ d ∈ segD ds n i,WdOk xs.length d:=fun d hd=>B.len ▸ B.wd d (List.mem_of_mem_drop (List.mem_of_mem_take hd))
   have sl:(segD ds n i).length≤400:=by unfold segD; have:=B.n; simp; omega
   refine ⟨_,rfl,⟨_,SqL.of h3⟩,lc_list (K:=K) (a:=p3) (xs:=((was.drop n).take (i+1 - n)).map V.ref) (fun k2 ys H2=>H2=H3∧ys=(((segD ds n i).take k2).map fun d=>wideW F xs d+1).map V.int) ⟨rfl,rfl⟩ (fun k2 ys H2 _ h2=>by rw [h2.1]; exact SqL.of h3) ?_ ?_ ?_⟩
   ·rintro k2 ys H2 hk ⟨_,rfl⟩
    rw [List.length_map,List.length_map,List.length_take]
    exact Nat.lt_of_lt_of_le (show _ < 1000 by omega) (small (Nat.le_refl _))
   ·rintro k2 y ys H2 hk ⟨rfl,rfl⟩
    obtain ⟨b,d,rfl,eb,ed⟩:=wd_at wsg.1 hk
    obtain ⟨sa,fo,bs,ht,g2,g3,g4⟩:=wsg.2 k2 b d eb ed
    have wk:=sub d (List.mem_of_getElem? ed)
    refine yes_go ?_
    refine ⟨_,rfl,_,rfl,_,_,_,_,rfl,rfl,ht,rfl,_,rfl,_,_,_,F,ds,xs,d.say,rfl,hbk0.same t3,g2,hlw0.same t3,B.fo,wk.s,B.po,_,rfl,(by rw [tx_len]; have:=(said_len B.fo B.po wk.s).2.1; exact small (by omega)),_,_,rfl,rfl,rfl,?_⟩
    rw [tx_len]
    rw [take_snoc ed,List.map_append,List.map_append]
    rfl
   ·rintro ys H2 ⟨rfl,rfl⟩ p4 hp4
    have e:(((was.drop n).take (i+1 - n)).map V.ref).length=(segD ds n i).length:=by rw [List.length_map,wsg.1]
    rw [e,List.take_length] at *
    have s4:=same_new hp4 (.lst (((segD ds n i).map fun d=>wideW F xs d+1).map V.int))
    have t4:=t3.trans s4
    refine ⟨_,_,rfl,SqL.of upd_same,_,_,rfl,rfl,_,rfl,_,_,_,_,rfl,rfl,t4.tup hf,rfl,_,_,rfl,rfl,_,rfl,?_⟩
    have et:((segD ds n i).map fun d=>wideW F xs d+1).sum - 1=L2.together (wides F ds xs n i):=sum_succ F xs _
    rw [et]
    refine ite2 (fun z=>?_) (fun z=>?_)
    ·have z1:F.w < L2.together (wides F ds xs n i):=of_decide_eq_true z
     obtain ⟨yo,ey,hy⟩:=LwAt.get (a:=la) hls (show n < xs.length by rw [← B.len]; omega)
     refine ⟨_,rfl,_,rfl,_,rfl,_,_,_,_,rfl,rfl,t4.seq hla,ey,_,_,_,_,_,_,_,_,rfl,t4.tup hf,t4.tup hy,by decide,by decide,(B.x hn).1,fun q1 H1 s1 h1=>?_⟩
     refine key _ _ ⟨t4.trans s1,q1,rfl,?_⟩
     rw [lr2,if_pos ⟨c.1,c.2,z1⟩]
     exact h1
    ·have z1:¬ F.w < L2.together (wides F ds xs n i):=fun y=>z (decide_eq_true y)
     exact key _ _ ⟨t4,sp,rfl,by rw [lr2,if_neg (fun y=>z1 y.2.2)]; exact (s3.trans s4).tup hsp⟩
  ·have hno:SqT K H' sp (pl (lr2 F ds xs k i j)):=by rw [lr2,if_neg (fun y=>c ⟨y.1,y.2.1⟩)]; exact hsp
   refine andN (key _ _ ⟨s',sp,rfl,hno⟩) (fun ca hb'=>?_)
   refine ⟨_,rfl,_,_,rfl,rfl,_,rfl,?_⟩
   refine ite2 (fun c1=>?_) (fun _=>⟨_,rfl,iteF hb'⟩)
   refine ⟨_,rfl,_,_,rfl,rfl,_,rfl,?_⟩
   exact ite2 (fun z=>absurd ⟨str_eq.mp ca,of_decide_eq_true c1,of_decide_eq_true z⟩ c) (fun _=>hb')
 clear hsp s'
 rintro σ' H' ⟨s',sp,rfl,hsp⟩
 refine cut_seq (fun σ' H'=>Same H H'∧∃ sp,σ' = [some (.ref ba),some (.ref la),some (.str k),some (.int (i:Int)),some (.int j),some (.ref fa),some (.ref wa),some (.ref sp)]∧SqT K H' sp (pl (lr3 F ds xs k i j))) ?_ (fun key=>?_)
 rotate_left
 ·refine ⟨_,rfl,rfl,_,rfl,?_⟩
  by_cases c:k=kH∧(0≤j∧j≤(i:Int))∧(xAt xs i).1≤(xAt xs j.toNat).1
  ·refine andG (fun z=>absurd (str_eq.mpr c.1) z) (fun _=>?_)
   refine ⟨_,rfl,_,_,rfl,rfl,_,rfl,?_⟩
   rw [decide_eq_true c.2.1.1]
   refine iteT ?_
   refine ⟨_,rfl,_,_,rfl,rfl,_,rfl,?_⟩
   refine andG (fun z=>absurd (decide_eq_true c.2.1.2) z) (fun _=>?_)
   obtain ⟨n,rfl⟩:=Int.eq_ofNat_of_zero_le c.2.1.1
   have hn:n < ds.length:=by omega
   obtain ⟨yo,ey,hy⟩:=LwAt.get (a:=la) hls (show n < xs.length by rw [← B.len]; omega)
   refine ⟨_,rfl,_,rfl,_,_,_,_,rfl,rfl,s'.seq hla,ey,_,_,_,_,rfl,rfl,s'.tup hy,rfl,_,rfl,_,rfl,_,_,_,_,rfl,rfl,s'.seq hla,ex,_,_,_,_,rfl,rfl,s'.tup hx,rfl,_,_,rfl,rfl,_,rfl,?_⟩
   refine ite2 (fun _=>?_) (fun z=>absurd (decide_eq_true c.2.2) z)
   refine ⟨_,rfl,_,_,_,_,rfl,rfl,hsp,rfl,_,_,rfl,rfl,_,rfl,_,rfl,_,rfl,_,rfl,_,_,rfl,rfl,_,rfl,_,_,rfl,s'.seq hw,fun p3 hp3=>?_⟩
   have ec:cutV (was.map V.ref) (some ((n:Nat) : Int)) (some ((i:Int)+1))=((was.drop n).take (i+1 - n)).map V.ref:=by
    have:=cut_nat was n (i+1)
    have e1:((i:Int)+1)=((i+1:Nat) : Int):=by omega
    rw [cutV_map,e1]
    exact congrArg (List.map V.ref) this
   have s3:=same_new hp3 (.lst (cutV (was.map V.ref) (some ((n:Nat) : Int)) (some ((i:Int)+1))))
   have h3:(upd H' p3 (.lst (cutV (was.map V.ref) (some ((n:Nat) : Int)) (some ((i:Int)+1))))) p3=some (.lst (((was.drop n).take (i+1 - n)).map V.ref)):=by rw [upd_same,ec]
   have t3:=s'.trans s3
   generalize upd H' p3 (.lst (cutV (was.map V.ref) (some ((n:Nat) : Int)) (some ((i:Int)+1))))=H3 at s3 h3 t3
   have wsg:WdsA K H3 ((was.drop n).take (i+1 - n)) (segD ds n i):=((hws.drop n).take (i+1 - n)).same t3
   have sub:∀ d ∈ segD ds n i,WdOk xs.length d:=fun d hd=>B.len ▸ B.wd d (List.mem_of_mem_drop (List.mem_of_mem_take hd))
   have sl:(segD ds n i).length≤400:=by unfold segD; have:=B.n; simp; omega
   refine ⟨_,rfl,⟨_,SqL.of h3⟩,lc_list (K:=K) (a:=p3) (xs:=((was.drop n).take (i+1 - n)).map V.ref) (fun k2 ys H2=>H2=H3∧ys=(((segD ds n i).take k2).map fun d=>highW F xs d).map V.int) ⟨rfl,rfl⟩ (fun k2 ys H2 _ h2=>by rw [h2.1]; exact SqL.of h3) ?_ ?_ ?_⟩
   ·rintro k2 ys H2 hk ⟨_,rfl⟩
    rw [List.length_map,List.length_map,List.length_take]
    exact Nat.lt_of_lt_of_le (show _ < 1000 by omega) (small (Nat.le_refl _))
   ·rintro k2 y ys H2 hk ⟨rfl,rfl⟩
    obtain ⟨b,d,rfl,eb,ed⟩:=wd_at wsg.1 hk
    obtain ⟨sa,fo,bs,ht,g2,g3,g4⟩:=wsg.2 k2 b d eb ed
    have wk:=sub d (List.mem_of_getElem? ed)
    refine yes_go ?_
    refine ⟨_,rfl,_,rfl,_,_,_,_,rfl,rfl,ht,rfl,_,rfl,_,_,_,F,ds,xs,_,_,rfl,hbk0.same t3,g3,g4,hlw0.same t3,B.fo,wk.f,B.po,rfl,?_⟩
    rw [take_snoc ed,List.map_append,List.map_append]
    rfl
   ·rintro ys H2 ⟨rfl,rfl⟩ p4 hp4
    have e:(((was.drop n).take (i+1 - n)).map V.ref).length=(segD ds n i).length:=by rw [List.length_map,wsg.1]
    rw [e,List.take_length] at *
    have s4:=same_new hp4 (.lst (((segD ds n i).map fun d=>highW F xs d).map V.int))
    have t4:=t3.trans s4
    refine ⟨_,_,rfl,SqL.of upd_same,_,_,rfl,rfl,_,rfl,_,_,_,_,rfl,rfl,t4.tup hf,rfl,_,_,rfl,rfl,_,rfl,?_⟩
    refine ite2 (fun z=>?_) (fun z=>?_)
    ·have z1:F.h < (lr2 F ds xs k i (n:Int)).2+1+(highs F ds xs n i).sum:=of_decide_eq_true z
     refine ⟨_,rfl,_,_,_,_,rfl,rfl,(s3.trans s4).tup hsp,rfl,_,_,rfl,rfl,le2,fun p5 hp5=>?_⟩
     refine key _ _ ⟨t4.trans (same_new hp5 _),p5,rfl,?_⟩
     rw [lr3,if_pos ⟨c.1,c.2.1,c.2.2,z1⟩]
     exact SqT.of upd_same
    ·have z1:¬ F.h < (lr2 F ds xs k i (n:Int)).2+1+(highs F ds xs n i).sum:=fun y=>z (decide_eq_true y)
     exact key _ _ ⟨t4,sp,rfl,by rw [lr3,if_neg (fun y=>z1 y.2.2.2)]; exact (s3.trans s4).tup hsp⟩
  ·have hno:SqT K H' sp (pl (lr3 F ds xs k i j)):=by rw [lr3,if_neg (fun y=>c ⟨y.1,y.2.1,y.2.2.1⟩)]; exact hsp
   refine andN (key _ _ ⟨s',sp,rfl,hno⟩) (fun ca hb'=>?_)
   refine ⟨_,rfl,_,_,rfl,rfl,_,rfl,?_⟩
   refine ite2 (fun c1=>?_) (fun _=>⟨_,rfl,iteF (iteF hb')⟩)
   refine ⟨_,rfl,_,_,rfl,rfl,_,rfl,?_⟩
   refine ite2 (fun c2=>?_) (fun _=>iteF hb')
   have j0:0≤j:=of_decide_eq_true c1
   have j1:j≤(i:Int):=of_decide_eq_true c2
   obtain ⟨n,rfl⟩:=Int.eq_ofNat_of_zero_le j0
   obtain ⟨yo,ey,hy⟩:=LwAt.get (a:=la) hls (show n < xs.length by rw [← B.len]; omega)
   refine ⟨_,rfl,_,rfl,_,_,_,_,rfl,rfl,s'.seq hla,ey,_,_,_,_,rfl,rfl,s'.tup hy,rfl,_,rfl,_,rfl,_,_,_,_,rfl,rfl,s'.seq hla,ex,_,_,_,_,rfl,rfl,s'.tup hx,rfl,_,_,rfl,rfl,_,rfl,?_⟩
   exact ite2 (fun z=>absurd ⟨str_eq.mp ca,⟨j0,j1⟩,of_decide_eq_true z⟩ c) (fun _=>hb')
 clear hsp s'
 rintro σ' H' ⟨s',sp,rfl,hsp⟩
 refine cut_seq (fun σ' H'=>Same H H'∧∃ sp,σ' = [some (.ref ba),some (.ref la),some (.str k),some (.int (i:Int)),some (.int j),some (.ref fa),some (.ref wa),some (.ref sp)]∧SqT K H' sp (pl (lr4 F ds xs k i j))) ?_ (fun key=>?_)
 rotate_left
 ·refine ⟨_,rfl,rfl,_,rfl,?_⟩
  have hno:¬ (k=kK∧j=(i:Int)+1∧j < (ds.length:Int)∧(dAt ds j.toNat).kept=true)→SqT K H' sp (pl (lr4 F ds xs k i j)):=fun y=>by rw [lr4,if_neg y]; exact hsp
  by_cases ck:k=kK
  ·refine andG (fun z=>absurd (str_eq.mpr ck) z) (fun _=>?_)
   refine ⟨_,rfl,_,rfl,_,_,rfl,rfl,rfl,_,rfl,?_⟩
   by_cases cj:j=(i:Int)+1
   ·refine andG (fun z=>absurd (int_eq.mpr cj) z) (fun _=>?_)
    refine ⟨_,rfl,_,rfl,_,_,rfl,.inl (s'.seq hw),_,_,rfl,rfl,_,rfl,?_⟩
    rw [List.length_map,hws.1]
    by_cases cn:j < (ds.length:Int)
    ·refine andG (fun z=>absurd (decide_eq_true cn) z) (fun _=>?_)
     obtain ⟨n,rfl⟩:=Int.eq_ofNat_of_zero_le (show 0≤j by omega)
     have hn:n < ds.length:=by omega
     obtain ⟨wo1,eo1,sa1,foa1,bs1,ht1,g21,g31,g41⟩:=hws.get hn
     obtain ⟨yo,ey,hy⟩:=LwAt.get (a:=la) hls (show n < xs.length by rw [← B.len]; omega)
     refine ⟨_,rfl,_,rfl,_,_,_,_,rfl,rfl,s'.seq hw,eo1,_,_,_,_,rfl,rfl,s'.tup ht1,rfl,_,rfl,?_⟩
     cases ek:(dAt ds n).kept with
     | true =>
      refine iteT ?_
      refine ⟨_,rfl,_,rfl,_,_,_,_,rfl,rfl,s'.seq hla,ey,_,_,_,_,rfl,rfl,s'.tup hy,rfl,le2,fun p5 hp5=>?_⟩
      refine key _ _ ⟨s'.trans (same_new hp5 _),p5,rfl,?_⟩
      rw [lr4,if_pos ⟨ck,cj,cn,ek⟩]
      exact SqT.of upd_same
     | false =>
      refine iteF ?_
      exact key _ _ ⟨s',sp,rfl,hno (fun y=>by have:=y.2.2.2; rw [show ((n:Nat) : Int).toNat=n from rfl,ek] at this; cases this)⟩
    ·exact andG (fun _=>key _ _ ⟨s',sp,rfl,hno (fun y=>cn y.2.2.1)⟩) (fun z=>absurd (of_decide_eq_true z) cn)
   ·exact andG (fun _=>key _ _ ⟨s',sp,rfl,hno (fun y=>cj y.2.1)⟩) (fun z=>absurd (int_eq.mp z) cj)
  ·exact andG (fun _=>key _ _ ⟨s',sp,rfl,hno (fun y=>ck y.1)⟩) (fun z=>absurd (str_eq.mp z) ck)
 clear hsp s'
 rintro σ' H' ⟨s',sp,rfl,hsp⟩
 refine cut_seq (fun σ' H'=>Same H H'∧∃ sp,σ' = [some (.ref ba),some (.ref la),some (.str k),some (.int (i:Int)),some (.int j),some (.ref fa),some (.ref wa),some (.ref sp)]∧SqT K H' sp (pl (lr5 F ds xs k i j))) ?_ (fun key=>?_)
 rotate_left
 ·refine ⟨_,rfl,rfl,_,rfl,?_⟩
  have hno:¬ (k=kN∧j=(i:Int)∧(F.w < wideW F xs (dAt ds i)∨F.h≤highW F xs (dAt ds i)))→SqT K H' sp (pl (lr5 F ds xs k i j)):=fun y=>by rw [lr5,if_neg y]; exact hsp
  by_cases ck:k=kN
  ·refine andG (fun z=>absurd (str_eq.mpr ck) z) (fun _=>?_)
   refine ⟨_,rfl,_,rfl,rfl,_,rfl,?_⟩
   by_cases cj:j=(i:Int)
   ·refine ite2 (fun _=>?_) (fun z=>absurd (int_eq.mpr cj) z)
    have sl0:=(said_len B.fo B.po wk0.s).2.1
    refine ⟨_,rfl,_,rfl,_,rfl,_,_,_,_,rfl,rfl,s'.seq hw,eo,_,_,_,_,rfl,rfl,s'.tup ht0,rfl,_,rfl,_,_,_,F,ds,xs,(dAt ds i).say,rfl,hbk0.same s',s'.tup g20,hlw0.same s',B.fo,wk0.s,B.po,_,rfl,(by rw [tx_len]; exact small (by omega)),_,rfl,_,_,_,_,rfl,rfl,s'.tup hf,rfl,_,_,rfl,rfl,_,rfl,?_⟩
    rw [tx_len]
    have hyes:(F.w < wideW F xs (dAt ds i)∨F.h≤highW F xs (dAt ds i))→∀ p5,H' p5=none→Same H (upd H' p5 (.tup [V.int F.m,V.int 0]))∧SqT K (upd H' p5 (.tup [V.int F.m,V.int 0])) p5 (pl (lr5 F ds xs k i j)):=fun y p5 hp5=>⟨s'.trans (same_new hp5 _),by rw [lr5,if_pos ⟨ck,cj,y⟩]; exact SqT.of upd_same⟩
    by_cases w1:F.w < wideW F xs (dAt ds i)
    ·refine orG (fun _=>?_) (fun z=>absurd (decide_eq_true w1) z)
     refine ⟨_,rfl,_,_,_,_,rfl,rfl,s'.tup hf,rfl,le2,fun p5 hp5=>?_⟩
     obtain ⟨y1,y2⟩:=hyes (.inl w1) p5 hp5
     exact key _ _ ⟨y1,p5,rfl,y2⟩
    ·refine orG (fun z=>absurd (of_decide_eq_true z) w1) (fun _=>?_)
     refine ⟨_,rfl,_,rfl,_,rfl,_,_,_,_,rfl,rfl,s'.seq hw,eo,_,_,_,_,rfl,rfl,s'.tup ht0,rfl,_,rfl,_,_,_,F,ds,xs,_,_,rfl,hbk0.same s',s'.seq g30,g40.same s',hlw0.same s',B.fo,wk0.f,B.po,_,rfl,_,_,_,_,rfl,rfl,s'.tup hf,rfl,_,_,rfl,rfl,_,rfl,?_⟩
     refine ite2 (fun z=>?_) (fun z=>?_)
     ·have z1:F.h≤highW F xs (dAt ds i):=of_decide_eq_true z
      refine ⟨_,rfl,_,_,_,_,rfl,rfl,s'.tup hf,rfl,le2,fun p5 hp5=>?_⟩
      obtain ⟨y1,y2⟩:=hyes (.inr z1) p5 hp5
      exact key _ _ ⟨y1,p5,rfl,y2⟩
     ·have z1:¬ F.h≤highW F xs (dAt ds i):=fun y=>z (decide_eq_true y)
      exact key _ _ ⟨s',sp,rfl,hno (fun y=>by rcases y.2.2 with y | y; exact w1 y; exact z1 y)⟩
   ·exact ite2 (fun z=>absurd (int_eq.mp z) cj) (fun _=>key _ _ ⟨s',sp,rfl,hno (fun y=>cj y.2.1)⟩)
  ·exact andG (fun _=>key _ _ ⟨s',sp,rfl,hno (fun y=>ck y.1)⟩) (fun z=>absurd (str_eq.mp z) ck)
 clear hsp s'
 rintro σ' H' ⟨s',sp,rfl,hsp⟩
 refine ⟨_,rfl,_,rfl,_,rfl,_,_,_,_,rfl,rfl,s'.seq hla,ex,_,_,[(lr5 F ds xs k i j).1,(lr5 F ds xs k i j).2],[(xAt xs i).1,(xAt xs i).2],rfl,rfl,hsp,s'.tup hx,_,rfl,?_⟩
 rw [lex_le]
 rw [lr_eq hi] at q
 cases so:sooner (xAt xs i) (lr5 F ds xs k i j) with
 | true =>
  rw [so] at q
  refine iteF ?_
  exact ⟨_,rfl,q _ _ s' ⟨sp,rfl,hsp⟩⟩
 | false =>
  rw [so] at q
  refine iteT ?_
  exact q _ _ s' rfl
def sp_l_paper (K:PySem.W.Frag) : Sp:=fun vs H Q _=>∃ (sa ba lo:Addr) (ns:List Int) (F:Frm) (ds:List Wd) (x0:List (Int × Int)),vs=[.ref sa,.ref ba,.ref lo]∧SqL K H sa (ns.map V.int)∧BkAt K H ba F.w F.h F.f F.m ds∧LwAt K H lo x0∧BkOk F ds x0∧Slk x0 0∧0 < ds.length∧∀ q pp ah ps ss qs H',Same H H'→SqT K H' q [.ref pp,.ref ah]→H' pp=some (.lst ps)→StpA K H' ps ss→WalkOk F ds x0 ss→H' ah=some (.lst (qs.map V.ref))→AhA K H' qs x0 ss→(∀ m,m≤ss.length→BkOk F ds (stepped x0 (ss.take m)))→ss.length≤40→Q (.ref q) H'
theorem sc_l_paper:FnScope ["script","book","low","now","paper","ahead","cell","xs","i","kind","j","spot"] ["script","book","low"] (defScope s_l_paper):=⟨rfl,rfl,rfl,by decide +kernel,rfl,by decide +kernel,by decide +kernel⟩
theorem ok_l_paper (T:Txt P w K mg a) : FnOk P w K mg base CX0 4 a.f_l_paper a.fd_l_paper ["script","book","low"] (sp_l_paper K):=by
 have g_l_reach:=ok_l_reach (P:=P) (w:=w) (base:=base) T
 have d_l_reach:=T.d_l_reach
 have g_l_stream:=ok_l_stream (P:=P) (w:=w) (base:=base) T
 have d_l_stream:=T.d_l_stream
 have z_len:=T.z_len
 have z_list:=T.z_list
 refine T.d_l_paper.fn.ok sc_l_paper (fun vs H Q E h=>?_) (fun cdv A outer s H vs Q E hr h=>?_)
 ·obtain ⟨sa,ba,lo,ns,F,ds,x0,rfl,_⟩:=h
  rfl
 obtain ⟨sa,ba,lo,ns,F,ds,x0,rfl,hS,hbk,hlw,B,sk,dp,q⟩:=h
 have hu:=Nat.lt_of_succ_lt (hu_of hr)
 refine ⟨_,(pss_cons (ps_set (i:=3) sc_l_paper.nd rfl (Or.inl rfl) (pe_callTy call_list_of rfl z_list PyProof.Rows.boot_list (pa_cons (pv 2) pa_nil)))
   (pss_cons (ps_set (i:=4) sc_l_paper.nd rfl (Or.inl rfl) (pe_lst pa_nil))
   (pss_cons (ps_set (i:=5) sc_l_paper.nd rfl (Or.inl rfl) (pe_lst (pa_cons (pe_callTy call_list_of rfl z_list PyProof.Rows.boot_list (pa_cons (pv 3) pa_nil)) pa_nil)))
   (pss_cons (ps_for PassesOwn.never rfl (pi_list (pe_slice sl_list (pv 0) (po_some pe_int) (po_some pe_int))) (pg_name (i:=6) sc_l_paper.nd rfl (Or.inl rfl)) (pss_cons (ps_set (i:=7) sc_l_paper.nd rfl (Or.inl rfl) (pe_callD d_l_stream g_l_stream (hr.mono (by decide)) rfl (pa_cons (pe_op op_fdiv (pv 6) pe_int) (pa_cons pe_int pa_nil))))
   (pss_cons (ps_set (i:=8) sc_l_paper.nd rfl (Or.inl rfl) (pe_op op_mod (pe_ix ix_list (pv 7) pe_int (fun _ _=>rfl)) (pe_callB call_len_seq rfl z_len PySem.boot_len (pa_cons (pv 3) pa_nil))))
   (pss_cons (@ps_pick _ 9 _ _ _ _ _ _ _ _ _ sc_l_paper.nd rfl (Or.inl rfl) (CL.str (CL.str (CL.str (CL.str (CL.str CL.nil))))) (pe_op op_mod (pe_ix ix_list (pv 7) pe_int (fun _ _=>rfl)) pe_int) (fun _ _=>rfl) (by first | exact .inl rfl | exact .inr rfl))
   (pss_cons (ps_set (i:=10) sc_l_paper.nd rfl (Or.inl rfl) (pe_ix ix_list (pe_lst (pa_cons (pe_op op_sub (pv 8) pe_int) (pa_cons (pe_op op_mod (pe_ix ix_list (pv 7) pe_int (fun _ _=>rfl)) (pe_op op_add (pv 8) pe_int)) (pa_cons (pe_op op_mod (pe_ix ix_list (pv 7) pe_int (fun _ _=>rfl)) (pe_op op_add (pv 8) pe_int)) (pa_cons (pe_op op_add (pv 8) pe_int) (pa_cons (pv 8) pa_nil)))))) (pe_op op_mod (pe_ix ix_list (pv 7) pe_int (fun _ _=>rfl)) pe_int) (fun _ _=>rfl)))
   (pss_cons (ps_set (i:=11) sc_l_paper.nd rfl (Or.inl rfl) (pe_callD d_l_reach g_l_reach (hr.mono (by decide)) rfl (pa_cons (pv 1) (pa_cons (pv 3) (pa_cons (pv 9) (pa_cons (pv 8) (pa_cons (pv 10) pa_nil)))))))
   (pss_one (ps_if (pt_cmpR op_notN (pv 11) pe_non (nomark _)) (pss_cons (ps_asg (pv 11) (pg_sub (pv 3) (pv 8) set_list))
   (pss_cons (ps_expr (pe_bm PySem.F.plainAttrs_list PySem.F.slot_list_append PySem.F.type_list_append mt_append (pv 4) (pa_cons (pe_tup (pa_cons (pv 9) (pa_cons (pv 8) (pa_cons (pv 10) (pa_cons (pv 11) pa_nil))))) pa_nil)))
   (pss_one (ps_expr (pe_bm PySem.F.plainAttrs_list PySem.F.slot_list_append PySem.F.type_list_append mt_append (pv 5) (pa_cons (pe_callTy call_list_of rfl z_list PyProof.Rows.boot_list (pa_cons (pv 3) pa_nil)) pa_nil)))))) pss_nil))))))))
   (pss_one (ps_ret (pe_tup (pa_cons (pv 4) (pa_cons (pv 5) pa_nil))))))))),?_⟩
 obtain ⟨los,hlo,hlos⟩:=hlw
 refine ⟨_,rfl,_,_,rfl,.inl hlo,fun np hnp=>?_⟩
 have s1:=same_new hnp (.lst (los.map V.ref))
 have h1:(upd H np (.lst (los.map V.ref))) np=some (.lst (los.map V.ref)):=upd_same
 generalize upd H np (.lst (los.map V.ref))=H1 at s1 h1 ⊢
 dsimp only [gName]
 refine ⟨Nat.zero_le _,fun pp hpp=>?_⟩
 have s2:=same_new hpp (.lst [])
 have h2:(upd H1 pp (.lst [])) pp=some (.lst []):=upd_same
 have nnp:np≠pp:=ne_of_none h1 hpp
 have hpp0:H pp=none:=s1.free hpp
 generalize upd H1 pp (.lst [])=H2 at s2 h2 ⊢
 dsimp only [gName]
 have k2:=s2 _ _ h1
 refine ⟨_,rfl,_,_,rfl,.inl (SqL.of k2),fun a0 ha0=>?_⟩
 have s3:=same_new ha0 (.lst (los.map V.ref))
 have h3:(upd H2 a0 (.lst (los.map V.ref))) a0=some (.lst (los.map V.ref)):=upd_same
 have na0:a0≠np∧a0≠pp:=⟨(ne_of_none k2 ha0).symm,(ne_of_none h2 ha0).symm⟩
 generalize upd H2 a0 (.lst (los.map V.ref))=H3 at s3 h3 ⊢
 refine ⟨le1,fun ah hah=>?_⟩
 have s4:=same_new hah (.lst [V.ref a0])
 have h4:(upd H3 ah (.lst [V.ref a0])) ah=some (.lst (([a0] : List Addr).map V.ref)):=upd_same
 have nah:np≠ah∧pp≠ah∧a0≠ah:=⟨ne_of_none (s3 _ _ k2) hah,ne_of_none (s3 _ _ h2) hah,ne_of_none h3 hah⟩
 have hah0:H ah=none:=(s1.trans (s2.trans s3)).free hah
 generalize upd H3 ah (.lst [V.ref a0])=H4 at s4 h4 ⊢
 dsimp only [gName]
 have t4:=s1.trans (s2.trans (s3.trans s4))
 have u4:=s2.trans (s3.trans s4)
 have w4:=s3.trans s4
 refine ⟨_,rfl,_,rfl,_,rfl,_,_,rfl,t4.seq hS,fun p5 hp5=>?_⟩
 obtain ⟨cs,ecs,cl⟩ : ∃ cs:List Int,cutV (ns.map V.int) (some 4) (some 44)=cs.map V.int∧cs.length≤40:=⟨cutL ns (some 4) (some 44),cutV_map _ _ _ _,by
  have e:cutL ns (some 4) (some 44)=(ns.drop 4).take (44 - 4):=cut_nat ns 4 44
  rw [e,List.length_take]
  omega⟩
 have s5:=same_new hp5 (.lst (cutV (ns.map V.int) (some 4) (some 44)))
 have h5:(upd H4 p5 (.lst (cutV (ns.map V.int) (some 4) (some 44)))) p5=some (.lst (cs.map V.int)):=by rw [upd_same,ecs]
 have np5:p5≠np∧p5≠pp∧p5≠ah:=⟨(ne_of_none (u4 _ _ h1) hp5).symm,(ne_of_none (w4 _ _ h2) hp5).symm,(ne_of_none h4 hp5).symm⟩
 generalize upd H4 p5 (.lst (cutV (ns.map V.int) (some 4) (some 44)))=H5 at s5 h5 ⊢
 have t5:=t4.trans s5
 refine ⟨_,rfl,⟨_,SqL.of h5⟩,for_list (K:=K) (a:=p5) (xs:=cs.map V.int) (fun i σ H6=>Same H H6∧H6 p5=some (.lst (cs.map V.int))∧∃ (as:List Addr) (ps:List V) (ss:List Stp) (qs:List Addr) (v6 v7 v8 v9 v10 v11:Option V),σ=[some (.ref sa),some (.ref ba),some (.ref lo),some (.ref np),some (.ref pp),some (.ref ah),v6,v7,v8,v9,v10,v11]∧H6 np=some (.lst (as.map V.ref))∧PlsA K H6 as (stepped x0 ss)∧H6 pp=some (.lst ps)∧StpA K H6 ps ss∧WalkOk F ds x0 ss∧H6 ah=some (.lst (qs.map V.ref))∧AhA K H6 qs x0 ss∧(∀ q ∈ qs,q≠np∧q≠pp∧q≠ah)∧ss.length≤i∧(∀ m,m≤ss.length→BkOk F ds (stepped x0 (ss.take m)))∧Slk (stepped x0 ss) ss.length)
  ⟨t5,h5,los,[],[],[a0],none,none,none,none,none,none,rfl,(u4.trans s5) _ _ h1,hlos.same t5,(w4.trans s5) _ _ h2,⟨rfl,fun n p s e _=>by simp at e⟩,(fun n s e=>by simp at e),s5 _ _ h4,⟨rfl,fun m q e=>?_⟩,(fun q hq=>by rw [List.mem_singleton.mp hq]; exact ⟨na0.1,na0.2,nah.2.2⟩),Nat.le_refl _,(fun m _=>by rw [List.take_nil]; exact B),sk⟩ (fun i σ H6 _ g=>SqL.of g.2.1) ?_ ?_⟩
 ·cases m with
  | zero=>cases e; exact ⟨los,(s4.trans s5) _ _ h3,hlos.same t5⟩
  | succ m=>simp at e
 ·rintro n y σ H6 hn ⟨t6,h6,as,ps,ss,qs,v6,v7,v8,v9,v10,v11,rfl,hn6,pas,hp6,hst,wk,ha6,A,nq,sl,Bm,sk⟩
  obtain ⟨z,rfl,_⟩:=get_int hn
  have n40:n < 40:=by
   have:=(List.getElem?_eq_some_iff.mp hn).1
   rw [List.length_map] at this
   omega
  have Bs:BkOk F ds (stepped x0 ss):=by have:=Bm ss.length (Nat.le_refl _); rwa [List.take_length] at this
  have asl:(as.map V.ref).length=ds.length:=by rw [List.length_map,pas.1,← Bs.len]
  refine ⟨_,rfl,_,_,rfl,rfl,⟨by decide,by decide⟩,_,(3:Nat),rfl,by decide,fun xa H7 zs s7 nx hx7 zok=>?_⟩
  have z0:=zok.at (k:=0) (by decide)
  have z1:=zok.at (k:=1) (by decide)
  have z2:=zok.at (k:=2) (by decide)
  dsimp only [gName]
  refine ⟨_,rfl,_,_,_,_,rfl,rfl,SqL.of hx7,z0,_,rfl,_,_,rfl,.inl (SqL.of (s7 _ _ hn6)),_,_,rfl,rfl,(by rw [asl]; show (0:Int) < _; omega),?_⟩
  rw [asl]
  dsimp only [gName]
  obtain ⟨i,ei,il⟩:=emn (z:=zs.getD 0 0) (show (0:Int) < (ds.length:Int) by omega)
  rw [ei]
  have hi:i < ds.length:=by omega
  refine ⟨by decide,fun p6 hpp6=>?_⟩
  have s8:=same_new hpp6 (.lst [V.str (PySem.Str.ofString "behind"),V.str (PySem.Str.ofString "wide"),V.str (PySem.Str.ofString "high"),V.str (PySem.Str.ofString "kept"),V.str (PySem.Str.ofString "never")])
  obtain ⟨u,mu,eu⟩:=pick [V.str (PySem.Str.ofString "behind"),V.str (PySem.Str.ofString "wide"),V.str (PySem.Str.ofString "high"),V.str (PySem.Str.ofString "kept"),V.str (PySem.Str.ofString "never")] 5 (zs.getD 1 0) rfl (by decide)
  obtain ⟨kd,rfl⟩ : ∃ kd,u=V.str kd:=by
   simp only [List.mem_cons,List.not_mem_nil,or_false] at mu
   rcases mu with rfl | rfl | rfl | rfl | rfl <;> exact ⟨_,rfl⟩
  refine ⟨_,rfl,_,_,_,_,rfl,rfl,SqL.of (s8 _ _ hx7),z1,_,_,rfl,rfl,(by (first | decide | (show (0:Int) < _; first | decide | omega))),_,_,_,_,rfl,rfl,SqL.of upd_same,eu,?_⟩
  generalize upd H7 p6 (.lst [V.str (PySem.Str.ofString "behind"),V.str (PySem.Str.ofString "wide"),V.str (PySem.Str.ofString "high"),V.str (PySem.Str.ofString "kept"),V.str (PySem.Str.ofString "never")])=H8 at s8 ⊢
  dsimp only [gName]
  refine ⟨_,rfl,_,_,rfl,rfl,_,rfl,_,_,_,_,rfl,rfl,SqL.of (s8 _ _ hx7),z2,_,rfl,_,_,rfl,rfl,_,_,rfl,rfl,(show (0:Int) < (i:Int)+1 by omega),_,rfl,_,_,_,_,rfl,rfl,SqL.of (s8 _ _ hx7),z2,_,rfl,_,_,rfl,rfl,_,_,rfl,rfl,(show (0:Int) < (i:Int)+1 by omega),_,rfl,_,_,rfl,rfl,_,rfl,(show 5≤sizeLine by decide),fun p7 hp7=>?_⟩
  have s9:=same_new hp7 (.lst [V.int ((i:Int) - 1),V.int (zs.getD 2 0 % ((i:Int)+1)),V.int (zs.getD 2 0 % ((i:Int)+1)),V.int ((i:Int)+1),V.int (i:Int)])
  have h9:(upd H8 p7 (.lst [V.int ((i:Int) - 1),V.int (zs.getD 2 0 % ((i:Int)+1)),V.int (zs.getD 2 0 % ((i:Int)+1)),V.int ((i:Int)+1),V.int (i:Int)])) p7=some (.lst [V.int ((i:Int) - 1),V.int (zs.getD 2 0 % ((i:Int)+1)),V.int (zs.getD 2 0 % ((i:Int)+1)),V.int ((i:Int)+1),V.int (i:Int)]):=upd_same
  obtain ⟨u2,mu2,eu2⟩:=pick [V.int ((i:Int) - 1),V.int (zs.getD 2 0 % ((i:Int)+1)),V.int (zs.getD 2 0 % ((i:Int)+1)),V.int ((i:Int)+1),V.int (i:Int)] 5 (zs.getD 1 0) rfl (by decide)
  obtain ⟨j,rfl⟩ : ∃ j,u2=V.int j:=by
   simp only [List.mem_cons,List.not_mem_nil,or_false] at mu2
   rcases mu2 with rfl | rfl | rfl | rfl | rfl <;> exact ⟨_,rfl⟩
  refine ⟨_,rfl,_,_,_,_,rfl,rfl,SqL.of ((s8.trans s9) _ _ hx7),z1,_,_,rfl,rfl,(by (first | decide | (show (0:Int) < _; first | decide | omega))),_,_,_,_,rfl,rfl,SqL.of h9,eu2,?_⟩
  change _
  dsimp only [gName]
  generalize upd H8 p7 (.lst [V.int ((i:Int) - 1),V.int (zs.getD 2 0 % ((i:Int)+1)),V.int (zs.getD 2 0 % ((i:Int)+1)),V.int ((i:Int)+1),V.int (i:Int)])=H9 at s9 h9 ⊢
  have u9:=s7.trans (s8.trans s9)
  have t9:=t6.trans u9
  refine ⟨_,rfl,_,rfl,_,rfl,_,rfl,_,rfl,ba,np,kd,i,j,F,ds,stepped x0 ss,rfl,hbk.same t9,⟨as,SqL.of (u9 _ _ hn6),pas.same u9⟩,Bs,hi,fun v HA sA hv=>?_⟩
  dsimp only [gName]
  have uA:=u9.trans sA
  have tA:=t9.trans sA
  refine ⟨_,rfl,rfl,_,rfl,?_⟩
  cases er:reachI F ds (stepped x0 ss) kd i j with
  | none =>
   rw [er] at hv
   cases hv
   refine iteF ?_
   exact ⟨tA,uA _ _ h6,as,ps,ss,qs,_,_,_,_,_,_,rfl,uA _ _ hn6,pas.same uA,uA _ _ hp6,hst.same uA,wk,uA _ _ ha6,A.same uA,nq,by omega,Bm,sk⟩
  | some yy =>
  rw [er] at hv
  obtain ⟨yq,rfl,hyq⟩:=hv
  refine iteT ?_
  have hnA:=uA _ _ hn6
  have ixe:ixN (as.map V.ref).length (i:Int)=some i:=by
   unfold ixN
   rw [asl,if_pos (by omega),if_pos (by omega)]
   simp
  refine ⟨_,rfl,_,rfl,_,rfl,np,_,_,i,rfl,rfl,hnA,ixe,?_⟩
  rw [← List.map_set]
  have sk2:=slk_reach Bs sk (by omega) hi er
  have es:stepped x0 (ss++[⟨kd,i,j,yy⟩])=(stepped x0 ss).set i yy:=stepped_snoc _ _ _
  have nqn:np ∉ qs:=fun z=>(nq np z).1 rfl
  have nqp:pp ∉ qs:=fun z=>(nq pp z).2.1 rfl
  have nqa:ah ∉ qs:=fun z=>(nq ah z).2.2 rfl
  have tB:Same H (upd HA np (.lst ((as.set i yq).map V.ref))):=tA.put hnp
  have hnB:(upd HA np (.lst ((as.set i yq).map V.ref))) np=some (.lst ((as.set i yq).map V.ref)):=upd_same
  have paB:PlsA K (upd HA np (.lst ((as.set i yq).map V.ref))) (as.set i yq) ((stepped x0 ss).set i yy):=((pas.same uA).set i hyq).lst hnA
  have hpB:(upd HA np (.lst ((as.set i yq).map V.ref))) pp=some (.lst ps):=by rw [upd_ne nnp.symm]; exact uA _ _ hp6
  have haB:(upd HA np (.lst ((as.set i yq).map V.ref))) ah=some (.lst (qs.map V.ref)):=by rw [upd_ne nah.1.symm]; exact uA _ _ ha6
  have h5B:(upd HA np (.lst ((as.set i yq).map V.ref))) p5=some (.lst (cs.map V.int)):=by rw [upd_ne np5.1]; exact uA _ _ h6
  have stB:StpA K (upd HA np (.lst ((as.set i yq).map V.ref))) ps ss:=(hst.same uA).lst hnA
  have AB:AhA K (upd HA np (.lst ((as.set i yq).map V.ref))) qs x0 ss:=(A.same uA).lst hnA nqn
  have yqB:SqT K (upd HA np (.lst ((as.set i yq).map V.ref))) yq (pl yy):=SqT.lst hnA hyq
  generalize upd HA np (.lst ((as.set i yq).map V.ref))=HB at tB hnB paB hpB haB h5B stB AB yqB ⊢
  refine ⟨_,rfl,.inl ⟨rfl,_,SqL.of hpB⟩,_,rfl,_,rfl,_,rfl,_,rfl,le4,fun p8 hp8=>?_⟩
  have sC:=same_new hp8 (.tup [V.str kd,V.int (i:Int),V.int j,V.ref yq])
  have hC:SqT K (upd HB p8 (.tup [V.str kd,V.int (i:Int),V.int j,V.ref yq])) p8 [V.str kd,V.int (i:Int),V.int j,V.ref yq]:=SqT.of upd_same
  generalize upd HB p8 (.tup [V.str kd,V.int (i:Int),V.int j,V.ref yq])=HC at sC hC ⊢
  have hpC:=sC _ _ hpB
  have psl:ps.length=ss.length:=hst.1
  refine ⟨pp,ps,_,rfl,rfl,hpC,Nat.lt_of_lt_of_le (show ps.length < 1000 by omega) (small (Nat.le_refl _)),?_⟩
  have stD:StpA K (upd HC pp (.lst (ps++[V.ref p8]))) (ps++[V.ref p8]) (ss++[⟨kd,i,j,yy⟩]):=((stB.same sC).snoc (s:=⟨kd,i,j,yy⟩) hC (sC.tup yqB)).lst hpC
  have tD:Same H (upd HC pp (.lst (ps++[V.ref p8]))):=(tB.trans sC).put hpp0
  have hpD:(upd HC pp (.lst (ps++[V.ref p8]))) pp=some (.lst (ps++[V.ref p8])):=upd_same
  have hnD:(upd HC pp (.lst (ps++[V.ref p8]))) np=some (.lst ((as.set i yq).map V.ref)):=by rw [upd_ne nnp]; exact sC _ _ hnB
  have haD:(upd HC pp (.lst (ps++[V.ref p8]))) ah=some (.lst (qs.map V.ref)):=by rw [upd_ne nah.2.1.symm]; exact sC _ _ haB
  have h5D:(upd HC pp (.lst (ps++[V.ref p8]))) p5=some (.lst (cs.map V.int)):=by rw [upd_ne np5.2.1]; exact sC _ _ h5B
  have paD:PlsA K (upd HC pp (.lst (ps++[V.ref p8]))) (as.set i yq) ((stepped x0 ss).set i yy):=(paB.same sC).lst hpC
  have AD:AhA K (upd HC pp (.lst (ps++[V.ref p8]))) qs x0 ss:=(AB.same sC).lst hpC nqp
  generalize upd HC pp (.lst (ps++[V.ref p8]))=HD at stD tD hpD hnD haD h5D paD AD ⊢
  refine ⟨_,rfl,.inl ⟨rfl,_,SqL.of haD⟩,_,rfl,_,_,rfl,.inl (SqL.of hnD),fun p9 hp9=>?_⟩
  have sE:=same_new hp9 (.lst ((as.set i yq).map V.ref))
  have hE:(upd HD p9 (.lst ((as.set i yq).map V.ref))) p9=some (.lst ((as.set i yq).map V.ref)):=upd_same
  have n9:p9≠np∧p9≠pp∧p9≠ah:=⟨(ne_of_none hnD hp9).symm,(ne_of_none hpD hp9).symm,(ne_of_none haD hp9).symm⟩
  generalize upd HD p9 (.lst ((as.set i yq).map V.ref))=HE at sE hE ⊢
  have haE:=sE _ _ haD
  have ql:=A.len
  refine ⟨ah,qs.map V.ref,_,rfl,rfl,haE,(by rw [List.length_map]; exact Nat.lt_of_lt_of_le (show qs.length < 1000 by omega) (small (Nat.le_refl _))),?_⟩
  rw [refs_snoc]
  have AE:AhA K HE (qs++[p9]) x0 (ss++[⟨kd,i,j,yy⟩]):=(AD.same sE).snoc hE (by rw [es]; exact paD.same sE)
  have nq2:∀ q ∈ qs++[p9],q≠np∧q≠pp∧q≠ah:=fun q hq=>by
   rcases List.mem_append.mp hq with hq | hq
   ·exact nq q hq
   ·rw [List.mem_singleton.mp hq]; exact n9
  refine ⟨(tD.trans sE).put hah0,by rw [upd_ne np5.2.2]; exact sE _ _ h5D,as.set i yq,ps++[V.ref p8],ss++[⟨kd,i,j,yy⟩],qs++[p9],_,_,_,_,_,_,rfl,by rw [upd_ne nah.1]; exact sE _ _ hnD,?_,by rw [upd_ne nah.2.1]; exact sE _ _ hpD,(stD.same sE).lst haE,wk.snoc (s:=⟨kd,i,j,yy⟩) hi Bs er,upd_same,AE.lst haE (fun z=>(nq2 ah z).2.2 rfl),nq2,by simp; omega,fun m hm=>?_,?_⟩
  ·rw [es]
   exact (paD.same sE).lst haE
  ·rw [List.length_append,List.length_singleton] at hm
   rcases Nat.lt_or_ge ss.length m with c | c
   ·rw [List.take_of_length_le (by simp; omega),es]
    exact sk2.1
   ·rw [List.take_append_of_le_length c]
    exact Bm m c
  ·rw [es,List.length_append,List.length_singleton]
   exact sk2.2
 ·rintro σ H6 ⟨t6,h6,as,ps,ss,qs,v6,v7,v8,v9,v10,v11,rfl,hn6,pas,hp6,hst,wk,ha6,A,nq,sl,Bm,sk⟩
  rw [List.length_map] at sl
  refine ⟨_,rfl,_,rfl,le2,fun p10 hp10=>?_⟩
  have s7:=same_new hp10 (.tup [V.ref pp,V.ref ah])
  exact q p10 pp ah ps ss qs _ (t6.trans s7) (SqT.of upd_same) (s7 _ _ hp6) (hst.same s7) wk (s7 _ _ ha6) (A.same s7) Bm (by omega)
def sp_l_whole:Sp:=fun vs H Q _=>∃ i:Int,vs=[.int i]∧Q (.bl true) H
theorem sc_l_whole:FnScope ["found"] ["found"] (defScope s_l_whole):=⟨rfl,rfl,rfl,by decide +kernel,rfl,by decide +kernel,by decide +kernel⟩
theorem ok_l_whole (T:Txt P w K mg a) : FnOk P w K mg base CX0 1 a.f_l_whole a.fd_l_whole ["found"] sp_l_whole:=by
 have z_bool:=T.z_bool
 have z_int:=T.z_int
 have z_isinstance:=T.z_isinstance
 refine T.d_l_whole.fn.ok sc_l_whole (fun vs H Q E h=>?_) (fun cdv A outer s H vs Q E hr h=>?_)
 ·obtain ⟨i,rfl,_⟩:=h
  rfl
 obtain ⟨i,rfl,q⟩:=h
 have hu:=Nat.lt_of_succ_lt (hu_of hr)
 refine ⟨_,(pss_one (ps_ret (pe_and (pe_callB call_isi rfl z_isinstance PyProof.Rows.boot_isinstance (pa_cons (pv 0) (pa_cons (pe_bltn (v:=.ty "int") rfl z_int PyProof.Rows.boot_int rfl) pa_nil))) (pe_one (pe_not (pe_callB call_isi rfl z_isinstance PyProof.Rows.boot_isinstance (pa_cons (pv 0) (pa_cons (pe_bltn (v:=.ty "bool") rfl z_bool PyProof.Rows.boot_bool rfl) pa_nil)))))))),?_⟩
 refine ⟨_,rfl,_,"int",true,rfl,(by (first | decide | (show (0:Int) < _; first | decide | omega))),rfl,_,rfl,?_⟩
 refine iteT ?_
 exact ⟨_,rfl,_,"bool",false,rfl,(by (first | decide | (show (0:Int) < _; first | decide | omega))),rfl,_,rfl,q⟩
def sp_l_place (K:PySem.W.Frag) : Sp:=fun vs H Q _=>∃ (a:Addr) (x:Int × Int),vs=[.ref a]∧SqT K H a (pl x)∧∀ H',Same H H'→Q (.bl true) H'
theorem sc_l_place:FnScope ["found"] ["found"] (defScope s_l_place):=⟨rfl,rfl,rfl,by decide +kernel,rfl,by decide +kernel,by decide +kernel⟩
theorem ok_l_place (T:Txt P w K mg a) : FnOk P w K mg base CX0 2 a.f_l_place a.fd_l_place ["found"] (sp_l_place K):=by
 have g_l_whole:=ok_l_whole (P:=P) (w:=w) (base:=base) T
 have d_l_whole:=T.d_l_whole
 have z_isinstance:=T.z_isinstance
 have z_len:=T.z_len
 have z_tuple:=T.z_tuple
 refine T.d_l_place.fn.ok sc_l_place (fun vs H Q E h=>?_) (fun cdv A outer s H vs Q E hr h=>?_)
 ·obtain ⟨a,x,rfl,_⟩:=h
  rfl
 obtain ⟨a,x,rfl,hx,q⟩:=h
 have hu:=Nat.lt_of_succ_lt (hu_of hr)
 refine ⟨_,(pss_one (ps_ret (pe_and (pe_callB call_isi rfl z_isinstance PyProof.Rows.boot_isinstance (pa_cons (pv 0) (pa_cons (pe_bltn (v:=.ty "tuple") rfl z_tuple PyProof.Rows.boot_tuple rfl) pa_nil))) (pe_and (pe_cmpR op_eq (pe_callB call_len_seq rfl z_len PySem.boot_len (pa_cons (pv 0) pa_nil)) pe_int (nomark _)) (pe_and (pe_callD d_l_whole g_l_whole (hr.mono (by decide)) rfl (pa_cons (pe_ix ix_tup (pv 0) pe_int (fun _ _=>rfl)) pa_nil)) (pe_one (pe_callD d_l_whole g_l_whole (hr.mono (by decide)) rfl (pa_cons (pe_ix ix_tup (pv 0) pe_int (fun _ _=>rfl)) pa_nil)))))))),?_⟩
 refine ⟨_,rfl,_,"tuple",true,rfl,(by decide),.inr ⟨⟨_,hx⟩,rfl⟩,_,rfl,?_⟩
 refine iteT ?_
 refine ⟨_,rfl,_,_,rfl,.inr hx,rfl,_,rfl,?_⟩
 refine iteT ?_
 refine ⟨_,rfl,_,_,_,_,rfl,rfl,hx,rfl,_,rfl,_,rfl,?_⟩
 refine iteT ?_
 exact ⟨_,rfl,_,_,_,_,rfl,rfl,hx,rfl,_,rfl,q _ (Same.refl _)⟩
def sp_figures_of:Sp:=fun vs H Q _=>∃ n:Nat,vs=[.int (n:Int)]∧n < 10 ^ 100∧Q (.str (tx (figs n))) H
theorem sc_figures_of:FnScope ["number"] ["number"] (defScope s_figures_of):=⟨rfl,rfl,rfl,by decide +kernel,rfl,by decide +kernel,by decide +kernel⟩
theorem ok_figures_of (T:Txt P w K mg a) : FnOk P w K mg base CX0 1 a.f_figures_of a.fd_figures_of ["number"] sp_figures_of:=by
 have z_str:=T.z_str
 refine T.d_figures_of.fn.ok sc_figures_of (fun vs H Q E h=>?_) (fun cdv A outer s H vs Q E hr h=>?_)
 ·obtain ⟨n,rfl,_⟩:=h
  rfl
 obtain ⟨n,rfl,hn,q⟩:=h
 have hu:=Nat.lt_of_succ_lt (hu_of hr)
 refine ⟨_,(pss_one (ps_ret (pe_callTy call_str_int rfl z_str PyProof.Rows.boot_str (pa_cons (pv 0) pa_nil)))),?_⟩
 refine ⟨_,rfl,_,rfl,log_small hn,?_⟩
 exact Eq.mpr (congrArg (fun z=>Q (.str z) H) (str_figs n)) q
def sp_said (K:PySem.W.Frag) : Sp:=fun vs H Q _=>∃ (fa sa pa:Addr) (w h f m:Int) (s:Say) (as:List Addr) (xs:List (Int × Int)),vs=[.ref fa,.ref sa,.ref pa]∧SqT K H fa (fm w h f m)∧SqT K H sa (sayV s)∧SqL K H pa (as.map V.ref)∧PlsA K H as xs∧FormOk w h f m∧SayOk xs.length s∧PlsOk h xs∧Q (.str (tx (saidL h f xs s))) H
theorem sc_said:FnScope ["form","saying","places","place"] ["form","saying","places"] (defScope s_said):=⟨rfl,rfl,rfl,by decide +kernel,rfl,by decide +kernel,by decide +kernel⟩
theorem ok_said (T:Txt P w K mg a) : FnOk P w K mg base CX0 2 a.f_said a.fd_said ["form","saying","places"] (sp_said K):=by
 have g_figures_of:=ok_figures_of (P:=P) (w:=w) (base:=base) T
 have d_figures_of:=T.d_figures_of
 refine T.d_said.fn.ok sc_said (fun vs H Q E h=>?_) (fun cdv A outer s H vs Q E hr h=>?_)
 ·obtain ⟨fa,sa,pa,w,h,f,m,s,as,xs,rfl,_⟩:=h
  rfl
 obtain ⟨fa,sa,pa,w,h,f,m,s,as,xs,rfl,hf,hs,hp,ha,fo,so,po,q⟩:=h
 have hu:=Nat.lt_of_succ_lt (hu_of hr)
 refine ⟨_,(pss_cons (ps_if (pt_cmpR op_eq (pe_ix ix_tup (pv 1) pe_int (fun _ _=>rfl)) pe_str (nomark _)) (pss_one (ps_ret (pe_ix ix_tup (pv 1) pe_int (fun _ _=>rfl)))) pss_nil)
   (pss_cons (ps_set (i:=3) sc_said.nd rfl (Or.inl rfl) (pe_ix ix_list (pv 2) (pe_ix ix_tup (pv 1) pe_int (fun _ _=>rfl)) (fun _ _=>rfl)))
   (pss_cons (ps_if (pt_cmpR op_eq (pe_ix ix_tup (pv 1) pe_int (fun _ _=>rfl)) pe_str (nomark _)) (pss_one (ps_ret (pe_callD d_figures_of g_figures_of (hr.mono (by decide)) rfl (pa_cons (pe_op op_add (pe_ix ix_tup (pv 0) pe_int (fun _ _=>rfl)) (pe_ix ix_tup (pv 3) pe_int (fun _ _=>rfl))) pa_nil)))) pss_nil)
   (pss_one (ps_ret (pe_callD d_figures_of g_figures_of (hr.mono (by decide)) rfl (pa_cons (pe_op op_add (pe_op op_add (pe_op op_mul (pe_ix ix_tup (pv 3) pe_int (fun _ _=>rfl)) (pe_ix ix_tup (pv 0) pe_int (fun _ _=>rfl))) (pe_ix ix_tup (pv 3) pe_int (fun _ _=>rfl))) pe_int) pa_nil))))))),?_⟩
 cases s with
 | text l =>
  refine ⟨_,rfl,_,_,_,_,rfl,rfl,hs,rfl,rfl,_,rfl,?_⟩
  rw [decide_eq_true rfl]
  refine iteT ?_
  exact ⟨_,rfl,_,_,_,_,rfl,rfl,hs,rfl,q⟩
 | page k =>
  obtain ⟨a1,e1,h1⟩:=ha.get so
  obtain ⟨i,b⟩:=po.get so
  obtain ⟨n,en,hn⟩:=page_num fo.f1 fo.f2 i.p1 b
  refine ⟨_,rfl,_,_,_,_,rfl,rfl,hs,rfl,rfl,_,rfl,?_⟩
  rw [ne_page]
  refine iteF ?_
  refine ⟨_,rfl,_,rfl,_,_,_,_,rfl,rfl,hs,rfl,_,_,_,_,rfl,rfl,hp,e1,?_⟩
  refine ⟨_,rfl,_,_,_,_,rfl,rfl,hs,rfl,rfl,_,rfl,?_⟩
  rw [decide_eq_true rfl]
  refine iteT ?_
  refine ⟨_,rfl,_,_,_,_,rfl,rfl,hf,rfl,_,rfl,_,_,_,_,rfl,rfl,h1,rfl,_,_,rfl,rfl,n,congrArg (fun z=>[V.int z]) en,lt_100 hn,?_⟩
  simp only [saidL] at q
  rw [en] at q
  exact q
 | row k =>
  obtain ⟨a1,e1,h1⟩:=ha.get so
  obtain ⟨i,b⟩:=po.get so
  obtain ⟨n,en,hn⟩:=row_num fo.h1 fo.h2 i.p1 b i.r1 i.r2
  refine ⟨_,rfl,_,_,_,_,rfl,rfl,hs,rfl,rfl,_,rfl,?_⟩
  rw [ne_row]
  refine iteF ?_
  refine ⟨_,rfl,_,rfl,_,_,_,_,rfl,rfl,hs,rfl,_,_,_,_,rfl,rfl,hp,e1,?_⟩
  refine ⟨_,rfl,_,_,_,_,rfl,rfl,hs,rfl,rfl,_,rfl,?_⟩
  rw [ne_row_page]
  refine iteF ?_
  have h1':=fo.h1
  have h2':=fo.h2
  refine ⟨_,rfl,_,_,_,_,rfl,rfl,h1,rfl,_,rfl,_,_,_,_,rfl,rfl,hf,rfl,_,_,rfl,rfl,.inr ⟨by omega,by omega⟩,_,rfl,_,_,_,_,rfl,rfl,h1,rfl,_,_,rfl,rfl,_,_,rfl,rfl,n,congrArg (fun z=>[V.int z]) en,lt_100 hn,?_⟩
  simp only [saidL] at q
  rw [en] at q
  exact q
def sp_foot_rows (K:PySem.W.Frag) : Sp:=fun vs H Q _=>∃ (fa oa pa:Addr) (w h f m:Int) (bs as:List Addr) (ss:List Say) (xs:List (Int × Int)),vs=[.ref fa,.ref oa,.ref pa]∧SqT K H fa (fm w h f m)∧SqL K H oa (bs.map V.ref)∧SaysA K H bs ss∧SqL K H pa (as.map V.ref)∧PlsA K H as xs∧FormOk w h f m∧(∀ s ∈ ss,SayOk xs.length s)∧PlsOk h xs∧ss.length≤60∧∀ q H',Same H H'→H q=none→H' q=some (.lst (rowsV (fillW w (ss.map (saidL h f xs)))))→Q (.ref q) H'
theorem sc_foot_rows:FnScope ["form","foot","places","rows","saying","text"] ["form","foot","places"] (defScope s_foot_rows):=⟨rfl,rfl,rfl,by decide +kernel,rfl,by decide +kernel,by decide +kernel⟩
theorem ok_foot_rows (T:Txt P w K mg a) : FnOk P w K mg base CX0 3 a.f_foot_rows a.fd_foot_rows ["form","foot","places"] (sp_foot_rows K):=by
 have g_said:=ok_said (P:=P) (w:=w) (base:=base) T
 have d_said:=T.d_said
 have z_len:=T.z_len
 refine T.d_foot_rows.fn.ok sc_foot_rows (fun vs H Q E h=>?_) (fun cdv A outer s H vs Q E hr h=>?_)
 ·obtain ⟨fa,oa,pa,w,h,f,m,bs,as,ss,xs,rfl,_⟩:=h
  rfl
 obtain ⟨fa,oa,pa,w,h,f,m,bs,as,ss,xs,rfl,hf,ho,hb,hp,ha,fo,so,po,s60,q⟩:=h
 have hu:=Nat.lt_of_succ_lt (hu_of hr)
 refine ⟨_,(pss_cons (ps_set (i:=3) sc_foot_rows.nd rfl (Or.inl rfl) (pe_lst pa_nil))
   (pss_cons (ps_for PassesOwn.never rfl (pi_list (pv 1)) (pg_name (i:=4) sc_foot_rows.nd rfl (Or.inl rfl)) (pss_cons (ps_set (i:=5) sc_foot_rows.nd rfl (Or.inl rfl) (pe_callD d_said g_said (hr.mono (by decide)) rfl (pa_cons (pv 0) (pa_cons (pv 4) (pa_cons (pv 2) pa_nil)))))
   (pss_one (ps_if (PW.pt (pw_and (pt_cmpR (op_neL hu) (pv 3) (pe_lst pa_nil) (nomark _)) (pw_and1 (pt_cmpR op_le (pe_op op_add (pe_op op_add (pe_callB call_len_str rfl z_len PySem.boot_len (pa_cons (pe_ix ix_list (pv 3) (pe_un un_neg pe_int) (fun _ _=>rfl)) pa_nil)) pe_int) (pe_callB call_len_str rfl z_len PySem.boot_len (pa_cons (pv 5) pa_nil))) (pe_ix ix_tup (pv 0) pe_int (fun _ _=>rfl)) (nomark _))))) (pss_one (ps_asg (pe_op op_add_str (pe_op op_add_str (pe_ix ix_list (pv 3) (pe_un un_neg pe_int) (fun _ _=>rfl)) pe_str) (pv 5)) (pg_sub (pv 3) (pe_un un_neg pe_int) set_list))) (pss_one (ps_expr (pe_bm PySem.F.plainAttrs_list PySem.F.slot_list_append PySem.F.type_list_append mt_append (pv 3) (pa_cons (pv 5) pa_nil))))))))
   (pss_one (ps_ret (pv 3))))),?_⟩
 refine ⟨Nat.zero_le _,fun r hr=>?_⟩
 have s0:=same_new hr (.lst [])
 have sl:∀ s ∈ ss,(saidL h f xs s).length≤62:=fun s hs=>(said_len fo po (so s hs)).2.1
 refine ⟨_,rfl,_,rfl,⟨_,s0.seq ho⟩,for_list (K:=K) (a:=oa) (xs:=bs.map V.ref) (fun i σ H2=>(∃ v1 v2:Option V,σ=[some (.ref fa),some (.ref oa),some (.ref pa),some (.ref r),v1,v2])∧Same H H2∧H2 r=some (.lst (rowsV (fillW w ((ss.take i).map (saidL h f xs))))))
  ⟨⟨none,none,rfl⟩,s0,upd_same⟩ (fun i σ H2 _ h2=>h2.2.1.seq ho) ?_ ?_⟩
 ·rintro i y σ H2 hi ⟨⟨v1,v2,rfl⟩,s2,h2⟩
  obtain ⟨b,s,rfl,eb,es⟩:=foot_at hb.1 hi
  have hs:=List.mem_of_getElem? es
  have is:i < ss.length:=(List.getElem?_eq_some_iff.mp es).1
  have hts:∀ t ∈ (ss.take i).map (saidL h f xs),t.length≤62:=fun t ht=>by
   obtain ⟨u,hu,rfl⟩:=List.mem_map.mp ht
   exact sl u (List.mem_of_mem_take hu)
  obtain ⟨fs1,fs2⟩:=fill_small fo.w2 _ hts
  rw [List.length_map,List.length_take] at fs2
  rw [take_snoc es,List.map_append,List.map_singleton,fillW_snoc]
  have tl:=sl s hs
  generalize fillW w ((ss.take i).map (saidL h f xs))=rows at h2 fs1 fs2
  refine ⟨_,rfl,_,rfl,_,rfl,_,_,_,_,_,_,_,_,_,_,rfl,s2.tup hf,s2.tup (hb.2 i b s eb es),s2.seq hp,ha.same s2,fo,so s hs,po,?_⟩
  generalize saidL h f xs s=t at tl
  dsimp only [gName]
  refine ⟨_,rfl,Nat.zero_le _,fun p2 hp2=>?_⟩
  have s3:=same_new hp2 (.lst [])
  have h3:=s3 _ _ h2
  refine ⟨_,_,_,_,rfl,rfl,SqL.of h3,SqL.of upd_same,flat_rows _,rfl,_,rfl,?_⟩
  rw [if_pos rfl,rows_nil]
  rcases list_snoc rows with e | ⟨rs,l,e⟩
  ·have e:rows=[]∧fillStep w rows t=rows++[t]:=⟨e,by rw [e]; rfl⟩
   rw [e.1]
   refine iteF (iteF ?_)
   rw [← e.1]
   replace e:=e.2
   refine ⟨_,rfl,.inl ⟨rfl,_,SqL.of h3⟩,_,rfl,_,_,_,rfl,rfl,h3,?_,?_⟩
   ·unfold rowsV
    rw [List.length_map]
    exact Nat.lt_of_lt_of_le (show _ < 1000 by omega) (small (Nat.le_refl _))
   ·refine ⟨⟨_,_,rfl⟩,(s2.trans s3).put hr,?_⟩
    rw [upd_same,e,rowsV_snoc]
  ·have ne:(!rows.isEmpty)=true:=by rw [e]; simp
   rw [ne]
   refine iteT ?_
   have ll:=fs1 l (by rw [e]; simp)
   have h4:=h3
   rw [e,rowsV_snoc] at h4
   refine ⟨_,rfl,_,rfl,_,_,_,_,rfl,rfl,SqL.of h4,at_last _ _,_,rfl,(by rw [tx_len]; exact small2 (by omega)),_,_,rfl,rfl,_,rfl,_,rfl,(by rw [tx_len]; exact small2 (by omega)),_,_,rfl,rfl,_,rfl,_,_,_,_,rfl,rfl,s3.tup (s2.tup hf),rfl,_,_,rfl,rfl,_,rfl,?_⟩
   rw [tx_len,tx_len]
   refine ite2 (fun c=>?_) (fun c=>?_)
   ·have c1:(l.length:Int)+1+t.length≤w:=of_decide_eq_true c
    have w2:=fo.w2
    rw [e,fillStep_snoc,if_pos c1]
    refine ⟨_,rfl,_,rfl,_,_,_,_,rfl,rfl,SqL.of h4,at_last _ _,_,_,rfl,rfl,(by rw [tx_len,cbl,tx_len]; exact small2 (by simp; omega)),_,rfl,_,_,rfl,rfl,?_,_,rfl,_,rfl,_,_,_,_,rfl,rfl,h4,ix_last _ (by simp),?_⟩
    ·rw [cbl,tx_app,tx_len,tx_len]
     exact small2 (by simp; omega)
    ·rw [set_last,cbl,tx_app,tx_app]
     refine ⟨⟨_,_,rfl⟩,(s2.trans s3).put hr,?_⟩
     rw [upd_same,rowsV_snoc,List.append_assoc]
     rfl
   ·have c1:¬ (l.length:Int)+1+t.length≤w:=fun z=>c (decide_eq_true z)
    have e:fillStep w rows t=rows++[t]:=by rw [e,fillStep_snoc,if_neg c1]
    refine ⟨_,rfl,.inl ⟨rfl,_,SqL.of h3⟩,_,rfl,_,_,_,rfl,rfl,h3,?_,?_⟩
    ·unfold rowsV
     rw [List.length_map]
     exact Nat.lt_of_lt_of_le (show _ < 1000 by omega) (small (Nat.le_refl _))
    ·refine ⟨⟨_,_,rfl⟩,(s2.trans s3).put hr,?_⟩
     rw [upd_same,e,rowsV_snoc]
 ·rintro σ H2 ⟨⟨v1,v2,rfl⟩,s2,h2⟩
  rw [List.length_map,hb.1,List.take_length] at h2
  exact ⟨_,rfl,q _ _ s2 hr h2⟩
def sp_foot_high (K:PySem.W.Frag) : Sp:=fun vs H Q _=>∃ (fa oa pa:Addr) (w h f m:Int) (bs as:List Addr) (ss:List Say) (xs:List (Int × Int)),vs=[.ref fa,.ref oa,.ref pa]∧SqT K H fa (fm w h f m)∧SqL K H oa (bs.map V.ref)∧SaysA K H bs ss∧SqL K H pa (as.map V.ref)∧PlsA K H as xs∧FormOk w h f m∧(∀ s ∈ ss,SayOk xs.length s)∧PlsOk h xs∧ss.length≤60∧∀ H',Same H H'→Q (.int (highF w h (ss.map (saidL h f xs)))) H'
theorem sc_foot_high:FnScope ["form","foot","places","rows"] ["form","foot","places"] (defScope s_foot_high):=⟨rfl,rfl,rfl,by decide +kernel,rfl,by decide +kernel,by decide +kernel⟩
theorem ok_foot_high (T:Txt P w K mg a) : FnOk P w K mg base CX0 4 a.f_foot_high a.fd_foot_high ["form","foot","places"] (sp_foot_high K):=by
 have g_foot_rows:=ok_foot_rows (P:=P) (w:=w) (base:=base) T
 have d_foot_rows:=T.d_foot_rows
 have z_any:=T.z_any
 have z_len:=T.z_len
 have z_min:=T.z_min
 refine T.d_foot_high.fn.ok sc_foot_high (fun vs H Q E h=>?_) (fun cdv A outer s H vs Q E hr h=>?_)
 ·obtain ⟨fa,oa,pa,w,h,f,m,bs,as,ss,xs,rfl,_⟩:=h
  rfl
 obtain ⟨fa,oa,pa,w,h,f,m,bs,as,ss,xs,rfl,hf,ho,hb,hp,ha,fo,so,po,s60,q⟩:=h
 have hu:=Nat.lt_of_succ_lt (hu_of hr)
 refine ⟨_,(pss_cons (ps_set (i:=3) sc_foot_high.nd rfl (Or.inl rfl) (pe_callD d_foot_rows g_foot_rows (hr.mono (by decide)) rfl (pa_cons (pv 0) (pa_cons (pv 1) (pa_cons (pv 2) pa_nil)))))
   (pss_cons (ps_if (pt_val (pe_callB (call_any rfl) rfl z_any PyProof.Rows.boot_any (pa_cons (pe_lc rfl (lcok (caps:=["form"]) (js:=[0]) (cap:=⟨⟨rfl,.inl rfl,rfl,.inl rfl⟩,trivial⟩)) (pi_list (pv 3)) (fun _ _ _ _=>pts_nil) (fun _ _ _ _=>(pe_cmpR op_gt (pe_callB call_len_str rfl z_len PySem.boot_len (pa_cons (pv 0) pa_nil)) (pe_ix (r:=rIxT K) ix_tup (pv 1) pe_int (fun _ _=>rfl)) (nomark _)))) pa_nil)) (fun _=>rfl)) (pss_one (ps_ret (pe_ix ix_tup (pv 0) pe_int (fun _ _=>rfl)))) pss_nil)
   (pss_one (ps_ret (pe_callB (call_min2 rfl) rfl z_min PyProof.Rows.boot_min (pa_cons (pe_callB call_len_seq rfl z_len PySem.boot_len (pa_cons (pv 3) pa_nil)) (pa_cons (pe_ix ix_tup (pv 0) pe_int (fun _ _=>rfl)) pa_nil))))))),?_⟩
 have sl:∀ t ∈ ss.map (saidL h f xs),t.length≤62:=fun t ht=>by
  obtain ⟨s,hs,rfl⟩:=List.mem_map.mp ht
  exact (said_len fo po (so s hs)).2.1
 obtain ⟨fs1,fs2⟩:=fill_small fo.w2 _ sl
 rw [List.length_map] at fs2
 refine ⟨_,rfl,_,rfl,_,rfl,_,_,_,_,_,_,_,_,_,_,_,rfl,hf,ho,hb,hp,ha,fo,so,po,s60,fun r H1 s1 hr h1=>?_⟩
 unfold highF at q
 generalize fillW w (ss.map (saidL h f xs))=rows at h1 fs1 fs2 q
 refine ⟨_,rfl,_,rfl,⟨_,SqL.of h1⟩,lc_list (K:=K) (a:=r) (xs:=rowsV rows) (fun i ys H2=>H2=H1∧ys=((rows.take i).map fun t=>decide (w < (t.length:Int))).map V.bl) ⟨rfl,rfl⟩ (fun i ys H2 _ h2=>by rw [h2.1]; exact SqL.of h1) ?_ ?_ ?_⟩
 ·rintro i ys H2 hi ⟨_,rfl⟩
  rw [List.length_map,List.length_map,List.length_take]
  exact Nat.lt_of_lt_of_le (show _ < 1000 by omega) (small (Nat.le_refl _))
 ·rintro i y ys H2 hi ⟨rfl,rfl⟩
  obtain ⟨t,rfl,et⟩:=rows_at hi
  have tl:=fs1 t (List.mem_of_getElem? et)
  refine yes_go ?_
  refine ⟨_,rfl,_,rfl,(by rw [tx_len]; exact small2 (by omega)),_,rfl,_,_,_,_,rfl,rfl,s1.tup hf,rfl,_,_,rfl,rfl,rfl,?_⟩
  rw [take_snoc et,List.map_append,List.map_append,tx_len]
  rfl
 ·rintro ys H2 ⟨rfl,rfl⟩ p hp2
  have s2:=same_new hp2 (.lst (((rows.take (rowsV rows).length).map fun t=>decide (w < (t.length:Int))).map V.bl))
  refine ⟨_,_,rfl,SqL.of upd_same,_,rfl,?_⟩
  have el:(rowsV rows).length=rows.length:=by unfold rowsV; rw [List.length_map]
  rw [el,List.take_length] at s2 ⊢
  rw [List.any_map]
  have ea:rows.any (id ∘ fun t=>decide (w < (t.length:Int)))=rows.any fun t=>decide (w < (t.length:Int)):=rfl
  rw [ea]
  have hf2:=s2.tup (s1.tup hf)
  have q2:=q _ (s1.trans s2)
  refine ite2 (fun c=>?_) (fun c=>?_)
  ·rw [if_pos c] at q2
   exact ⟨_,rfl,_,_,_,_,rfl,rfl,hf2,rfl,q2⟩
  ·rw [if_neg c] at q2
   refine ⟨_,rfl,_,_,rfl,.inl (s2.seq (SqL.of h1)),_,rfl,_,_,_,_,rfl,rfl,hf2,rfl,_,_,rfl,?_⟩
   rw [el]
   exact q2
def sp_highs_of (K:PySem.W.Frag) : Sp:=fun vs H Q _=>∃ (ba la:Addr) (j n:Nat) (i:Int) (F:Frm) (ds:List Wd) (xs:List (Int × Int)),vs=[.ref ba,.ref la,.int (j:Int),.int i]∧i+1=(n:Int)∧BkAt K H ba F.w F.h F.f F.m ds∧LwAt K H la xs∧BkOk F ds xs∧n≤ds.length∧j≤n∧∀ q H',Same H H'→H q=none→H' q=some (.lst (((segP ds j n).map (highW F xs)).map V.int))→Q (.ref q) H'
theorem sc_highs_of:FnScope ["book","low","j","i"] ["book","low","j","i"] (defScope s_highs_of):=⟨rfl,rfl,rfl,by decide +kernel,rfl,by decide +kernel,by decide +kernel⟩
theorem ok_highs_of (T:Txt P w K mg a) : FnOk P w K mg base CX0 5 a.f_highs_of a.fd_highs_of ["book","low","j","i"] (sp_highs_of K):=by
 have g_foot_high:=ok_foot_high (P:=P) (w:=w) (base:=base) T
 have d_foot_high:=T.d_foot_high
 refine T.d_highs_of.fn.ok sc_highs_of (fun vs H Q E h=>?_) (fun cdv A outer s H vs Q E hr h=>?_)
 ·obtain ⟨ba,la,j,n,i,F,ds,xs,rfl,_⟩:=h
  rfl
 obtain ⟨ba,la,j,n,i,F,ds,xs,rfl,he,hbk,hlw,B,hi,hj,q⟩:=h
 have hu:=Nat.lt_of_succ_lt (hu_of hr)
 refine ⟨_,(pss_one (ps_ret (pe_lc rfl (lcok (caps:=["book","low"]) (js:=[0,1]) (cap:=⟨⟨rfl,.inl rfl,rfl,.inl rfl⟩,⟨⟨rfl,.inl rfl,rfl,.inl rfl⟩,trivial⟩⟩)) (pi_list (pe_slice sl_list (pe_ix ix_tup (pv 0) pe_int (fun _ _=>rfl)) (po_some (pv 2)) (po_some (pe_op op_add (pv 3) pe_int)))) (fun _ _ _ _=>pts_nil) (fun _ _ _ _=>(pe_callD d_foot_high g_foot_high (hr.mono (by decide)) rfl (pa_cons (pe_ix (r:=rIxT K) ix_tup (pv 1) pe_int (fun _ _=>rfl)) (pa_cons (pe_ix (r:=rIxT K) ix_tup (pv 0) pe_int (fun _ _=>rfl)) (pa_cons (pv 2) pa_nil)))))))),?_⟩
 obtain ⟨fa,wa,was,hb,hf,hw,hws⟩:=hbk
 obtain ⟨las,hla,hls⟩:=hlw
 refine ⟨_,rfl,_,_,_,_,rfl,rfl,hb,rfl,_,rfl,_,rfl,_,rfl,_,_,rfl,rfl,_,rfl,_,_,rfl,hw,fun p1 hp1=>?_⟩
 have ec:cutV (was.map V.ref) (some (j:Int)) (some (i+1))=((was.drop j).take (n - j)).map V.ref:=by
  have:=cut_nat was j n
  rw [cutV_map,he]
  exact congrArg (List.map V.ref) this
 have s1:=same_new hp1 (.lst (cutV (was.map V.ref) (some (j:Int)) (some (i+1))))
 have h1:(upd H p1 (.lst (cutV (was.map V.ref) (some (j:Int)) (some (i+1))))) p1=some (.lst (((was.drop j).take (n - j)).map V.ref)):=by rw [upd_same,ec]
 generalize upd H p1 (.lst (cutV (was.map V.ref) (some (j:Int)) (some (i+1))))=H1 at s1 h1
 have wsg:WdsA K H ((was.drop j).take (n - j)) (segP ds j n):=(hws.drop j).take (n - j)
 have sub:∀ d ∈ segP ds j n,WdOk xs.length d:=fun d hd=>B.len ▸ B.wd d (List.mem_of_mem_drop (List.mem_of_mem_take hd))
 have sl:(segP ds j n).length≤400:=by unfold segP; have:=B.n; simp; omega
 generalize (was.drop j).take (n - j)=sas at h1 wsg
 generalize segP ds j n=sd at wsg sub q sl
 refine ⟨_,rfl,⟨_,SqL.of h1⟩,lc_list (K:=K) (a:=p1) (xs:=sas.map V.ref) (fun k ys H2=>Same H1 H2∧ys=((sd.take k).map (highW F xs)).map V.int) ⟨Same.refl _,rfl⟩ (fun k ys H2 _ h2=>h2.1.seq (SqL.of h1)) ?_ ?_ ?_⟩
 ·rintro k ys H2 hk ⟨_,rfl⟩
  rw [List.length_map,List.length_map,List.length_take]
  exact Nat.lt_of_lt_of_le (show _ < 1000 by omega) (small (Nat.le_refl _))
 ·rintro k y ys H2 hk ⟨s2,rfl⟩
  obtain ⟨b,d,rfl,eb,ed⟩:=wd_at wsg.1 hk
  obtain ⟨sa,fo,bs,ht,g2,g3,g4⟩:=wsg.2 k b d eb ed
  have wk:=sub d (List.mem_of_getElem? ed)
  have t:=s1.trans s2
  refine yes_go ?_
  refine ⟨_,rfl,_,_,_,_,rfl,rfl,t.tup hb,rfl,_,rfl,_,_,_,_,rfl,rfl,t.tup ht,rfl,_,rfl,_,_,_,_,_,_,_,_,_,_,_,rfl,t.tup hf,t.seq g3,g4.same t,t.seq hla,hls.same t,B.fo,wk.f,B.po,(by have:=wk.n; omega),fun H3 s3=>⟨s2.trans s3,?_⟩⟩
  rw [take_snoc ed,List.map_append,List.map_append]
  rfl
 ·rintro ys H2 ⟨s2,rfl⟩ p hp
  have e:(sas.map V.ref).length=sd.length:=by rw [List.length_map,wsg.1]
  rw [e,List.take_length] at *
  exact q _ _ (s1.trans (s2.trans (same_new hp _))) ((s1.trans s2).free hp) upd_same
def sp_together (K:PySem.W.Frag) : Sp:=fun vs H Q _=>∃ (a:Addr) (ns:List Int),vs=[.ref a]∧SqL K H a (ns.map V.int)∧Q (.int (L2.together ns)) H
theorem sc_together:FnScope ["wides"] ["wides"] (defScope s_together):=⟨rfl,rfl,rfl,by decide +kernel,rfl,by decide +kernel,by decide +kernel⟩
theorem ok_together (T:Txt P w K mg a) : FnOk P w K mg base CX0 1 a.f_together a.fd_together ["wides"] (sp_together K):=by
 have z_len:=T.z_len
 have z_sum:=T.z_sum
 refine T.d_together.fn.ok sc_together (fun vs H Q E h=>?_) (fun cdv A outer s H vs Q E hr h=>?_)
 ·obtain ⟨a,ns,rfl,_⟩:=h
  rfl
 obtain ⟨a,ns,rfl,hn,q⟩:=h
 have hu:=Nat.lt_of_succ_lt (hu_of hr)
 refine ⟨_,(pss_one (ps_ret (pe_op op_sub (pe_op op_add (pe_callB (call_sum rfl) rfl z_sum PyProof.Rows.boot_sum (pa_cons (pv 0) pa_nil)) (pe_callB call_len_seq rfl z_len PySem.boot_len (pa_cons (pv 0) pa_nil))) pe_int))),?_⟩
 refine ⟨_,rfl,_,_,rfl,hn,_,rfl,_,_,rfl,.inl hn,_,_,rfl,rfl,_,_,rfl,rfl,?_⟩
 unfold L2.together at q
 rw [List.length_map]
 exact q
def sp_next_top (K:PySem.W.Frag) : Sp:=fun vs H Q _=>∃ (a:Addr) (x:Int × Int),vs=[.ref a]∧SqT K H a (pl x)∧∀ q H',Same H H'→SqT K H' q (pl (nextTop x))→Q (.ref q) H'
theorem sc_next_top:FnScope ["place"] ["place"] (defScope s_next_top):=⟨rfl,rfl,rfl,by decide +kernel,rfl,by decide +kernel,by decide +kernel⟩
theorem ok_next_top (T:Txt P w K mg a) : FnOk P w K mg base CX0 1 a.f_next_top a.fd_next_top ["place"] (sp_next_top K):=by
 refine T.d_next_top.fn.ok sc_next_top (fun vs H Q E h=>?_) (fun cdv A outer s H vs Q E hr h=>?_)
 ·obtain ⟨a,x,rfl,_⟩:=h
  rfl
 obtain ⟨a,x,rfl,hx,q⟩:=h
 have hu:=Nat.lt_of_succ_lt (hu_of hr)
 refine ⟨_,(pss_one (ps_ret (pe_tup (pa_cons (pe_op op_add (pe_ix ix_tup (pv 0) pe_int (fun _ _=>rfl)) pe_int) (pa_cons pe_int pa_nil))))),?_⟩
 refine ⟨_,rfl,_,_,_,_,rfl,rfl,hx,rfl,_,_,rfl,rfl,le2,fun p1 hp1=>?_⟩
 exact q _ _ (same_new hp1 _) (by (repeat first | assumption | exact SqT.of upd_same | exact SqL.of upd_same | exact upd_same | refine Same.tup (same_new (by assumption) _) ?_ | refine Same.seq (same_new (by assumption) _) ?_ | refine Same.tup (by assumption) ?_ | refine Same.seq (by assumption) ?_ | refine SqT.lst (by assumption) ?_))
def sp_first_from (K:PySem.W.Frag) : Sp:=fun vs H Q _=>∃ (fa a:Addr) (w h f m l:Int) (x:Int × Int),vs=[.ref fa,.ref a,.int l]∧SqT K H fa (fm w h f m)∧SqT K H a (pl x)∧∀ q H',Same H H'→SqT K H' q (pl (firstFrom f x l))→Q (.ref q) H'
theorem sc_first_from:FnScope ["form","place","lead"] ["form","place","lead"] (defScope s_first_from):=⟨rfl,rfl,rfl,by decide +kernel,rfl,by decide +kernel,by decide +kernel⟩
theorem ok_first_from (T:Txt P w K mg a) : FnOk P w K mg base CX0 2 a.f_first_from a.fd_first_from ["form","place","lead"] (sp_first_from K):=by
 have g_next_top:=ok_next_top (P:=P) (w:=w) (base:=base) T
 have d_next_top:=T.d_next_top
 refine T.d_first_from.fn.ok sc_first_from (fun vs H Q E h=>?_) (fun cdv A outer s H vs Q E hr h=>?_)
 ·obtain ⟨fa,a,w,h,f,m,k,x,rfl,_⟩:=h
  rfl
 obtain ⟨fa,a,w,h,f,m,l,x,rfl,hf,hx,q⟩:=h
 have hu:=Nat.lt_of_succ_lt (hu_of hr)
 refine ⟨_,(pss_cons (ps_if (PW.pt (pw_and (pt_cmpR op_eq (pv 2) pe_int (nomark _)) (pw_and1 (pt_cmpR op_eq (pe_op op_mod (pe_op op_add (pe_ix ix_tup (pv 0) pe_int (fun _ _=>rfl)) (pe_ix ix_tup (pv 1) pe_int (fun _ _=>rfl))) pe_int) pe_int (nomark _))))) (pss_one (ps_ret (pe_callD d_next_top g_next_top (hr.mono (by decide)) rfl (pa_cons (pv 1) pa_nil)))) pss_nil)
   (pss_one (ps_ret (pv 1)))),?_⟩
 refine ⟨_,rfl,rfl,_,rfl,?_⟩
 refine andG (fun c=>?_) (fun c=>?_)
 ·refine ⟨_,rfl,q _ _ (Same.refl _) ?_⟩
  rw [firstFrom,if_neg (fun z=>c (int_eq.mpr z.1))]
  exact hx
 ·refine ⟨_,rfl,_,_,_,_,rfl,rfl,hf,rfl,_,rfl,_,_,_,_,rfl,rfl,hx,rfl,_,_,rfl,rfl,_,_,rfl,rfl,(by (first | decide | (show (0:Int) < _; first | decide | omega))),rfl,_,rfl,?_⟩
  refine ite2 (fun c2=>?_) (fun c2=>?_)
  ·refine ⟨_,rfl,_,_,rfl,hx,fun q1 H1 s1 h1=>q _ _ s1 ?_⟩
   rw [firstFrom,if_pos ⟨int_eq.mp c,int_eq.mp c2⟩]
   exact h1
  ·refine ⟨_,rfl,q _ _ (Same.refl _) ?_⟩
   rw [firstFrom,if_neg (fun z=>c2 (int_eq.mpr z.2))]
   exact hx
def sp_rows_on (K:PySem.W.Frag) : Sp:=fun vs H Q _=>∃ (fa a:Addr) (w h f m k:Int) (x:Int × Int),vs=[.ref fa,.ref a,.int k]∧SqT K H fa (fm w h f m)∧SqT K H a (pl x)∧∀ q H',Same H H'→SqT K H' q (pl (rowsOn h x k))→Q (.ref q) H'
theorem sc_rows_on:FnScope ["form","place","rows","row"] ["form","place","rows"] (defScope s_rows_on):=⟨rfl,rfl,rfl,by decide +kernel,rfl,by decide +kernel,by decide +kernel⟩
theorem ok_rows_on (T:Txt P w K mg a) : FnOk P w K mg base CX0 2 a.f_rows_on a.fd_rows_on ["form","place","rows"] (sp_rows_on K):=by
 have g_next_top:=ok_next_top (P:=P) (w:=w) (base:=base) T
 have d_next_top:=T.d_next_top
 refine T.d_rows_on.fn.ok sc_rows_on (fun vs H Q E h=>?_) (fun cdv A outer s H vs Q E hr h=>?_)
 ·obtain ⟨fa,a,w,h,f,m,k,x,rfl,_⟩:=h
  rfl
 obtain ⟨fa,a,w,h,f,m,k,x,rfl,hf,hx,q⟩:=h
 have hu:=Nat.lt_of_succ_lt (hu_of hr)
 refine ⟨_,(pss_cons (ps_set (i:=3) sc_rows_on.nd rfl (Or.inl rfl) (pe_op op_add (pe_ix ix_tup (pv 1) pe_int (fun _ _=>rfl)) (pv 2)))
   (pss_cons (ps_if (pt_cmpR op_ge (pv 3) (pe_ix ix_tup (pv 0) pe_int (fun _ _=>rfl)) (nomark _)) (pss_one (ps_ret (pe_callD d_next_top g_next_top (hr.mono (by decide)) rfl (pa_cons (pv 1) pa_nil)))) pss_nil)
   (pss_one (ps_ret (pe_tup (pa_cons (pe_ix ix_tup (pv 1) pe_int (fun _ _=>rfl)) (pa_cons (pv 3) pa_nil))))))),?_⟩
 refine ⟨_,rfl,_,_,_,_,rfl,rfl,hx,rfl,_,rfl,_,_,rfl,rfl,?_⟩
 refine ⟨_,rfl,_,rfl,_,_,_,_,rfl,rfl,hf,rfl,_,_,rfl,rfl,_,rfl,?_⟩
 refine ite2 (fun c=>?_) (fun c=>?_)
 ·have c1:h≤x.2+k:=of_decide_eq_true c
  refine ⟨_,rfl,_,_,rfl,hx,fun q1 H1 s1 h1=>q _ _ s1 ?_⟩
  rw [rowsOn,if_pos c1]
  exact h1
 ·have c1:¬ h≤x.2+k:=fun z=>c (decide_eq_true z)
  refine ⟨_,rfl,_,_,_,_,rfl,rfl,hx,rfl,_,rfl,le2,fun p1 hp1=>q _ _ (same_new hp1 _) ?_⟩
  rw [rowsOn,if_neg c1]
  exact SqT.of upd_same
def sp_behind (K:PySem.W.Frag) : Sp:=fun vs H Q _=>∃ (fa a:Addr) (w h f m l:Int) (x:Int × Int),vs=[.ref fa,.ref a,.int l]∧SqT K H fa (fm w h f m)∧SqT K H a (pl x)∧∀ q H',Same H H'→SqT K H' q (pl (behindI h f x l))→Q (.ref q) H'
theorem sc_behind:FnScope ["form","place","lead"] ["form","place","lead"] (defScope s_behind):=⟨rfl,rfl,rfl,by decide +kernel,rfl,by decide +kernel,by decide +kernel⟩
theorem ok_behind (T:Txt P w K mg a) : FnOk P w K mg base CX0 3 a.f_behind a.fd_behind ["form","place","lead"] (sp_behind K):=by
 have g_first_from:=ok_first_from (P:=P) (w:=w) (base:=base) T
 have d_first_from:=T.d_first_from
 have g_next_top:=ok_next_top (P:=P) (w:=w) (base:=base) T
 have d_next_top:=T.d_next_top
 have g_rows_on:=ok_rows_on (P:=P) (w:=w) (base:=base) T
 have d_rows_on:=T.d_rows_on
 refine T.d_behind.fn.ok sc_behind (fun vs H Q E h=>?_) (fun cdv A outer s H vs Q E hr h=>?_)
 ·obtain ⟨fa,a,w,h,f,m,k,x,rfl,_⟩:=h
  rfl
 obtain ⟨fa,a,w,h,f,m,l,x,rfl,hf,hx,q⟩:=h
 have hu:=Nat.lt_of_succ_lt (hu_of hr)
 refine ⟨_,(pss_cons (ps_if (pt_cmpR op_eq (pv 2) pe_int (nomark _)) (pss_one (ps_ret (pv 1))) pss_nil)
   (pss_cons (ps_if (pt_cmpR op_eq (pv 2) pe_int (nomark _)) (pss_one (ps_ret (pe_callD d_rows_on g_rows_on (hr.mono (by decide)) rfl (pa_cons (pv 0) (pa_cons (pv 1) (pa_cons pe_int pa_nil)))))) pss_nil)
   (pss_cons (ps_if (pt_cmpR op_eq (pv 2) pe_int (nomark _)) (pss_one (ps_ret (pe_callD d_rows_on g_rows_on (hr.mono (by decide)) rfl (pa_cons (pv 0) (pa_cons (pv 1) (pa_cons pe_int pa_nil)))))) pss_nil)
   (pss_one (ps_ret (pe_callD d_first_from g_first_from (hr.mono (by decide)) rfl (pa_cons (pv 0) (pa_cons (pe_callD d_next_top g_next_top (hr.mono (by decide)) rfl (pa_cons (pv 1) pa_nil)) (pa_cons (pv 2) pa_nil))))))))),?_⟩
 refine ⟨_,rfl,rfl,_,rfl,?_⟩
 refine ite2 (fun c0=>?_) (fun c0=>?_)
 ·refine ⟨_,rfl,q _ _ (Same.refl _) ?_⟩
  rw [behindI,if_pos (int_eq.mp c0)]
  exact hx
 have n0:=int_ne.mp c0
 refine ⟨_,rfl,rfl,_,rfl,?_⟩
 refine ite2 (fun c1=>?_) (fun c1=>?_)
 ·refine ⟨_,rfl,_,rfl,_,_,_,_,_,_,_,_,rfl,hf,hx,fun q1 H1 s1 h1=>q _ _ s1 ?_⟩
  rw [behindI,if_neg n0,if_pos (int_eq.mp c1)]
  exact h1
 have n1:=int_ne.mp c1
 refine ⟨_,rfl,rfl,_,rfl,?_⟩
 refine ite2 (fun c2=>?_) (fun c2=>?_)
 ·refine ⟨_,rfl,_,rfl,_,_,_,_,_,_,_,_,rfl,hf,hx,fun q1 H1 s1 h1=>q _ _ s1 ?_⟩
  rw [behindI,if_neg n0,if_neg n1,if_pos (int_eq.mp c2)]
  exact h1
 have n2:=int_ne.mp c2
 refine ⟨_,rfl,_,rfl,_,_,rfl,hx,fun q1 H1 s1 h1=>?_⟩
 refine ⟨_,rfl,_,_,_,_,_,_,_,_,rfl,s1.tup hf,h1,fun q2 H2 s2 h2=>q _ _ (s1.trans s2) ?_⟩
 rw [behindI,if_neg n0,if_neg n1,if_neg n2]
 exact h2
def sp_later (K:PySem.W.Frag) : Sp:=fun vs H Q _=>∃ (a b:Addr) (x y:Int × Int),vs=[.ref a,.ref b]∧SqT K H a (pl x)∧SqT K H b (pl y)∧∀ q,SqT K H q (pl (laterI x y))→Q (.ref q) H
theorem sc_later:FnScope ["one","other"] ["one","other"] (defScope s_later):=⟨rfl,rfl,rfl,by decide +kernel,rfl,by decide +kernel,by decide +kernel⟩
theorem ok_later (T:Txt P w K mg a) : FnOk P w K mg base CX0 1 a.f_later a.fd_later ["one","other"] (sp_later K):=by
 have z_max:=T.z_max
 refine T.d_later.fn.ok sc_later (fun vs H Q E h=>?_) (fun cdv A outer s H vs Q E hr h=>?_)
 ·obtain ⟨a,b,x,y,rfl,_⟩:=h
  rfl
 obtain ⟨a,b,x,y,rfl,hx,hy,q⟩:=h
 have hu:=Nat.lt_of_succ_lt (hu_of hr)
 refine ⟨_,(pss_one (ps_ret (pe_callB (call_maxT rfl (hu_of hr)) rfl z_max PyProof.Rows.boot_max (pa_cons (pv 0) (pa_cons (pv 1) pa_nil))))),?_⟩
 refine ⟨_,rfl,_,rfl,_,_,[x.1,x.2],[y.1,y.2],rfl,hx,hy,?_⟩
 rw [lex_gt]
 cases e:sooner x y with
 | true=>exact q _ (by rw [laterI,e]; exact hy)
 | false=>exact q _ (by rw [laterI,e]; exact hx)
def sp_told_behind (K:PySem.W.Frag) : Sp:=fun vs H Q _=>∃ (ba la:Addr) (i:Nat) (F:Frm) (ds:List Wd) (xs:List (Int × Int)),vs=[.ref ba,.ref la,.int (i:Int)]∧BkAt K H ba F.w F.h F.f F.m ds∧LwAt K H la xs∧BkOk F ds xs∧i < ds.length∧∀ q H',Same H H'→SqT K H' q (pl (toldBehind F ds xs i))→Q (.ref q) H'
theorem sc_told_behind:FnScope ["book","low","i","form","lead","place"] ["book","low","i"] (defScope s_told_behind):=⟨rfl,rfl,rfl,by decide +kernel,rfl,by decide +kernel,by decide +kernel⟩
theorem ok_told_behind (T:Txt P w K mg a) : FnOk P w K mg base CX0 4 a.f_told_behind a.fd_told_behind ["book","low","i"] (sp_told_behind K):=by
 have g_behind:=ok_behind (P:=P) (w:=w) (base:=base) T
 have d_behind:=T.d_behind
 have g_first_from:=ok_first_from (P:=P) (w:=w) (base:=base) T
 have d_first_from:=T.d_first_from
 have g_later:=ok_later (P:=P) (w:=w) (base:=base) T
 have d_later:=T.d_later
 refine T.d_told_behind.fn.ok sc_told_behind (fun vs H Q E h=>?_) (fun cdv A outer s H vs Q E hr h=>?_)
 ·obtain ⟨ba,la,i,F,ds,xs,rfl,_⟩:=h
  rfl
 obtain ⟨ba,la,i,F,ds,xs,rfl,hbk,hlw,B,hi,q⟩:=h
 have hu:=Nat.lt_of_succ_lt (hu_of hr)
 refine ⟨_,(pss_cons (ps_set (i:=3) sc_told_behind.nd rfl (Or.inl rfl) (pe_ix ix_tup (pv 0) pe_int (fun _ _=>rfl)))
   (pss_cons (ps_set (i:=4) sc_told_behind.nd rfl (Or.inl rfl) (pe_ix ix_tup (pe_ix ix_list (pe_ix ix_tup (pv 0) pe_int (fun _ _=>rfl)) (pv 2) (fun _ _=>rfl)) pe_int (fun _ _=>rfl)))
   (pss_cons (ps_set (i:=5) sc_told_behind.nd rfl (Or.inl rfl) (pe_ix ix_list (pv 1) (pv 2) (fun _ _=>rfl)))
   (pss_cons (ps_if (pt_cmpR op_gt (pv 2) pe_int (nomark _)) (pss_one (ps_set (i:=5) sc_told_behind.nd rfl (Or.inl rfl) (pe_callD d_later g_later (hr.mono (by decide)) rfl (pa_cons (pv 5) (pa_cons (pe_callD d_behind g_behind (hr.mono (by decide)) rfl (pa_cons (pv 3) (pa_cons (pe_ix ix_list (pv 1) (pe_op op_sub (pv 2) pe_int) (fun _ _=>rfl)) (pa_cons (pv 4) pa_nil)))) pa_nil))))) pss_nil)
   (pss_one (ps_ret (pe_callD d_first_from g_first_from (hr.mono (by decide)) rfl (pa_cons (pv 3) (pa_cons (pv 5) (pa_cons (pv 4) pa_nil)))))))))),?_⟩
 obtain ⟨fa,wa,was,hb,hf,hw,hws⟩:=hbk
 obtain ⟨las,hla,hls⟩:=hlw
 obtain ⟨wo,eo,sa,fo,bs,ht,h2,h3,h4⟩:=hws.get hi
 obtain ⟨xo,ex,hx⟩:=LwAt.get (a:=la) hls (B.len ▸ hi)
 refine ⟨_,rfl,_,_,_,_,rfl,rfl,hb,rfl,?_⟩
 refine ⟨_,rfl,_,_,_,_,rfl,rfl,hb,rfl,_,rfl,_,_,_,_,rfl,rfl,hw,eo,_,_,_,_,rfl,rfl,ht,rfl,?_⟩
 refine ⟨_,rfl,_,rfl,_,_,_,_,rfl,rfl,hla,ex,?_⟩
 dsimp only [gName]
 refine cut_seq (fun σ' H'=>Same H H'∧∃ pa,σ' = [some (.ref ba),some (.ref la),some (.int (i:Int)),some (.ref fa),some (.int (dAt ds i).lead),some (.ref pa)]∧SqT K H' pa (pl (if 0 < i then laterI (xAt xs i) (behindI F.h F.f (xAt xs (i - 1)) (dAt ds i).lead) else xAt xs i))) ?_ (fun key=>?_)
 ·rintro σ' H' ⟨s',pa,rfl,hp⟩
  refine ⟨_,rfl,_,rfl,_,rfl,_,_,_,_,_,_,_,_,rfl,s'.tup hf,hp,fun q1 H1 s1 h1=>q _ _ (s'.trans s1) h1⟩
 ·refine ⟨_,rfl,_,_,rfl,rfl,_,rfl,?_⟩
  refine ite2 (fun c=>?_) (fun c=>?_)
  ·have c1:0 < i:=by
    have:(0:Int) < (i:Int):=of_decide_eq_true c
    omega
   obtain ⟨yo,ey,hy⟩:=LwAt.get (a:=la) hls (show i - 1 < xs.length by rw [← B.len]; omega)
   have ei:(i:Int) - 1=((i - 1:Nat) : Int):=by omega
   refine ⟨_,rfl,_,rfl,_,rfl,_,rfl,_,_,rfl,rfl,_,_,_,_,rfl,rfl,hla,(by rw [ei]; exact ey),_,rfl,_,_,_,_,_,_,_,_,rfl,hf,hy,fun q1 H1 s1 h1=>?_⟩
   refine ⟨_,_,_,_,rfl,s1.tup hx,h1,fun q2 h2=>?_⟩
   exact key _ _ ⟨s1,q2,rfl,by rw [if_pos c1]; exact h2⟩
  ·have c1:¬ 0 < i:=fun z=>c (decide_eq_true (by omega))
   exact key _ _ ⟨Same.refl _,xo,rfl,by rw [if_neg c1]; exact hx⟩
def sp_told_high (K:PySem.W.Frag) : Sp:=fun vs H Q _=>∃ (ba la:Addr) (i j:Nat) (high:Int) (F:Frm) (ds:List Wd) (xs:List (Int × Int)),vs=[.ref ba,.ref la,.int (i:Int),.int (j:Int),.int high]∧BkAt K H ba F.w F.h F.f F.m ds∧LwAt K H la xs∧BkOk F ds xs∧i < ds.length∧j < ds.length∧∀ v H',Same H H'→PlO K H' v (toldHigh F xs i j high)→Q v H'
theorem sc_told_high:FnScope ["book","low","i","j","high","page"] ["book","low","i","j","high"] (defScope s_told_high):=⟨rfl,rfl,rfl,by decide +kernel,rfl,by decide +kernel,by decide +kernel⟩
theorem ok_told_high (T:Txt P w K mg a) : FnOk P w K mg base CX0 1 a.f_told_high a.fd_told_high ["book","low","i","j","high"] (sp_told_high K):=by
 refine T.d_told_high.fn.ok sc_told_high (fun vs H Q E h=>?_) (fun cdv A outer s H vs Q E hr h=>?_)
 ·obtain ⟨ba,la,i,j,high,F,ds,xs,rfl,_⟩:=h
  rfl
 obtain ⟨ba,la,i,j,high,F,ds,xs,rfl,hbk,hlw,B,hi,hj,q⟩:=h
 have hu:=Nat.lt_of_succ_lt (hu_of hr)
 refine ⟨_,(pss_cons (ps_set (i:=5) sc_told_high.nd rfl (Or.inl rfl) (pe_ix ix_tup (pe_ix ix_list (pv 1) (pv 2) (fun _ _=>rfl)) pe_int (fun _ _=>rfl)))
   (pss_cons (ps_if (PW.pt (pw_or (pt_cmpR op_lt (pe_ix ix_tup (pe_ix ix_list (pv 1) (pv 3) (fun _ _=>rfl)) pe_int (fun _ _=>rfl)) (pv 5) (nomark _)) (pw_or1 (pt_cmpR op_le (pe_op op_add (pe_op op_add (pe_ix ix_tup (pe_ix ix_list (pv 1) (pv 2) (fun _ _=>rfl)) pe_int (fun _ _=>rfl)) pe_int) (pv 4)) (pe_ix ix_tup (pe_ix ix_tup (pv 0) pe_int (fun _ _=>rfl)) pe_int (fun _ _=>rfl)) (nomark _))))) (pss_one (ps_ret pe_non)) pss_nil)
   (pss_one (ps_ret (pe_tup (pa_cons (pe_op op_add (pv 5) pe_int) (pa_cons pe_int pa_nil))))))),?_⟩
 obtain ⟨fa,wa,was,hb,hf,hw,hws⟩:=hbk
 obtain ⟨las,hla,hls⟩:=hlw
 obtain ⟨xo,ex,hx⟩:=LwAt.get (a:=la) hls (B.len ▸ hi)
 obtain ⟨yo,ey,hy⟩:=LwAt.get (a:=la) hls (B.len ▸ hj)
 refine ⟨_,rfl,_,rfl,_,_,_,_,rfl,rfl,hla,ex,_,_,_,_,rfl,rfl,hx,rfl,?_⟩
 refine ⟨_,rfl,_,rfl,_,_,_,_,rfl,rfl,hla,ey,_,_,_,_,rfl,rfl,hy,rfl,_,rfl,_,_,rfl,rfl,_,rfl,?_⟩
 refine orG (fun c=>?_) (fun c=>?_)
 ·have c1:(xAt xs j).1 < (xAt xs i).1:=of_decide_eq_true c
  exact q _ _ (Same.refl _) (by rw [toldHigh,if_pos (.inl c1)]; rfl)
 have c1:¬ (xAt xs j).1 < (xAt xs i).1:=fun z=>c (decide_eq_true z)
 refine ⟨_,rfl,_,rfl,_,_,_,_,rfl,rfl,hla,ex,_,_,_,_,rfl,rfl,hx,rfl,_,_,rfl,rfl,_,rfl,_,_,rfl,rfl,_,rfl,_,_,_,_,rfl,rfl,hb,rfl,_,_,_,_,rfl,rfl,hf,rfl,_,_,rfl,rfl,_,rfl,?_⟩
 refine ite2 (fun c=>?_) (fun c=>?_)
 ·have c2:(xAt xs i).2+1+high≤F.h:=of_decide_eq_true c
  exact q _ _ (Same.refl _) (by rw [toldHigh,if_pos (.inr c2)]; rfl)
 ·have c2:¬ (xAt xs i).2+1+high≤F.h:=fun z=>c (decide_eq_true z)
  refine ⟨_,rfl,_,_,rfl,rfl,le2,fun p1 hp1=>q _ _ (same_new hp1 _) ?_⟩
  rw [toldHigh,if_neg (by intro z; rcases z with z | z; exact c1 z; exact c2 z)]
  exact ⟨p1,rfl,SqT.of upd_same⟩
def sp_told_kept (K:PySem.W.Frag) : Sp:=fun vs H Q _=>∃ (ba la:Addr) (i:Nat) (F:Frm) (ds:List Wd) (xs:List (Int × Int)),vs=[.ref ba,.ref la,.int (i:Int)]∧BkAt K H ba F.w F.h F.f F.m ds∧LwAt K H la xs∧BkOk F ds xs∧i < ds.length∧∀ v H',Same H H'→PlO K H' v (toldKept ds xs i)→Q v H'
theorem sc_told_kept:FnScope ["book","low","i","words","j"] ["book","low","i"] (defScope s_told_kept):=⟨rfl,rfl,rfl,by decide +kernel,rfl,by decide +kernel,by decide +kernel⟩
theorem ok_told_kept (T:Txt P w K mg a) : FnOk P w K mg base CX0 1 a.f_told_kept a.fd_told_kept ["book","low","i"] (sp_told_kept K):=by
 have z_len:=T.z_len
 refine T.d_told_kept.fn.ok sc_told_kept (fun vs H Q E h=>?_) (fun cdv A outer s H vs Q E hr h=>?_)
 ·obtain ⟨ba,la,i,F,ds,xs,rfl,_⟩:=h
  rfl
 obtain ⟨ba,la,i,F,ds,xs,rfl,hbk,hlw,B,hi,q⟩:=h
 have hu:=Nat.lt_of_succ_lt (hu_of hr)
 refine ⟨_,(pss_cons (ps_set (i:=3) sc_told_kept.nd rfl (Or.inl rfl) (pe_ix ix_tup (pv 0) pe_int (fun _ _=>rfl)))
   (pss_cons (ps_set (i:=4) sc_told_kept.nd rfl (Or.inl rfl) (pe_op op_add (pv 2) pe_int))
   (pss_cons (ps_if (PW.pt (pw_or (pt_cmpR op_eq (pv 4) (pe_callB call_len_seq rfl z_len PySem.boot_len (pa_cons (pv 3) pa_nil)) (nomark _)) (pw_or1 (pt_not (pt_val (pe_ix ix_tup (pe_ix ix_list (pv 3) (pv 4) (fun _ _=>rfl)) pe_int (fun _ _=>rfl)) (fun _=>rfl)))))) (pss_one (ps_ret pe_non)) pss_nil)
   (pss_one (ps_ret (pe_tup (pa_cons (pe_ix ix_tup (pe_ix ix_list (pv 1) (pv 4) (fun _ _=>rfl)) pe_int (fun _ _=>rfl)) (pa_cons pe_int pa_nil)))))))),?_⟩
 obtain ⟨fa,wa,was,hb,hf,hw,hws⟩:=hbk
 obtain ⟨las,hla,hls⟩:=hlw
 refine ⟨_,rfl,_,_,_,_,rfl,rfl,hb,rfl,?_⟩
 refine ⟨_,rfl,_,_,rfl,rfl,?_⟩
 dsimp only [gName]
 refine ⟨_,rfl,_,rfl,_,_,rfl,.inl hw,rfl,_,rfl,?_⟩
 have ei:(i:Int)+1=((i+1:Nat) : Int):=by omega
 refine orG (fun c=>?_) (fun c=>?_)
 ·have c0:=int_eq.mp c
  have c1:i+1=ds.length:=by
   rw [List.length_map,hws.1] at c0
   omega
  exact q _ _ (Same.refl _) (by rw [toldKept,if_pos (.inl c1)]; rfl)
 have c1:i+1≠ds.length:=fun z=>c (int_eq.mpr (by rw [List.length_map,hws.1]; omega))
 have hi2:i+1 < ds.length:=by omega
 obtain ⟨wo,eo,sa,fo,bs,ht,h2,h3,h4⟩:=hws.get hi2
 obtain ⟨yo,ey,hy⟩:=LwAt.get (a:=la) hls (B.len ▸ hi2)
 refine ⟨_,rfl,_,rfl,_,_,_,_,rfl,rfl,hw,(by rw [ei]; exact eo),_,_,_,_,rfl,rfl,ht,rfl,_,rfl,?_⟩
 cases ek:(dAt ds (i+1)).kept with
 | false =>
  refine iteT ?_
  exact q _ _ (Same.refl _) (by rw [toldKept,if_pos (.inr ek)]; rfl)
 | true =>
  refine iteF ?_
  refine ⟨_,rfl,_,rfl,_,_,_,_,rfl,rfl,hla,(by rw [ei]; exact ey),_,_,_,_,rfl,rfl,hy,rfl,le2,fun p1 hp1=>q _ _ (same_new hp1 _) ?_⟩
  rw [toldKept,if_neg (by intro z; rcases z with z | z; exact c1 z; rw [ek] at z; cases z)]
  exact ⟨p1,rfl,SqT.of upd_same⟩
def sp_wide_of (K:PySem.W.Frag) : Sp:=fun vs H Q _=>∃ (fa sa pa:Addr) (w h f m:Int) (s:Say) (as:List Addr) (xs:List (Int × Int)),vs=[.ref fa,.ref sa,.ref pa]∧SqT K H fa (fm w h f m)∧SqT K H sa (sayV s)∧SqL K H pa (as.map V.ref)∧PlsA K H as xs∧FormOk w h f m∧SayOk xs.length s∧PlsOk h xs∧Q (.int ((saidL h f xs s).length:Nat)) H
theorem sc_wide_of:FnScope ["form","saying","places"] ["form","saying","places"] (defScope s_wide_of):=⟨rfl,rfl,rfl,by decide +kernel,rfl,by decide +kernel,by decide +kernel⟩
theorem ok_wide_of (T:Txt P w K mg a) : FnOk P w K mg base CX0 3 a.f_wide_of a.fd_wide_of ["form","saying","places"] (sp_wide_of K):=by
 have g_said:=ok_said (P:=P) (w:=w) (base:=base) T
 have d_said:=T.d_said
 have z_len:=T.z_len
 refine T.d_wide_of.fn.ok sc_wide_of (fun vs H Q E h=>?_) (fun cdv A outer s H vs Q E hr h=>?_)
 ·obtain ⟨fa,sa,pa,w,h,f,m,s,as,xs,rfl,_⟩:=h
  rfl
 obtain ⟨fa,sa,pa,w,h,f,m,s,as,xs,rfl,hf,hs,hp,ha,fo,so,po,q⟩:=h
 have hu:=Nat.lt_of_succ_lt (hu_of hr)
 refine ⟨_,(pss_one (ps_ret (pe_callB call_len_str rfl z_len PySem.boot_len (pa_cons (pe_callD d_said g_said (hr.mono (by decide)) rfl (pa_cons (pv 0) (pa_cons (pv 1) (pa_cons (pv 2) pa_nil)))) pa_nil)))),?_⟩
 have sl:=said_len fo po so
 refine ⟨_,rfl,_,rfl,_,rfl,_,_,_,_,_,_,_,_,_,_,rfl,hf,hs,hp,ha,fo,so,po,_,rfl,(by rw [tx_len]; exact small (by omega)),?_⟩
 rw [tx_len]
 exact q
def sp_told_never (K:PySem.W.Frag) : Sp:=fun vs H Q _=>∃ (ba la:Addr) (i:Nat) (F:Frm) (ds:List Wd) (xs:List (Int × Int)),vs=[.ref ba,.ref la,.int (i:Int)]∧BkAt K H ba F.w F.h F.f F.m ds∧LwAt K H la xs∧BkOk F ds xs∧i < ds.length∧∀ v H',Same H H'→PlO K H' v (toldNever F ds xs i)→Q v H'
theorem sc_told_never:FnScope ["book","low","i","form","word"] ["book","low","i"] (defScope s_told_never):=⟨rfl,rfl,rfl,by decide +kernel,rfl,by decide +kernel,by decide +kernel⟩
theorem ok_told_never (T:Txt P w K mg a) : FnOk P w K mg base CX0 5 a.f_told_never a.fd_told_never ["book","low","i"] (sp_told_never K):=by
 have g_foot_high:=ok_foot_high (P:=P) (w:=w) (base:=base) T
 have d_foot_high:=T.d_foot_high
 have g_wide_of:=ok_wide_of (P:=P) (w:=w) (base:=base) T
 have d_wide_of:=T.d_wide_of
 refine T.d_told_never.fn.ok sc_told_never (fun vs H Q E h=>?_) (fun cdv A outer s H vs Q E hr h=>?_)
 ·obtain ⟨ba,la,i,F,ds,xs,rfl,_⟩:=h
  rfl
 obtain ⟨ba,la,i,F,ds,xs,rfl,hbk,hlw,B,hi,q⟩:=h
 have hu:=Nat.lt_of_succ_lt (hu_of hr)
 refine ⟨_,(pss_cons (ps_set (i:=3) sc_told_never.nd rfl (Or.inl rfl) (pe_ix ix_tup (pv 0) pe_int (fun _ _=>rfl)))
   (pss_cons (ps_set (i:=4) sc_told_never.nd rfl (Or.inl rfl) (pe_ix ix_list (pe_ix ix_tup (pv 0) pe_int (fun _ _=>rfl)) (pv 2) (fun _ _=>rfl)))
   (pss_cons (ps_if (PW.pt (pw_and (pt_cmpR op_le (pe_callD d_wide_of g_wide_of (hr.mono (by decide)) rfl (pa_cons (pv 3) (pa_cons (pe_ix ix_tup (pv 4) pe_int (fun _ _=>rfl)) (pa_cons (pv 1) pa_nil)))) (pe_ix ix_tup (pv 3) pe_int (fun _ _=>rfl)) (nomark _)) (pw_and1 (pt_cmpR op_le (pe_op op_add (pe_callD d_foot_high g_foot_high (hr.mono (by decide)) rfl (pa_cons (pv 3) (pa_cons (pe_ix ix_tup (pv 4) pe_int (fun _ _=>rfl)) (pa_cons (pv 1) pa_nil)))) pe_int) (pe_ix ix_tup (pv 3) pe_int (fun _ _=>rfl)) (nomark _))))) (pss_one (ps_ret pe_non)) pss_nil)
   (pss_one (ps_ret (pe_tup (pa_cons (pe_ix ix_tup (pv 3) pe_int (fun _ _=>rfl)) (pa_cons pe_int pa_nil)))))))),?_⟩
 obtain ⟨fa,wa,was,hb,hf,hw,hws⟩:=hbk
 obtain ⟨las,hla,hls⟩:=hlw
 obtain ⟨wo,eo,sa,foa,bs,ht,h2,h3,h4⟩:=hws.get hi
 have wk:=(B.d hi).2
 refine ⟨_,rfl,_,_,_,_,rfl,rfl,hb,rfl,?_⟩
 refine ⟨_,rfl,_,_,_,_,rfl,rfl,hb,rfl,_,rfl,_,_,_,_,rfl,rfl,hw,eo,?_⟩
 refine ⟨_,rfl,_,rfl,_,_,_,_,rfl,rfl,ht,rfl,_,rfl,_,_,_,_,_,_,_,_,_,_,rfl,hf,h2,hla,hls,B.fo,wk.s,B.po,_,rfl,_,_,_,_,rfl,rfl,hf,rfl,_,_,rfl,rfl,_,rfl,?_⟩
 by_cases k1:wideW F xs (dAt ds i)≤F.w
 ·refine andG (fun c=>absurd (decide_eq_true k1) c) (fun _=>?_)
  refine ⟨_,rfl,_,rfl,_,_,_,_,rfl,rfl,ht,rfl,_,rfl,_,_,_,_,_,_,_,_,_,_,_,rfl,hf,h3,h4,hla,hls,B.fo,wk.f,B.po,(by have:=wk.n; omega),fun H1 s1=>?_⟩
  refine ⟨_,_,rfl,rfl,_,rfl,_,_,_,_,rfl,rfl,s1.tup hf,rfl,_,_,rfl,rfl,_,rfl,?_⟩
  refine ite2 (fun c=>?_) (fun c=>?_)
  ·have k2:highW F xs (dAt ds i)+1≤F.h:=of_decide_eq_true c
   exact q _ _ s1 (by rw [toldNever,if_pos ⟨k1,k2⟩]; rfl)
  ·have k2:¬ highW F xs (dAt ds i)+1≤F.h:=fun z=>c (decide_eq_true z)
   refine ⟨_,rfl,_,_,_,_,rfl,rfl,s1.tup hf,rfl,le2,fun p1 hp1=>q _ _ (s1.trans (same_new hp1 _)) ?_⟩
   rw [toldNever,if_neg (fun z=>k2 z.2)]
   exact ⟨p1,rfl,SqT.of upd_same⟩
 ·refine andG (fun _=>?_) (fun c=>absurd (of_decide_eq_true c) k1)
  refine ⟨_,rfl,_,_,_,_,rfl,rfl,hf,rfl,le2,fun p1 hp1=>q _ _ (same_new hp1 _) ?_⟩
  rw [toldNever,if_neg (fun z=>k1 z.1)]
  exact ⟨p1,rfl,SqT.of upd_same⟩
def sp_told_wide (K:PySem.W.Frag) : Sp:=fun vs H Q _=>∃ (ba la:Addr) (j:Nat) (wide:Int) (F:Frm) (ds:List Wd) (xs:List (Int × Int)),vs=[.ref ba,.ref la,.int (j:Int),.int wide]∧BkAt K H ba F.w F.h F.f F.m ds∧LwAt K H la xs∧BkOk F ds xs∧j < ds.length∧∀ v H',Same H H'→PlO K H' v (toldWide F xs j wide)→Q v H'
theorem sc_told_wide:FnScope ["book","low","j","wide","form"] ["book","low","j","wide"] (defScope s_told_wide):=⟨rfl,rfl,rfl,by decide +kernel,rfl,by decide +kernel,by decide +kernel⟩
theorem ok_told_wide (T:Txt P w K mg a) : FnOk P w K mg base CX0 4 a.f_told_wide a.fd_told_wide ["book","low","j","wide"] (sp_told_wide K):=by
 have g_behind:=ok_behind (P:=P) (w:=w) (base:=base) T
 have d_behind:=T.d_behind
 refine T.d_told_wide.fn.ok sc_told_wide (fun vs H Q E h=>?_) (fun cdv A outer s H vs Q E hr h=>?_)
 ·obtain ⟨ba,la,j,wide,F,ds,xs,rfl,_⟩:=h
  rfl
 obtain ⟨ba,la,j,wide,F,ds,xs,rfl,hbk,hlw,B,hj,q⟩:=h
 have hu:=Nat.lt_of_succ_lt (hu_of hr)
 refine ⟨_,(pss_cons (ps_set (i:=4) sc_told_wide.nd rfl (Or.inl rfl) (pe_ix ix_tup (pv 0) pe_int (fun _ _=>rfl)))
   (pss_cons (ps_if (pt_cmpR op_le (pv 3) (pe_ix ix_tup (pv 4) pe_int (fun _ _=>rfl)) (nomark _)) (pss_one (ps_ret pe_non)) pss_nil)
   (pss_one (ps_ret (pe_callD d_behind g_behind (hr.mono (by decide)) rfl (pa_cons (pv 4) (pa_cons (pe_ix ix_list (pv 1) (pv 2) (fun _ _=>rfl)) (pa_cons pe_int pa_nil)))))))),?_⟩
 obtain ⟨fa,wa,was,hb,hf,hw,hws⟩:=hbk
 obtain ⟨las,hla,hls⟩:=hlw
 obtain ⟨xo,ex,hx⟩:=LwAt.get (a:=la) hls (B.len ▸ hj)
 refine ⟨_,rfl,_,_,_,_,rfl,rfl,hb,rfl,?_⟩
 refine ⟨_,rfl,_,rfl,_,_,_,_,rfl,rfl,hf,rfl,_,_,rfl,rfl,_,rfl,?_⟩
 refine ite2 (fun c=>?_) (fun c=>?_)
 ·have c1:wide≤F.w:=of_decide_eq_true c
  exact q _ _ (Same.refl _) (by rw [toldWide,if_pos c1]; rfl)
 ·have c1:¬ wide≤F.w:=fun z=>c (decide_eq_true z)
  refine ⟨_,rfl,_,rfl,_,rfl,_,_,_,_,rfl,rfl,hla,ex,_,_,_,_,_,_,_,_,rfl,hf,hx,fun q1 H1 s1 h1=>q _ _ s1 ?_⟩
  rw [toldWide,if_neg c1]
  exact ⟨q1,rfl,h1⟩
def sp_wides_of (K:PySem.W.Frag) : Sp:=fun vs H Q _=>∃ (ba la:Addr) (j n:Nat) (i:Int) (F:Frm) (ds:List Wd) (xs:List (Int × Int)),vs=[.ref ba,.ref la,.int (j:Int),.int i]∧i+1=(n:Int)∧BkAt K H ba F.w F.h F.f F.m ds∧LwAt K H la xs∧BkOk F ds xs∧n≤ds.length∧j≤n∧∀ q H',Same H H'→H q=none→H' q=some (.lst (((segP ds j n).map (wideW F xs)).map V.int))→Q (.ref q) H'
theorem sc_wides_of:FnScope ["book","low","j","i"] ["book","low","j","i"] (defScope s_wides_of):=⟨rfl,rfl,rfl,by decide +kernel,rfl,by decide +kernel,by decide +kernel⟩
theorem ok_wides_of (T:Txt P w K mg a) : FnOk P w K mg base CX0 4 a.f_wides_of a.fd_wides_of ["book","low","j","i"] (sp_wides_of K):=by
 have g_wide_of:=ok_wide_of (P:=P) (w:=w) (base:=base) T
 have d_wide_of:=T.d_wide_of
 refine T.d_wides_of.fn.ok sc_wides_of (fun vs H Q E h=>?_) (fun cdv A outer s H vs Q E hr h=>?_)
 ·obtain ⟨ba,la,j,n,i,F,ds,xs,rfl,_⟩:=h
  rfl
 obtain ⟨ba,la,j,n,i,F,ds,xs,rfl,he,hbk,hlw,B,hi,hj,q⟩:=h
 have hu:=Nat.lt_of_succ_lt (hu_of hr)
 refine ⟨_,(pss_one (ps_ret (pe_lc rfl (lcok (caps:=["book","low"]) (js:=[0,1]) (cap:=⟨⟨rfl,.inl rfl,rfl,.inl rfl⟩,⟨⟨rfl,.inl rfl,rfl,.inl rfl⟩,trivial⟩⟩)) (pi_list (pe_slice sl_list (pe_ix ix_tup (pv 0) pe_int (fun _ _=>rfl)) (po_some (pv 2)) (po_some (pe_op op_add (pv 3) pe_int)))) (fun _ _ _ _=>pts_nil) (fun _ _ _ _=>(pe_callD d_wide_of g_wide_of (hr.mono (by decide)) rfl (pa_cons (pe_ix (r:=rIxT K) ix_tup (pv 1) pe_int (fun _ _=>rfl)) (pa_cons (pe_ix (r:=rIxT K) ix_tup (pv 0) pe_int (fun _ _=>rfl)) (pa_cons (pv 2) pa_nil)))))))),?_⟩
 obtain ⟨fa,wa,was,hb,hf,hw,hws⟩:=hbk
 obtain ⟨las,hla,hls⟩:=hlw
 refine ⟨_,rfl,_,_,_,_,rfl,rfl,hb,rfl,_,rfl,_,rfl,_,rfl,_,_,rfl,rfl,_,rfl,_,_,rfl,hw,fun p1 hp1=>?_⟩
 have ec:cutV (was.map V.ref) (some (j:Int)) (some (i+1))=((was.drop j).take (n - j)).map V.ref:=by
  have:=cut_nat was j n
  rw [cutV_map,he]
  exact congrArg (List.map V.ref) this
 have s1:=same_new hp1 (.lst (cutV (was.map V.ref) (some (j:Int)) (some (i+1))))
 have h1:(upd H p1 (.lst (cutV (was.map V.ref) (some (j:Int)) (some (i+1))))) p1=some (.lst (((was.drop j).take (n - j)).map V.ref)):=by rw [upd_same,ec]
 generalize upd H p1 (.lst (cutV (was.map V.ref) (some (j:Int)) (some (i+1))))=H1 at s1 h1
 have wsg:WdsA K H ((was.drop j).take (n - j)) (segP ds j n):=(hws.drop j).take (n - j)
 have sub:∀ d ∈ segP ds j n,WdOk xs.length d:=fun d hd=>B.len ▸ B.wd d (List.mem_of_mem_drop (List.mem_of_mem_take hd))
 have sl:(segP ds j n).length≤400:=by unfold segP; have:=B.n; simp; omega
 generalize (was.drop j).take (n - j)=sas at h1 wsg
 generalize segP ds j n=sd at wsg sub q sl
 refine ⟨_,rfl,⟨_,SqL.of h1⟩,lc_list (K:=K) (a:=p1) (xs:=sas.map V.ref) (fun k ys H2=>Same H1 H2∧ys=((sd.take k).map (wideW F xs)).map V.int) ⟨Same.refl _,rfl⟩ (fun k ys H2 _ h2=>h2.1.seq (SqL.of h1)) ?_ ?_ ?_⟩
 ·rintro k ys H2 hk ⟨_,rfl⟩
  rw [List.length_map,List.length_map,List.length_take]
  exact Nat.lt_of_lt_of_le (show _ < 1000 by omega) (small (Nat.le_refl _))
 ·rintro k y ys H2 hk ⟨s2,rfl⟩
  obtain ⟨b,d,rfl,eb,ed⟩:=wd_at wsg.1 hk
  obtain ⟨sa,fo,bs,ht,g2,g3,g4⟩:=wsg.2 k b d eb ed
  have wk:=sub d (List.mem_of_getElem? ed)
  have t:=s1.trans s2
  refine yes_go ?_
  refine ⟨_,rfl,_,_,_,_,rfl,rfl,t.tup hb,rfl,_,rfl,_,_,_,_,rfl,rfl,t.tup ht,rfl,_,rfl,_,_,_,_,_,_,_,_,_,_,rfl,t.tup hf,t.tup g2,t.seq hla,hls.same t,B.fo,wk.s,B.po,s2,?_⟩
  rw [take_snoc ed,List.map_append,List.map_append]
  rfl
 ·rintro ys H2 ⟨s2,rfl⟩ p hp
  have e:(sas.map V.ref).length=sd.length:=by rw [List.length_map,wsg.1]
  rw [e,List.take_length] at *
  exact q _ _ (s1.trans (s2.trans (same_new hp _))) ((s1.trans s2).free hp) upd_same
def sp_told_by_kind (K:PySem.W.Frag) : Sp:=fun vs H Q _=>∃ (ba la:Addr) (k:Str) (i:Nat) (j:Int) (F:Frm) (ds:List Wd) (xs:List (Int × Int)),vs=[.ref ba,.ref la,.str k,.int (i:Int),.int j]∧BkAt K H ba F.w F.h F.f F.m ds∧LwAt K H la xs∧BkOk F ds xs∧i < ds.length∧∀ v H',Same H H'→PlO K H' v (toldBy F ds xs k i j)→Q v H'
theorem sc_told_by_kind:FnScope ["book","low","kind","i","j"] ["book","low","kind","i","j"] (defScope s_told_by_kind):=⟨rfl,rfl,rfl,by decide +kernel,rfl,by decide +kernel,by decide +kernel⟩
theorem ok_told_by_kind (T:Txt P w K mg a) : FnOk P w K mg base CX0 6 a.f_told_by_kind a.fd_told_by_kind ["book","low","kind","i","j"] (sp_told_by_kind K):=by
 have g_highs_of:=ok_highs_of (P:=P) (w:=w) (base:=base) T
 have d_highs_of:=T.d_highs_of
 have g_together:=ok_together (P:=P) (w:=w) (base:=base) T
 have d_together:=T.d_together
 have g_told_behind:=ok_told_behind (P:=P) (w:=w) (base:=base) T
 have d_told_behind:=T.d_told_behind
 have g_told_high:=ok_told_high (P:=P) (w:=w) (base:=base) T
 have d_told_high:=T.d_told_high
 have g_told_kept:=ok_told_kept (P:=P) (w:=w) (base:=base) T
 have d_told_kept:=T.d_told_kept
 have g_told_never:=ok_told_never (P:=P) (w:=w) (base:=base) T
 have d_told_never:=T.d_told_never
 have g_told_wide:=ok_told_wide (P:=P) (w:=w) (base:=base) T
 have d_told_wide:=T.d_told_wide
 have g_wides_of:=ok_wides_of (P:=P) (w:=w) (base:=base) T
 have d_wides_of:=T.d_wides_of
 have z_sum:=T.z_sum
 refine T.d_told_by_kind.fn.ok sc_told_by_kind (fun vs H Q E h=>?_) (fun cdv A outer s H vs Q E hr h=>?_)
 ·obtain ⟨ba,la,k,i,j,F,ds,xs,rfl,_⟩:=h
  rfl
 obtain ⟨ba,la,k,i,j,F,ds,xs,rfl,hbk,hlw,B,hi,q⟩:=h
 have hu:=Nat.lt_of_succ_lt (hu_of hr)
 refine ⟨_,(pss_cons (ps_if (PW.pt (pw_and (pt_cmpR op_eq (pv 2) pe_str (nomark _)) (pw_and1 (pt_cmpR op_eq (pv 4) (pe_op op_sub (pv 3) pe_int) (nomark _))))) (pss_one (ps_ret (pe_callD d_told_behind g_told_behind (hr.mono (by decide)) rfl (pa_cons (pv 0) (pa_cons (pv 1) (pa_cons (pv 3) pa_nil)))))) pss_nil)
   (pss_cons (ps_if (PW.pt (pw_and (pt_cmpR op_eq (pv 2) pe_str (nomark _)) (pw_and1 (pt_chain op_le op_lt pe_int (pv 4) (pv 3))))) (pss_one (ps_ret (pe_callD d_told_wide g_told_wide (hr.mono (by decide)) rfl (pa_cons (pv 0) (pa_cons (pv 1) (pa_cons (pv 4) (pa_cons (pe_callD d_together g_together (hr.mono (by decide)) rfl (pa_cons (pe_callD d_wides_of g_wides_of (hr.mono (by decide)) rfl (pa_cons (pv 0) (pa_cons (pv 1) (pa_cons (pv 4) (pa_cons (pv 3) pa_nil))))) pa_nil)) pa_nil))))))) pss_nil)
   (pss_cons (ps_if (PW.pt (pw_and (pt_cmpR op_eq (pv 2) pe_str (nomark _)) (pw_and1 (pt_chain op_le op_le pe_int (pv 4) (pv 3))))) (pss_one (ps_ret (pe_callD d_told_high g_told_high (hr.mono (by decide)) rfl (pa_cons (pv 0) (pa_cons (pv 1) (pa_cons (pv 3) (pa_cons (pv 4) (pa_cons (pe_callB (call_sum rfl) rfl z_sum PyProof.Rows.boot_sum (pa_cons (pe_callD d_highs_of g_highs_of (hr.mono (by decide)) rfl (pa_cons (pv 0) (pa_cons (pv 1) (pa_cons (pv 4) (pa_cons (pv 3) pa_nil))))) pa_nil)) pa_nil)))))))) pss_nil)
   (pss_cons (ps_if (PW.pt (pw_and (pt_cmpR op_eq (pv 2) pe_str (nomark _)) (pw_and1 (pt_cmpR op_eq (pv 4) (pe_op op_add (pv 3) pe_int) (nomark _))))) (pss_one (ps_ret (pe_callD d_told_kept g_told_kept (hr.mono (by decide)) rfl (pa_cons (pv 0) (pa_cons (pv 1) (pa_cons (pv 3) pa_nil)))))) pss_nil)
   (pss_cons (ps_if (PW.pt (pw_and (pt_cmpR op_eq (pv 2) pe_str (nomark _)) (pw_and1 (pt_cmpR op_eq (pv 4) (pv 3) (nomark _))))) (pss_one (ps_ret (pe_callD d_told_never g_told_never (hr.mono (by decide)) rfl (pa_cons (pv 0) (pa_cons (pv 1) (pa_cons (pv 3) pa_nil)))))) pss_nil)
   (pss_one (ps_ret pe_non))))))),?_⟩
 unfold toldBy at q
 refine ⟨_,rfl,rfl,_,rfl,?_⟩
 by_cases k1:k=PySem.Str.ofString "behind"∧j=(i:Int) - 1
 ·rw [if_pos k1] at q
  refine andG (fun c=>absurd (str_eq.mpr k1.1) c) (fun _=>?_)
  refine ⟨_,rfl,_,rfl,_,_,rfl,rfl,rfl,_,rfl,?_⟩
  refine ite2 (fun _=>?_) (fun c=>absurd (int_eq.mpr k1.2) c)
  exact ⟨_,rfl,_,rfl,_,rfl,_,_,_,_,_,_,rfl,hbk,hlw,B,hi,fun q1 H1 s1 h1=>q _ _ s1 ⟨q1,rfl,h1⟩⟩
 rw [if_neg k1] at q
 refine andN ?_ (fun ca hb=>?_)
 rotate_left
 ·refine ⟨_,rfl,_,rfl,_,_,rfl,rfl,rfl,_,rfl,?_⟩
  exact ite2 (fun c=>absurd ⟨str_eq.mp ca,int_eq.mp c⟩ k1) (fun _=>hb)
 refine ⟨_,rfl,rfl,_,rfl,?_⟩
 by_cases k2:k=PySem.Str.ofString "wide"∧(0≤j∧j < (i:Int))
 ·rw [if_pos k2] at q
  refine andG (fun c=>absurd (str_eq.mpr k2.1) c) (fun _=>?_)
  refine ⟨_,rfl,_,_,rfl,rfl,_,rfl,?_⟩
  rw [decide_eq_true k2.2.1]
  refine iteT ?_
  refine ⟨_,rfl,_,_,rfl,rfl,_,rfl,?_⟩
  refine ite2 (fun _=>?_) (fun c=>absurd (decide_eq_true k2.2.2) c)
  obtain ⟨n,rfl⟩:=Int.eq_ofNat_of_zero_le k2.2.1
  refine ⟨_,rfl,_,rfl,_,rfl,_,rfl,_,rfl,_,rfl,_,rfl,_,_,n,i+1,(i:Int),_,_,_,rfl,(by omega),hbk,hlw,B,(by omega),(by omega),fun wa H1 s1 nw h1=>?_⟩
  refine ⟨_,_,rfl,SqL.of h1,?_⟩
  exact ⟨_,_,n,_,_,_,_,rfl,hbk.same s1,hlw.same s1,B,by omega,fun v H2 s2 h2=>q _ _ (s1.trans s2) h2⟩
 rw [if_neg k2] at q
 refine andN ?_ (fun ca hb=>?_)
 rotate_left
 ·refine ⟨_,rfl,_,_,rfl,rfl,_,rfl,?_⟩
  refine ite2 (fun c1=>?_) (fun _=>⟨_,rfl,iteF hb⟩)
  refine ⟨_,rfl,_,_,rfl,rfl,_,rfl,?_⟩
  exact ite2 (fun c=>absurd ⟨str_eq.mp ca,of_decide_eq_true c1,of_decide_eq_true c⟩ k2) (fun _=>hb)
 refine ⟨_,rfl,rfl,_,rfl,?_⟩
 by_cases k3:k=PySem.Str.ofString "high"∧(0≤j∧j≤(i:Int))
 ·rw [if_pos k3] at q
  refine andG (fun c=>absurd (str_eq.mpr k3.1) c) (fun _=>?_)
  refine ⟨_,rfl,_,_,rfl,rfl,_,rfl,?_⟩
  rw [decide_eq_true k3.2.1]
  refine iteT ?_
  refine ⟨_,rfl,_,_,rfl,rfl,_,rfl,?_⟩
  refine ite2 (fun _=>?_) (fun c=>absurd (decide_eq_true k3.2.2) c)
  obtain ⟨n,rfl⟩:=Int.eq_ofNat_of_zero_le k3.2.1
  refine ⟨_,rfl,_,rfl,_,rfl,_,rfl,_,rfl,_,rfl,_,rfl,_,rfl,_,_,n,i+1,(i:Int),_,_,_,rfl,(by omega),hbk,hlw,B,(by omega),(by omega),fun wa H1 s1 nw h1=>?_⟩
  refine ⟨_,_,rfl,SqL.of h1,?_⟩
  exact ⟨_,_,i,n,_,_,_,_,rfl,hbk.same s1,hlw.same s1,B,hi,by omega,fun v H2 s2 h2=>q _ _ (s1.trans s2) h2⟩
 rw [if_neg k3] at q
 refine andN ?_ (fun ca hb=>?_)
 rotate_left
 ·refine ⟨_,rfl,_,_,rfl,rfl,_,rfl,?_⟩
  refine ite2 (fun c1=>?_) (fun _=>⟨_,rfl,iteF hb⟩)
  refine ⟨_,rfl,_,_,rfl,rfl,_,rfl,?_⟩
  exact ite2 (fun c=>absurd ⟨str_eq.mp ca,of_decide_eq_true c1,of_decide_eq_true c⟩ k3) (fun _=>hb)
 refine ⟨_,rfl,rfl,_,rfl,?_⟩
 by_cases k4:k=PySem.Str.ofString "kept"∧j=(i:Int)+1
 ·rw [if_pos k4] at q
  refine andG (fun c=>absurd (str_eq.mpr k4.1) c) (fun _=>?_)
  refine ⟨_,rfl,_,rfl,_,_,rfl,rfl,rfl,_,rfl,?_⟩
  refine ite2 (fun _=>?_) (fun c=>absurd (int_eq.mpr k4.2) c)
  exact ⟨_,rfl,_,rfl,_,rfl,_,_,_,_,_,_,rfl,hbk,hlw,B,hi,fun v H1 s1 h1=>q _ _ s1 h1⟩
 rw [if_neg k4] at q
 refine andN ?_ (fun ca hb=>?_)
 rotate_left
 ·refine ⟨_,rfl,_,rfl,_,_,rfl,rfl,rfl,_,rfl,?_⟩
  exact ite2 (fun c=>absurd ⟨str_eq.mp ca,int_eq.mp c⟩ k4) (fun _=>hb)
 refine ⟨_,rfl,rfl,_,rfl,?_⟩
 by_cases k5:k=PySem.Str.ofString "never"∧j=(i:Int)
 ·rw [if_pos k5] at q
  refine andG (fun c=>absurd (str_eq.mpr k5.1) c) (fun _=>?_)
  refine ⟨_,rfl,_,rfl,rfl,_,rfl,?_⟩
  refine ite2 (fun _=>?_) (fun c=>absurd (int_eq.mpr k5.2) c)
  exact ⟨_,rfl,_,rfl,_,rfl,_,_,_,_,_,_,rfl,hbk,hlw,B,hi,fun v H1 s1 h1=>q _ _ s1 h1⟩
 rw [if_neg k5] at q
 refine andN (q _ _ (Same.refl _) rfl) (fun ca hb=>?_)
 refine ⟨_,rfl,_,rfl,rfl,_,rfl,?_⟩
 exact ite2 (fun c=>absurd ⟨str_eq.mp ca,int_eq.mp c⟩ k5) (fun _=>hb)
def sp_reach (K:PySem.W.Frag) : Sp:=fun vs H Q _=>∃ (ba la:Addr) (k:Str) (i:Nat) (j:Int) (F:Frm) (ds:List Wd) (xs:List (Int × Int)),vs=[.ref ba,.ref la,.str k,.int (i:Int),.int j]∧BkAt K H ba F.w F.h F.f F.m ds∧LwAt K H la xs∧BkOk F ds xs∧i < ds.length∧∀ v H',Same H H'→PlO K H' v (reachI F ds xs k i j)→Q v H'
theorem sc_reach:FnScope ["book","low","kind","i","j","place"] ["book","low","kind","i","j"] (defScope s_reach):=⟨rfl,rfl,rfl,by decide +kernel,rfl,by decide +kernel,by decide +kernel⟩
theorem ok_reach (T:Txt P w K mg a) : FnOk P w K mg base CX0 7 a.f_reach a.fd_reach ["book","low","kind","i","j"] (sp_reach K):=by
 have g_told_by_kind:=ok_told_by_kind (P:=P) (w:=w) (base:=base) T
 have d_told_by_kind:=T.d_told_by_kind
 refine T.d_reach.fn.ok sc_reach (fun vs H Q E h=>?_) (fun cdv A outer s H vs Q E hr h=>?_)
 ·obtain ⟨ba,la,k,i,j,F,ds,xs,rfl,_⟩:=h
  rfl
 obtain ⟨ba,la,k,i,j,F,ds,xs,rfl,hbk,hlw,B,hi,q⟩:=h
 have hu:=Nat.lt_of_succ_lt (hu_of hr)
 refine ⟨_,(pss_cons (ps_set (i:=5) sc_reach.nd rfl (Or.inl rfl) (pe_callD d_told_by_kind g_told_by_kind (hr.mono (by decide)) rfl (pa_cons (pv 0) (pa_cons (pv 1) (pa_cons (pv 2) (pa_cons (pv 3) (pa_cons (pv 4) pa_nil)))))))
   (pss_cons (ps_if (PW.pt (pw_or (pt_cmpR op_isN (pv 5) pe_non (nomark _)) (pw_or1 (pt_cmpR (op_leT hu) (pv 5) (pe_ix ix_list (pv 1) (pv 3) (fun _ _=>rfl)) (nomark _))))) (pss_one (ps_ret pe_non)) pss_nil)
   (pss_one (ps_ret (pv 5))))),?_⟩
 refine ⟨_,rfl,_,rfl,_,rfl,_,rfl,_,rfl,_,_,_,_,_,_,_,_,rfl,hbk,hlw,B,hi,fun v H1 s1 h1=>?_⟩
 unfold reachI at q
 obtain ⟨las,hla,hls⟩:=hlw
 obtain ⟨xo,ex,hx⟩:=LwAt.get (a:=la) hls (B.len ▸ hi)
 cases e:toldBy F ds xs k i j with
 | none =>
  rw [e] at h1 q
  cases h1
  refine ⟨_,rfl,rfl,_,rfl,?_⟩
  refine iteT (iteT ?_)
  exact q _ _ s1 rfl
 | some x =>
  rw [e] at h1 q
  obtain ⟨xq,rfl,hxq⟩:=h1
  refine ⟨_,rfl,rfl,_,rfl,?_⟩
  refine iteF ?_
  refine ⟨_,rfl,_,rfl,_,rfl,_,_,_,_,rfl,rfl,s1.seq hla,ex,_,_,[x.1,x.2],[(xAt xs i).1,(xAt xs i).2],rfl,rfl,hxq,s1.tup hx,_,rfl,?_⟩
  rw [lex_le]
  dsimp only at q
  cases so:sooner (xAt xs i) x with
  | true =>
   rw [so] at q
   refine iteF ?_
   exact ⟨_,rfl,q _ _ s1 ⟨xq,rfl,hxq⟩⟩
  | false =>
   rw [so] at q
   refine iteT ?_
   exact q _ _ s1 rfl
def sp_walked (K:PySem.W.Frag) (C:Addr) : Sp:=fun vs H Q E=>∃ (ba lo pp:Addr) (F:Frm) (ds:List Wd) (x0:List (Int × Int)) (ps:List V) (ss:List Stp),vs=[.ref ba,.ref lo,.ref pp]∧BkAt K H ba F.w F.h F.f F.m ds∧LwAt K H lo x0∧BkOk F ds x0∧SqL K H pp ps∧StpA K H (ps.take ss.length) ss∧WalkOk F ds x0 ss∧((ps.length=ss.length∧∀ q as H',Same H H'→H q=none→H' q=some (.lst (as.map V.ref))→PlsA K H' as (stepped x0 ss)→Q (.ref q) H')∨∃ (a ya:Addr) (k:Str) (i j:Int) (y:Int × Int),ps[ss.length]? = some (.ref a)∧SqT K H a [.str k,.int i,.int j,.ref ya]∧SqT K H ya (pl y)∧BkOk F ds (stepped x0 ss)∧BadS F ds (stepped x0 ss) k i j y∧∀ H',Same H H'→E (.ref C) none H')
theorem sc_walked:FnScope ["book","low","paper","bounds","kind","i","j","place","reached"] ["book","low","paper"] (defScope s_walked):=⟨rfl,rfl,rfl,by decide +kernel,rfl,by decide +kernel,by decide +kernel⟩
theorem ok_walked (T:Txt P w K mg a) : FnOk P w K mg base (CXe P w) 8 a.f_walked a.fd_walked ["book","low","paper"] (sp_walked K a.c_BadPaper):=by
 have g_reach:=ok_reach (P:=P) (w:=w) (base:=base) T
 have d_reach:=T.d_reach
 have z_len:=T.z_len
 have z_list:=T.z_list
 have x_BadPaper:=T.x_BadPaper
 refine T.d_walked.fn.okE sc_walked (fun vs H Q E h=>?_) (fun cdv A outer s H vs Q E hr h=>?_)
 ·obtain ⟨ba,lo,pp,F,ds,x0,ps,ss,rfl,_⟩:=h
  rfl
 obtain ⟨ba,lo,pp,F,ds,x0,ps,ss,rfl,hbk,hlw,B,hpp,hst,wk,qq⟩:=h
 have hu:=Nat.lt_of_succ_lt (hu_of hr)
 refine ⟨_,(pss_cons (ps_set (i:=3) sc_walked.nd rfl (Or.inl rfl) (pe_callTy call_list_of rfl z_list PyProof.Rows.boot_list (pa_cons (pv 1) pa_nil)))
   (pss_cons (ps_for PassesOwn.leaving rfl (pi_list (pv 2)) (pg_tup rfl (pgs_cons (pg_name (i:=4) sc_walked.nd rfl (Or.inl rfl)) (pgs_cons (pg_name (i:=5) sc_walked.nd rfl (Or.inl rfl)) (pgs_cons (pg_name (i:=6) sc_walked.nd rfl (Or.inl rfl)) (pgs_cons (pg_name (i:=7) sc_walked.nd rfl (Or.inl rfl)) pgs_nil))))) (pss_cons (ps_if (PW.pt (pw_or (pt_cmpR op_lt (pv 5) pe_int (nomark _)) (pw_or1 (pt_cmpR op_ge (pv 5) (pe_callB call_len_seq rfl z_len PySem.boot_len (pa_cons (pv 3) pa_nil)) (nomark _))))) (pss_one (ps_raise rfl wish_cx x_BadPaper rfl (pa_cons pe_str pa_nil))) pss_nil)
   (pss_cons (ps_set (i:=8) sc_walked.nd rfl (Or.inl rfl) (pe_callD d_reach g_reach (hr.mono (by decide)) rfl (pa_cons (pv 0) (pa_cons (pv 3) (pa_cons (pv 4) (pa_cons (pv 5) (pa_cons (pv 6) pa_nil)))))))
   (pss_cons (ps_if (PW.pt (pw_or (pt_cmpR op_isN (pv 8) pe_non (nomark _)) (pw_or1 (pt_cmpR (op_neT hu) (pv 8) (pv 7) (nomark _))))) (pss_one (ps_raise rfl wish_cx x_BadPaper rfl (pa_cons pe_str pa_nil))) pss_nil)
   (pss_one (ps_asg (pv 8) (pg_sub (pv 3) (pv 5) set_list)))))))
   (pss_one (ps_ret (pv 3))))),?_⟩
 obtain ⟨los,hlo,hlos⟩:=hlw
 refine ⟨_,rfl,_,_,rfl,.inl hlo,fun lb hlb=>?_⟩
 have s1:=same_new hlb (.lst (los.map V.ref))
 have hlb1:(upd H lb (.lst (los.map V.ref))) lb=some (.lst (los.map V.ref)):=upd_same
 generalize upd H lb (.lst (los.map V.ref))=H1 at s1 hlb1 ⊢
 dsimp only [gName]
 refine ⟨_,rfl,_,rfl,⟨_,s1.seq hpp⟩,for_list (K:=K) (a:=pp) (xs:=ps) (fun i σ H2=>Same H H2∧i≤ss.length∧∃ (as:List Addr) (v1 v2 v3 v4 v5:Option V),σ=[some (.ref ba),some (.ref lo),some (.ref pp),some (.ref lb),v1,v2,v3,v4,v5]∧H2 lb=some (.lst (as.map V.ref))∧PlsA K H2 as (stepped x0 (ss.take i)))
  ⟨s1,Nat.zero_le _,los,none,none,none,none,none,rfl,hlb1,hlos.same s1⟩ (fun i σ H2 _ h2=>h2.1.seq hpp) ?_ ?_⟩
 ·rintro n y σ H2 hn ⟨s2,nle,as,v1,v2,v3,v4,v5,rfl,hlb2,pas⟩
  rcases Nat.lt_or_ge n ss.length with hns | hns
  rotate_left
  ·have en:n=ss.length:=by omega
   subst en
   rcases qq with ⟨el,_⟩ | ⟨a,ya,k,i,j,x,ea,ha,hya,Bs,bad,q⟩
   ·have:=(List.getElem?_eq_some_iff.mp hn).1
    omega
   have ey:y = .ref a:=Option.some.inj (hn.symm.trans ea)
   subst ey
   rw [List.take_length] at pas
   refine ⟨a,_,rfl,s2.tup ha,rfl,_,_,rfl,_,_,rfl,_,_,rfl,_,_,rfl,rfl,?_⟩
   have el:(as.map V.ref).length=ds.length:=by rw [List.length_map,pas.1,← Bs.len]
   refine ⟨_,rfl,_,_,rfl,rfl,_,rfl,?_⟩
   by_cases c1:i < 0
   ·refine orG (fun _=>⟨le1,q _ s2⟩) (fun z=>absurd (decide_eq_true c1) z)
   refine orG (fun z=>absurd (of_decide_eq_true z) c1) (fun _=>?_)
   refine ⟨_,rfl,_,rfl,_,_,rfl,.inl (SqL.of hlb2),_,_,rfl,rfl,_,rfl,?_⟩
   rw [el]
   by_cases c2:(ds.length:Int)≤i
   ·refine ite2 (fun _=>⟨le1,q _ s2⟩) (fun z=>absurd (decide_eq_true c2) z)
   refine ite2 (fun z=>absurd (of_decide_eq_true z) c2) (fun _=>?_)
   dsimp only [tNext]
   rcases bad with z | z | ⟨m,rfl,hm,hr⟩
   ·exact absurd z c1
   ·exact absurd z c2
   refine ⟨_,rfl,_,rfl,_,rfl,_,rfl,_,rfl,ba,lb,k,m,j,F,ds,_,rfl,hbk.same s2,⟨as,SqL.of hlb2,pas⟩,Bs,hm,fun v H3 s3 h3=>?_⟩
   cases e:reachI F ds (stepped x0 ss) k m j with
   | none =>
    rw [e] at h3
    cases h3
    dsimp only [gName]
    refine ⟨_,rfl,rfl,_,rfl,?_⟩
    refine iteT (iteT ?_)
    exact ⟨le1,q _ (s2.trans s3)⟩
   | some x' =>
    rw [e] at h3
    obtain ⟨yq,rfl,hyq⟩:=h3
    dsimp only [gName]
    refine ⟨_,rfl,rfl,_,rfl,?_⟩
    refine iteF ?_
    refine ⟨_,rfl,_,rfl,_,_,_,_,rfl,rfl,hyq,(s2.trans s3).tup hya,rfl,rfl,_,rfl,?_⟩
    rw [if_pos rfl,eq_pl2,decide_eq_false (fun z=>hr (by rw [e,z]))]
    refine iteT ?_
    exact ⟨le1,q _ (s2.trans s3)⟩
  have es:ss[n]? = some ss[n]:=List.getElem?_eq_getElem hns
  generalize ss[n]=s at es
  obtain ⟨a,ya,rfl,ha,hya⟩:=hst.2 n y s (by rw [List.getElem?_take_of_lt hns]; exact hn) es
  obtain ⟨hi,Bn,hr⟩:=wk n s es
  refine ⟨a,_,rfl,s2.tup ha,rfl,_,_,rfl,_,_,rfl,_,_,rfl,_,_,rfl,rfl,?_⟩
  have el:(as.map V.ref).length=ds.length:=by rw [List.length_map,pas.1,← Bn.len]
  refine ⟨_,rfl,_,_,rfl,rfl,_,rfl,?_⟩
  refine orG (fun z=>absurd (of_decide_eq_true z) (by omega)) (fun _=>?_)
  refine ⟨_,rfl,_,rfl,_,_,rfl,.inl (SqL.of hlb2),_,_,rfl,rfl,_,rfl,?_⟩
  refine ite2 (fun z=>absurd (of_decide_eq_true z) (by rw [el]; omega)) (fun _=>?_)
  dsimp only [tNext]
  refine ⟨_,rfl,_,rfl,_,rfl,_,rfl,_,rfl,ba,lb,s.k,s.i,s.j,F,ds,_,rfl,hbk.same s2,⟨as,SqL.of hlb2,pas⟩,Bn,hi,fun v H3 s3 h3=>?_⟩
  rw [hr] at h3
  obtain ⟨yq,rfl,hyq⟩:=h3
  dsimp only [gName]
  refine ⟨_,rfl,rfl,_,rfl,?_⟩
  refine iteF ?_
  refine ⟨_,rfl,_,rfl,_,_,_,_,rfl,rfl,hyq,(s2.trans s3).tup hya,rfl,rfl,_,rfl,?_⟩
  rw [if_pos rfl,eq_pl2,decide_eq_true rfl]
  refine iteF ?_
  dsimp only [tNext]
  have hlb3:=s3 _ _ hlb2
  have ixe:ixN (as.map V.ref).length (s.i:Int)=some s.i:=by
   unfold ixN
   rw [el,if_pos (by omega),if_pos (by omega)]
   simp
  refine ⟨_,rfl,_,rfl,_,rfl,_,_,_,s.i,rfl,rfl,hlb3,ixe,?_⟩
  have em:(as.map V.ref).set s.i (V.ref yq)=(as.set s.i yq).map V.ref:=by rw [List.map_set]
  rw [em]
  refine ⟨(s2.trans s3).put hlb,hns,as.set s.i yq,_,_,_,_,_,rfl,upd_same,?_⟩
  rw [take_snoc es,stepped_snoc]
  exact ((pas.same s3).set s.i hyq).lst hlb3
 ·rintro σ H2 ⟨s2,nle,as,v1,v2,v3,v4,v5,rfl,hlb2,pas⟩
  rcases qq with ⟨el,q⟩ | ⟨a,ya,k,i,j,x,ea,ha,hya,Bs,bad,q⟩
  ·rw [el,List.take_length] at pas
   exact ⟨_,rfl,q lb as H2 s2 hlb hlb2 pas⟩
  ·have:=(List.getElem?_eq_some_iff.mp ea).1
   omega
def sp_l_refused (K:PySem.W.Frag) : Sp:=fun vs H Q _=>∃ (ba lo pp:Addr) (F:Frm) (ds:List Wd) (x0:List (Int × Int)) (ps:List V) (ss:List Stp) (a ya:Addr) (k:Str) (i j:Int) (y:Int × Int),vs=[.ref ba,.ref lo,.ref pp]∧BkAt K H ba F.w F.h F.f F.m ds∧LwAt K H lo x0∧BkOk F ds x0∧SqL K H pp ps∧RefsV ps∧StpA K H (ps.take ss.length) ss∧WalkOk F ds x0 ss∧ps[ss.length]? = some (.ref a)∧SqT K H a [.str k,.int i,.int j,.ref ya]∧SqT K H ya (pl y)∧BkOk F ds (stepped x0 ss)∧BadS F ds (stepped x0 ss) k i j y∧∀ H',Same H H'→Q (.bl true) H'
theorem sc_l_refused:FnScope ["book","low","paper","word","bounds","handed","e"] ["book","low","paper"] (defScope s_l_refused):=⟨rfl,rfl,rfl,by decide +kernel,rfl,by decide +kernel,by decide +kernel⟩
theorem ok_l_refused (T:Txt P w K mg a) : FnOk P w K mg base CX0 9 a.f_l_refused a.fd_l_refused ["book","low","paper"] (sp_l_refused K):=by
 have g_walked:=ok_walked (P:=P) (w:=w) (base:=base) T
 have d_walked:=T.d_walked
 have z_int:=T.z_int
 have z_isinstance:=T.z_isinstance
 have z_list:=T.z_list
 have x_BadPaper:=T.x_BadPaper
 have x_BadWord:=T.x_BadWord
 have x_NoLaying:=T.x_NoLaying
 refine T.d_l_refused.fn.ok sc_l_refused (fun vs H Q E h=>?_) (fun cdv A outer s H vs Q E hr h=>?_)
 ·obtain ⟨ba,lo,pp,F,ds,x0,ps,ss,a,ya,k,i,j,y,rfl,_⟩:=h
  rfl
 obtain ⟨ba,lo,pp,F,ds,x0,ps,ss,a0,ya,k,i,j,y,rfl,hbk,hlw,B,hpp,rv,hst,wk,ea,ha,hya,Bs,bad,q⟩:=h
 have hu:=Nat.lt_of_succ_lt (hu_of hr)
 refine ⟨_,(pss_cons (ps_set (i:=3) sc_l_refused.nd rfl (Or.inl rfl) pe_str)
   (pss_cons (ps_set (i:=4) sc_l_refused.nd rfl (Or.inl rfl) (pe_callTy call_list_of rfl z_list PyProof.Rows.boot_list (pa_cons (pv 1) pa_nil)))
   (pss_cons (ps_set (i:=5) sc_l_refused.nd rfl (Or.inl rfl) (pe_callTy call_list_of rfl z_list PyProof.Rows.boot_list (pa_cons (pv 2) pa_nil)))
   (pss_cons (ps_try_as (i:=6) sc_l_refused.nd rfl rfl d_walked g_walked (hr.mono (by decide)) rfl (fun _=>(pa_cons (pv 0) (pa_cons (pv 4) (pa_cons (pv 5) pa_nil)))) rfl x_BadPaper ⟨rfl,rfl⟩ (fun _=>(pss_one (ps_set (i:=3) sc_l_refused.nd rfl (Or.inl rfl) (pe_ix (r:=rIxL K) ix_list (pe_lst (pa_cons pe_str (pa_cons pe_str pa_nil))) (pe_callTy call_int1 rfl z_int PyProof.Rows.boot_int (pa_cons (pe_or (pe_callB (r:=rIsiX K) call_isiX rfl z_isinstance PyProof.Rows.boot_isinstance (pa_cons (pv 6) (pa_cons (pe_glob (v:=.ref a.c_BadWord) rfl x_BadWord.mg rfl) pa_nil))) (pe_one (pe_callB (r:=rIsiX K) call_isiX rfl z_isinstance PyProof.Rows.boot_isinstance (pa_cons (pv 6) (pa_cons (pe_glob (v:=.ref a.c_NoLaying) rfl x_NoLaying.mg rfl) pa_nil))))) pa_nil)) (fun _ _=>rfl))))))
   (pss_one (ps_ret (pe_and (pe_cmpR op_eq (pv 3) pe_str (nomark _)) (pe_and (pe_cmpR (op_eqS hu) (pv 4) (pv 1) (nomark _)) (pe_one (pe_cmpR (op_eqS hu) (pv 5) (pv 2) (nomark _))))))))))),?_⟩
 have hlw0:=hlw
 obtain ⟨los,hlo,hlos⟩:=hlw
 refine cut_seq (fun σ' H'=>H' = H∧σ' = [some (.ref ba),some (.ref lo),some (.ref pp),some (.str (PySem.Str.ofString "none")),none,none,none]) ?_ (fun key=>key _ _ ⟨rfl,rfl⟩)
 rintro σ' H' ⟨eH,rfl⟩
 rw [eH]
 clear eH
 refine ⟨_,rfl,_,_,rfl,.inl hlo,fun p1 hp1=>?_⟩
 have s1:=same_new hp1 (.lst (los.map V.ref))
 have h1:(upd H p1 (.lst (los.map V.ref))) p1=some (.lst (los.map V.ref)):=upd_same
 generalize upd H p1 (.lst (los.map V.ref))=H1 at s1 h1 ⊢
 dsimp only [gName]
 refine ⟨_,rfl,_,_,rfl,.inl (s1.seq hpp),fun p2 hp2=>?_⟩
 have s2:=same_new hp2 (.lst ps)
 have h2:(upd H1 p2 (.lst ps)) p2=some (.lst ps):=upd_same
 generalize upd H1 p2 (.lst ps)=H2 at s2 h2 ⊢
 dsimp only [gName]
 have t2:=s1.trans s2
 refine ⟨_,rfl,_,rfl,_,rfl,ba,p1,p2,F,ds,x0,ps,ss,rfl,hbk.same t2,⟨los,SqL.of (s2 _ _ h1),hlos.same t2⟩,B,SqL.of h2,hst.same t2,wk,.inr ⟨a0,ya,k,i,j,y,ea,t2.tup ha,t2.tup hya,Bs,bad,fun H3 s3=>⟨_,rfl,T.t_BadPaper_BadPaper,fun x hx=>?_⟩⟩⟩
 have s4:=same_new hx (excO x a.c_BadPaper)
 have h4:(upd H3 x (excO x a.c_BadPaper)) x=some (excO x a.c_BadPaper):=upd_same
 generalize upd H3 x (excO x a.c_BadPaper)=H4 at s4 h4 ⊢
 refine ⟨le2,fun p3 hp3=>?_⟩
 have s5:=same_new hp3 (.lst [V.str (PySem.Str.ofString "paper"),V.str (PySem.Str.ofString "more")])
 have h5:(upd H4 p3 (.lst [V.str (PySem.Str.ofString "paper"),V.str (PySem.Str.ofString "more")])) p3=some (.lst [V.str (PySem.Str.ofString "paper"),V.str (PySem.Str.ofString "more")]):=upd_same
 have k5:=s5 _ _ h4
 generalize upd H4 p3 (.lst [V.str (PySem.Str.ofString "paper"),V.str (PySem.Str.ofString "more")])=H5 at s5 h5 k5 ⊢
 refine ⟨_,rfl,x,a.c_BadPaper,_,false,rfl,k5,T.lk_BadPaper,.inl ⟨_,rfl,T.ki_BadPaper_BadWord⟩,_,rfl,?_⟩
 refine iteF ?_
 refine ⟨_,rfl,x,a.c_BadPaper,_,false,rfl,k5,T.lk_BadPaper,.inl ⟨_,rfl,T.ki_BadPaper_NoLaying⟩,?_⟩
 refine .inr ⟨_,rfl,_,_,_,_,rfl,rfl,SqL.of h5,rfl,?_⟩
 have u5:=s3.trans (s4.trans s5)
 have t5:=t2.trans u5
 refine ⟨_,rfl,rfl,_,rfl,?_⟩
 rw [decide_eq_true rfl]
 refine iteT ?_
 refine ⟨_,rfl,_,rfl,p1,lo,los.map V.ref,rfl,rfl,SqL.of ((s2.trans u5) _ _ h1),t5.seq hlo,(refs_refs los).same,_,rfl,?_⟩
 refine iteT ?_
 exact ⟨_,rfl,_,rfl,p2,pp,ps,rfl,rfl,SqL.of (u5 _ _ h2),t5.seq hpp,rv.same,q _ t5⟩
def sp_l_refused_by_base (K:PySem.W.Frag) : Sp:=fun vs H Q _=>∃ (ba lo pp:Addr) (F:Frm) (ds:List Wd) (x0:List (Int × Int)) (ps:List V) (ss:List Stp) (a ya:Addr) (k:Str) (i j:Int) (y:Int × Int),vs=[.ref ba,.ref lo,.ref pp]∧BkAt K H ba F.w F.h F.f F.m ds∧LwAt K H lo x0∧BkOk F ds x0∧SqL K H pp ps∧RefsV ps∧StpA K H (ps.take ss.length) ss∧WalkOk F ds x0 ss∧ps[ss.length]? = some (.ref a)∧SqT K H a [.str k,.int i,.int j,.ref ya]∧SqT K H ya (pl y)∧BkOk F ds (stepped x0 ss)∧BadS F ds (stepped x0 ss) k i j y∧∀ H',Same H H'→Q (.bl true) H'
theorem sc_l_refused_by_base:FnScope ["book","low","paper","word","e"] ["book","low","paper"] (defScope s_l_refused_by_base):=⟨rfl,rfl,rfl,by decide +kernel,rfl,by decide +kernel,by decide +kernel⟩
theorem ok_l_refused_by_base (T:Txt P w K mg a) : FnOk P w K mg base CX0 9 a.f_l_refused_by_base a.fd_l_refused_by_base ["book","low","paper"] (sp_l_refused_by_base K):=by
 have g_walked:=ok_walked (P:=P) (w:=w) (base:=base) T
 have d_walked:=T.d_walked
 have z_ValueError:=T.z_ValueError
 have z_isinstance:=T.z_isinstance
 have x_TrueleafError:=T.x_TrueleafError
 refine T.d_l_refused_by_base.fn.ok sc_l_refused_by_base (fun vs H Q E h=>?_) (fun cdv A outer s H vs Q E hr h=>?_)
 ·obtain ⟨ba,lo,pp,F,ds,x0,ps,ss,a,ya,k,i,j,y,rfl,_⟩:=h
  rfl
 obtain ⟨ba,lo,pp,F,ds,x0,ps,ss,a0,ya,k,i,j,y,rfl,hbk,hlw,B,hpp,rv,hst,wk,ea,ha,hya,Bs,bad,q⟩:=h
 have hu:=Nat.lt_of_succ_lt (hu_of hr)
 refine ⟨_,(pss_cons (ps_set (i:=3) sc_l_refused_by_base.nd rfl (Or.inl rfl) pe_bl)
   (pss_cons (ps_try_as (i:=4) sc_l_refused_by_base.nd rfl rfl d_walked g_walked (hr.mono (by decide)) rfl (fun _=>(pa_cons (pv 0) (pa_cons (pv 1) (pa_cons (pv 2) pa_nil)))) rfl x_TrueleafError ⟨rfl,rfl⟩ (fun _=>(pss_one (ps_set (i:=3) sc_l_refused_by_base.nd rfl (Or.inl rfl) (pe_callB (r:=rIsiX K) call_isiX rfl z_isinstance PyProof.Rows.boot_isinstance (pa_cons (pv 4) (pa_cons (pe_bltn (v:=.ty "ValueError") rfl z_ValueError boot_ValueError rfl) pa_nil)))))))
   (pss_one (ps_ret (pv 3))))),?_⟩
 refine ⟨_,rfl,_,rfl,_,rfl,ba,lo,pp,F,ds,x0,ps,ss,rfl,hbk,hlw,B,hpp,hst,wk,.inr ⟨a0,ya,k,i,j,y,ea,ha,hya,Bs,bad,fun H3 s3=>⟨_,rfl,T.t_BadPaper_TrueleafError,fun x hx=>?_⟩⟩⟩
 refine ⟨_,rfl,x,a.c_BadPaper,_,true,rfl,upd_same,T.lk_BadPaper,.inr ⟨_,rfl,T.ki_BadPaper_ValueError⟩,?_⟩
 exact ⟨_,rfl,q _ (s3.trans (same_new hx _))⟩
def sp_l_less (K:PySem.W.Frag) : Sp:=fun vs H Q _=>∃ (a:Addr) (y:Int × Int) (h:Int),vs=[.ref a,.int h]∧SqT K H a (pl y)∧∀ q H',Same H H'→SqT K H' q (pl (lessP y h))→Q (.ref q) H'
theorem sc_l_less:FnScope ["spot","high"] ["spot","high"] (defScope s_l_less):=⟨rfl,rfl,rfl,by decide +kernel,rfl,by decide +kernel,by decide +kernel⟩
theorem ok_l_less (T:Txt P w K mg a) : FnOk P w K mg base CX0 1 a.f_l_less a.fd_l_less ["spot","high"] (sp_l_less K):=by
 refine T.d_l_less.fn.ok sc_l_less (fun vs H Q E h=>?_) (fun cdv A outer s H vs Q E hr h=>?_)
 ·obtain ⟨a,y,h,rfl,_⟩:=h
  rfl
 obtain ⟨a0,y,h,rfl,ha,q⟩:=h
 have hu:=Nat.lt_of_succ_lt (hu_of hr)
 refine ⟨_,(pss_cons (ps_if (pt_cmpR op_gt (pe_ix ix_tup (pv 0) pe_int (fun _ _=>rfl)) pe_int (nomark _)) (pss_one (ps_ret (pe_tup (pa_cons (pe_ix ix_tup (pv 0) pe_int (fun _ _=>rfl)) (pa_cons (pe_op op_sub (pe_ix ix_tup (pv 0) pe_int (fun _ _=>rfl)) pe_int) pa_nil))))) pss_nil)
   (pss_one (ps_ret (pe_tup (pa_cons (pe_op op_sub (pe_ix ix_tup (pv 0) pe_int (fun _ _=>rfl)) pe_int) (pa_cons (pe_op op_sub (pv 1) pe_int) pa_nil)))))),?_⟩
 refine ⟨_,rfl,_,_,_,_,rfl,rfl,ha,rfl,_,_,rfl,rfl,_,rfl,?_⟩
 refine ite2 (fun c=>?_) (fun c=>?_)
 ·have c':0 < y.2:=of_decide_eq_true c
  refine ⟨_,rfl,_,_,_,_,rfl,rfl,ha,rfl,_,rfl,_,_,_,_,rfl,rfl,ha,rfl,_,_,rfl,rfl,le2,fun p1 hp1=>?_⟩
  refine q p1 _ (same_new hp1 _) (SqT.of ?_)
  rw [upd_same]
  unfold lessP
  rw [if_pos c']
 ·have c':¬ 0 < y.2:=fun z=>c (decide_eq_true z)
  refine ⟨_,rfl,_,_,_,_,rfl,rfl,ha,rfl,_,_,rfl,rfl,_,rfl,_,_,rfl,rfl,le2,fun p1 hp1=>?_⟩
  refine q p1 _ (same_new hp1 _) (SqT.of ?_)
  rw [upd_same]
  unfold lessP
  rw [if_neg c']
theorem cutP_to (ps:List V) (n:Nat) : cutV ps none (some (n:Int))=ps.take n:=by
 have:=cutV_map id ps none (some (n:Int))
 rw [List.map_id,List.map_id,cut_to] at this
 exact this
theorem cutP_fr (ps:List V) (n:Nat) : cutV ps (some (n:Int)) none=ps.drop n:=by
 have:=cutV_map id ps (some (n:Int)) none
 rw [List.map_id,List.map_id,cut_fr] at this
 exact this
def sp_l_spoiled (K:PySem.W.Frag) : Sp:=fun vs H Q _=>∃ (sa ba pp ah:Addr) (ns:List Int) (F:Frm) (ds:List Wd) (x0:List (Int × Int)) (ps:List V) (ss:List Stp) (qs:List Addr),vs=[.ref sa,.ref ba,.ref pp,.ref ah]∧SqL K H sa (ns.map V.int)∧BkAt K H ba F.w F.h F.f F.m ds∧SqL K H pp ps∧StpA K H ps ss∧WalkOk F ds x0 ss∧SqL K H ah (qs.map V.ref)∧AhA K H qs x0 ss∧(∀ m,m≤ss.length→BkOk F ds (stepped x0 (ss.take m)))∧0 < ds.length∧ss.length≤40∧∀ q at_ rest bad ya k i j y H',Same H H'→at_≤ss.length→SqL K H' q (ps.take at_++([V.ref bad]++rest))→RefsV rest→SqT K H' bad [.str k,.int i,.int j,.ref ya]→SqT K H' ya (pl y)→BadS F ds (stepped x0 (ss.take at_)) k i j y→Q (.ref q) H'
theorem sc_l_spoiled:FnScope ["script","book","paper","ahead","xs","at","now","i","kind","j","bad","one","other"] ["script","book","paper","ahead"] (defScope s_l_spoiled):=⟨rfl,rfl,rfl,by decide +kernel,rfl,by decide +kernel,by decide +kernel⟩
theorem ok_l_spoiled (T:Txt P w K mg a) : FnOk P w K mg base CX0 4 a.f_l_spoiled a.fd_l_spoiled ["script","book","paper","ahead"] (sp_l_spoiled K):=by
 have g_l_cell_at:=ok_l_cell_at (P:=P) (w:=w) (base:=base) T
 have d_l_cell_at:=T.d_l_cell_at
 have g_l_less:=ok_l_less (P:=P) (w:=w) (base:=base) T
 have d_l_less:=T.d_l_less
 have g_l_reach:=ok_l_reach (P:=P) (w:=w) (base:=base) T
 have d_l_reach:=T.d_l_reach
 have g_l_stream:=ok_l_stream (P:=P) (w:=w) (base:=base) T
 have d_l_stream:=T.d_l_stream
 have z_len:=T.z_len
 have z_max:=T.z_max
 refine T.d_l_spoiled.fn.ok sc_l_spoiled (fun vs H Q E h=>?_) (fun cdv A outer s H vs Q E hr h=>?_)
 ·obtain ⟨sa,ba,pp,ah,ns,F,ds,x0,ps,ss,qs,rfl,_⟩:=h
  rfl
 obtain ⟨sa,ba,pp,ah,ns,F,ds,x0,ps,ss,qs,rfl,hS,hbk,hpp,hst,wk,hah,A,Bm,dp,s40,q⟩:=h
 have hu:=Nat.lt_of_succ_lt (hu_of hr)
 refine ⟨_,(pss_cons (ps_set (i:=4) sc_l_spoiled.nd rfl (Or.inl rfl) (pe_callD d_l_stream g_l_stream (hr.mono (by decide)) rfl (pa_cons (pe_op op_fdiv (pe_callD d_l_cell_at g_l_cell_at (hr.mono (by decide)) rfl (pa_cons (pv 0) (pa_cons pe_int pa_nil))) pe_int) (pa_cons pe_int pa_nil))))
   (pss_cons (ps_set (i:=5) sc_l_spoiled.nd rfl (Or.inl rfl) (pe_op op_mod (pe_ix ix_list (pv 4) pe_int (fun _ _=>rfl)) (pe_callB call_len_seq rfl z_len PySem.boot_len (pa_cons (pv 3) pa_nil))))
   (pss_cons (ps_set (i:=6) sc_l_spoiled.nd rfl (Or.inl rfl) (pe_ix ix_list (pv 3) (pv 5) (fun _ _=>rfl)))
   (pss_cons (ps_set (i:=7) sc_l_spoiled.nd rfl (Or.inl rfl) (pe_op op_mod (pe_ix ix_list (pv 4) pe_int (fun _ _=>rfl)) (pe_callB call_len_seq rfl z_len PySem.boot_len (pa_cons (pv 6) pa_nil))))
   (pss_cons (@ps_pick _ 8 _ _ _ _ _ _ _ _ _ sc_l_spoiled.nd rfl (Or.inl rfl) (CL.str (CL.str (CL.str (CL.str (CL.str CL.nil))))) (pe_op op_mod (pe_ix ix_list (pv 4) pe_int (fun _ _=>rfl)) pe_int) (fun _ _=>rfl) (by first | exact .inl rfl | exact .inr rfl))
   (pss_cons (ps_set (i:=9) sc_l_spoiled.nd rfl (Or.inl rfl) (pe_ix ix_list (pe_lst (pa_cons (pe_op op_sub (pv 7) pe_int) (pa_cons (pe_op op_fdiv (pv 7) pe_int) (pa_cons (pv 7) (pa_cons (pe_op op_add (pv 7) pe_int) (pa_cons (pv 7) pa_nil)))))) (pe_op op_mod (pe_ix ix_list (pv 4) pe_int (fun _ _=>rfl)) pe_int) (fun _ _=>rfl)))
   (pss_cons (ps_set (i:=10) sc_l_spoiled.nd rfl (Or.inl rfl) (pe_tup (pa_cons (pv 8) (pa_cons (pv 7) (pa_cons (pv 9) (pa_cons (pe_ix ix_list (pv 6) (pv 7) (fun _ _=>rfl)) pa_nil))))))
   (pss_cons (ps_if (pt_cmpR op_eq (pe_op op_mod (pe_ix ix_list (pv 4) pe_int (fun _ _=>rfl)) pe_int) pe_int (nomark _)) (pss_one (ps_set (i:=10) sc_l_spoiled.nd rfl (Or.inl rfl) (pe_tup (pa_cons (pv 8) (pa_cons (pe_ix ix_list (pe_lst (pa_cons (pe_un un_neg pe_int) (pa_cons (pe_callB call_len_seq rfl z_len PySem.boot_len (pa_cons (pv 6) pa_nil)) (pa_cons (pe_op op_sub pe_int (pe_callB call_len_seq rfl z_len PySem.boot_len (pa_cons (pv 6) pa_nil))) (pa_cons (pe_op op_add (pe_callB call_len_seq rfl z_len PySem.boot_len (pa_cons (pv 6) pa_nil)) pe_int) pa_nil))))) (pe_op op_mod (pe_op op_fdiv (pe_ix ix_list (pv 4) pe_int (fun _ _=>rfl)) pe_int) pe_int) (fun _ _=>rfl)) (pa_cons (pv 9) (pa_cons (pe_ix ix_list (pv 6) (pv 7) (fun _ _=>rfl)) pa_nil))))))) pss_nil)
   (pss_cons (ps_if (PW.pt (pw_and (pt_cmpR op_gt (pe_op op_mod (pe_ix ix_list (pv 4) pe_int (fun _ _=>rfl)) pe_int) pe_int (nomark _)) (pw_and1 (pt_cmpR op_lt (pv 5) (pe_callB call_len_seq rfl z_len PySem.boot_len (pa_cons (pv 2) pa_nil)) (nomark _))))) (pss_cons (ps_set (i:=11) sc_l_spoiled.nd rfl (Or.inl rfl) (pe_ix ix_list (pv 2) (pv 5) (fun _ _=>rfl)))
   (pss_cons (ps_set (i:=10) sc_l_spoiled.nd rfl (Or.inl rfl) (pe_tup (pa_cons (pe_ix ix_tup (pv 11) pe_int (fun _ _=>rfl)) (pa_cons (pe_ix ix_tup (pv 11) pe_int (fun _ _=>rfl)) (pa_cons (pe_ix ix_tup (pv 11) pe_int (fun _ _=>rfl)) (pa_cons (pe_tup (pa_cons (pe_op op_add (pe_ix ix_tup (pe_ix ix_tup (pv 11) pe_int (fun _ _=>rfl)) pe_int (fun _ _=>rfl)) pe_int) (pa_cons (pe_ix ix_tup (pe_ix ix_tup (pv 11) pe_int (fun _ _=>rfl)) pe_int (fun _ _=>rfl)) pa_nil))) pa_nil))))))
   (pss_cons (ps_if (pt_cmpR op_eq (pe_op op_mod (pe_ix ix_list (pv 4) pe_int (fun _ _=>rfl)) pe_int) pe_int (nomark _)) (pss_one (ps_set (i:=10) sc_l_spoiled.nd rfl (Or.inl rfl) (pe_tup (pa_cons (pe_op op_add_str (pe_ix ix_tup (pv 11) pe_int (fun _ _=>rfl)) pe_str) (pa_cons (pe_ix ix_tup (pv 11) pe_int (fun _ _=>rfl)) (pa_cons (pe_ix ix_tup (pv 11) pe_int (fun _ _=>rfl)) (pa_cons (pe_ix ix_tup (pv 11) pe_int (fun _ _=>rfl)) pa_nil))))))) pss_nil)
   (pss_cons (ps_if (pt_cmpR op_eq (pe_op op_mod (pe_ix ix_list (pv 4) pe_int (fun _ _=>rfl)) pe_int) pe_int (nomark _)) (pss_one (ps_set (i:=10) sc_l_spoiled.nd rfl (Or.inl rfl) (pe_tup (pa_cons (pe_ix ix_tup (pv 11) pe_int (fun _ _=>rfl)) (pa_cons (pe_ix ix_tup (pv 11) pe_int (fun _ _=>rfl)) (pa_cons (pe_ix ix_tup (pv 11) pe_int (fun _ _=>rfl)) (pa_cons (pe_callB (call_maxT rfl (hu_of hr)) rfl z_max PyProof.Rows.boot_max (pa_cons (pe_ix ix_list (pv 6) (pe_ix ix_tup (pv 11) pe_int (fun _ _=>rfl)) (fun _ _=>rfl)) (pa_cons (pe_callD d_l_less g_l_less (hr.mono (by decide)) rfl (pa_cons (pe_ix ix_tup (pv 11) pe_int (fun _ _=>rfl)) (pa_cons (pe_ix ix_tup (pe_ix ix_tup (pv 1) pe_int (fun _ _=>rfl)) pe_int (fun _ _=>rfl)) pa_nil))) pa_nil))) pa_nil))))))) pss_nil)
   (pss_cons (ps_if (pt_cmpR op_eq (pe_op op_mod (pe_ix ix_list (pv 4) pe_int (fun _ _=>rfl)) pe_int) pe_int (nomark _)) (pss_cons (ps_set (i:=12) sc_l_spoiled.nd rfl (Or.inl rfl) (pe_ix ix_list (pe_lst (pa_cons (pe_op op_sub (pe_ix ix_tup (pv 11) pe_int (fun _ _=>rfl)) pe_int) (pa_cons (pe_op op_add (pe_ix ix_tup (pv 11) pe_int (fun _ _=>rfl)) pe_int) (pa_cons (pe_op op_sub (pe_op op_sub pe_int pe_int) (pe_ix ix_tup (pv 11) pe_int (fun _ _=>rfl))) (pa_cons (pe_op op_add (pe_callB call_len_seq rfl z_len PySem.boot_len (pa_cons (pv 6) pa_nil)) (pe_ix ix_tup (pv 11) pe_int (fun _ _=>rfl))) pa_nil))))) (pe_op op_mod (pe_op op_fdiv (pe_ix ix_list (pv 4) pe_int (fun _ _=>rfl)) pe_int) pe_int) (fun _ _=>rfl)))
   (pss_cons (ps_if (pt_cmpR (op_orE (op_eqN1 hu) (op_eqT hu)) (pe_callD d_l_reach g_l_reach (hr.mono (by decide)) rfl (pa_cons (pv 1) (pa_cons (pv 6) (pa_cons (pe_ix ix_tup (pv 11) pe_int (fun _ _=>rfl)) (pa_cons (pe_ix ix_tup (pv 11) pe_int (fun _ _=>rfl)) (pa_cons (pv 12) pa_nil)))))) (pe_ix ix_tup (pv 11) pe_int (fun _ _=>rfl)) (nomark _)) (pss_one (ps_set (i:=12) sc_l_spoiled.nd rfl (Or.inl rfl) (pe_op op_add (pe_callB call_len_seq rfl z_len PySem.boot_len (pa_cons (pv 6) pa_nil)) pe_int))) pss_nil)
   (pss_one (ps_set (i:=10) sc_l_spoiled.nd rfl (Or.inl rfl) (pe_tup (pa_cons (pe_ix ix_tup (pv 11) pe_int (fun _ _=>rfl)) (pa_cons (pe_ix ix_tup (pv 11) pe_int (fun _ _=>rfl)) (pa_cons (pv 12) (pa_cons (pe_ix ix_tup (pv 11) pe_int (fun _ _=>rfl)) pa_nil))))))))) pss_nil)
   (pss_one (ps_ret (pe_op op_cat (pe_op op_cat (pe_slice sl_list (pv 2) po_none (po_some (pv 5))) (pe_lst (pa_cons (pv 10) pa_nil))) (pe_slice sl_list (pv 2) (po_some (pe_op op_add (pv 5) pe_int)) po_none))))))))) pss_nil)
   (pss_one (ps_ret (pe_op op_cat (pe_op op_cat (pe_slice sl_list (pv 2) po_none (po_some (pv 5))) (pe_lst (pa_cons (pv 10) pa_nil))) (pe_slice sl_list (pv 2) (po_some (pv 5)) po_none))))))))))))),?_⟩
 have hbk0:=hbk
 obtain ⟨fa,wa,was,hb,hf,hw,hws⟩:=hbk
 refine ⟨_,rfl,sa,ns,(0:Nat),rfl,hS,_,_,rfl,rfl,⟨by decide,by decide⟩,_,(4:Nat),rfl,by decide,fun xa H1 zs s1 nx hz zok=>?_⟩
 have z0:=zok.at (k:=0) (by decide)
 have z1:=zok.at (k:=1) (by decide)
 have z2:=zok.at (k:=2) (by decide)
 have z3:=zok.at (k:=3) (by decide)
 dsimp only [gName]
 have ql:=A.len
 have eql:(qs.map V.ref).length=ss.length+1:=by rw [List.length_map,ql]
 refine ⟨_,rfl,_,_,_,_,rfl,rfl,SqL.of hz,z0,_,rfl,_,_,rfl,.inl (s1.seq hah),_,_,rfl,rfl,(by rw [eql]; show (0:Int) < _; omega),?_⟩
 rw [eql]
 dsimp only [gName]
 obtain ⟨at_,ea,al⟩:=emn (z:=zs.getD 0 0) (show (0:Int) < ((ss.length+1:Nat) : Int) by omega)
 rw [ea]
 have hq:at_ < qs.length:=by omega
 have eq:qs[at_]? = some qs[at_]:=List.getElem?_eq_getElem hq
 obtain ⟨as,hnw,pas⟩:=(A.same s1).at' at_ _ eq
 generalize qs[at_]=nw at eq hnw
 refine ⟨_,rfl,_,rfl,_,_,_,_,rfl,rfl,s1.seq hah,(show atI (qs.map V.ref) (at_:Int)=some (V.ref nw) from atI_nat (by rw [List.getElem?_map,eq]; rfl)),?_⟩
 dsimp only [gName]
 have BX:=Bm at_ (by omega)
 have one:at_ < ss.length→∃ s,ss[at_]? = some s∧s.i < ds.length∧reachI F ds (stepped x0 (ss.take at_)) s.k s.i s.j=some s.y:=fun h=>⟨ss[at_],List.getElem?_eq_getElem h,(wk at_ _ (List.getElem?_eq_getElem h)).1,(wk at_ _ (List.getElem?_eq_getElem h)).2.2⟩
 generalize hX:stepped x0 (ss.take at_)=X at *
 have asl:(as.map V.ref).length=ds.length:=by rw [List.length_map,pas.1,← BX.len]
 refine ⟨_,rfl,_,_,_,_,rfl,rfl,SqL.of hz,z1,_,rfl,_,_,rfl,.inl (SqL.of hnw),_,_,rfl,rfl,(by rw [asl]; show (0:Int) < _; omega),?_⟩
 rw [asl]
 dsimp only [gName]
 obtain ⟨i,ei,il⟩:=emn (z:=zs.getD 1 0) (show (0:Int) < (ds.length:Int) by omega)
 rw [ei]
 have hi:i < ds.length:=by omega
 obtain ⟨yi,eyi,hyi⟩:=pas.get (show i < X.length by rw [← BX.len]; exact hi)
 refine ⟨by decide,fun p1 hp1=>?_⟩
 have s2:=same_new hp1 (.lst [V.str (PySem.Str.ofString "behind"),V.str (PySem.Str.ofString "wide"),V.str (PySem.Str.ofString "high"),V.str (PySem.Str.ofString "kept"),V.str (PySem.Str.ofString "never")])
 obtain ⟨u,mu,eu⟩:=pick [V.str (PySem.Str.ofString "behind"),V.str (PySem.Str.ofString "wide"),V.str (PySem.Str.ofString "high"),V.str (PySem.Str.ofString "kept"),V.str (PySem.Str.ofString "never")] 5 (zs.getD 2 0) rfl (by decide)
 obtain ⟨kd,rfl⟩ : ∃ kd,u=V.str kd:=by
  simp only [List.mem_cons,List.not_mem_nil,or_false] at mu
  rcases mu with rfl | rfl | rfl | rfl | rfl <;> exact ⟨_,rfl⟩
 refine ⟨_,rfl,_,_,_,_,rfl,rfl,SqL.of (s2 _ _ hz),z2,_,_,rfl,rfl,(by (first | decide | (show (0:Int) < _; first | decide | omega))),_,_,_,_,rfl,rfl,SqL.of upd_same,eu,?_⟩
 generalize upd H1 p1 (.lst [V.str (PySem.Str.ofString "behind"),V.str (PySem.Str.ofString "wide"),V.str (PySem.Str.ofString "high"),V.str (PySem.Str.ofString "kept"),V.str (PySem.Str.ofString "never")])=H2 at s2 ⊢
 dsimp only [gName]
 refine ⟨_,rfl,_,_,rfl,rfl,_,rfl,_,_,rfl,rfl,⟨by decide,by decide⟩,_,rfl,_,rfl,_,_,rfl,rfl,_,rfl,(show 5≤sizeLine by decide),fun p2 hp2=>?_⟩
 have s3:=same_new hp2 (.lst [V.int ((i:Int) - 1),V.int ((i:Int) / 2),V.int (i:Int),V.int ((i:Int)+1),V.int (i:Int)])
 have h3:(upd H2 p2 (.lst [V.int ((i:Int) - 1),V.int ((i:Int) / 2),V.int (i:Int),V.int ((i:Int)+1),V.int (i:Int)])) p2=some (.lst [V.int ((i:Int) - 1),V.int ((i:Int) / 2),V.int (i:Int),V.int ((i:Int)+1),V.int (i:Int)]):=upd_same
 obtain ⟨u2,mu2,eu2⟩:=pick [V.int ((i:Int) - 1),V.int ((i:Int) / 2),V.int (i:Int),V.int ((i:Int)+1),V.int (i:Int)] 5 (zs.getD 2 0) rfl (by decide)
 obtain ⟨j,rfl⟩ : ∃ j,u2=V.int j:=by
  simp only [List.mem_cons,List.not_mem_nil,or_false] at mu2
  rcases mu2 with rfl | rfl | rfl | rfl | rfl <;> exact ⟨_,rfl⟩
 refine ⟨_,rfl,_,_,_,_,rfl,rfl,SqL.of ((s2.trans s3) _ _ hz),z2,_,_,rfl,rfl,(by (first | decide | (show (0:Int) < _; first | decide | omega))),_,_,_,_,rfl,rfl,SqL.of h3,eu2,?_⟩
 change _
 dsimp only [gName]
 generalize upd H2 p2 (.lst [V.int ((i:Int) - 1),V.int ((i:Int) / 2),V.int (i:Int),V.int ((i:Int)+1),V.int (i:Int)])=H3 at s3 h3 ⊢
 have u3:=s2.trans s3
 refine ⟨_,rfl,_,rfl,_,rfl,_,rfl,_,rfl,_,_,_,_,rfl,rfl,SqL.of (u3 _ _ hnw),eyi,le4,fun p3 hp3=>?_⟩
 have s4:=same_new hp3 (.tup [V.str kd,V.int (i:Int),V.int j,V.ref yi])
 have h4:SqT K (upd H3 p3 (.tup [V.str kd,V.int (i:Int),V.int j,V.ref yi])) p3 [V.str kd,V.int (i:Int),V.int j,V.ref yi]:=SqT.of upd_same
 generalize upd H3 p3 (.tup [V.str kd,V.int (i:Int),V.int j,V.ref yi])=H4 at s4 h4 ⊢
 dsimp only [gName]
 have u4:=u3.trans s4
 have hxi:SqT K H1 yi (pl (xAt X i)):=hyi
 refine cut_seq (fun σ' H'=>Same H4 H'∧∃ (bd ya:Addr) (k:Str) (i' j':Int) (y:Int × Int) (vo:Option V),σ' = [some (.ref sa),some (.ref ba),some (.ref pp),some (.ref ah),some (.ref xa),some (.int (at_:Int)),some (.ref nw),some (.int (i:Int)),some (.str kd),some (.int j),some (.ref bd),none,none]∧SqT K H' bd [.str k,.int i',.int j',.ref ya]∧SqT K H' ya (pl y)∧BadS F ds X k i' j' y∧vo=none) ?_ (fun key=>?_)
 rotate_left
 ·refine ⟨_,rfl,_,_,_,_,rfl,rfl,SqL.of (u4 _ _ hz),z3,_,_,rfl,rfl,(by (first | decide | (show (0:Int) < _; first | decide | omega))),rfl,_,rfl,?_⟩
  refine ite2 (fun _=>?_) (fun _=>key _ _ ⟨Same.refl _,p3,yi,kd,_,j,xAt X i,none,rfl,h4,u4.tup hxi,.inr (.inr ⟨i,rfl,hi,fun e=>reach_ne e rfl⟩),rfl⟩)
  refine ⟨_,rfl,_,rfl,_,rfl,_,_,rfl,.inl (SqL.of (u4 _ _ hnw)),_,rfl,_,_,rfl,.inl (SqL.of (u4 _ _ hnw)),_,_,rfl,rfl,_,rfl,_,_,rfl,.inl (SqL.of (u4 _ _ hnw)),_,_,rfl,rfl,(show 4≤sizeLine by decide),fun p20 hp20=>?_⟩
  have s5:=same_new hp20 (.lst [V.int (-1),V.int ((as.map V.ref).length:Int),V.int (0 - ((as.map V.ref).length:Int)),V.int (((as.map V.ref).length:Int)+7)])
  have h5:(upd H4 p20 (.lst [V.int (-1),V.int ((as.map V.ref).length:Int),V.int (0 - ((as.map V.ref).length:Int)),V.int (((as.map V.ref).length:Int)+7)])) p20=some (.lst [V.int (-1),V.int ((as.map V.ref).length:Int),V.int (0 - ((as.map V.ref).length:Int)),V.int (((as.map V.ref).length:Int)+7)]):=upd_same
  obtain ⟨iv,eiv,hiv⟩:=at4i (a:=-1) (b:=((as.map V.ref).length:Int)) (c:=0 - ((as.map V.ref).length:Int)) (d:=((as.map V.ref).length:Int)+7) (em4 (zs.getD 3 0 / 6)).1 (em4 (zs.getD 3 0 / 6)).2
  refine ⟨_,rfl,_,_,_,_,rfl,rfl,SqL.of ((u4.trans s5) _ _ hz),z3,_,_,rfl,rfl,⟨by decide,by decide⟩,_,_,rfl,rfl,(by (first | decide | (show (0:Int) < _; first | decide | omega))),_,_,_,_,rfl,rfl,SqL.of h5,eiv,_,rfl,_,rfl,_,rfl,_,_,_,_,rfl,rfl,SqL.of ((u4.trans s5) _ _ hnw),eyi,le4,fun p21 hp21=>?_⟩
  have s6:=same_new hp21 (.tup [V.str kd,V.int iv,V.int j,V.ref yi])
  refine key _ _ ⟨s5.trans s6,p21,yi,kd,iv,j,xAt X i,none,rfl,SqT.of upd_same,(u4.trans (s5.trans s6)).tup hxi,?_,rfl⟩
  rw [asl] at hiv
  rcases hiv with rfl | rfl | rfl | rfl
  ·exact .inl (by decide)
  ·exact .inr (.inl (Int.le_refl _))
  ·exact .inl (by omega)
  ·exact .inr (.inl (by omega))
 rintro σ' HZ ⟨sZ,bd,ya,k,i',j',y,vo,rfl,hbd,hya,bad,rfl⟩
 have uZ:=u4.trans sZ
 have tZ:=s1.trans uZ
 have psl0:ps.length=ss.length:=hst.1
 refine ⟨_,rfl,_,_,_,_,rfl,rfl,SqL.of (uZ _ _ hz),z3,_,_,rfl,rfl,(by (first | decide | (show (0:Int) < _; first | decide | omega))),_,_,rfl,rfl,_,rfl,?_⟩
 refine andG (fun _=>?_) (fun _=>?_)
 ·dsimp only [tNext]
  refine ⟨_,rfl,_,rfl,_,rfl,_,_,rfl,tZ.seq hpp,fun p6 hp6=>?_⟩
  rw [cutP_to]
  have sa1:=same_new hp6 (.lst (ps.take at_))
  have ha1:(upd HZ p6 (.lst (ps.take at_))) p6=some (.lst (ps.take at_)):=upd_same
  generalize upd HZ p6 (.lst (ps.take at_))=HY at sa1 ha1 ⊢
  refine ⟨_,rfl,le1,fun p7 hp7=>?_⟩
  have sa2:=same_new hp7 (.lst [V.ref bd])
  have ha2:(upd HY p7 (.lst [V.ref bd])) p7=some (.lst [V.ref bd]):=upd_same
  have ka1:=sa2 _ _ ha1
  generalize upd HY p7 (.lst [V.ref bd])=HX at sa2 ha2 ka1 ⊢
  have psl:=hst.1
  have tkl:(ps.take at_).length≤40:=by rw [List.length_take]; omega
  refine ⟨_,_,_,_,rfl,rfl,ka1,ha2,small (by rw [List.length_singleton]; omega),fun p8 hp8=>?_⟩
  have sa3:=same_new hp8 (.lst (ps.take at_++[V.ref bd]))
  have ha3:(upd HX p8 (.lst (ps.take at_++[V.ref bd]))) p8=some (.lst (ps.take at_++[V.ref bd])):=upd_same
  generalize upd HX p8 (.lst (ps.take at_++[V.ref bd]))=HW at sa3 ha3 ⊢
  have ta3:=sa1.trans (sa2.trans sa3)
  refine ⟨_,rfl,_,rfl,_,rfl,_,_,rfl,(tZ.trans ta3).seq hpp,fun p9 hp9=>?_⟩
  rw [cutP_fr]
  have sa4:=same_new hp9 (.lst (ps.drop at_))
  have ha4:(upd HW p9 (.lst (ps.drop at_))) p9=some (.lst (ps.drop at_)):=upd_same
  have ka3:=sa4 _ _ ha3
  generalize upd HW p9 (.lst (ps.drop at_))=HV at sa4 ha4 ka3 ⊢
  refine ⟨_,_,_,_,rfl,rfl,ka3,ha4,small (by rw [List.length_append,List.length_singleton,List.length_drop]; omega),fun p10 hp10=>?_⟩
  rw [List.append_assoc]
  have sa5:=same_new hp10 (.lst (ps.take at_++([V.ref bd]++ps.drop at_)))
  have ta5:=ta3.trans (sa4.trans sa5)
  exact q p10 at_ (ps.drop at_) bd ya k i' j' y _ (tZ.trans ta5) (by omega) (SqL.of upd_same) (fun p hp=>hst.refs p (List.mem_of_mem_drop hp)) (ta5.tup hbd) (ta5.tup hya) (by rw [hX]; exact bad)
 refine ⟨_,rfl,_,rfl,_,_,rfl,.inl (tZ.seq hpp),_,_,rfl,rfl,_,rfl,?_⟩
 refine ite2 (fun hlt=>?_) (fun _=>?_)
 rotate_left
 ·dsimp only [tNext]
  refine ⟨_,rfl,_,rfl,_,rfl,_,_,rfl,tZ.seq hpp,fun p6 hp6=>?_⟩
  rw [cutP_to]
  have sa1:=same_new hp6 (.lst (ps.take at_))
  have ha1:(upd HZ p6 (.lst (ps.take at_))) p6=some (.lst (ps.take at_)):=upd_same
  generalize upd HZ p6 (.lst (ps.take at_))=HY at sa1 ha1 ⊢
  refine ⟨_,rfl,le1,fun p7 hp7=>?_⟩
  have sa2:=same_new hp7 (.lst [V.ref bd])
  have ha2:(upd HY p7 (.lst [V.ref bd])) p7=some (.lst [V.ref bd]):=upd_same
  have ka1:=sa2 _ _ ha1
  generalize upd HY p7 (.lst [V.ref bd])=HX at sa2 ha2 ka1 ⊢
  have psl:=hst.1
  have tkl:(ps.take at_).length≤40:=by rw [List.length_take]; omega
  refine ⟨_,_,_,_,rfl,rfl,ka1,ha2,small (by rw [List.length_singleton]; omega),fun p8 hp8=>?_⟩
  have sa3:=same_new hp8 (.lst (ps.take at_++[V.ref bd]))
  have ha3:(upd HX p8 (.lst (ps.take at_++[V.ref bd]))) p8=some (.lst (ps.take at_++[V.ref bd])):=upd_same
  generalize upd HX p8 (.lst (ps.take at_++[V.ref bd]))=HW at sa3 ha3 ⊢
  have ta3:=sa1.trans (sa2.trans sa3)
  refine ⟨_,rfl,_,rfl,_,rfl,_,_,rfl,(tZ.trans ta3).seq hpp,fun p9 hp9=>?_⟩
  rw [cutP_fr]
  have sa4:=same_new hp9 (.lst (ps.drop at_))
  have ha4:(upd HW p9 (.lst (ps.drop at_))) p9=some (.lst (ps.drop at_)):=upd_same
  have ka3:=sa4 _ _ ha3
  generalize upd HW p9 (.lst (ps.drop at_))=HV at sa4 ha4 ka3 ⊢
  refine ⟨_,_,_,_,rfl,rfl,ka3,ha4,small (by rw [List.length_append,List.length_singleton,List.length_drop]; omega),fun p10 hp10=>?_⟩
  rw [List.append_assoc]
  have sa5:=same_new hp10 (.lst (ps.take at_++([V.ref bd]++ps.drop at_)))
  have ta5:=ta3.trans (sa4.trans sa5)
  exact q p10 at_ (ps.drop at_) bd ya k i' j' y _ (tZ.trans ta5) (by omega) (SqL.of upd_same) (fun p hp=>hst.refs p (List.mem_of_mem_drop hp)) (ta5.tup hbd) (ta5.tup hya) (by rw [hX]; exact bad)
 have hlt:at_ < ss.length:=by
  have:(at_:Int) < (ps.length:Int):=of_decide_eq_true hlt
  omega
 clear bad hbd hya ya k i' j' y
 obtain ⟨s,es,hsi,hr⟩:=one hlt
 have hpl:at_ < ps.length:=by omega
 obtain ⟨oa,oy,eo,hoa,hoy⟩:=hst.2 at_ ps[at_] s (List.getElem?_eq_getElem hpl) es
 have epo:ps[at_]? = some (V.ref oa):=by rw [List.getElem?_eq_getElem hpl,eo]
 have hoZ:=tZ.tup hoa
 have hyZ:=tZ.tup hoy
 refine ⟨_,rfl,_,rfl,_,_,_,_,rfl,rfl,tZ.seq hpp,atI_nat epo,?_⟩
 dsimp only [gName]
 refine ⟨_,rfl,_,_,_,_,rfl,rfl,hoZ,rfl,_,rfl,_,_,_,_,rfl,rfl,hoZ,rfl,_,rfl,_,_,_,_,rfl,rfl,hoZ,rfl,_,rfl,_,_,_,_,rfl,rfl,hoZ,rfl,_,_,_,_,rfl,rfl,hyZ,rfl,_,_,rfl,rfl,_,rfl,_,_,_,_,rfl,rfl,hoZ,rfl,_,_,_,_,rfl,rfl,hyZ,rfl,le2,fun p4 hp4=>?_⟩
 have s5:=same_new hp4 (.tup [V.int (s.y.1+1),V.int s.y.2])
 have h5:SqT K (upd HZ p4 (.tup [V.int (s.y.1+1),V.int s.y.2])) p4 (pl (s.y.1+1,s.y.2)):=SqT.of upd_same
 change _∧∀ p5,(upd HZ p4 (.tup [V.int (s.y.1+1),V.int s.y.2])) p5=none→_
 generalize upd HZ p4 (.tup [V.int (s.y.1+1),V.int s.y.2])=H5 at s5 h5 ⊢
 refine ⟨le4,fun p5 hp5=>?_⟩
 have s6:=same_new hp5 (.tup [V.str s.k,V.int (s.i:Int),V.int s.j,V.ref p4])
 have h6:SqT K (upd H5 p5 (.tup [V.str s.k,V.int (s.i:Int),V.int s.j,V.ref p4])) p5 [V.str s.k,V.int (s.i:Int),V.int s.j,V.ref p4]:=SqT.of upd_same
 have k6:=s6.tup h5
 generalize upd H5 p5 (.tup [V.str s.k,V.int (s.i:Int),V.int s.j,V.ref p4])=H6 at s6 h6 k6 ⊢
 dsimp only [gName]
 have t6:=s5.trans s6
 have bad0:BadS F ds X s.k (s.i:Int) s.j (s.y.1+1,s.y.2):=.inr (.inr ⟨s.i,rfl,hsi,fun e=>by
  rw [hr] at e
  have:=congrArg Prod.fst (Option.some.inj e)
  simp only at this
  omega⟩)
 refine cut_seq (fun σ' H'=>Same HZ H'∧∃ (bd ya:Addr) (k:Str) (i' j':Int) (y:Int × Int) (vo:Option V),σ' = [some (.ref sa),some (.ref ba),some (.ref pp),some (.ref ah),some (.ref xa),some (.int (at_:Int)),some (.ref nw),some (.int (i:Int)),some (.str kd),some (.int j),some (.ref bd),some (.ref oa),none]∧SqT K H' bd [.str k,.int i',.int j',.ref ya]∧SqT K H' ya (pl y)∧BadS F ds X k i' j' y∧vo=none) ?_ (fun key=>?_)
 rotate_left
 ·refine ⟨_,rfl,_,_,_,_,rfl,rfl,SqL.of ((uZ.trans t6) _ _ hz),z3,_,_,rfl,rfl,(by (first | decide | (show (0:Int) < _; first | decide | omega))),rfl,_,rfl,?_⟩
  refine ite2 (fun _=>?_) (fun _=>key _ _ ⟨t6,p5,p4,_,_,_,_,none,rfl,h6,k6,bad0,rfl⟩)
  have hoA:=t6.tup hoZ
  have k60:s.k.length≤10:=by rcases reach_kind hr with e | e | e | e | e <;> rw [e] <;> decide +kernel
  refine ⟨_,rfl,_,_,_,_,rfl,rfl,hoA,rfl,_,_,rfl,rfl,(by rw [show (PySem.Str.ofString "s").length=1 by decide +kernel]; exact small2 (by omega)),_,rfl,_,_,_,_,rfl,rfl,hoA,rfl,_,rfl,_,_,_,_,rfl,rfl,hoA,rfl,_,rfl,_,_,_,_,rfl,rfl,hoA,rfl,le4,fun p14 hp14=>?_⟩
  have s7:=same_new hp14 (.tup [V.str (s.k++PySem.Str.ofString "s"),V.int (s.i:Int),V.int s.j,V.ref oy])
  exact key _ _ ⟨t6.trans s7,p14,oy,_,_,_,s.y,none,rfl,SqT.of upd_same,(t6.trans s7).tup hyZ,.inr (.inr ⟨s.i,rfl,hsi,reach_s hr rfl⟩),rfl⟩
 clear h6 k6 t6 s6 s5 h5 hp5 hp4 bad0 p4 p5
 rintro σ' H7 ⟨s7,bd,ya,k,i',j',y,vo,rfl,hbd,hya,bad,rfl⟩
 have u7:=uZ.trans s7
 refine cut_seq (fun σ' H'=>Same HZ H'∧∃ (bd ya:Addr) (k:Str) (i' j':Int) (y:Int × Int) (vo:Option V),σ' = [some (.ref sa),some (.ref ba),some (.ref pp),some (.ref ah),some (.ref xa),some (.int (at_:Int)),some (.ref nw),some (.int (i:Int)),some (.str kd),some (.int j),some (.ref bd),some (.ref oa),none]∧SqT K H' bd [.str k,.int i',.int j',.ref ya]∧SqT K H' ya (pl y)∧BadS F ds X k i' j' y∧vo=none) ?_ (fun key=>?_)
 rotate_left
 ·refine ⟨_,rfl,_,_,_,_,rfl,rfl,SqL.of (u7 _ _ hz),z3,_,_,rfl,rfl,(by (first | decide | (show (0:Int) < _; first | decide | omega))),rfl,_,rfl,?_⟩
  refine ite2 (fun _=>?_) (fun _=>key _ _ ⟨s7,bd,ya,k,i',j',y,none,rfl,hbd,hya,bad,rfl⟩)
  have hoA:=s7.tup hoZ
  obtain ⟨yo,eyo,hyo⟩:=pas.get (show s.i < X.length by rw [← BX.len]; exact hsi)
  have hyo':SqT K H1 yo (pl (xAt X s.i)):=hyo
  refine ⟨_,rfl,_,_,_,_,rfl,rfl,hoA,rfl,_,rfl,_,_,_,_,rfl,rfl,hoA,rfl,_,rfl,_,_,_,_,rfl,rfl,hoA,rfl,_,rfl,_,rfl,_,_,_,_,rfl,rfl,hoA,rfl,_,_,_,_,rfl,rfl,SqL.of (u7 _ _ hnw),eyo,_,rfl,_,_,_,_,rfl,rfl,hoA,rfl,_,rfl,_,_,_,_,rfl,rfl,(tZ.trans s7).tup hb,rfl,_,_,_,_,rfl,rfl,(tZ.trans s7).tup hf,rfl,oy,s.y,F.h,rfl,s7.tup hyZ,fun lq H8 s8 hlq=>?_⟩
  have hy8:SqT K H8 yo ([(xAt X s.i).1,(xAt X s.i).2].map V.int):=(u7.trans s8).tup hyo'
  have hl8:SqT K H8 lq ([(lessP s.y F.h).1,(lessP s.y F.h).2].map V.int):=hlq
  refine ⟨yo,lq,_,_,rfl,hy8,hl8,le4,fun p13 hp13=>?_⟩
  have s9:=same_new hp13 (.tup [V.str s.k,V.int (s.i:Int),V.int s.j,V.ref (if HT.lexGt [(lessP s.y F.h).1,(lessP s.y F.h).2] [(xAt X s.i).1,(xAt X s.i).2] then lq else yo)])
  have t9:=s7.trans (s8.trans s9)
  by_cases c:HT.lexGt [(lessP s.y F.h).1,(lessP s.y F.h).2] [(xAt X s.i).1,(xAt X s.i).2]=true
  ·refine key _ _ ⟨t9,p13,lq,s.k,_,s.j,lessP s.y F.h,none,rfl,SqT.of (by rw [upd_same,if_pos c]),s9.tup hlq,.inr (.inr ⟨s.i,rfl,hsi,fun e=>?_⟩),rfl⟩
   rw [hr] at e
   exact less_ne (Option.some.inj e).symm
  ·refine key _ _ ⟨t9,p13,yo,s.k,_,s.j,xAt X s.i,none,rfl,SqT.of (by rw [upd_same,if_neg c]),((u7.trans (s8.trans s9))).tup hyo',.inr (.inr ⟨s.i,rfl,hsi,fun e=>reach_ne e rfl⟩),rfl⟩
 clear bad hbd hya bd ya k i' j' y u7 s7
 rintro σ' H8 ⟨s8,bd,ya,k,i',j',y,vo,rfl,hbd,hya,bad,rfl⟩
 have u8:=uZ.trans s8
 refine cut_seq (fun σ' H'=>Same HZ H'∧∃ (bd ya:Addr) (k:Str) (i' j':Int) (y:Int × Int) (vo:Option V),σ' = [some (.ref sa),some (.ref ba),some (.ref pp),some (.ref ah),some (.ref xa),some (.int (at_:Int)),some (.ref nw),some (.int (i:Int)),some (.str kd),some (.int j),some (.ref bd),some (.ref oa),vo]∧SqT K H' bd [.str k,.int i',.int j',.ref ya]∧SqT K H' ya (pl y)∧BadS F ds X k i' j' y) ?_ (fun key=>?_)
 rotate_left
 ·refine ⟨_,rfl,_,_,_,_,rfl,rfl,SqL.of (u8 _ _ hz),z3,_,_,rfl,rfl,(by (first | decide | (show (0:Int) < _; first | decide | omega))),rfl,_,rfl,?_⟩
  refine ite2 (fun _=>?_) (fun _=>key _ _ ⟨s8,bd,ya,k,i',j',y,none,rfl,hbd,hya,bad⟩)
  have hoA:=s8.tup hoZ
  have hnwA:=u8 _ _ hnw
  refine ⟨_,rfl,_,_,_,_,rfl,rfl,hoA,rfl,_,_,rfl,rfl,_,rfl,_,_,_,_,rfl,rfl,hoA,rfl,_,_,rfl,rfl,_,_,rfl,rfl,_,rfl,_,_,_,_,rfl,rfl,hoA,rfl,_,_,rfl,rfl,_,rfl,_,_,rfl,.inl (SqL.of hnwA),_,rfl,_,_,_,_,rfl,rfl,hoA,rfl,_,_,rfl,rfl,(show 4≤sizeLine by decide),fun p11 hp11=>?_⟩
  have s9:=same_new hp11 (.lst [V.int (s.j - 1),V.int (s.j+1),V.int (0 - 2 - s.j),V.int (((as.map V.ref).length:Int)+s.j)])
  have h9:(upd H8 p11 (.lst [V.int (s.j - 1),V.int (s.j+1),V.int (0 - 2 - s.j),V.int (((as.map V.ref).length:Int)+s.j)])) p11=some (.lst [V.int (s.j - 1),V.int (s.j+1),V.int (0 - 2 - s.j),V.int (((as.map V.ref).length:Int)+s.j)]):=upd_same
  obtain ⟨jo,ejo,_⟩:=at4i (a:=s.j - 1) (b:=s.j+1) (c:=0 - 2 - s.j) (d:=((as.map V.ref).length:Int)+s.j) (em4 (zs.getD 3 0 / 6)).1 (em4 (zs.getD 3 0 / 6)).2
  refine ⟨_,rfl,_,_,_,_,rfl,rfl,SqL.of ((u8.trans s9) _ _ hz),z3,_,_,rfl,rfl,⟨by decide,by decide⟩,_,_,rfl,rfl,(by (first | decide | (show (0:Int) < _; first | decide | omega))),_,_,_,_,rfl,rfl,SqL.of h9,ejo,?_⟩
  change _
  dsimp only [gName]
  generalize upd H8 p11 (.lst [V.int (s.j - 1),V.int (s.j+1),V.int (0 - 2 - s.j),V.int (((as.map V.ref).length:Int)+s.j)])=H9 at s9 h9 ⊢
  have t9:=s8.trans s9
  have u9:=uZ.trans t9
  refine cut_seq (fun σ' H'=>Same HZ H'∧∃ jo:Int,σ' = [some (.ref sa),some (.ref ba),some (.ref pp),some (.ref ah),some (.ref xa),some (.int (at_:Int)),some (.ref nw),some (.int (i:Int)),some (.str kd),some (.int j),some (.ref bd),some (.ref oa),some (.int jo)]∧reachI F ds X s.k s.i jo≠some s.y) ?_ (fun key2=>?_)
  ·rintro σ' HA ⟨sA,jo,rfl,ne⟩
   have hoB:=sA.tup hoZ
   refine ⟨_,rfl,_,_,_,_,rfl,rfl,hoB,rfl,_,rfl,_,_,_,_,rfl,rfl,hoB,rfl,_,rfl,_,rfl,_,_,_,_,rfl,rfl,hoB,rfl,le4,fun p12 hp12=>?_⟩
   have sB:=same_new hp12 (.tup [V.str s.k,V.int (s.i:Int),V.int jo,V.ref oy])
   exact key _ _ ⟨sA.trans sB,p12,oy,s.k,_,jo,s.y,_,rfl,SqT.of upd_same,(sA.trans sB).tup hyZ,.inr (.inr ⟨s.i,rfl,hsi,ne⟩)⟩
  ·have hoB:=t9.tup hoZ
   refine ⟨_,rfl,_,rfl,_,rfl,_,_,_,_,rfl,rfl,hoB,rfl,_,rfl,_,_,_,_,rfl,rfl,hoB,rfl,_,rfl,ba,nw,s.k,s.i,jo,F,ds,X,rfl,hbk0.same (tZ.trans t9),⟨as,SqL.of (u9 _ _ hnw),pas.same u9⟩,BX,hsi,fun v HA sA hv=>?_⟩
   have tA:=t9.trans sA
   have hoA2:=tA.tup hoZ
   cases er:reachI F ds X s.k s.i jo with
   | none =>
    rw [er] at hv
    cases hv
    refine ⟨_,rfl,_,_,_,_,rfl,rfl,hoA2,rfl,.inl ?_⟩
    refine ⟨oy,_,rfl,rfl,tA.tup hyZ,_,rfl,?_⟩
    refine iteF ?_
    exact key2 _ _ ⟨tA,jo,rfl,by rw [er]; intro z; cases z⟩
   | some yy =>
    rw [er] at hv
    obtain ⟨yq,rfl,hyq⟩:=hv
    refine ⟨_,rfl,_,_,_,_,rfl,rfl,hoA2,rfl,.inr ?_⟩
    refine ⟨_,_,_,_,rfl,rfl,hyq,tA.tup hyZ,rfl,rfl,_,rfl,?_⟩
    rw [if_neg (by decide),eq_pl2]
    by_cases c:yy=s.y
    ·rw [decide_eq_true c]
     refine iteT ?_
     refine ⟨_,rfl,_,_,rfl,.inl (SqL.of ((uZ.trans tA) _ _ hnw)),_,_,rfl,rfl,?_⟩
     rw [asl]
     exact key2 _ _ ⟨tA,_,rfl,reach_far hsi rfl⟩
    ·rw [decide_eq_false c]
     refine iteF ?_
     exact key2 _ _ ⟨tA,jo,rfl,by rw [er]; exact fun z=>c (Option.some.inj z)⟩
 clear bad hbd hya bd ya k i' j' y
 rintro σ' HQ ⟨sQ,bd,ya,k,i',j',y,vo,rfl,hbd,hya,bad⟩
 have tQ:=tZ.trans sQ
 clear tZ
 have tZ:=tQ
 clear uZ sZ u8 s8 hoZ hyZ sQ
 generalize HQ=HZ at *
 refine ⟨_,rfl,_,rfl,_,rfl,_,_,rfl,tZ.seq hpp,fun p6 hp6=>?_⟩
 rw [cutP_to]
 have sa1:=same_new hp6 (.lst (ps.take at_))
 have ha1:(upd HZ p6 (.lst (ps.take at_))) p6=some (.lst (ps.take at_)):=upd_same
 generalize upd HZ p6 (.lst (ps.take at_))=HY at sa1 ha1 ⊢
 refine ⟨_,rfl,le1,fun p7 hp7=>?_⟩
 have sa2:=same_new hp7 (.lst [V.ref bd])
 have ha2:(upd HY p7 (.lst [V.ref bd])) p7=some (.lst [V.ref bd]):=upd_same
 have ka1:=sa2 _ _ ha1
 generalize upd HY p7 (.lst [V.ref bd])=HX at sa2 ha2 ka1 ⊢
 have psl:=hst.1
 have tkl:(ps.take at_).length≤40:=by rw [List.length_take]; omega
 refine ⟨_,_,_,_,rfl,rfl,ka1,ha2,small (by rw [List.length_singleton]; omega),fun p8 hp8=>?_⟩
 have sa3:=same_new hp8 (.lst (ps.take at_++[V.ref bd]))
 have ha3:(upd HX p8 (.lst (ps.take at_++[V.ref bd]))) p8=some (.lst (ps.take at_++[V.ref bd])):=upd_same
 generalize upd HX p8 (.lst (ps.take at_++[V.ref bd]))=HW at sa3 ha3 ⊢
 have ta3:=sa1.trans (sa2.trans sa3)
 refine ⟨_,rfl,_,rfl,_,_,rfl,rfl,_,rfl,_,_,rfl,(tZ.trans ta3).seq hpp,fun p9 hp9=>?_⟩
 rw [show (at_:Int)+1=((at_+1:Nat) : Int) by omega,cutP_fr]
 have sa4:=same_new hp9 (.lst (ps.drop (at_+1)))
 have ha4:(upd HW p9 (.lst (ps.drop (at_+1)))) p9=some (.lst (ps.drop (at_+1))):=upd_same
 have ka3:=sa4 _ _ ha3
 generalize upd HW p9 (.lst (ps.drop (at_+1)))=HV at sa4 ha4 ka3 ⊢
 refine ⟨_,_,_,_,rfl,rfl,ka3,ha4,small (by rw [List.length_append,List.length_singleton,List.length_drop]; omega),fun p10 hp10=>?_⟩
 rw [List.append_assoc]
 have sa5:=same_new hp10 (.lst (ps.take at_++([V.ref bd]++ps.drop (at_+1))))
 have ta5:=ta3.trans (sa4.trans sa5)
 exact q p10 at_ (ps.drop (at_+1)) bd ya k i' j' y _ (tZ.trans ta5) (by omega) (SqL.of upd_same) (fun p hp=>hst.refs p (List.mem_of_mem_drop hp)) (ta5.tup hbd) (ta5.tup hya) (by rw [hX]; exact bad)
theorem no_false (n:Nat) : inV (.bl false) ((List.replicate n true).map V.bl)=false:=by
 induction n with
 | zero=>rfl
 | succ n ih =>
  rw [List.replicate_succ,List.map_cons]
  exact ih
theorem bls_flat (bs:List Bool) : (bs.map V.bl).all flatV=true:=by
 rw [List.all_eq_true]
 intro x hx
 obtain ⟨b,_,rfl⟩:=List.mem_map.mp hx
 rfl
theorem dq_refs {K:PySem.W.Frag} {H:Hp} {p q:Addr} {as:List Addr} {n:Nat} (h:SqL K H p (as.map V.ref)) (g:SqL K H q (as.map V.ref)) : Dq K H (n+1) (.ref p) (.ref q):=by
 refine .inr ⟨p,q,_,_,rfl,rfl,.inl ⟨h,g⟩,rfl,fun i x y e1 e2=>?_⟩
 rw [e1] at e2
 cases e2
 rw [List.getElem?_map] at e1
 obtain ⟨a,_,rfl⟩:=Option.map_eq_some_iff.mp e1
 cases n with
 | zero=>exact .inr ⟨_,rfl,rfl⟩
 | succ n=>exact .inl (.inr ⟨_,rfl,rfl⟩)
theorem dq_book {K:PySem.W.Frag} {H:Hp} {p q fa wa wb:Addr} {as bs:List Addr} (h1:SqT K H p [.ref fa,.ref wb]) (h2:SqT K H q [.ref fa,.ref wa]) (c:CpA K H as bs) (hw:SqL K H wa (as.map V.ref)) (hv:SqL K H wb (bs.map V.ref)) : Dq K H 4 (.ref p) (.ref q):=by
 refine .inr ⟨p,q,_,_,rfl,rfl,.inr ⟨h1,h2⟩,rfl,fun i x y e1 e2=>?_⟩
 match i,e1,e2 with
 | 0,e1,e2=>cases e1; cases e2; exact .inl (.inr ⟨_,rfl,rfl⟩)
 | 1,e1,e2=>cases e1; cases e2; exact c.dq hw hv
 | i+2,e1,_=>exact absurd e1 (by simp)
theorem refs_dq {K:PySem.W.Frag} {H:Hp} {ps:List V} (h:RefsV ps) {n:Nat} : ∀ (i:Nat) x y,ps[i]? = some x→ps[i]? = some y→Dq K H n x y:=fun i x y e1 e2=>by
 rw [e1] at e2
 cases e2
 obtain ⟨a,rfl⟩:=h x (List.mem_of_getElem? e1)
 cases n with
 | zero=>exact .inr ⟨_,rfl,rfl⟩
 | succ n=>exact .inl (.inr ⟨_,rfl,rfl⟩)
theorem dq_lists {K:PySem.W.Frag} {H:Hp} {p q:Addr} {ps:List V} {n:Nat} (rv:RefsV ps) (h:SqL K H p ps) (g:SqL K H q ps) : Dq K H (n+1) (.ref p) (.ref q):=.inr ⟨p,q,_,_,rfl,rfl,.inl ⟨h,g⟩,rfl,refs_dq rv⟩
theorem sc_law:FnScope ["script","book","low","drawn","paper","handed","found","bad","told"] ["script"] (defScope s_law):=⟨rfl,rfl,rfl,by decide +kernel,rfl,by decide +kernel,by decide +kernel⟩
theorem ok_law (T:Txt P w K mg a) : FnOk P w K mg base CX0 10 a.f_law a.fd_law ["script"] (sp_law K):=by
 have g_l_book:=ok_l_book (P:=P) (w:=w) (base:=base) T
 have d_l_book:=T.d_l_book
 have g_l_copy:=ok_l_copy (P:=P) (w:=w) (base:=base) T
 have d_l_copy:=T.d_l_copy
 have g_l_low:=ok_l_low (P:=P) (w:=w) (base:=base) T
 have d_l_low:=T.d_l_low
 have g_l_paper:=ok_l_paper (P:=P) (w:=w) (base:=base) T
 have d_l_paper:=T.d_l_paper
 have g_l_place:=ok_l_place (P:=P) (w:=w) (base:=base) T
 have d_l_place:=T.d_l_place
 have g_l_refused:=ok_l_refused (P:=P) (w:=w) (base:=base) T
 have d_l_refused:=T.d_l_refused
 have g_l_refused_by_base:=ok_l_refused_by_base (P:=P) (w:=w) (base:=base) T
 have d_l_refused_by_base:=T.d_l_refused_by_base
 have g_l_spoiled:=ok_l_spoiled (P:=P) (w:=w) (base:=base) T
 have d_l_spoiled:=T.d_l_spoiled
 have g_walked:=ok_walked (P:=P) (w:=w) (base:=base) T
 have d_walked:=T.d_walked
 have z_isinstance:=T.z_isinstance
 have z_list:=T.z_list
 refine T.d_law.fn.ok sc_law (fun vs H Q E h=>?_) (fun cdv A outer s H vs Q E hr h=>?_)
 ·obtain ⟨a,ns,rfl,_⟩:=h
  rfl
 obtain ⟨sa,ns,rfl,hS,h63,q⟩:=h
 have hu:=Nat.lt_of_succ_lt (hu_of hr)
 refine ⟨_,(@pss_cons _ _ _ _ _ (ps_set (i:=1) sc_law.nd rfl (Or.inl rfl) (pe_callD d_l_book g_l_book (hr.mono (by decide)) rfl (pa_cons (pv 0) (pa_cons pe_int pa_nil))))
   (@pss_cons _ _ _ _ _ (ps_set (i:=2) sc_law.nd rfl (Or.inl rfl) (pe_callD d_l_low g_l_low (hr.mono (by decide)) rfl (pa_cons (pv 0) (pa_cons (pv 1) pa_nil))))
   (@pss_cons _ _ _ _ _ (ps_if (pt_cmpR (op_eqNil hu) (pv 2) (pe_lst pa_nil) (nomark _)) (pss_one (ps_ret (pe_and (pe_cmpR (op_eqNil hu) (pe_callX pass_never d_walked g_walked (hr.mono (by decide)) rfl (pa_cons (pv 1) (pa_cons (pe_lst pa_nil) (pa_cons (pe_lst pa_nil) pa_nil)))) (pe_lst pa_nil) (nomark _)) (pe_one (pe_callD d_l_refused g_l_refused (hr.mono (by decide)) rfl (pa_cons (pv 1) (pa_cons (pe_lst pa_nil) (pa_cons (pe_lst (pa_cons (pe_tup (pa_cons pe_str (pa_cons pe_int (pa_cons (pe_un un_neg pe_int) (pa_cons (pe_tup (pa_cons pe_int (pa_cons pe_int pa_nil))) pa_nil))))) pa_nil)) pa_nil)))))))) pss_nil)
   (@pss_cons _ _ _ _ _ (ps_set (i:=3) sc_law.nd rfl (Or.inl rfl) (pe_callD d_l_paper g_l_paper (hr.mono (by decide)) rfl (pa_cons (pv 0) (pa_cons (pv 1) (pa_cons (pv 2) pa_nil)))))
   (@pss_cons _ _ _ _ _ (ps_set (i:=4) sc_law.nd rfl (Or.inl rfl) (pe_ix ix_tup (pv 3) pe_int (fun _ _=>rfl)))
   (@pss_cons _ _ _ _ _ (ps_set (i:=5) sc_law.nd rfl (Or.inl rfl) (pe_tup (pa_cons (pe_callD d_l_copy g_l_copy (hr.mono (by decide)) rfl (pa_cons (pv 1) pa_nil)) (pa_cons (pe_callTy call_list_of rfl z_list PyProof.Rows.boot_list (pa_cons (pv 2) pa_nil)) (pa_cons (pe_callTy call_list_of rfl z_list PyProof.Rows.boot_list (pa_cons (pv 4) pa_nil)) pa_nil)))))
   (@pss_cons _ _ _ _ _ (ps_set (i:=6) sc_law.nd rfl (Or.inl rfl) (pe_callX pass_never d_walked g_walked (hr.mono (by decide)) rfl (pa_cons (pe_ix ix_tup (pv 5) pe_int (fun _ _=>rfl)) (pa_cons (pe_ix ix_tup (pv 5) pe_int (fun _ _=>rfl)) (pa_cons (pe_ix ix_tup (pv 5) pe_int (fun _ _=>rfl)) pa_nil)))))
   (@pss_cons _ _ _ _ _ (ps_if (PW.pt (pw_or (pt_not (pt_val (pe_callB call_isi rfl z_isinstance PyProof.Rows.boot_isinstance (pa_cons (pv 6) (pa_cons (pe_bltn (v:=.ty "list") rfl z_list PyProof.Rows.boot_list rfl) pa_nil))) (fun _=>rfl))) (pw_or1 (pt_cmpR op_in_seq pe_bl (pe_lc rfl (lcok (caps:=[]) (js:=[]) (cap:=trivial)) (pi_list (pv 6)) (fun _ _ _ _=>pts_nil) (fun _ _ _ _=>(pe_callD d_l_place g_l_place (hr.mono (by decide)) rfl (pa_cons (pv 0) pa_nil)))) (by with_unfolding_all rfl))))) (pss_one (ps_ret pe_bl)) pss_nil)
   (@pss_cons _ _ _ _ _ (ps_if (PW.pt (pw_or (pt_cmpR (op_neQ (hu100 hr)) (pv 6) (pe_ix ix_list (pe_ix ix_tup (pv 3) pe_int (fun _ _=>rfl)) (pe_un un_neg pe_int) (fun _ _=>rfl)) (nomark _)) (pw_or1 (pt_cmpR (op_neQ (hu100 hr)) (pv 5) (pe_tup (pa_cons (pv 1) (pa_cons (pv 2) (pa_cons (pv 4) pa_nil)))) (nomark _))))) (pss_one (ps_ret pe_bl)) pss_nil)
   (@pss_cons _ _ _ _ _ (ps_set (i:=7) sc_law.nd rfl (Or.inl rfl) (pe_callD d_l_spoiled g_l_spoiled (hr.mono (by decide)) rfl (pa_cons (pv 0) (pa_cons (pv 1) (pa_cons (pv 4) (pa_cons (pe_ix ix_tup (pv 3) pe_int (fun _ _=>rfl)) pa_nil))))))
   (@pss_cons _ _ _ _ _ (ps_if (PW.pt (pw_or (pt_not (pt_val (pe_callD d_l_refused g_l_refused (hr.mono (by decide)) rfl (pa_cons (pv 1) (pa_cons (pv 2) (pa_cons (pv 7) pa_nil)))) (fun _=>rfl))) (pw_or1 (pt_not (pt_val (pe_callD d_l_refused_by_base g_l_refused_by_base (hr.mono (by decide)) rfl (pa_cons (pv 1) (pa_cons (pv 2) (pa_cons (pv 7) pa_nil)))) (fun _=>rfl)))))) (pss_one (ps_ret pe_bl)) pss_nil)
   (@pss_cons _ _ _ _ _ (ps_if (pt_cmpR (op_neQ (hu100 hr)) (pe_callX pass_never d_walked g_walked (hr.mono (by decide)) rfl (pa_cons (pe_ix ix_tup (pv 5) pe_int (fun _ _=>rfl)) (pa_cons (pe_ix ix_tup (pv 5) pe_int (fun _ _=>rfl)) (pa_cons (pe_ix ix_tup (pv 5) pe_int (fun _ _=>rfl)) pa_nil)))) (pv 6) (nomark _)) (pss_one (ps_ret pe_bl)) pss_nil)
   (@pss_cons _ _ _ _ _ (ps_set (i:=8) sc_law.nd rfl (Or.inl rfl) (pe_callX pass_never d_walked g_walked (hr.mono (by decide)) rfl (pa_cons (pv 1) (pa_cons (pe_ix ix_tup (pv 5) pe_int (fun _ _=>rfl)) (pa_cons (pe_lst pa_nil) pa_nil)))))
   (@pss_cons _ _ _ _ _ (ps_if (pt_cmpR (op_neQ (hu100 hr)) (pv 8) (pv 2) (nomark _)) (pss_one (ps_ret pe_bl)) pss_nil)
   (@pss_cons _ _ _ _ _ (ps_expr (pe_bm PySem.F.plainAttrs_list PySem.F.slot_list_append PySem.F.type_list_append mt_append (pv 8) (pa_cons (pe_tup (pa_cons pe_int (pa_cons pe_int pa_nil))) pa_nil)))
   (@pss_cons _ _ _ _ _ (ps_expr (pe_bm0 PySem.F.plainAttrs_list PySem.F.slot_list_clear PySem.F.type_list_clear mt_clear (pv 6)))
   (pss_one (ps_ret (pe_and (pe_cmpR (op_eqQ (hu100 hr)) (pe_ix ix_tup (pv 5) pe_int (fun _ _=>rfl)) (pv 2) (nomark _)) (pe_one (pe_cmpR (op_eqQ (hu100 hr)) (pe_callX pass_never d_walked g_walked (hr.mono (by decide)) rfl (pa_cons (pv 1) (pa_cons (pv 2) (pa_cons (pv 4) pa_nil)))) (pe_ix ix_list (pe_ix ix_tup (pv 3) pe_int (fun _ _=>rfl)) (pe_un un_neg pe_int) (fun _ _=>rfl)) (nomark _)))))))))))))))))))))),?_⟩
 refine ⟨_,rfl,sa,ns,(8:Nat),rfl,hS,by decide,fun ba H1 w h f m ds s1 hbk fo dl wd=>?_⟩
 have d8:ds.length≤8:=by rw [dl,List.length_take]; omega
 have dd:ds.length≤(ns.drop 4).length:=by rw [dl,List.length_take]; omega
 dsimp only [gName]
 refine ⟨_,rfl,_,rfl,sa,ba,ns,⟨w,h,f,m⟩,ds,rfl,s1.seq hS,hbk,fo,dd,by omega,fun la H2 xs s2 nl hlw xl po sk=>?_⟩
 have B:BkOk ⟨w,h,f,m⟩ ds xs:=⟨fo,xl.symm,wd,po,by omega⟩
 generalize hF:(⟨w,h,f,m⟩ : Frm)=F at *
 have hbk2:BkAt K H2 ba F.w F.h F.f F.m ds:=by rw [← hF]; exact hbk.same s2
 clear hbk fo
 have t2:=s1.trans s2
 dsimp only [gName]
 have hlw0:=hlw
 obtain ⟨los,hlo,hlos⟩:=hlw
 have lol:los.length=ds.length:=by rw [hlos.1,xl]
 refine ⟨_,rfl,Nat.zero_le _,fun p1 hp1=>?_⟩
 have s3:=same_new hp1 (.lst [])
 refine ⟨la,p1,los.map V.ref,rfl,rfl,s3.seq hlo,SqL.of upd_same,_,rfl,?_⟩
 generalize upd H2 p1 (.lst [])=H3 at s3 ⊢
 have t3:=t2.trans s3
 by_cases c0:ds.length=0
 ·have le:los=[]:=List.length_eq_zero_iff.mp (by omega)
  have xe:xs=[]:=List.length_eq_zero_iff.mp (by omega)
  subst le
  subst xe
  refine iteT ?_
  refine ⟨_,rfl,Nat.zero_le _,fun p2 hp2=>?_⟩
  have s4:=same_new hp2 (.lst [])
  have h4:(upd H3 p2 (.lst [])) p2=some (.lst []):=upd_same
  generalize upd H3 p2 (.lst [])=H4 at s4 h4 ⊢
  refine ⟨Nat.zero_le _,fun p3 hp3=>?_⟩
  have s5:=same_new hp3 (.lst [])
  have h5:(upd H4 p3 (.lst [])) p3=some (.lst []):=upd_same
  generalize upd H4 p3 (.lst [])=H5 at s5 h5 ⊢
  have t5:=s3.trans (s4.trans s5)
  refine ⟨ba,p2,p3,F,ds,[],[],[],rfl,hbk2.same t5,⟨[],SqL.of (s5 _ _ h4),PlsA.nil⟩,B,SqL.of h5,⟨rfl,fun n p s e=>by simp at e⟩,(fun n s e=>by simp at e),.inl ⟨rfl,fun wq as H6 s6 nw hw pw=>?_⟩⟩
  have ae:as=[]:=List.length_eq_zero_iff.mp (by rw [pw.1]; rfl)
  subst ae
  refine ⟨Nat.zero_le _,fun p4 hp4=>?_⟩
  have s7:=same_new hp4 (.lst [])
  refine ⟨wq,p4,[],rfl,rfl,SqL.of (s7 _ _ hw),SqL.of upd_same,_,rfl,?_⟩
  refine iteT ?_
  generalize upd H6 p4 (.lst [])=H7 at s7 ⊢
  refine ⟨_,rfl,Nat.zero_le _,fun p5 hp5=>?_⟩
  have s8:=same_new hp5 (.lst [])
  have h8:(upd H7 p5 (.lst [])) p5=some (.lst []):=upd_same
  generalize upd H7 p5 (.lst [])=H8 at s8 h8 ⊢
  refine ⟨_,rfl,le2,fun p6 hp6=>?_⟩
  have s9:=same_new hp6 (.tup [V.int 0,V.int 1])
  have h9:(upd H8 p6 (.tup [V.int 0,V.int 1])) p6=some (.tup [V.int 0,V.int 1]):=upd_same
  change _∧∀ p7,(upd H8 p6 (.tup [V.int 0,V.int 1])) p7=none→_
  generalize upd H8 p6 (.tup [V.int 0,V.int 1])=H9 at s9 h9 ⊢
  refine ⟨le4,fun p7 hp7=>?_⟩
  have sA:=same_new hp7 (.tup [V.str (PySem.Str.ofString "behind"),V.int 0,V.int (-1),V.ref p6])
  have hA:(upd H9 p7 (.tup [V.str (PySem.Str.ofString "behind"),V.int 0,V.int (-1),V.ref p6])) p7=some (.tup [V.str (PySem.Str.ofString "behind"),V.int 0,V.int (-1),V.ref p6]):=upd_same
  change _∧∀ p8,(upd H9 p7 (.tup [V.str (PySem.Str.ofString "behind"),V.int 0,V.int (-1),V.ref p6])) p8=none→_
  generalize upd H9 p7 (.tup [V.str (PySem.Str.ofString "behind"),V.int 0,V.int (-1),V.ref p6])=HA at sA hA ⊢
  refine ⟨le1,fun p8 hp8=>?_⟩
  have sB:=same_new hp8 (.lst [V.ref p7])
  have tB:=t5.trans (s6.trans (s7.trans (s8.trans (s9.trans (sA.trans sB)))))
  refine ⟨ba,p5,p8,F,ds,[],[V.ref p7],[],p7,p6,PySem.Str.ofString "behind",0,-1,(0,1),rfl,hbk2.same tB,⟨[],SqL.of ((s9.trans (sA.trans sB)) _ _ h8),PlsA.nil⟩,B,SqL.of upd_same,refs_refs [p7],⟨rfl,fun n p s e=>by simp at e⟩,(fun n s e=>by simp at e),rfl,SqT.of (sB _ _ hA),SqT.of ((sA.trans sB) _ _ h9),B,.inr (.inl (by omega)),fun HC _=>?_⟩
  exact q _
 have lne:(los.map V.ref).isEmpty=false:=by
  cases los with
  | nil=>exact absurd lol.symm c0
  | cons a l=>rfl
 rw [lne]
 refine iteF ?_
 dsimp only [tNext]
 have dp:0 < ds.length:=by omega
 refine ⟨_,rfl,_,rfl,_,rfl,sa,ba,la,ns,F,ds,xs,rfl,t3.seq hS,hbk2.same s3,hlw0.same s3,B,sk,dp,fun dq pp ah ps ss qs H4 s4 hdq hpp hst wk hah A Bm s40=>?_⟩
 dsimp only [gName]
 have t4:=t3.trans s4
 have u4:=s3.trans s4
 refine ⟨_,rfl,_,_,_,_,rfl,rfl,hdq,rfl,?_⟩
 dsimp only [gName]
 have hbk4:=hbk2.same u4
 obtain ⟨fa,wa,was,hb,hf,hw,hws⟩:=id hbk4
 have rv:=hst.refs
 have psl:ps.length=ss.length:=hst.1
 have stk:StpA K H4 (ps.take ss.length) ss:=by rw [← psl,List.take_length]; exact hst
 refine ⟨_,rfl,ba,fa,wa,was,F,ds,rfl,hb,hf,hw,hws,by omega,fun b2 wa' was' H5 s5 k1 k2 k3 k4=>?_⟩
 have u5:=u4.trans s5
 refine ⟨_,rfl,_,_,rfl,.inl (u5.seq hlo),fun l2 hl2=>?_⟩
 have s6:=same_new hl2 (.lst (los.map V.ref))
 have h6:(upd H5 l2 (.lst (los.map V.ref))) l2=some (.lst (los.map V.ref)):=upd_same
 generalize upd H5 l2 (.lst (los.map V.ref))=H6 at s6 h6 ⊢
 have v6:=s5.trans s6
 refine ⟨_,rfl,_,_,rfl,.inl (SqL.of (v6 _ _ hpp)),fun pa2 hpa2=>?_⟩
 have s7:=same_new hpa2 (.lst ps)
 have h7:(upd H6 pa2 (.lst ps)) pa2=some (.lst ps):=upd_same
 generalize upd H6 pa2 (.lst ps)=H7 at s7 h7 ⊢
 refine ⟨(show 3≤sizeLine by decide),fun hd hhd=>?_⟩
 have s8:=same_new hhd (.tup [V.ref b2,V.ref l2,V.ref pa2])
 have h8:SqT K (upd H7 hd (.tup [V.ref b2,V.ref l2,V.ref pa2])) hd [V.ref b2,V.ref l2,V.ref pa2]:=SqT.of upd_same
 generalize upd H7 hd (.tup [V.ref b2,V.ref l2,V.ref pa2])=H8 at s8 h8 ⊢
 dsimp only [gName]
 have v8:=s5.trans (s6.trans (s7.trans s8))
 have w8:=s6.trans (s7.trans s8)
 have u8:=u4.trans v8
 have t8:=t4.trans v8
 have bk8:BkAt K H8 b2 F.w F.h F.f F.m ds:=⟨fa,wa',was',w8.tup k1,v8.tup hf,w8.seq k2,k3.same w8⟩
 have lw8:LwAt K H8 l2 xs:=⟨los,SqL.of ((s7.trans s8) _ _ h6),hlos.same u8⟩
 have pa8:SqL K H8 pa2 ps:=SqL.of (s8 _ _ h7)
 have st8:=stk.same v8
 refine ⟨_,rfl,_,_,_,_,rfl,rfl,h8,rfl,_,rfl,_,_,_,_,rfl,rfl,h8,rfl,_,rfl,_,_,_,_,rfl,rfl,h8,rfl,b2,l2,pa2,F,ds,xs,ps,ss,rfl,bk8,lw8,B,pa8,st8,wk,.inl ⟨psl,fun fo fas H9 s9 nfo hfo pfo=>?_⟩⟩
 dsimp only [gName]
 have xsl:=stepped_len xs ss
 refine ⟨_,rfl,_,"list",true,rfl,(by decide),.inl ⟨⟨_,SqL.of hfo⟩,rfl⟩,_,rfl,?_⟩
 refine iteF ?_
 refine ⟨_,rfl,_,rfl,⟨_,SqL.of hfo⟩,lc_list (K:=K) (a:=fo) (xs:=fas.map V.ref) (fun i ys HA=>Same H9 HA∧ys=(List.replicate i true).map V.bl) ⟨Same.refl _,rfl⟩ (fun i ys HA _ g=>SqL.of (g.1 _ _ hfo)) ?_ ?_ ?_⟩
 ·rintro i ys HA hi ⟨_,rfl⟩
  rw [List.length_map] at hi
  rw [List.length_map,List.length_replicate]
  have:=pfo.1
  exact Nat.lt_of_lt_of_le (show i < 1000 by omega) (small (Nat.le_refl _))
 ·rintro i y ys HA hi ⟨sA,rfl⟩
  rw [List.getElem?_map] at hi
  obtain ⟨fb,efb,rfl⟩:=Option.map_eq_some_iff.mp hi
  have hix:i < (stepped xs ss).length:=by rw [← pfo.1]; exact (List.getElem?_eq_some_iff.mp efb).1
  refine yes_go ?_
  refine ⟨_,rfl,fb,_,rfl,sA.tup (pfo.2 i fb _ efb (List.getElem?_eq_getElem hix)),fun HB sB=>?_⟩
  refine ⟨sA.trans sB,?_⟩
  rw [List.replicate_succ',List.map_append]
  rfl
 rintro ys HA ⟨sA,rfl⟩ p9 hp9
 have sB:=same_new hp9 (.lst ((List.replicate (fas.map V.ref).length true).map V.bl))
 refine ⟨p9,_,rfl,.inl (SqL.of upd_same),rfl,bls_flat _,_,rfl,?_⟩
 rw [no_false]
 refine iteF ?_
 dsimp only [tNext]
 generalize upd HA p9 (.lst ((List.replicate (fas.map V.ref).length true).map V.bl))=HB at sB ⊢
 have x9:=sA.trans sB
 have vB:=v8.trans (s9.trans x9)
 have uB:=u4.trans vB
 have y9:=s9.trans x9
 have hfoB:=x9 _ _ hfo
 have ql:=A.len
 have qlast:qs[ss.length]? = some (qs[ss.length]'(by omega)):=List.getElem?_eq_getElem (by omega)
 generalize qs[ss.length]'(by omega)=lq at qlast
 obtain ⟨las,hlq,plq⟩:=A.at' ss.length lq qlast
 rw [List.take_length] at plq
 have atl:atI (qs.map V.ref) (-1)=some (V.ref lq):=by
  unfold atI
  rw [List.length_map,ix_last qs.length (by omega)]
  show (qs.map V.ref)[qs.length - 1]? = _
  rw [List.getElem?_map,show qs.length - 1=ss.length by omega,qlast]
  rfl
 refine ⟨_,rfl,_,rfl,_,_,_,_,rfl,rfl,vB.tup hdq,rfl,_,rfl,_,_,_,_,rfl,rfl,SqL.of (vB _ _ hah),atl,1,fo,lq,fas.map V.ref,las.map V.ref,by decide,rfl,rfl,.inl ⟨SqL.of hfoB,SqL.of (vB _ _ hlq)⟩,(by rw [List.length_map,List.length_map,pfo.1,plq.1]),PlsA.dq (pfo.same x9) (plq.same vB),_,rfl,?_⟩
 refine iteF ?_
 refine ⟨_,rfl,_,rfl,_,rfl,_,rfl,(show 3≤sizeLine by decide),fun pC hpC=>?_⟩
 have sC:=same_new hpC (.tup [V.ref ba,V.ref la,V.ref pp])
 have vC:=vB.trans sC
 have yC:=y9.trans sC
 refine ⟨4,hd,pC,_,_,by decide,rfl,rfl,.inr ⟨yC.tup h8,SqT.of upd_same⟩,rfl,fun i x y e1 e2=>?_,_,rfl,?_⟩
 ·match i,e1,e2 with
  | 0,e1,e2=>cases e1; cases e2; exact dq_book ((w8.trans yC).tup k1) (vC.tup hb) (k4.same (w8.trans yC)) (vC.seq hw) ((w8.trans yC).seq k2)
  | 1,e1,e2=>cases e1; cases e2; exact dq_refs (SqL.of ((s7.trans (s8.trans yC)) _ _ h6)) ((u4.trans vC).seq hlo)
  | 2,e1,e2=>cases e1; cases e2; exact dq_lists rv (SqL.of ((s8.trans yC) _ _ h7)) (SqL.of (vC _ _ hpp))
  | i+3,e1,_=>exact absurd e1 (by simp)
 refine iteF ?_
 dsimp only [tNext]
 generalize upd HB pC (.tup [V.ref ba,V.ref la,V.ref pp])=HC at sC vC yC ⊢
 have uC:=u4.trans vC
 have tC:=t4.trans vC
 refine ⟨_,rfl,_,rfl,_,rfl,_,rfl,_,_,_,_,rfl,rfl,vC.tup hdq,rfl,sa,ba,pp,ah,ns,F,ds,xs,ps,ss,qs,rfl,tC.seq hS,hbk4.same vC,SqL.of (vC _ _ hpp),hst.same vC,wk,SqL.of (vC _ _ hah),A.same vC,Bm,dp,s40,fun bq at_ rest bd ya k i j y HD sD al hbq rr hbd hya bad=>?_⟩
 dsimp only [gName]
 have vD:=vC.trans sD
 have uD:=uC.trans sD
 have tl:(ps.take at_).length=(ss.take at_).length:=by rw [List.length_take,List.length_take,psl]
 have ssl:(ss.take at_).length=at_:=by rw [List.length_take]; omega
 have rv2:RefsV (ps.take at_++([V.ref bd]++rest)):=fun p hp=>by
  rcases List.mem_append.mp hp with hp | hp
  ·exact rv p (List.mem_of_mem_take hp)
  ·rcases List.mem_append.mp hp with hp | hp
   ·exact ⟨bd,List.mem_singleton.mp hp⟩
   ·exact rr p hp
 have tk2:(ps.take at_++([V.ref bd]++rest)).take (ss.take at_).length=ps.take at_:=by rw [← tl,List.take_left']; rfl
 have ge2:(ps.take at_++([V.ref bd]++rest))[(ss.take at_).length]? = some (V.ref bd):=by
  rw [List.getElem?_append_right (by omega),tl,Nat.sub_self]
  rfl
 have st2:StpA K HD ((ps.take at_++([V.ref bd]++rest)).take (ss.take at_).length) (ss.take at_):=by rw [tk2]; exact (hst.same vD).take' at_
 refine ⟨_,rfl,_,rfl,_,rfl,ba,la,bq,F,ds,xs,_,ss.take at_,bd,ya,k,i,j,y,rfl,hbk4.same vD,hlw0.same uD,B,hbq,rv2,st2,wk.take' at_,ge2,hbd,hya,Bm at_ al,bad,fun HE sE=>?_⟩
 refine ⟨_,rfl,?_⟩
 refine iteF ?_
 have vE:=vD.trans sE
 refine ⟨_,rfl,_,rfl,_,rfl,ba,la,bq,F,ds,xs,_,ss.take at_,bd,ya,k,i,j,y,rfl,hbk4.same vE,hlw0.same (uD.trans sE),B,sE.seq hbq,rv2,st2.same sE,wk.take' at_,ge2,sE.tup hbd,sE.tup hya,Bm at_ al,bad,fun HG sG=>?_⟩
 refine ⟨_,rfl,?_⟩
 refine iteF ?_
 dsimp only [tNext]
 have zG:=sC.trans (sD.trans (sE.trans sG))
 have yG:=y9.trans zG
 have vG:=vB.trans zG
 have uG:=uB.trans zG
 have hfoG:=zG _ _ hfoB
 refine ⟨_,rfl,_,_,_,_,rfl,rfl,yG.tup h8,rfl,_,rfl,_,_,_,_,rfl,rfl,yG.tup h8,rfl,_,rfl,_,_,_,_,rfl,rfl,yG.tup h8,rfl,b2,l2,pa2,F,ds,xs,ps,ss,rfl,bk8.same yG,lw8.same yG,B,yG.seq pa8,st8.same yG,wk,.inl ⟨psl,fun f2 f2s HI sI nf2 hf2 pf2=>?_⟩⟩
 refine ⟨_,rfl,1,f2,fo,f2s.map V.ref,fas.map V.ref,by decide,rfl,rfl,.inl ⟨SqL.of hf2,SqL.of (sI _ _ hfoG)⟩,(by rw [List.length_map,List.length_map,pf2.1,pfo.1]),PlsA.dq pf2 (pfo.same (x9.trans (zG.trans sI))),_,rfl,?_⟩
 refine iteF ?_
 dsimp only [tNext]
 have yI:=yG.trans sI
 have uI:=uG.trans sI
 refine ⟨_,rfl,_,rfl,_,_,_,_,rfl,rfl,yI.tup h8,rfl,Nat.zero_le _,fun pJ hpJ=>?_⟩
 have sJ:=same_new hpJ (.lst [])
 have hJ:(upd HI pJ (.lst [])) pJ=some (.lst []):=upd_same
 generalize upd HI pJ (.lst [])=HJ at sJ hJ ⊢
 have yJ:=yI.trans sJ
 refine ⟨ba,l2,pJ,F,ds,xs,[],[],rfl,hbk4.same (vG.trans (sI.trans sJ)),lw8.same yJ,B,SqL.of hJ,⟨rfl,fun n p s e=>by simp at e⟩,(fun n s e=>by simp at e),.inl ⟨rfl,fun tq tas HK sK ntq htq ptq=>?_⟩⟩
 dsimp only [gName]
 have uK:=uI.trans (sJ.trans sK)
 have yK:=yJ.trans sK
 refine ⟨_,rfl,_,rfl,1,tq,la,tas.map V.ref,los.map V.ref,by decide,rfl,rfl,.inl ⟨SqL.of htq,uK.seq hlo⟩,(by rw [List.length_map,List.length_map,ptq.1,hlos.1]; rfl),PlsA.dq ptq (hlos.same uK),_,rfl,?_⟩
 refine iteF ?_
 dsimp only [tNext]
 refine ⟨_,rfl,.inl ⟨rfl,_,SqL.of htq⟩,le2,fun pL hpL=>?_⟩
 have sL:=same_new hpL (.tup [V.int 0,V.int 0])
 have htL:=sL _ _ htq
 have tal:tas.length≤8:=by have:=ptq.1; have e:(stepped xs []).length=xs.length:=rfl; omega
 refine ⟨_,_,_,rfl,rfl,htL,(by rw [List.length_map]; exact Nat.lt_of_lt_of_le (show tas.length < 1000 by omega) (small (Nat.le_refl _))),?_⟩
 have hfoL:(upd (upd HK pL (.tup [V.int 0,V.int 0])) tq (.lst (tas.map V.ref++[V.ref pL]))) fo=some (.lst (fas.map V.ref)):=by
  rw [upd_ne (ne_of_none ((sI.trans sJ) _ _ hfoG) ntq)]
  exact (sI.trans (sJ.trans (sK.trans sL))) _ _ hfoG
 have yM:Same H8 (upd (upd HK pL (.tup [V.int 0,V.int 0])) tq (.lst (tas.map V.ref++[V.ref pL]))):=(yK.trans sL).put (yJ.free ntq)
 change _
 generalize upd (upd HK pL (.tup [V.int 0,V.int 0])) tq (.lst (tas.map V.ref++[V.ref pL]))=HM at hfoL yM ⊢
 refine ⟨_,rfl,.inl ⟨rfl,_,SqL.of hfoL⟩,fo,_,rfl,rfl,hfoL,?_⟩
 have yN:Same H8 (upd HM fo (.lst [])):=yM.put nfo
 generalize upd HM fo (.lst [])=HN at yN ⊢
 have vN:=v8.trans yN
 have uN:=u4.trans vN
 refine ⟨_,rfl,_,_,_,_,rfl,rfl,yN.tup h8,rfl,_,rfl,0,l2,la,los.map V.ref,los.map V.ref,by decide,rfl,rfl,.inl ⟨SqL.of ((s7.trans (s8.trans yN)) _ _ h6),uN.seq hlo⟩,rfl,refs_dq (refs_refs los),_,rfl,?_⟩
 refine iteT ?_
 refine ⟨_,rfl,_,rfl,_,rfl,ba,la,pp,F,ds,xs,ps,ss,rfl,hbk4.same vN,hlw0.same uN,B,SqL.of (vN _ _ hpp),stk.same vN,wk,.inl ⟨psl,fun gq gas HO sO ngq hgq pgq=>?_⟩⟩
 have vO:=vN.trans sO
 refine ⟨_,rfl,_,_,_,_,rfl,rfl,vO.tup hdq,rfl,_,rfl,_,_,_,_,rfl,rfl,SqL.of (vO _ _ hah),atl,1,gq,lq,gas.map V.ref,las.map V.ref,by decide,rfl,rfl,.inl ⟨SqL.of hgq,SqL.of (vO _ _ hlq)⟩,(by rw [List.length_map,List.length_map,pgq.1,plq.1]),PlsA.dq pgq (plq.same vO),?_⟩
 exact q _
end
noncomputable abbrev fdA (n:Str) (s:Stmt) (d kV dc pm:Value) (an:Option Addr) (cd ct:Value) : FuncData:=PySem.W.fnOf n n (defArgs s) (defBody s) (defScope s) d kV dc pm an cd ct
abbrev Na (K:PySem.W.Frag) (n:Str) (f:Addr) : Prop:=PySem.W.nsIn K mainGlobals n=some (some (.ref f))
abbrev Lk (K:PySem.W.Frag) (f:Addr) (n:Str) (s:Stmt) (d oc:Value) (od:Option Addr) (sl:Array (Option Value)) (kV dc pm:Value) (an:Option Addr) (cd ct:Value) : Prop:=K.lookup f=some ⟨oc,od,.func (fdA n s d kV dc pm an cd ct),sl⟩
abbrev Cd (K:PySem.W.Frag) (c:Value) (n:Str) : Prop:=PySem.W.codeIn K c n=true
abbrev Kp (K:PySem.W.Frag) (f:Addr) : Prop:=PySem.W.keepIn K (.ref f)=true
abbrev Zn (K:PySem.W.Frag) (n:Str) : Prop:=PySem.W.nsIn K mainGlobals n=some none
theorem us1 {us:List Value} (h:us.length=1) : ∃ a0,us=[a0]:=by
 match us,h with
 | [a0],_=>exact ⟨a0,rfl⟩
theorem us2 {us:List Value} (h:us.length=2) : ∃ a0 a1,us=[a0,a1]:=by
 match us,h with
 | [a0,a1],_=>exact ⟨a0,a1,rfl⟩
theorem us3 {us:List Value} (h:us.length=3) : ∃ a0 a1 a2,us=[a0,a1,a2]:=by
 match us,h with
 | [a0,a1,a2],_=>exact ⟨a0,a1,a2,rfl⟩
theorem us4 {us:List Value} (h:us.length=4) : ∃ a0 a1 a2 a3,us=[a0,a1,a2,a3]:=by
 match us,h with
 | [a0,a1,a2,a3],_=>exact ⟨a0,a1,a2,a3,rfl⟩
theorem us5 {us:List Value} (h:us.length=5) : ∃ a0 a1 a2 a3 a4,us=[a0,a1,a2,a3,a4]:=by
 match us,h with
 | [a0,a1,a2,a3,a4],_=>exact ⟨a0,a1,a2,a3,a4,rfl⟩
theorem txt_mk {P:Program} {w:World} {K:PySem.W.Frag} {h:Heap} {mg:Str→Option Value} (X:K.In h) (G:h.Ns mainGlobals mg)
  {od0 an0 od1 an1 od2 an2 od3 an3 od4 an4 od5 an5 od6 an6 od7 an7 od8 an8 od9 an9 od10 an10 od11 an11 od12 an12 od13 an13 od14 an14 od15 an15 od16 an16 od17 an17 od18 an18 od19 an19 od20 an20 od21 an21 od22 an22 od23 an23 od24 an24 od25 an25 od26 an26 od27 an27 od28 an28 od29 an29 od30 an30 od31 an31 od32 an32 od33 an33 od34 an34 od35 an35 od36 an36 od37 an37 od38 an38 od39 an39 od40 an40 od41 an41 od42 an42 od43 an43:Option Addr} {sl0 sl1 sl2 sl3 sl4 sl5 sl6 sl7 sl8 sl9 sl10 sl11 sl12 sl13 sl14 sl15 sl16 sl17 sl18 sl19 sl20 sl21 sl22 sl23 sl24 sl25 sl26 sl27 sl28 sl29 sl30 sl31 sl32 sl33 sl34 sl35 sl36 sl37 sl38 sl39 sl40 sl41 sl42 sl43:Array (Option Value)} {oc0 kV0 dc0 pm0 cd0 ct0 oc1 kV1 dc1 pm1 cd1 ct1 oc2 kV2 dc2 pm2 cd2 ct2 oc3 kV3 dc3 pm3 cd3 ct3 oc4 kV4 dc4 pm4 cd4 ct4 oc5 kV5 dc5 pm5 cd5 ct5 oc6 kV6 dc6 pm6 cd6 ct6 oc7 kV7 dc7 pm7 cd7 ct7 oc8 kV8 dc8 pm8 cd8 ct8 oc9 kV9 dc9 pm9 cd9 ct9 oc10 kV10 dc10 pm10 cd10 ct10 oc11 kV11 dc11 pm11 cd11 ct11 oc12 kV12 dc12 pm12 cd12 ct12 oc13 kV13 dc13 pm13 cd13 ct13 oc14 kV14 dc14 pm14 cd14 ct14 oc15 kV15 dc15 pm15 cd15 ct15 oc16 kV16 dc16 pm16 cd16 ct16 oc17 kV17 dc17 pm17 cd17 ct17 oc18 kV18 dc18 pm18 cd18 ct18 oc19 kV19 dc19 pm19 cd19 ct19 oc20 kV20 dc20 pm20 cd20 ct20 oc21 kV21 dc21 pm21 cd21 ct21 oc22 kV22 dc22 pm22 cd22 ct22 oc23 kV23 dc23 pm23 cd23 ct23 oc24 kV24 dc24 pm24 cd24 ct24 oc25 kV25 dc25 pm25 cd25 ct25 oc26 kV26 dc26 pm26 cd26 ct26 oc27 kV27 dc27 pm27 cd27 ct27 oc28 kV28 dc28 pm28 cd28 ct28 oc29 kV29 dc29 pm29 cd29 ct29 oc30 kV30 dc30 pm30 cd30 ct30 oc31 kV31 dc31 pm31 cd31 ct31 oc32 kV32 dc32 pm32 cd32 ct32 oc33 kV33 dc33 pm33 cd33 ct33 oc34 kV34 dc34 pm34 cd34 ct34 oc35 kV35 dc35 pm35 cd35 ct35 oc36 kV36 dc36 pm36 cd36 ct36 oc37 kV37 dc37 pm37 cd37 ct37 oc38 kV38 dc38 pm38 cd38 ct38 oc39 kV39 dc39 pm39 cd39 ct39 oc40 kV40 dc40 pm40 cd40 ct40 oc41 kV41 dc41 pm41 cd41 ct41 oc42 kV42 dc42 pm42 cd42 ct42 oc43 kV43 dc43 pm43 cd43 ct43:Value} {f0 f1 f2 f3 f4 f5 f6 f7 f8 f9 f10 f11 f12 f13 f14 f15 f16 f17 f18 f19 f20 f21 f22 f23 f24 f25 f26 f27 f28 f29 f30 f31 f32 f33 f34 f35 f36 f37 f38 f39 f40 f41 f42 f43:Addr}
  (a0:Na K "_law_cell_at" f0) (l0:Lk K f0 "_law_cell_at" s_l_cell_at .none oc0 od0 sl0 kV0 dc0 pm0 an0 cd0 ct0) (c0:Cd K cd0 "_law_cell_at") (k0:Kp K f0)
  (a1:Na K "_law_first" f1) (l1:Lk K f1 "_law_first" s_l_first .none oc1 od1 sl1 kV1 dc1 pm1 an1 cd1 ct1) (c1:Cd K cd1 "_law_first") (k1:Kp K f1)
  (a2:Na K "_law_form" f2) (l2:Lk K f2 "_law_form" s_l_form .none oc2 od2 sl2 kV2 dc2 pm2 an2 cd2 ct2) (c2:Cd K cd2 "_law_form") (k2:Kp K f2)
  (a3:Na K "_law_text" f3) (l3:Lk K f3 "_law_text" s_l_text .none oc3 od3 sl3 kV3 dc3 pm3 an3 cd3 ct3) (c3:Cd K cd3 "_law_text") (k3:Kp K f3)
  (a4:Na K "_law_saying" f4) (l4:Lk K f4 "_law_saying" s_l_saying .none oc4 od4 sl4 kV4 dc4 pm4 an4 cd4 ct4) (c4:Cd K cd4 "_law_saying") (k4:Kp K f4)
  (a5:Na K "_law_stream" f5) (l5:Lk K f5 "_law_stream" s_l_stream .none oc5 od5 sl5 kV5 dc5 pm5 an5 cd5 ct5) (c5:Cd K cd5 "_law_stream") (k5:Kp K f5)
  (a6:Na K "_law_word" f6) (l6:Lk K f6 "_law_word" s_l_word .none oc6 od6 sl6 kV6 dc6 pm6 an6 cd6 ct6) (c6:Cd K cd6 "_law_word") (k6:Kp K f6)
  (a7:Na K "_law_book" f7) (l7:Lk K f7 "_law_book" s_l_book .none oc7 od7 sl7 kV7 dc7 pm7 an7 cd7 ct7) (c7:Cd K cd7 "_law_book") (k7:Kp K f7)
  (a8:Na K "_law_copy" f8) (l8:Lk K f8 "_law_copy" s_l_copy .none oc8 od8 sl8 kV8 dc8 pm8 an8 cd8 ct8) (c8:Cd K cd8 "_law_copy") (k8:Kp K f8)
  (a9:Na K "_law_behind" f9) (l9:Lk K f9 "_law_behind" s_l_behind .none oc9 od9 sl9 kV9 dc9 pm9 an9 cd9 ct9) (c9:Cd K cd9 "_law_behind") (k9:Kp K f9)
  (a10:Na K "_law_low" f10) (l10:Lk K f10 "_law_low" s_l_low .none oc10 od10 sl10 kV10 dc10 pm10 an10 cd10 ct10) (c10:Cd K cd10 "_law_low") (k10:Kp K f10)
  (a11:Na K "_law_from" f11) (l11:Lk K f11 "_law_from" s_l_from .none oc11 od11 sl11 kV11 dc11 pm11 an11 cd11 ct11) (c11:Cd K cd11 "_law_from") (k11:Kp K f11)
  (a12:Na K "_law_said" f12) (l12:Lk K f12 "_law_said" s_l_said .none oc12 od12 sl12 kV12 dc12 pm12 an12 cd12 ct12) (c12:Cd K cd12 "_law_said") (k12:Kp K f12)
  (a13:Na K "_law_high" f13) (l13:Lk K f13 "_law_high" s_l_high .none oc13 od13 sl13 kV13 dc13 pm13 an13 cd13 ct13) (c13:Cd K cd13 "_law_high") (k13:Kp K f13)
  (a14:Na K "_law_reach" f14) (l14:Lk K f14 "_law_reach" s_l_reach .none oc14 od14 sl14 kV14 dc14 pm14 an14 cd14 ct14) (c14:Cd K cd14 "_law_reach") (k14:Kp K f14)
  (a15:Na K "_law_paper" f15) (l15:Lk K f15 "_law_paper" s_l_paper .none oc15 od15 sl15 kV15 dc15 pm15 an15 cd15 ct15) (c15:Cd K cd15 "_law_paper") (k15:Kp K f15)
  (a16:Na K "_law_whole" f16) (l16:Lk K f16 "_law_whole" s_l_whole .none oc16 od16 sl16 kV16 dc16 pm16 an16 cd16 ct16) (c16:Cd K cd16 "_law_whole") (k16:Kp K f16)
  (a17:Na K "_law_place" f17) (l17:Lk K f17 "_law_place" s_l_place .none oc17 od17 sl17 kV17 dc17 pm17 an17 cd17 ct17) (c17:Cd K cd17 "_law_place") (k17:Kp K f17)
  (a18:Na K "figures_of" f18) (l18:Lk K f18 "figures_of" s_figures_of .none oc18 od18 sl18 kV18 dc18 pm18 an18 cd18 ct18) (c18:Cd K cd18 "figures_of") (k18:Kp K f18)
  (a19:Na K "said" f19) (l19:Lk K f19 "said" s_said .none oc19 od19 sl19 kV19 dc19 pm19 an19 cd19 ct19) (c19:Cd K cd19 "said") (k19:Kp K f19)
  (a20:Na K "foot_rows" f20) (l20:Lk K f20 "foot_rows" s_foot_rows .none oc20 od20 sl20 kV20 dc20 pm20 an20 cd20 ct20) (c20:Cd K cd20 "foot_rows") (k20:Kp K f20)
  (a21:Na K "foot_high" f21) (l21:Lk K f21 "foot_high" s_foot_high .none oc21 od21 sl21 kV21 dc21 pm21 an21 cd21 ct21) (c21:Cd K cd21 "foot_high") (k21:Kp K f21)
  (a22:Na K "highs_of" f22) (l22:Lk K f22 "highs_of" s_highs_of .none oc22 od22 sl22 kV22 dc22 pm22 an22 cd22 ct22) (c22:Cd K cd22 "highs_of") (k22:Kp K f22)
  (a23:Na K "together" f23) (l23:Lk K f23 "together" s_together .none oc23 od23 sl23 kV23 dc23 pm23 an23 cd23 ct23) (c23:Cd K cd23 "together") (k23:Kp K f23)
  (a24:Na K "next_top" f24) (l24:Lk K f24 "next_top" s_next_top .none oc24 od24 sl24 kV24 dc24 pm24 an24 cd24 ct24) (c24:Cd K cd24 "next_top") (k24:Kp K f24)
  (a25:Na K "first_from" f25) (l25:Lk K f25 "first_from" s_first_from .none oc25 od25 sl25 kV25 dc25 pm25 an25 cd25 ct25) (c25:Cd K cd25 "first_from") (k25:Kp K f25)
  (a26:Na K "rows_on" f26) (l26:Lk K f26 "rows_on" s_rows_on .none oc26 od26 sl26 kV26 dc26 pm26 an26 cd26 ct26) (c26:Cd K cd26 "rows_on") (k26:Kp K f26)
  (a27:Na K "behind" f27) (l27:Lk K f27 "behind" s_behind .none oc27 od27 sl27 kV27 dc27 pm27 an27 cd27 ct27) (c27:Cd K cd27 "behind") (k27:Kp K f27)
  (a28:Na K "later" f28) (l28:Lk K f28 "later" s_later .none oc28 od28 sl28 kV28 dc28 pm28 an28 cd28 ct28) (c28:Cd K cd28 "later") (k28:Kp K f28)
  (a29:Na K "told_behind" f29) (l29:Lk K f29 "told_behind" s_told_behind .none oc29 od29 sl29 kV29 dc29 pm29 an29 cd29 ct29) (c29:Cd K cd29 "told_behind") (k29:Kp K f29)
  (a30:Na K "told_high" f30) (l30:Lk K f30 "told_high" s_told_high .none oc30 od30 sl30 kV30 dc30 pm30 an30 cd30 ct30) (c30:Cd K cd30 "told_high") (k30:Kp K f30)
  (a31:Na K "told_kept" f31) (l31:Lk K f31 "told_kept" s_told_kept .none oc31 od31 sl31 kV31 dc31 pm31 an31 cd31 ct31) (c31:Cd K cd31 "told_kept") (k31:Kp K f31)
  (a32:Na K "wide_of" f32) (l32:Lk K f32 "wide_of" s_wide_of .none oc32 od32 sl32 kV32 dc32 pm32 an32 cd32 ct32) (c32:Cd K cd32 "wide_of") (k32:Kp K f32)
  (a33:Na K "told_never" f33) (l33:Lk K f33 "told_never" s_told_never .none oc33 od33 sl33 kV33 dc33 pm33 an33 cd33 ct33) (c33:Cd K cd33 "told_never") (k33:Kp K f33)
  (a34:Na K "told_wide" f34) (l34:Lk K f34 "told_wide" s_told_wide .none oc34 od34 sl34 kV34 dc34 pm34 an34 cd34 ct34) (c34:Cd K cd34 "told_wide") (k34:Kp K f34)
  (a35:Na K "wides_of" f35) (l35:Lk K f35 "wides_of" s_wides_of .none oc35 od35 sl35 kV35 dc35 pm35 an35 cd35 ct35) (c35:Cd K cd35 "wides_of") (k35:Kp K f35)
  (a36:Na K "told_by_kind" f36) (l36:Lk K f36 "told_by_kind" s_told_by_kind .none oc36 od36 sl36 kV36 dc36 pm36 an36 cd36 ct36) (c36:Cd K cd36 "told_by_kind") (k36:Kp K f36)
  (a37:Na K "reach" f37) (l37:Lk K f37 "reach" s_reach .none oc37 od37 sl37 kV37 dc37 pm37 an37 cd37 ct37) (c37:Cd K cd37 "reach") (k37:Kp K f37)
  (a38:Na K "walked" f38) (l38:Lk K f38 "walked" s_walked .none oc38 od38 sl38 kV38 dc38 pm38 an38 cd38 ct38) (c38:Cd K cd38 "walked") (k38:Kp K f38)
  (a39:Na K "_law_refused" f39) (l39:Lk K f39 "_law_refused" s_l_refused .none oc39 od39 sl39 kV39 dc39 pm39 an39 cd39 ct39) (c39:Cd K cd39 "_law_refused") (k39:Kp K f39)
  (a40:Na K "_law_refused_by_base" f40) (l40:Lk K f40 "_law_refused_by_base" s_l_refused_by_base .none oc40 od40 sl40 kV40 dc40 pm40 an40 cd40 ct40) (c40:Cd K cd40 "_law_refused_by_base") (k40:Kp K f40)
  (a41:Na K "_law_less" f41) (l41:Lk K f41 "_law_less" s_l_less .none oc41 od41 sl41 kV41 dc41 pm41 an41 cd41 ct41) (c41:Cd K cd41 "_law_less") (k41:Kp K f41)
  (a42:Na K "_law_spoiled" f42) (l42:Lk K f42 "_law_spoiled" s_l_spoiled .none oc42 od42 sl42 kV42 dc42 pm42 an42 cd42 ct42) (c42:Cd K cd42 "_law_spoiled") (k42:Kp K f42)
  (a43:Na K "law" f43) (l43:Lk K f43 "law" s_law .none oc43 od43 sl43 kV43 dc43 pm43 an43 cd43 ct43) (c43:Cd K cd43 "law") (k43:Kp K f43)
  (z_ValueError:Zn K "ValueError")
  (z_any:Zn K "any")
  (z_bool:Zn K "bool")
  (z_int:Zn K "int")
  (z_isinstance:Zn K "isinstance")
  (z_len:Zn K "len")
  (z_list:Zn K "list")
  (z_max:Zn K "max")
  (z_min:Zn K "min")
  (z_range:Zn K "range")
  (z_str:Zn K "str")
  (z_sum:Zn K "sum")
  (z_tuple:Zn K "tuple")
  {c_BadPaper:Addr} (m_BadPaper:PySem.W.nsIn K mainGlobals "BadPaper" = some (some (.ref c_BadPaper))) (e_BadPaper:PySem.W.excIn K c_BadPaper veTail "ValueError.__new__" = true)
  {c_BadWord:Addr} (m_BadWord:PySem.W.nsIn K mainGlobals "BadWord" = some (some (.ref c_BadWord))) (e_BadWord:PySem.W.excIn K c_BadWord veTail "ValueError.__new__" = true)
  {c_NoLaying:Addr} (m_NoLaying:PySem.W.nsIn K mainGlobals "NoLaying" = some (some (.ref c_NoLaying))) (e_NoLaying:PySem.W.excIn K c_NoLaying veTail "ValueError.__new__" = true)
  {c_TrueleafError:Addr} (m_TrueleafError:PySem.W.nsIn K mainGlobals "TrueleafError" = some (some (.ref c_TrueleafError))) (e_TrueleafError:PySem.W.excIn K c_TrueleafError veTail "ValueError.__new__" = true)
  (t_BadPaper_BadPaper:Takes K c_BadPaper c_BadPaper)
  (t_BadPaper_TrueleafError:Takes K c_BadPaper c_TrueleafError)
  (lk_BadPaper:excLk K c_BadPaper=true)
  (ki_BadPaper_BadWord:PySem.W.kitOne K (.ref c_BadPaper) (.ref c_BadWord)=some false)
  (ki_BadPaper_NoLaying:PySem.W.kitOne K (.ref c_BadPaper) (.ref c_NoLaying)=some false)
  (ki_BadPaper_ValueError:PySem.W.kitOne K (.ref c_BadPaper) (.type "ValueError")=some true) :
  ∃ a:Adr,Txt P w K mg a:=by
 refine ⟨{ f_l_cell_at:=f0,fd_l_cell_at:=fdA "_law_cell_at" s_l_cell_at .none kV0 dc0 pm0 an0 cd0 ct0,f_l_first:=f1,fd_l_first:=fdA "_law_first" s_l_first .none kV1 dc1 pm1 an1 cd1 ct1,f_l_form:=f2,fd_l_form:=fdA "_law_form" s_l_form .none kV2 dc2 pm2 an2 cd2 ct2,f_l_text:=f3,fd_l_text:=fdA "_law_text" s_l_text .none kV3 dc3 pm3 an3 cd3 ct3,f_l_saying:=f4,fd_l_saying:=fdA "_law_saying" s_l_saying .none kV4 dc4 pm4 an4 cd4 ct4,f_l_stream:=f5,fd_l_stream:=fdA "_law_stream" s_l_stream .none kV5 dc5 pm5 an5 cd5 ct5,f_l_word:=f6,fd_l_word:=fdA "_law_word" s_l_word .none kV6 dc6 pm6 an6 cd6 ct6,f_l_book:=f7,fd_l_book:=fdA "_law_book" s_l_book .none kV7 dc7 pm7 an7 cd7 ct7,f_l_copy:=f8,fd_l_copy:=fdA "_law_copy" s_l_copy .none kV8 dc8 pm8 an8 cd8 ct8,f_l_behind:=f9,fd_l_behind:=fdA "_law_behind" s_l_behind .none kV9 dc9 pm9 an9 cd9 ct9,f_l_low:=f10,fd_l_low:=fdA "_law_low" s_l_low .none kV10 dc10 pm10 an10 cd10 ct10,f_l_from:=f11,fd_l_from:=fdA "_law_from" s_l_from .none kV11 dc11 pm11 an11 cd11 ct11,f_l_said:=f12,fd_l_said:=fdA "_law_said" s_l_said .none kV12 dc12 pm12 an12 cd12 ct12,f_l_high:=f13,fd_l_high:=fdA "_law_high" s_l_high .none kV13 dc13 pm13 an13 cd13 ct13,f_l_reach:=f14,fd_l_reach:=fdA "_law_reach" s_l_reach .none kV14 dc14 pm14 an14 cd14 ct14,f_l_paper:=f15,fd_l_paper:=fdA "_law_paper" s_l_paper .none kV15 dc15 pm15 an15 cd15 ct15,f_l_whole:=f16,fd_l_whole:=fdA "_law_whole" s_l_whole .none kV16 dc16 pm16 an16 cd16 ct16,f_l_place:=f17,fd_l_place:=fdA "_law_place" s_l_place .none kV17 dc17 pm17 an17 cd17 ct17,f_figures_of:=f18,fd_figures_of:=fdA "figures_of" s_figures_of .none kV18 dc18 pm18 an18 cd18 ct18,f_said:=f19,fd_said:=fdA "said" s_said .none kV19 dc19 pm19 an19 cd19 ct19,f_foot_rows:=f20,fd_foot_rows:=fdA "foot_rows" s_foot_rows .none kV20 dc20 pm20 an20 cd20 ct20,f_foot_high:=f21,fd_foot_high:=fdA "foot_high" s_foot_high .none kV21 dc21 pm21 an21 cd21 ct21,f_highs_of:=f22,fd_highs_of:=fdA "highs_of" s_highs_of .none kV22 dc22 pm22 an22 cd22 ct22,f_together:=f23,fd_together:=fdA "together" s_together .none kV23 dc23 pm23 an23 cd23 ct23,f_next_top:=f24,fd_next_top:=fdA "next_top" s_next_top .none kV24 dc24 pm24 an24 cd24 ct24,f_first_from:=f25,fd_first_from:=fdA "first_from" s_first_from .none kV25 dc25 pm25 an25 cd25 ct25,f_rows_on:=f26,fd_rows_on:=fdA "rows_on" s_rows_on .none kV26 dc26 pm26 an26 cd26 ct26,f_behind:=f27,fd_behind:=fdA "behind" s_behind .none kV27 dc27 pm27 an27 cd27 ct27,f_later:=f28,fd_later:=fdA "later" s_later .none kV28 dc28 pm28 an28 cd28 ct28,f_told_behind:=f29,fd_told_behind:=fdA "told_behind" s_told_behind .none kV29 dc29 pm29 an29 cd29 ct29,f_told_high:=f30,fd_told_high:=fdA "told_high" s_told_high .none kV30 dc30 pm30 an30 cd30 ct30,f_told_kept:=f31,fd_told_kept:=fdA "told_kept" s_told_kept .none kV31 dc31 pm31 an31 cd31 ct31,f_wide_of:=f32,fd_wide_of:=fdA "wide_of" s_wide_of .none kV32 dc32 pm32 an32 cd32 ct32,f_told_never:=f33,fd_told_never:=fdA "told_never" s_told_never .none kV33 dc33 pm33 an33 cd33 ct33,f_told_wide:=f34,fd_told_wide:=fdA "told_wide" s_told_wide .none kV34 dc34 pm34 an34 cd34 ct34,f_wides_of:=f35,fd_wides_of:=fdA "wides_of" s_wides_of .none kV35 dc35 pm35 an35 cd35 ct35,f_told_by_kind:=f36,fd_told_by_kind:=fdA "told_by_kind" s_told_by_kind .none kV36 dc36 pm36 an36 cd36 ct36,f_reach:=f37,fd_reach:=fdA "reach" s_reach .none kV37 dc37 pm37 an37 cd37 ct37,f_walked:=f38,fd_walked:=fdA "walked" s_walked .none kV38 dc38 pm38 an38 cd38 ct38,f_l_refused:=f39,fd_l_refused:=fdA "_law_refused" s_l_refused .none kV39 dc39 pm39 an39 cd39 ct39,f_l_refused_by_base:=f40,fd_l_refused_by_base:=fdA "_law_refused_by_base" s_l_refused_by_base .none kV40 dc40 pm40 an40 cd40 ct40,f_l_less:=f41,fd_l_less:=fdA "_law_less" s_l_less .none kV41 dc41 pm41 an41 cd41 ct41,f_l_spoiled:=f42,fd_l_spoiled:=fdA "_law_spoiled" s_l_spoiled .none kV42 dc42 pm42 an42 cd42 ct42,f_law:=f43,fd_law:=fdA "law" s_law .none kV43 dc43 pm43 an43 cd43 ct43,c_BadPaper:=c_BadPaper,c_BadWord:=c_BadWord,c_NoLaying:=c_NoLaying,c_TrueleafError:=c_TrueleafError },{
  d_l_cell_at:=defok_mk X G a0 l0 c0 k0 fun _ _ _ _ _ _ us hl=>by obtain ⟨_,⟨_,rfl⟩⟩:=us2 hl; rfl,
  d_l_first:=defok_mk X G a1 l1 c1 k1 fun _ _ _ _ _ _ us hl=>by obtain ⟨_,rfl⟩:=us1 hl; rfl,
  d_l_form:=defok_mk X G a2 l2 c2 k2 fun _ _ _ _ _ _ us hl=>by obtain ⟨_,rfl⟩:=us1 hl; rfl,
  d_l_text:=defok_mk X G a3 l3 c3 k3 fun _ _ _ _ _ _ us hl=>by obtain ⟨_,⟨_,⟨_,rfl⟩⟩⟩:=us3 hl; rfl,
  d_l_saying:=defok_mk X G a4 l4 c4 k4 fun _ _ _ _ _ _ us hl=>by obtain ⟨_,⟨_,rfl⟩⟩:=us2 hl; rfl,
  d_l_stream:=defok_mk X G a5 l5 c5 k5 fun _ _ _ _ _ _ us hl=>by obtain ⟨_,⟨_,rfl⟩⟩:=us2 hl; rfl,
  d_l_word:=defok_mk X G a6 l6 c6 k6 fun _ _ _ _ _ _ us hl=>by obtain ⟨_,⟨_,rfl⟩⟩:=us2 hl; rfl,
  d_l_book:=defok_mk X G a7 l7 c7 k7 fun _ _ _ _ _ _ us hl=>by obtain ⟨_,⟨_,rfl⟩⟩:=us2 hl; rfl,
  d_l_copy:=defok_mk X G a8 l8 c8 k8 fun _ _ _ _ _ _ us hl=>by obtain ⟨_,rfl⟩:=us1 hl; rfl,
  d_l_behind:=defok_mk X G a9 l9 c9 k9 fun _ _ _ _ _ _ us hl=>by obtain ⟨_,⟨_,⟨_,rfl⟩⟩⟩:=us3 hl; rfl,
  d_l_low:=defok_mk X G a10 l10 c10 k10 fun _ _ _ _ _ _ us hl=>by obtain ⟨_,⟨_,rfl⟩⟩:=us2 hl; rfl,
  d_l_from:=defok_mk X G a11 l11 c11 k11 fun _ _ _ _ _ _ us hl=>by obtain ⟨_,⟨_,⟨_,rfl⟩⟩⟩:=us3 hl; rfl,
  d_l_said:=defok_mk X G a12 l12 c12 k12 fun _ _ _ _ _ _ us hl=>by obtain ⟨_,⟨_,⟨_,rfl⟩⟩⟩:=us3 hl; rfl,
  d_l_high:=defok_mk X G a13 l13 c13 k13 fun _ _ _ _ _ _ us hl=>by obtain ⟨_,⟨_,⟨_,rfl⟩⟩⟩:=us3 hl; rfl,
  d_l_reach:=defok_mk X G a14 l14 c14 k14 fun _ _ _ _ _ _ us hl=>by obtain ⟨_,⟨_,⟨_,⟨_,⟨_,rfl⟩⟩⟩⟩⟩:=us5 hl; rfl,
  d_l_paper:=defok_mk X G a15 l15 c15 k15 fun _ _ _ _ _ _ us hl=>by obtain ⟨_,⟨_,⟨_,rfl⟩⟩⟩:=us3 hl; rfl,
  d_l_whole:=defok_mk X G a16 l16 c16 k16 fun _ _ _ _ _ _ us hl=>by obtain ⟨_,rfl⟩:=us1 hl; rfl,
  d_l_place:=defok_mk X G a17 l17 c17 k17 fun _ _ _ _ _ _ us hl=>by obtain ⟨_,rfl⟩:=us1 hl; rfl,
  d_figures_of:=defok_mk X G a18 l18 c18 k18 fun _ _ _ _ _ _ us hl=>by obtain ⟨_,rfl⟩:=us1 hl; rfl,
  d_said:=defok_mk X G a19 l19 c19 k19 fun _ _ _ _ _ _ us hl=>by obtain ⟨_,⟨_,⟨_,rfl⟩⟩⟩:=us3 hl; rfl,
  d_foot_rows:=defok_mk X G a20 l20 c20 k20 fun _ _ _ _ _ _ us hl=>by obtain ⟨_,⟨_,⟨_,rfl⟩⟩⟩:=us3 hl; rfl,
  d_foot_high:=defok_mk X G a21 l21 c21 k21 fun _ _ _ _ _ _ us hl=>by obtain ⟨_,⟨_,⟨_,rfl⟩⟩⟩:=us3 hl; rfl,
  d_highs_of:=defok_mk X G a22 l22 c22 k22 fun _ _ _ _ _ _ us hl=>by obtain ⟨_,⟨_,⟨_,⟨_,rfl⟩⟩⟩⟩:=us4 hl; rfl,
  d_together:=defok_mk X G a23 l23 c23 k23 fun _ _ _ _ _ _ us hl=>by obtain ⟨_,rfl⟩:=us1 hl; rfl,
  d_next_top:=defok_mk X G a24 l24 c24 k24 fun _ _ _ _ _ _ us hl=>by obtain ⟨_,rfl⟩:=us1 hl; rfl,
  d_first_from:=defok_mk X G a25 l25 c25 k25 fun _ _ _ _ _ _ us hl=>by obtain ⟨_,⟨_,⟨_,rfl⟩⟩⟩:=us3 hl; rfl,
  d_rows_on:=defok_mk X G a26 l26 c26 k26 fun _ _ _ _ _ _ us hl=>by obtain ⟨_,⟨_,⟨_,rfl⟩⟩⟩:=us3 hl; rfl,
  d_behind:=defok_mk X G a27 l27 c27 k27 fun _ _ _ _ _ _ us hl=>by obtain ⟨_,⟨_,⟨_,rfl⟩⟩⟩:=us3 hl; rfl,
  d_later:=defok_mk X G a28 l28 c28 k28 fun _ _ _ _ _ _ us hl=>by obtain ⟨_,⟨_,rfl⟩⟩:=us2 hl; rfl,
  d_told_behind:=defok_mk X G a29 l29 c29 k29 fun _ _ _ _ _ _ us hl=>by obtain ⟨_,⟨_,⟨_,rfl⟩⟩⟩:=us3 hl; rfl,
  d_told_high:=defok_mk X G a30 l30 c30 k30 fun _ _ _ _ _ _ us hl=>by obtain ⟨_,⟨_,⟨_,⟨_,⟨_,rfl⟩⟩⟩⟩⟩:=us5 hl; rfl,
  d_told_kept:=defok_mk X G a31 l31 c31 k31 fun _ _ _ _ _ _ us hl=>by obtain ⟨_,⟨_,⟨_,rfl⟩⟩⟩:=us3 hl; rfl,
  d_wide_of:=defok_mk X G a32 l32 c32 k32 fun _ _ _ _ _ _ us hl=>by obtain ⟨_,⟨_,⟨_,rfl⟩⟩⟩:=us3 hl; rfl,
  d_told_never:=defok_mk X G a33 l33 c33 k33 fun _ _ _ _ _ _ us hl=>by obtain ⟨_,⟨_,⟨_,rfl⟩⟩⟩:=us3 hl; rfl,
  d_told_wide:=defok_mk X G a34 l34 c34 k34 fun _ _ _ _ _ _ us hl=>by obtain ⟨_,⟨_,⟨_,⟨_,rfl⟩⟩⟩⟩:=us4 hl; rfl,
  d_wides_of:=defok_mk X G a35 l35 c35 k35 fun _ _ _ _ _ _ us hl=>by obtain ⟨_,⟨_,⟨_,⟨_,rfl⟩⟩⟩⟩:=us4 hl; rfl,
  d_told_by_kind:=defok_mk X G a36 l36 c36 k36 fun _ _ _ _ _ _ us hl=>by obtain ⟨_,⟨_,⟨_,⟨_,⟨_,rfl⟩⟩⟩⟩⟩:=us5 hl; rfl,
  d_reach:=defok_mk X G a37 l37 c37 k37 fun _ _ _ _ _ _ us hl=>by obtain ⟨_,⟨_,⟨_,⟨_,⟨_,rfl⟩⟩⟩⟩⟩:=us5 hl; rfl,
  d_walked:=defok_mk X G a38 l38 c38 k38 fun _ _ _ _ _ _ us hl=>by obtain ⟨_,⟨_,⟨_,rfl⟩⟩⟩:=us3 hl; rfl,
  d_l_refused:=defok_mk X G a39 l39 c39 k39 fun _ _ _ _ _ _ us hl=>by obtain ⟨_,⟨_,⟨_,rfl⟩⟩⟩:=us3 hl; rfl,
  d_l_refused_by_base:=defok_mk X G a40 l40 c40 k40 fun _ _ _ _ _ _ us hl=>by obtain ⟨_,⟨_,⟨_,rfl⟩⟩⟩:=us3 hl; rfl,
  d_l_less:=defok_mk X G a41 l41 c41 k41 fun _ _ _ _ _ _ us hl=>by obtain ⟨_,⟨_,rfl⟩⟩:=us2 hl; rfl,
  d_l_spoiled:=defok_mk X G a42 l42 c42 k42 fun _ _ _ _ _ _ us hl=>by obtain ⟨_,⟨_,⟨_,⟨_,rfl⟩⟩⟩⟩:=us4 hl; rfl,
  d_law:=defok_mk X G a43 l43 c43 k43 fun _ _ _ _ _ _ us hl=>by obtain ⟨_,rfl⟩:=us1 hl; rfl,
  z_ValueError:=PySem.W.mg_none_of X G z_ValueError,
  z_any:=PySem.W.mg_none_of X G z_any,
  z_bool:=PySem.W.mg_none_of X G z_bool,
  z_int:=PySem.W.mg_none_of X G z_int,
  z_isinstance:=PySem.W.mg_none_of X G z_isinstance,
  z_len:=PySem.W.mg_none_of X G z_len,
  z_list:=PySem.W.mg_none_of X G z_list,
  z_max:=PySem.W.mg_none_of X G z_max,
  z_min:=PySem.W.mg_none_of X G z_min,
  z_range:=PySem.W.mg_none_of X G z_range,
  z_str:=PySem.W.mg_none_of X G z_str,
  z_sum:=PySem.W.mg_none_of X G z_sum,
  z_tuple:=PySem.W.mg_none_of X G z_tuple,
  x_BadPaper:=⟨PySem.W.mg_of X G m_BadPaper,e_BadPaper⟩,
  x_BadWord:=⟨PySem.W.mg_of X G m_BadWord,e_BadWord⟩,
  x_NoLaying:=⟨PySem.W.mg_of X G m_NoLaying,e_NoLaying⟩,
  x_TrueleafError:=⟨PySem.W.mg_of X G m_TrueleafError,e_TrueleafError⟩,
  t_BadPaper_BadPaper:=t_BadPaper_BadPaper,
  t_BadPaper_TrueleafError:=t_BadPaper_TrueleafError,
  lk_BadPaper:=lk_BadPaper,
  ki_BadPaper_BadWord:=ki_BadPaper_BadWord,
  ki_BadPaper_NoLaying:=ki_BadPaper_NoLaying,
  ki_BadPaper_ValueError:=ki_BadPaper_ValueError }⟩
theorem walk {l:PySem.W.OpenLaw} {q:Program} {loose:List Str} {XP:(Str→Option Value)→Heap→Prop} {YP:World→Heap→Prop} {d:DefRec} {K:Params→PySem.W.Frag} (hn:l.most=some 63) (hdf:d.params.defaults=[]) (hnm:d.name = "law")
  (hY:∀ (w:World) (h:Heap),YP w h→(K w.params).In h)
  (F:∀ (w:World) (mg:Str→Option Value) (h:Heap),(K w.params).In h→h.Ns mainGlobals mg→∃ a:Adr,Txt l.prog w (K w.params) mg a) :
  PySem.W.WalkO q loose XP YP l.row.toRowW d [] (fun f vs=>PySem.call f vs):=
 L2.walk_of (n:=63) (k:=10) (x := "script") (CX:=fun _=>CX0) (sp:=fun w=>sp_law (K w.params)) hn (by decide) hdf ⟨rfl,by decide,by decide⟩ hY (fun w mg fa h KX G hmg=>by
  obtain ⟨a,T⟩:=F w mg h KX G
  have e0:=hmg.symm.trans (hnm ▸ T.d_law.mg)
  cases e0
  refine ⟨a.fd_law,fun s u=>.of_eq (T.d_law.ba [u] rfl),fun base _ _=>ok_law T⟩) (fun _ _ a ns hl _ hS=>⟨a,ns,rfl,hS,hl,fun _=>rfl⟩) fun _ _ _ _ _ z=>z
end K41
open PySem PySem.W PyProof.Rows
set_option maxRecDepth 100000 in
set_option maxHeartbeats 0 in
theorem PySem.Challenge.cw_trueleaf_k41_papers_walked_holds : PySem.Challenge.rw_trueleaf_k41_papers_walked.Holds := by
 w_on; o_law
 refine holds_open (q:=K41.vw) (loose:=K41.ls) (Xt:=K41.xt) (XP:=XL K41.vw []) (Yf:=Hook.obs K41.hk) (Ya:=Hook.val K41.hk) (YP:=InK K41.kk) K41.left
  (Hook.of K41.hk) (Hook.keeps K41.hk) (fun s e=>xl_of s (Bool.and_eq_true_iff.mp e).1) XL.keeps (by rfl) (by rfl) (by rfl)
  (fun s e=>recFacts_of (Bool.and_eq_true_iff.mp e).2) (by rfl) (by assumption) (by decide +kernel) ⟨rfl,rfl,rfl,rfl,rfl,by decide +kernel⟩ ?hw ?hc
 (case hw=>w_witness2)
 k_fill
 refine K41.walk (l:=PySem.Challenge.rw_trueleaf_k41_papers_walked) rfl rfl rfl (fun w h Y=>Y) ?F
 case F =>
  intro w mg h KX G
  refine' K41.txt_mk KX G ?a0 ?l0 ?c0 ?k0 ?a1 ?l1 ?c1 ?k1 ?a2 ?l2 ?c2 ?k2 ?a3 ?l3 ?c3 ?k3 ?a4 ?l4 ?c4 ?k4 ?a5 ?l5 ?c5 ?k5 ?a6 ?l6 ?c6 ?k6 ?a7 ?l7 ?c7 ?k7 ?a8 ?l8 ?c8 ?k8 ?a9 ?l9 ?c9 ?k9 ?a10 ?l10 ?c10 ?k10 ?a11 ?l11 ?c11 ?k11 ?a12 ?l12 ?c12 ?k12 ?a13 ?l13 ?c13 ?k13 ?a14 ?l14 ?c14 ?k14 ?a15 ?l15 ?c15 ?k15 ?a16 ?l16 ?c16 ?k16 ?a17 ?l17 ?c17 ?k17 ?a18 ?l18 ?c18 ?k18 ?a19 ?l19 ?c19 ?k19 ?a20 ?l20 ?c20 ?k20 ?a21 ?l21 ?c21 ?k21 ?a22 ?l22 ?c22 ?k22 ?a23 ?l23 ?c23 ?k23 ?a24 ?l24 ?c24 ?k24 ?a25 ?l25 ?c25 ?k25 ?a26 ?l26 ?c26 ?k26 ?a27 ?l27 ?c27 ?k27 ?a28 ?l28 ?c28 ?k28 ?a29 ?l29 ?c29 ?k29 ?a30 ?l30 ?c30 ?k30 ?a31 ?l31 ?c31 ?k31 ?a32 ?l32 ?c32 ?k32 ?a33 ?l33 ?c33 ?k33 ?a34 ?l34 ?c34 ?k34 ?a35 ?l35 ?c35 ?k35 ?a36 ?l36 ?c36 ?k36 ?a37 ?l37 ?c37 ?k37 ?a38 ?l38 ?c38 ?k38 ?a39 ?l39 ?c39 ?k39 ?a40 ?l40 ?c40 ?k40 ?a41 ?l41 ?c41 ?k41 ?a42 ?l42 ?c42 ?k42 ?a43 ?l43 ?c43 ?k43 ?z_ValueError ?z_any ?z_bool ?z_int ?z_isinstance ?z_len ?z_list ?z_max ?z_min ?z_range ?z_str ?z_sum ?z_tuple ?m_BadPaper ?e_BadPaper ?m_BadWord ?e_BadWord ?m_NoLaying ?e_NoLaying ?m_TrueleafError ?e_TrueleafError ?t_BadPaper_BadPaper ?t_BadPaper_TrueleafError ?lk_BadPaper ?ki_BadPaper_BadWord ?ki_BadPaper_NoLaying ?ki_BadPaper_ValueError
  (case a0 | l0 | c0 | k0 | a1 | l1 | c1 | k1 | a2 | l2 | c2 | k2 | a3 | l3 | c3 | k3 | a4 | l4 | c4 | k4 | a5 | l5 | c5 | k5 | a6 | l6 | c6 | k6 | a7 | l7 | c7 | k7 | a8 | l8 | c8 | k8 | a9 | l9 | c9 | k9 | a10 | l10 | c10 | k10 | a11 | l11 | c11 | k11 | a12 | l12 | c12 | k12 | a13 | l13 | c13 | k13 | a14 | l14 | c14 | k14 | a15 | l15 | c15 | k15 | a16 | l16 | c16 | k16 | a17 | l17 | c17 | k17 | a18 | l18 | c18 | k18 | a19 | l19 | c19 | k19 | a20 | l20 | c20 | k20 | a21 | l21 | c21 | k21 | a22 | l22 | c22 | k22 | a23 | l23 | c23 | k23 | a24 | l24 | c24 | k24 | a25 | l25 | c25 | k25 | a26 | l26 | c26 | k26 | a27 | l27 | c27 | k27 | a28 | l28 | c28 | k28 | a29 | l29 | c29 | k29 | a30 | l30 | c30 | k30 | a31 | l31 | c31 | k31 | a32 | l32 | c32 | k32 | a33 | l33 | c33 | k33 | a34 | l34 | c34 | k34 | a35 | l35 | c35 | k35 | a36 | l36 | c36 | k36 | a37 | l37 | c37 | k37 | a38 | l38 | c38 | k38 | a39 | l39 | c39 | k39 | a40 | l40 | c40 | k40 | a41 | l41 | c41 | k41 | a42 | l42 | c42 | k42 | a43 | l43 | c43 | k43 | z_ValueError | z_any | z_bool | z_int | z_isinstance | z_len | z_list | z_max | z_min | z_range | z_str | z_sum | z_tuple | m_BadPaper=>(first | k_is | (delta K41.Na; k_is) | (delta K41.Lk K41.fdA; k_is) | (delta K41.Cd; k_is) | (delta K41.Kp; k_is) | (delta K41.Zn; k_is)))
  (case e_BadPaper=>k_exc)
  (case m_BadWord=>(first | k_is | (delta K41.Na; k_is) | (delta K41.Lk K41.fdA; k_is) | (delta K41.Cd; k_is) | (delta K41.Kp; k_is) | (delta K41.Zn; k_is)))
  (case e_BadWord=>k_exc)
  (case m_NoLaying=>(first | k_is | (delta K41.Na; k_is) | (delta K41.Lk K41.fdA; k_is) | (delta K41.Cd; k_is) | (delta K41.Kp; k_is) | (delta K41.Zn; k_is)))
  (case e_NoLaying=>k_exc)
  (case m_TrueleafError=>(first | k_is | (delta K41.Na; k_is) | (delta K41.Lk K41.fdA; k_is) | (delta K41.Cd; k_is) | (delta K41.Kp; k_is) | (delta K41.Zn; k_is)))
  (case e_TrueleafError=>k_exc)
  (case t_BadPaper_BadPaper=>((show PySem.W.exmOne _ _ _=some true); kts_exm))
  (case t_BadPaper_TrueleafError=>((show PySem.W.exmOne _ _ _=some true); kts_exm))
  (case lk_BadPaper=>kernel_rfl)
  (case ki_BadPaper_BadWord=>kernel_rfl)
  (case ki_BadPaper_NoLaying=>kernel_rfl)
  (case ki_BadPaper_ValueError=>kernel_rfl)
